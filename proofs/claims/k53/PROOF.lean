import PyProof.Rows.All
import Wide.All
import OpenK.AllK
import Wide.FinOn
import Lean
import PyProof.EqAt
import PyProof.EqKinds
import PyProof.TupleCall
import PyProof.Rows.Range3
import PyProof.Rows.FStr
import KE.KDictSum
import PyProof.DictUpdate
import PyProof.Rows.ListMulArg
import KE.KSortTup
import KE.LcSums
import PyProof.SeqI3
import KE.KMinBuiltin
import KE.KRevIter
import PyProof.ListRange
import PyProof.TupleOfSeq
import PySem.Challenge.RW_holdplaces_k53_rows_and_rings_held_once
set_option Elab.async false
set_option bootstrap.genMatcherCode false
set_option maxHeartbeats 8000000
set_option maxRecDepth 100000
set_option linter.all false
noncomputable section
open PySem.Builtin.List renaming listExtendWith→dY
open PyProof.Rows renaming callWith_type1→eZ,pendingOf→aY,wpS_bind→ar,wpS_pure→au,IntsAre→a7,SortSt→aF,seqObj→aG,mirror→aQ,arrOf→ag,Keyed→ak
open List renaming drop_eq_getElem_cons→e_,take_append_drop→bF,mem_append_right→bZ,mem_cons_of_mem→aV,replicate_succ→dZ,mem_cons_self→a8,length_append→cy,size_toArray→aO,append_assoc→bx,lookup_cons→bC,length_cons→b4,not_mem_nil→b9,length_take→b_,getElem_mem→cz,getElem_map→dj,all_eq_true→dC,length_map→aP,append_nil→dk,replicate→aX,mem_cons→aN,map_cons→a5,mem_map→bt,map_map→bN,range→a_
open Option renaming bind_eq_some_iff→aH,map_eq_some_iff→bA,bind_eq_bind→aI
open PySem.Builtin.Range renaming rangeSize→dg
open PySem.Around renaming under_plainId→cx
open Array renaming length_toList→aR,toList_append→bh
open PySem renaming mem_of_lookup→b7,wpAny_truthy_bool→bI,wpAny_newObj_type→di,wpAny_call_entry→cA,codeAny_builtin→bT,wpAny_holding→bJ,Comprehension→b5,bootBuiltins→bO,mainGlobals→aE,sizeLine_eq→bf,wpAny_bind→ah,wpAny_pure→aB,wpAny_mono→bK,compareOp→bg,cellsFrom→bu,sizeLine→aL,NameKind→aS,SetTable→aU,starEach→aZ,binaryOp→bD,Program→aA,Shared→af,Around→az,Value→ae,wpAny→ao,model→aq,World→av,Scope→a9
open Bool renaming false_eq_true→aW,false_ne_true→dA,not_eq_true'→bG,and_eq_true→aM,or_eq_true→bL,not_true→cC
open Nat renaming lt_of_lt_of_le→bE,lt_succ_of_lt→bR,le_of_not_lt→dD,lt_irrefl→bM,ne_of_lt→a6,le_trans→bB,le_refl→aD,zero_le→br
open PySem.W renaming mg_none_of→dh,kia_one→bQ,kitOne→cb,keepIn→cB,Frag→aC,nsIn→aJ,fnOf→cf
open Option.some renaming injEq→b8,inj→bS
open ForInStep renaming yield→dq
open PySem.Heap renaming size_push→cc,lt_size→aK
open PySem.NameKind renaming free→bU
open PySem.Str renaming ofString→bw
open PySem.Obj renaming mapSeq→ba
open False renaming elim→bp
open PySem.Value renaming type→bH,ref→bq
open And renaming intro→aw
set_option Elab.async false
namespace L2
open PySem PySem.Spec PyProof.Rows
abbrev Key:=Sum Int Str
noncomputable def gq:Key->ae->Bool
 | .inl k,v=>ae.isInt k v
 | .inr x,v=>ae.isStrOf x v
noncomputable def y9(w:av):Key->Int
 | .inl k=>hashInt k
 | .inr x=>hashStr w x
theorem zI:∀{k:Key}{v:ae},gq k v=true->(∃i t,k=Sum.inl i/\v=ae.int i t)\/(∃x t,k=Sum.inr x/\v=ae.str x t)
 | .inl i,v,h=>by
  obtain⟨t,e⟩:=ae.isInt_shape (k:=i) (v:=v) h;exact .inl ⟨i,t,rfl,e⟩
 | .inr x,v,h=>by
  obtain⟨t,e⟩:=ae.isStrOf_shape (x:=x) (v:=v) h;exact .inr ⟨x,t,rfl,e⟩
theorem sS(i:Int)(t:Tok):gq (.inl i) (.int i t)=true:=by simp[gq,ae.isInt]
theorem yC(x:Str)(t:Tok):gq (.inr x) (.str x t)=true:=by simp[gq,ae.isStrOf]
theorem C4(a b:Int):decide ((Sum.inl a:Key)=Sum.inl b)=(a==b):=by
 by_cases e:a=b
 ·subst e;simp
 ·have h:¬ (Sum.inl a:Key)=Sum.inl b:=λq=>e (Sum.inl.inj q)
  rw[decide_eq_false h];exact(beq_eq_false_iff_ne.mpr e).symm
theorem xb(a b:Str):decide ((Sum.inr a:Key)=Sum.inr b)=decide (a=b):=by
 by_cases e:a=b
 ·subst e;simp
 ·have h:¬ (Sum.inr a:Key)=Sum.inr b:=λq=>e (Sum.inr.inj q)
  rw[decide_eq_false h,decide_eq_false e]
theorem C3(a:Int)(b:Str):decide ((Sum.inl a:Key)=Sum.inr b)=false:=decide_eq_false (λq=>nomatch q)
theorem yK(a:Str)(b:Int):decide ((Sum.inr a:Key)=Sum.inl b)=false:=decide_eq_false (λq=>nomatch q)
noncomputable def zD(prog:aA)(w:av):PySem.KeyKind prog w Key where
 is:=gq
 hash:=y9 w
 inj:=λv a b ha hb=>by
  rcases zI ha with ⟨i,t,rfl,rfl⟩|⟨x,t,rfl,rfl⟩
  ·rcases zI hb with ⟨j,u,rfl,e⟩|⟨y,u,rfl,e⟩
   ·injection e with e1 _;rw[e1]
   ·exact nomatch e
  ·rcases zI hb with ⟨j,u,rfl,e⟩|⟨y,u,rfl,e⟩
   ·exact nomatch e
   ·injection e with e1 _;rw[e1]
 byValue:=λk v h=>by
  rcases zI h with ⟨i,t,rfl,rfl⟩|⟨x,t,rfl,rfl⟩<;>rfl
 pyHash:=λhv h=>by
  rcases zI hv with ⟨i,t,rfl,rfl⟩|⟨x,t,rfl,rfl⟩
  ·exact wpAny_pyHash_int h
  ·exact wpAny_pyHash_str h
 eqBool:=λhu hv h=>by
  rcases zI hu with ⟨i,t,rfl,rfl⟩|⟨x,t,rfl,rfl⟩
  ·rcases zI hv with ⟨j,u,rfl,rfl⟩|⟨y,u,rfl,rfl⟩
   ·rw[C4]at h;exact wpAny_eqBool_int h
   ·rw[C3]at h;exact SeqAt.EqAt.int_str i t y u _ _ _ _ h
  ·rcases zI hv with ⟨j,u,rfl,rfl⟩|⟨y,u,rfl,rfl⟩
   ·rw[yK]at h;exact SeqAt.EqAt.str_int x t j u _ _ _ _ h
   ·rw[xb]at h;exact wpAny_eqBool_str h
 «strs»:=λk x t v h=>by
  rcases zI h with ⟨i,u,rfl,e⟩|⟨y,u,rfl,e⟩
  ·exact nomatch e
  ·injection e with e1 _
   subst e1;cases v<;>rfl
theorem AG(prog:aA)(w:av)(i:Int)(t:Tok):(zD prog w).is (.inl i) (.int i t)=true:=sS i t
theorem C9(prog:aA)(w:av)(x:Str)(t:Tok):(zD prog w).is (.inr x) (.str x t)=true:=yC x t
inductive V where
 |non|bl (b:Bool)|int (i:Int)|str (x:Str)|byt (b:Array UInt8)|flt (b:UInt64)|ref (a:Addr)|ty (n:String)
 deriving DecidableEq
noncomputable def RelV:V->ae->Prop
 | .non,u=>u=ae.none
 | .bl b,u=>u=ae.bool b
 | .int i,u=>∃t,u=ae.int i t
 | .str x,u=>∃t,u=ae.str x t
 | .byt b,u=>∃t,u=ae.bytes b t
 | .flt b,u=>∃t,u=ae.float b t
 | .ref a,u=>u=bq a
 | .ty n,u=>u=bH n
abbrev Vals:List V->List ae->Prop:=Paired RelV
theorem Vals.length{xs:List V}{us:List ae}(r:Vals xs us):xs.length=us.length:=Paired.length r
theorem Vals.get:∀{xs:List V}{us:List ae}{i:Nat}{x:V},Vals xs us->xs[i]? = some x->∃u,us[i]? = some u/\RelV x u
 |_,_,_,_,.nil,e=>by simp at e
 |_,_,0,_,.cons r _,e=>by simp at e;subst e;exact⟨_,rfl,r⟩
 |_,_,i+1,x,.cons _ t,e=>by
  obtain⟨u,h1,h2⟩:=Vals.get (i:=i) (x:=x) t (by simpa using e);exact⟨u,by simpa using h1,h2⟩
theorem Vals.set{x:V}{u:ae}(r:RelV x u):∀{xs:List V}{us:List ae} (i:Nat),Vals xs us->Vals (xs.set i x) (us.set i u)
 |_,_,_,.nil=>.nil
 |_,_,0,.cons _ t=>.cons r t
 |_,_,i+1,.cons q t=>.cons q (Vals.set r i t)
theorem Vals.append:∀{xs ys:List V}{us ws:List ae},Vals xs us->Vals ys ws->Vals (xs++ys) (us++ws)
 |_,_,_,_,.nil,s=>s
 |_,_,_,_,.cons r t,s=>.cons r (Vals.append t s)
theorem Vals.take:∀{xs:List V}{us:List ae} (n:Nat),Vals xs us->Vals (xs.take n) (us.take n)
 |_,_,0,_=>.nil
 |_,_,_+1,.nil=>.nil
 |_,_,n+1,.cons r t=>.cons r (Vals.take n t)
theorem Vals.drop:∀{xs:List V}{us:List ae} (n:Nat),Vals xs us->Vals (xs.drop n) (us.drop n)
 |_,_,0,r=>r
 |_,_,_+1,.nil=>.nil
 |_,_,n+1,.cons _ t=>Vals.drop n t
noncomputable def dX:Option V->Option ae->Prop
 |some v,some u=>RelV v u
 |none,none=>True
 |_,_=>False
noncomputable def KV{κ:Type}:List (κ×V)->List (κ×ae)->Prop:=Paired λ(p:κ×V) (q:κ×ae)=>p.1=q.1/\RelV p.2 q.2
noncomputable def kV:Key->V
 | .inl i=>.int i
 | .inr x=>.str x
inductive HO where
 |lst (xs:List V)
 |tup (xs:List V)
 |dK (kvs:List (Key×V))|dT (kvs:List (List Key×V))
 |set (S:Int->Bool) (n:Nat)
 |ins (C dx:Addr) (fs:List (Str×V))
 |own (x:Addr)
 |xd (fs:List (Str×V))
 |met (f x:Addr)
 |rng (lo hi:Int)
 |frz (o:Obj) (u:HO)
 |tbl (ps:Array ae)
 |ext (φ:Heap->Prop)
abbrev Hp:=Addr->Option HO
noncomputable def upd(H:Hp)(a:Addr)(o:HO):Hp:=λb=>if b=a then some o else H b
theorem zr{H:Hp}{a:Addr}{o:HO}:upd H a o a=some o:=by unfold upd;rw[if_pos rfl]
theorem qm{H:Hp}{a b:Addr}{o:HO}(h:b≠a):upd H a o b=H b:=by unfold upd;rw[if_neg h]
theorem tN{H:Hp}{a b:Addr}{o u:HO}(h:H a=some o)(h':H b=some u)(d:o≠u):a≠b:=by
 intro e;subst e;rw[h]at h';exact d (bS h')
theorem iu{H:Hp}{a b:Addr}{o:HO}(h:H a=some o)(h':H b=none):a≠b:=by
 intro e;subst e;rw[h]at h';cases h'
section
variable(P:aA)(w:av)
noncomputable def zx(H:Hp)(h:Heap)(a:Addr):HO->Prop
 | .lst xs=>xs.length<=aL/\∃(its:List ae) (n:Nat),Vals xs its/\h.get? a=some {cls:=.type "list",data:=.seq its.toArray n}
 | .tup xs=>xs.length<=aL/\∃its:List ae,Vals xs its/\IsTup h a its.toArray
 | .dK kvs=>kvs.length<=aL/\(a==sysModules)=false/\∃vs,KV kvs vs/\h.DictOf (zD P w) a vs
 | .dT kvs=>kvs.length<=aL/\(a==sysModules)=false/\∃xs:List (List Key×Addr×ae),
   Paired (λ(p:List Key×V) (q:List Key×Addr×ae)=>p.1=q.1/\H q.2.1=some (.tup (p.1.map kV))/\RelV p.2 q.2.2) kvs xs /\
   ∃o es ep,h.get? a=some o/\o.ExactDict/\o.data=.dict es ep/\es.toList=xs.map (entryOfKey (tupleKind (zD P w)))/\(xs.map (·.1)).Nodup
 | .set S n=>h.SetOf (intKind P w) a S n
 | .ins C dx fs=>H dx=some (.own a)/\fs.length<=1000/\dx≠a/\h.get? a=some (PySem.W.instObj C dx) /\
   ∃mA,h.Ns1 dx mA/\(∀f,dX (fs.lookup f) (mA f))/\PySem.Within mA (fs.map (·.1))
 | .own _=>∃o,h.get? a=some o
 | .xd fs=>∃mA,h.Ns1 a mA/\∀f,dX (fs.lookup f) (mA f)
 | .rng lo hi=>∃t u v,h.get? a=some {cls:=.type "range",data:=.fields #[.int lo t,.int hi u,.int 1 v]}
 | .frz o u=>h.get? a=some o/\zx H h a u
 | .tbl ps=>h.get? a=some {cls:=.none,data:=.fields ps}
 | .met f x=>h.get? a=some (PySem.W.methodObj (.ref f) (.ref x))
 | .ext φ=>φ h/\(∃o,h.get? a=some o)/\∀h1 h2:Heap,φ h1->(∀o,h1.get? a=some o->h2.get? a=some o)->φ h2
noncomputable def HOk(H:Hp)(h:Heap):Prop:=∀a o,H a=some o->zx P w H h a o
end
section
variable{P:aA}{w:av}{H H':Hp}{h h':Heap}{a:Addr}{o:HO}
theorem zx.lt(x:zx P w H h a o):a<h.objs.size:=by
 cases o with
 |lst xs=>obtain⟨_,_,_,_,e⟩:=x;exact aK e
 |tup xs=>obtain⟨_,_,_,p⟩:=x;exact p.lt
 |dK kvs=>obtain⟨_,_,_,_,o,_,_,e,_⟩:=x;exact aK e
 |dT kvs=>obtain⟨_,_,_,_,o,_,_,e,_⟩:=x;exact aK e
 |set S n=>obtain⟨o,_,_,_,e,_⟩:=x;exact aK e
 |ins C dx fs=>obtain⟨_,_,_,e,_⟩:=x;exact aK e
 |own y=>obtain⟨_,e⟩:=x;exact aK e
 |xd fs=>obtain⟨_,⟨_,_,_,e,_⟩,_⟩:=x;exact aK e
 |rng lo hi=>obtain⟨_,_,_,e⟩:=x;exact aK e
 |frz ob u=>obtain⟨e,_⟩:=x;exact aK e
 |tbl ps=>exact aK (show h.get? a=some _ from x)
 |met f y=>exact aK (show h.get? a=some _ from x)
 |ext φ=>obtain⟨_,⟨_,e⟩,_⟩:=x;exact aK e
theorem Paired.mapP{α β:Type}{F G:α->β->Prop}:∀{l₁:List α}{l₂:List β},Paired F l₁ l₂->(∀a b,F a b->G a b)->Paired G l₁ l₂
 |_,_,.nil,_=>.nil
 |_,_,.cons r t,f=>.cons (f _ _ r) (Paired.mapP t f)
theorem zx.stay(x:zx P w H h a o)(k:∀b u,(b=a\/H b=some (.own a))->h.get? b=some u->h'.get? b=some u)
  (ho:∀b,H b=some (.own a)->H' b=some (.own a)) (ht:∀b xs,H b=some (.tup xs)->H' b=some (.tup xs)):zx P w H' h' a o:=by
 induction o with
 |lst xs=>obtain⟨z,its,n,r,e⟩:=x;exact⟨z,its,n,r,k _ _ (.inl rfl) e⟩
 |tup xs=>obtain⟨z,its,r,ob,e,c⟩:=x;exact⟨z,its,r,ob,k _ _ (.inl rfl) e,c⟩
 |dK kvs=>obtain⟨z,y,vs,r,ob,es,ep,e,c⟩:=x;exact⟨z,y,vs,r,ob,es,ep,k _ _ (.inl rfl) e,c⟩
 |dT kvs=>
  obtain⟨z,y,xs,r,ob,es,ep,e,c⟩:=x;exact⟨z,y,xs,Paired.mapP r λp q z=>⟨z.1,ht _ _ z.2.1,z.2.2⟩,ob,es,ep,k _ _ (.inl rfl) e,c⟩
 |set S n=>obtain⟨ob,es,ep,t,e,c⟩:=x;exact⟨ob,es,ep,t,k _ _ (.inl rfl) e,c⟩
 |ins C dx fs=>
  obtain⟨d,z,ne,e,mA,⟨od,es,ep,e2,c⟩,r⟩:=x;exact⟨ho _ d,z,ne,k _ _ (.inl rfl) e,mA,⟨od,es,ep,k _ _ (.inr d) e2,c⟩,r⟩
 |own y=>obtain⟨ob,e⟩:=x;exact⟨ob,k _ _ (.inl rfl) e⟩
 |xd fs=>obtain⟨mA,⟨od,es,ep,e,c⟩,r⟩:=x;exact⟨mA,⟨od,es,ep,k _ _ (.inl rfl) e,c⟩,r⟩
 |rng lo hi=>obtain⟨t,u,v,e⟩:=x;exact⟨t,u,v,k _ _ (.inl rfl) e⟩
 |frz ob u ih=>obtain⟨e,q⟩:=x;exact⟨k _ _ (.inl rfl) e,ih q⟩
 |tbl ps=>
  have e:h.get? a=some {cls:=.none,data:=.fields ps}:=x;show h'.get? a=some {cls:=.none,data:=.fields ps};exact k a _ (.inl rfl) e
 |met f y=>
  have e:h.get? a=some (PySem.W.methodObj (.ref f) (.ref y)):=x;show h'.get? a=some (PySem.W.methodObj (.ref f) (.ref y));exact k a _ (.inl rfl) e
 |ext φ=>obtain⟨p,⟨o,e⟩,st⟩:=x;exact⟨st _ _ p λo q=>k _ _ (.inl rfl) q,⟨o,k _ _ (.inl rfl) e⟩,st⟩
theorem HOk.lt(x:HOk P w H h)(e:H a=some o):a<h.objs.size:=(x a o e).lt
theorem HOk.fresh(x:HOk P w H h)(e:h.objs.size<=a):H a=none:=by
 cases q:H a with
 |none=>rfl
 |some u=>exact absurd (bE (x.lt q) e) (bM _)
theorem HOk.kept(x:HOk P w H h)(k:∀b u,h.get? b=some u->h'.get? b=some u):HOk P w H h':=λa o e=>
 (x a o e).stay (λb u _ q=>k b u q) (λ_ q=>q) λ_ _ q=>q
theorem HOk.laid(x:HOk P w H h)(k:∀b u,h.get? b=some u->h'.get? b=some u)(hp:h.objs.size<=a)(new:zx P w (upd H a o) h' a o):HOk P w (upd H a o) h':=λb u e=>by
 have hn:=x.fresh hp;by_cases hb:b=a
 ·subst hb;rw[zr]at e;cases e;exact new
 ·rw[qm hb]at e;exact(x b u e).stay (λc v _ q=>k c v q) (λc q=>by rw[qm (iu q hn)];exact q) λc xs q=>by rw[qm (iu q hn)];exact q
end
noncomputable def Rd(H:Hp)(a:Addr)(u:HO):Prop:=H a=some u\/∃o,H a=some (.frz o u)
theorem Rd.of{H:Hp}{a:Addr}{u:HO}(h:H a=some u):Rd H a u:=.inl h
theorem Rd.ok{P:aA}{w:av}{H:Hp}{h:Heap}{a:Addr}{u:HO}(r:Rd H a u)(x:HOk P w H h):zx P w H h a u:=by
 rcases r with r|⟨o,r⟩
 ·exact x a u r
 ·obtain⟨_,q⟩:=x a _ r;exact q
noncomputable def Mut:Option HO->Prop
 |some (.lst _)=>True
 |some (.dK _)=>True
 |some (.dT _)=>True
 |some (.set _ _)=>True
 |some (.ins _ _ _)=>True
 |some (.ext _)=>True
 |_=>False
section
variable{P:aA}{w:av}{H:Hp}{h h':Heap}{x e:Addr}{o':HO}
theorem HOk.write(ok:HOk P w H h)(mu:Mut (H x))(he:e=x\/H e=some (.own x))(k:∀b u,b≠e->h.get? b=some u->h'.get? b=some u)(heo:∃u,h'.get? e=some u)
  (new:zx P w (upd H x o') h' x o'):HOk P w (upd H x o') h':=λb u q=>by
 have nown:∀c y,H c=some (.own y)->c≠x:=λc y r z=>by subst z;rw[r]at mu;exact mu
 have ntup:∀c xs,H c=some (.tup xs)->c≠x:=λc xs r z=>by subst z;rw[r]at mu;exact mu
 by_cases hb:b=x
 ·subst hb;rw[zr]at q;cases q;exact new
 ·rw[qm hb]at q;by_cases hbe:b=e
  ·have q':H b=some (.own x):=by
    rcases he with z|z
    ·exact absurd (hbe.trans z) hb
    ·rw[hbe];exact z
   rw[q]at q';cases q';obtain⟨v,hv⟩:=heo;exact⟨v,by rw[hbe];exact hv⟩
  ·refine(ok b u q).stay (λc v hc r=>k c v ?_ r) (λc r=>by rw[qm (nown c b r)];exact r) λc xs r=>by rw[qm (ntup c xs r)];exact r
   rcases hc with rfl|hc
   ·exact hbe
   ·rintro rfl;rcases he with z|z
    ·exact nown c b hc z
    ·rw[hc]at z;cases z;exact hb rfl
end
structure Un(fs ex:List Addr)(H H':Hp)(h h':Heap):Prop where
 keep:∀b o,h.get? b=some o->H b=none->b∉fs->b∉ex->h'.get? b=some o
 slot:∀b o,h.get? b=some o->H b=none->b∈fs->b∉ex->∃sl,h'.get? b=some {o with slots:=sl}
 free:∀b o,h.get? b=some o->H b=none->b∉ex->H' b=none
 there:∀b o,h.get? b=some o->b∉ex->∃o',h'.get? b=some o'
 tups:∀b xs,H b=some (.tup xs)->H' b=some (.tup xs)
 frzs:∀b o u,H b=some (.frz o u)->H' b=some (.frz o u)
 tbls:∀b ps,H b=some (.tbl ps)->∃more,H' b=some (.tbl (ps++more))
section
variable{fs fs' ex ex':List Addr}{H H1 H2:Hp}{h h1 h2 h':Heap}{a x e:Addr}{o:HO}
theorem Un.any(u:Un fs ex H H1 h h1){b:Addr}{ob:Obj}(q:h.get? b=some ob)(n:H b=none)(hx:b∉ex):∃sl,h1.get? b=some {ob with slots:=sl}:=by
 by_cases hb:b∈fs
 ·exact u.slot b ob q n hb hx
 ·exact⟨ob.slots,u.keep b ob q n hb hx⟩
theorem Un.kept(k:∀b u,h.get? b=some u->h'.get? b=some u):Un fs ex H H h h':=
 ⟨λb ob q _ _ _=>k b ob q,λb ob q _ _ _=>⟨ob.slots,k b ob q⟩,λ_ _ _ n _=>n,λb ob q _=>⟨ob,k b ob q⟩,λ_ _ q=>q,λ_ _ _ q=>q,λ_ ps q=>⟨#[],by rw[q];simp⟩⟩
theorem Un.refl:Un fs ex H H h h:=Un.kept λ_ _ q=>q
theorem Un.laid(k:∀b u,h.get? b=some u->h'.get? b=some u)(hp:h.objs.size<=a)(hn:H a=none):Un fs ex H (upd H a o) h h' where
 keep:=λb u q _ _ _=>k b u q
 slot:=λb u q _ _ _=>⟨u.slots,k b u q⟩
 free:=λb u q n _=>by rw[qm (a6 (bE (aK q) hp))];exact n
 there:=λb u q _=>⟨u,k b u q⟩
 tups:=λb xs q=>by rw[qm (iu q hn)];exact q
 frzs:=λb u xs q=>by rw[qm (iu q hn)];exact q
 tbls:=λb ps q=>⟨#[],by rw[qm (iu q hn),q];simp⟩
theorem Un.write(mu:Mut (H x))(he:e=x\/H e=some (.own x))(k:∀b u,b≠e->h.get? b=some u->h'.get? b=some u)(heo:∃u,h'.get? e=some u):Un fs ex H (upd H x o) h h':=by
 have hx:∀b,H b=none->b≠x:=λb n z=>by subst z;rw[n]at mu;exact mu
 have hb:∀b,H b=none->b≠e:=λb n z=>by
  subst z;rcases he with r|r
  ·exact hx b n r
  ·rw[n]at r;cases r
 have hm:∀b u,H b=some u->¬ Mut (some u)->b≠x:=λb u q nm z=>by subst z;rw[q]at mu;exact nm mu
 refine⟨λb u q n _ _=>k b u (hb b n) q,λb u q n _ _=>⟨u.slots,k b u (hb b n) q⟩,λb u q n _=>by rw[qm (hx b n)];exact n,λb u q _=>?_,
  λb xs q=>by rw[qm (hm b _ q λz=>z)];exact q,λb u xs q=>by rw[qm (hm b _ q λz=>z)];exact q,λb ps q=>⟨#[],by rw[qm (hm b _ q λz=>z),q];simp⟩⟩
 by_cases hbe:b=e
 ·subst hbe;exact heo
 ·exact⟨u,k b u hbe q⟩
end
noncomputable def trk(h:Heap)(H:Hp):List Addr:=(a_ h.objs.size).filter λa=>(H a).isSome
noncomputable def eV(h:Heap)(H:Hp):Heap:=PySem.W.hideAll h (trk h H)
theorem vq(h:Heap)(H:Hp):(eV h H).objs.size=h.objs.size:=PySem.W.hideAll_size _ _
theorem xN{h:Heap}{H:Hp}{b:Addr}{o:Obj}(e:h.get? b=some o)(n:H b=none):(eV h H).get? b=some o:=
 PySem.W.hideAll_get _ e λhm=>by
  have q:(H b).isSome=true:=(List.mem_filter.mp hm).2;rw[n]at q;simp at q
theorem BS{h:Heap}{H:Hp}{b:Addr}{o:Obj}(e:(eV h H).get? b=some o):h.get? b=some o/\H b=none:=by
 have e':h.get? b=some o:=PySem.W.of_hideAll (trk h H) e;refine⟨e',?_⟩;cases q:H b with
 |none=>rfl
 |some x=>
  have hm:b∈trk h H:=List.mem_filter.mpr ⟨List.mem_range.mpr (aK e'),by simp[q]⟩;have z:(eV h H).get? b=none:=PySem.W.hideAll_none (trk h H) hm;rw[z]at e;cases e
noncomputable def iS(g h:Heap)(L:Addr):List (Addr×Obj):=(a_ h.objs.size).filterMap λa=>if a=L\/(g.get? a).isSome=true then none else (h.get? a).map λo=>(a,o)
theorem nk{g h:Heap}{L a:Addr}{o:Obj}(h1:a≠L)(h2:g.get? a=none)(h3:h.get? a=some o):(a,o)∈iS g h L:=
 List.mem_filterMap.mpr ⟨a,List.mem_range.mpr (aK h3),by simp[h1,h2,h3]⟩
theorem xH{g h:Heap}{L:Addr}{p:Addr×Obj}(hp:p∈iS g h L):p.1≠L/\g.get? p.1=none/\h.get? p.1=some p.2:=by
 obtain⟨b,_,e⟩:=List.mem_filterMap.mp hp;split at e
 ·cases e
 ·rename_i hn
  cases q:h.get? b with
  |none=>rw[q]at e;simp at e
  |some u=>
   rw[q]at e;simp only[Option.map_some,b8]at e;subst e;refine⟨λz=>hn (.inl z),?_,q⟩;show g.get? b=none;cases r:g.get? b with
   |none=>rfl
   |some v=>exact(hn (.inr (by simp[r]))).elim
noncomputable def rest(g h:Heap)(L d:Addr):List (Addr×Obj):=(iS g h L).filter λp=>decide (p.1≠d)
theorem AO{g h:Heap}{L:Addr}:News g L h (iS g h L):=λp hp=>let ⟨a,b,c⟩:=xH hp;⟨c,a,b⟩
structure Mod(K:aC)(mg:Str->Option ae)(base:Heap):Prop where
 kin:K.In base
 glob:base.Ns aE mg
 blt:∃mb,base.Ns builtinsNs mb/\∀x:Str,x≠"__name__"->mb x=bO x
 nolimit:base.NoLimit
structure Cx where
 prog:aA
 w:av
 K:aC
 mg:Str->Option ae
 base:Heap
 A:az
 N:List Str
 s₀:af
 H₀:Hp
 env:Env
 outer:List Env
 stack:List Env
 ex:List Addr
 fn:Str->Bool
 calm:Bool
 pn:List (Addr×Obj)
 xe:ae->af->Prop
noncomputable def frs(l:List Env):List Addr:=l.filterMap (·.frame)
abbrev Cx.fs(X:Cx):List Addr:=frs X.outer
noncomputable def gx(sc:a9)(x:Str):Prop:=sc.names.lookup x=some .local\/sc.names.lookup x=some .cell\/sc.names.lookup x=some .free
noncomputable def Loc(sc:a9)(x:Str):Prop:=sc.names.lookup x=some .local\/sc.names.lookup x=some .cell
noncomputable def Look(env:Env)(h:Heap)(m:Str->Option ae)(x:Str)(u:ae):Prop:=
 (env.kindOf x=some .local/\m x=some u)\/((env.kindOf x=some .cell\/env.kindOf x=some .free)/\∃c,env.cells.lookup x=some c/\h.IsCell c (some u))
structure Cx.Ok(X:Cx):Prop where
 mod:Mod X.K X.mg X.base
 kind:X.env.scope.kind=.function
 glob:X.env.globals=aE
 blt:X.env.builtins=builtinsNs
 above:X.s₀.heap.objs.size<=X.env.locals
 inj:∀x y c,X.env.cells.lookup x=some c->X.env.cells.lookup y=some c->x=y
 has:∀x,(X.env.kindOf x=some .cell\/X.env.kindOf x=some .free)->∃c,X.env.cells.lookup x=some c
 cab:∀x c,X.fn x=true->X.env.cells.lookup x=some c->X.s₀.heap.objs.size<=c
 hd:X.calm=true->X.A.handled=none
 frames:X.A.frames=some X.stack
 stk:X.stack=X.outer\/(X.stack=X.env::X.outer/\X.env.frame=some X.env.locals)
 exf:∀b∈X.ex,b≠X.env.locals/\∀x c,X.env.cells.lookup x=some c->c≠b
 bs:∀b o,X.base.get? b=some o->X.s₀.heap.get? b=some o/\X.H₀ b=none
 bsz:X.base.objs.size<=X.s₀.heap.objs.size
 noex:∀b o,X.base.get? b=some o->b∉X.ex
 exfs:∀b∈X.ex,b∉X.fs
 funs:X.s₀.heap.FunFrames X.base X.outer
 frf:∀b∈X.fs,X.H₀ b=none
structure Inv(X:Cx)(pins:List (Addr×Obj))(σ:List (Option V))(H:Hp)(s:af):Prop where
 ok:X.Ok
 os:s.os=X.s₀.os
 bare:AllBare s.gens
 base:Un X.fs X.ex X.H₀ H X.s₀.heap s.heap
 loc:∃m,s.heap.Ns X.env.locals m/\∀(i:Nat) (x:Str) (v:V),X.N[i]? = some x->σ[i]? = some (some v)->gx X.env.scope x->∃u,RelV v u/\Look X.env s.heap m x u
 cell:∀x c,X.env.cells.lookup x=some c->∃v,s.heap.IsCell c v
 free:H X.env.locals=none
 freeC:∀x c,X.env.cells.lookup x=some c->H c=none
 pin:∀p∈X.pn++pins,s.heap.get? p.1=some p.2/\H p.1=none/\p.1≠X.env.locals/\p.1∉X.fs/\∀v,p.2.data≠.cell v
 hok:HOk X.prog X.w H s.heap
 len:σ.length=X.N.length
section
variable{X:Cx}{pins:List (Addr×Obj)}{σ:List (Option V)}{H H':Hp}{s:af}{h':Heap}
theorem Cx.Ok.nofr(ok:X.Ok){b:Addr}{o:Obj}(e:X.base.get? b=some o):b∉X.fs:=λhb=>by
 have:=(ok.funs.mem hb).1;rw[e]at this;cases this
theorem Inv.bs(I:Inv X pins σ H s):∀b o,X.base.get? b=some o->s.heap.get? b=some o/\H b=none:=λb o e=>
 ⟨I.base.keep b o (I.ok.bs b o e).1 (I.ok.bs b o e).2 (I.ok.nofr e) (I.ok.noex b o e),I.base.free b o (I.ok.bs b o e).1 (I.ok.bs b o e).2 (I.ok.noex b o e)⟩
theorem Inv.bk(I:Inv X pins σ H s):∀b o,X.base.get? b=some o->s.heap.get? b=some o:=λb o e=>(I.bs b o e).1
theorem Inv.mod(I:Inv X pins σ H s):Mod X.K X.mg X.base:=I.ok.mod
theorem Inv.kIn(I:Inv X pins σ H s):X.K.In s.heap:=I.ok.mod.kin.keeps I.bk
theorem Inv.nolimit(I:Inv X pins σ H s):s.heap.NoLimit:=I.ok.mod.nolimit.keeps I.bk
theorem Inv.fr(I:Inv X pins σ H s):∃m,Fr X.base X.env.locals s.heap m:=
 let ⟨m,hn,_⟩:=I.loc
 ⟨m,hn,I.bk,bB I.ok.bsz I.ok.above⟩
theorem Inv.lt(I:Inv X pins σ H s):X.env.locals<s.heap.objs.size:=let ⟨_,hn,_⟩:=I.loc;hn.lt
theorem Inv.sz(I:Inv X pins σ H s):X.s₀.heap.objs.size<=s.heap.objs.size:=bB I.ok.above (Nat.le_of_lt I.lt)
theorem Inv.nofs(I:Inv X pins σ H s){a:Addr}(h:s.heap.objs.size<=a):a∉X.fs:=λhb=>by
 obtain⟨_,o,ho,_⟩:=I.ok.funs.mem hb;exact absurd (bE (aK ho) (bB I.sz h)) (bM _)
theorem Inv.cne(I:Inv X pins σ H s):∀x c,X.env.cells.lookup x=some c->c≠X.env.locals:=λx c e z=>by
 obtain⟨v,o,ho,hd⟩:=I.cell x c e;obtain⟨m,⟨o',es,ep,ho',hd',_⟩,_⟩:=I.loc;rw[z,ho']at ho;cases ho;rw[hd']at hd;cases hd
theorem Inv.funs(I:Inv X pins σ H s):s.heap.FunFrames X.base X.outer:=by
 have all:∀(l:List Env),(∀b∈frs l,b∈X.fs)->X.s₀.heap.FunFrames X.base l->s.heap.FunFrames X.base l:=by
  intro l
  induction l with
  |nil=>intro _ _;trivial
  |cons env r ih=>
   intro hs hl;obtain⟨hk,⟨L,o,hf,hn,ho,hd⟩,hr⟩:=hl;have hL:L∈X.fs:=hs L (by unfold frs;rw[List.filterMap_cons,hf];exact a8);obtain⟨sl,e⟩:=I.base.slot L o ho (I.ok.frf L hL) hL λz=>I.ok.exfs L z hL
   exact⟨hk,⟨L,_,hf,hn,e,hd⟩,ih (λb hb=>hs b (by unfold frs;rw[List.filterMap_cons,hf];exact aV _ hb)) hr⟩
 exact all X.outer (λ_ hb=>hb) I.ok.funs
theorem Inv.stack(I:Inv X pins σ H s):s.heap.FunFrames X.base X.stack:=by
 rcases I.ok.stk with e|⟨e,hf⟩
 ·rw[e];exact I.funs
 ·rw[e];obtain⟨m,hn,_⟩:=I.loc;refine .cons (by rw[I.ok.kind];decide) hf hn ?_ I.funs;exact Heap.get?_none_of_le (bB I.ok.bsz I.ok.above)
theorem Inv.stkSub(I:Inv X pins σ H s):∀b∈frs X.stack,b∈X.env.locals::X.fs:=λb hb=>by
 rcases I.ok.stk with e|⟨e,hf⟩
 ·rw[e]at hb;exact aV _ hb
 ·rw[e]at hb;unfold frs at hb;rw[List.filterMap_cons,hf]at hb;exact hb
theorem Inv.stkFree(I:Inv X pins σ H s):∀b∈frs X.stack,H b=none:=λb hb=>by
 rcases aN.mp (I.stkSub b hb)with e|hb
 ·rw[e];exact I.free
 ·obtain⟨_,o,ho,_⟩:=I.ok.funs.mem hb;exact I.base.free b o ho (I.ok.frf b hb) λz=>I.ok.exfs b z hb
theorem Inv.step{g':Array GenState}{t':Nat}{d':Drawn}{ch:List Addr}(I:Inv X pins σ H s)
  (hch:∀b∈ch,(b∈X.ex\/X.s₀.heap.objs.size<=b)/\b≠X.env.locals/\(∀x c,X.env.cells.lookup x=some c->c≠b)/\∀p∈X.pn++pins,p.1≠b)
  (keep:∀b o,b≠X.env.locals->b∉X.fs->b∉ch->s.heap.get? b=some o->H b=none->h'.get? b=some o)
  (slot:∀b o,b≠X.env.locals->b∈X.fs->b∉ch->s.heap.get? b=some o->H b=none->∃sl,h'.get? b=some {o with slots:=sl}) (free:∀b o,b∉ch->s.heap.get? b=some o->H b=none->H' b=none)
  (there:∀b o,b∉ch->s.heap.get? b=some o->∃o',h'.get? b=some o')
  (tups:∀b xs,H b=some (.tup xs)->H' b=some (.tup xs)) (frzs:∀b o u,H b=some (.frz o u)->H' b=some (.frz o u)) (tbls:∀b ps,H b=some (.tbl ps)->∃more,H' b=some (.tbl (ps++more)))
  (ns:∀m,s.heap.Ns X.env.locals m->h'.Ns X.env.locals m) (hok:HOk X.prog X.w H' h') (hg:AllBare g') :
  Inv X pins σ H' {s with heap:=h',gens:=g',drawn:=d',toks:=t'}:=by
 have neL:∀b o,X.s₀.heap.get? b=some o->b≠X.env.locals:=λb o e=>a6 (bE (aK e) I.ok.above)
 have neC:∀b o,X.s₀.heap.get? b=some o->b∉X.ex->b∉ch:=λb o e hx hb=>by
  rcases(hch b hb).1 with z|z
  ·exact hx z
  ·exact absurd (bE (aK e) z) (bM _)
 have cellK:∀x c,X.env.cells.lookup x=some c->∀v,s.heap.IsCell c v->h'.IsCell c v:=λx c e v ⟨o,ho,hd⟩=>by
  have nch:c∉ch:=λz=>(hch c z).2.2.1 x c e rfl
  by_cases hc:c∈X.fs
  ·obtain⟨sl,q⟩:=slot c o (I.cne x c e) hc nch ho (I.freeC x c e);exact⟨_,q,hd⟩
  ·exact⟨o,keep c o (I.cne x c e) hc nch ho (I.freeC x c e),hd⟩
 refine⟨I.ok,I.os,hg,⟨λb o e n hb hx=>?_,λb o e n hb hx=>?_,λb o e n hx=>?_,λb o e hx=>?_,λb xs e=>tups b xs (I.base.tups b xs e),λb o xs e=>frzs b o xs (I.base.frzs b o xs e),λb ps e=>?_⟩,?_,λx c e=>?_,?_,λx c e=>?_,λp hp=>?_,hok,I.len⟩
 ·exact keep b o (neL b o e) hb (neC b o e hx) (I.base.keep b o e n hb hx) (I.base.free b o e n hx)
 ·obtain⟨sl,e1⟩:=I.base.slot b o e n hb hx;obtain⟨sl',e2⟩:=slot b _ (neL b o e) hb (neC b o e hx) e1 (I.base.free b o e n hx);exact⟨sl',e2⟩
 ·obtain⟨o',e1⟩:=I.base.there b o e hx;exact free b o' (neC b o e hx) e1 (I.base.free b o e n hx)
 ·obtain⟨o',e1⟩:=I.base.there b o e hx;exact there b o' (neC b o e hx) e1
 ·obtain⟨m1,e1⟩:=I.base.tbls b ps e;obtain⟨m2,e2⟩:=tbls b _ e1;exact⟨m1++m2,by rw[e2,Array.append_assoc]⟩
 ·obtain⟨m,hn,hl⟩:=I.loc;refine⟨m,ns m hn,λi x v e1 e2 e3=>?_⟩;obtain⟨u,r,l⟩:=hl i x v e1 e2 e3;refine⟨u,r,?_⟩;rcases l with l|⟨k,c,e,z⟩
  ·exact .inl l
  ·exact .inr ⟨k,c,e,cellK x c e _ z⟩
 ·obtain⟨v,z⟩:=I.cell x c e;exact⟨v,cellK x c e v z⟩
 ·obtain⟨m,⟨o,_,_,ho,_⟩,_⟩:=I.loc;exact free _ o (λz=>(hch _ z).2.1 rfl) ho I.free
 ·obtain⟨v,o,ho,hd⟩:=I.cell x c e;exact free c o (λz=>(hch c z).2.2.1 x c e rfl) ho (I.freeC x c e)
 ·obtain⟨e,n,ne,nf,d⟩:=I.pin p hp;have nch:p.1∉ch:=λz=>(hch p.1 z).2.2.2 p hp rfl
  exact⟨keep p.1 p.2 ne nf nch e n,free p.1 p.2 nch e n,ne,nf,d⟩
theorem Inv.un{t':Nat}(I:Inv X pins σ H s)(u:Un X.fs [] H H' s.heap h')(hok:HOk X.prog X.w H' h'):Inv X pins σ H' {s with heap:=h',toks:=t'}:=by
 obtain⟨m,⟨o,es,ep,ho,r⟩,_⟩:=id I.loc;obtain⟨sl,hL⟩:=u.any ho I.free (by simp);exact I.step (g':=s.gens) (d':=s.drawn) (ch:=[]) (λ_ z=>nomatch z) (λb o _ hb _ e n=>u.keep b o e n hb (by simp)) (λb o _ hb _ e n=>u.slot b o e n hb (by simp)) (λb o _ e n=>u.free b o e n (by simp)) (λb o _ e=>u.there b o e (by simp)) u.tups u.frzs u.tbls (λm' hm=>by
  obtain⟨o',es',ep',ho',r'⟩:=hm;rw[ho]at ho';cases ho';exact⟨_,es',ep',hL,r'⟩) hok I.bare
theorem Inv.call{g':Array GenState}{t':Nat}{d':Drawn}{ch:List Addr}(I:Inv X pins σ H s)(u:Un (frs X.stack) ch H H' s.heap h')(hok:HOk X.prog X.w H' h')(hg:AllBare g')
  (hch:∀b∈ch,(b∈X.ex\/X.s₀.heap.objs.size<=b)/\b≠X.env.locals/\(∀x c,X.env.cells.lookup x=some c->c≠b)/\∀p∈X.pn++pins,p.1≠b) :
  Inv X pins σ H' {s with heap:=h',gens:=g',drawn:=d',toks:=t'}:=by
 obtain⟨m,⟨o,es,ep,ho,r⟩,_⟩:=id I.loc;obtain⟨sl,hL⟩:=u.any ho I.free λz=>(hch _ z).2.1 rfl
 exact I.step (ch:=ch) hch (λb o hL hb hc e n=>u.keep b o e n (λz=>(aN.mp (I.stkSub b z)).elim hL hb) hc) (λb o _ _ hc e n=>u.any e n hc) (λb o hc e n=>u.free b o e n hc) (λb o hc e=>u.there b o e hc) u.tups u.frzs u.tbls (λm' hm=>by
  obtain⟨o',es',ep',ho',r'⟩:=hm;rw[ho]at ho';cases ho';exact⟨_,es',ep',hL,r'⟩) hok hg
theorem Inv.turned{t':Nat}{it:Addr}(I:Inv X pins σ H s)(k:∀b o,b≠it->s.heap.get? b=some o->h'.get? b=some o)(hn:H it=none)(hL:it≠X.env.locals)
  (h1:it∈X.ex\/X.s₀.heap.objs.size<=it) (h2:∀x c,X.env.cells.lookup x=some c->c≠it) (h3:∀p∈X.pn++pins,p.1≠it):Inv X pins σ H {s with heap:=h',toks:=t'}:=by
 have nit:∀b u,H b=some u->b≠it:=λb u e z=>by rw[z,hn]at e;cases e
 refine I.step (g':=s.gens) (d':=s.drawn) (ch:=[it]) (λb hb=>?_) (λb o _ _ hc e _=>k b o (λz=>hc (by simp[z])) e) (λb o _ _ hc e _=>⟨o.slots,k b o (λz=>hc (by simp[z])) e⟩) (λ_ _ _ _ n=>n)
  (λb o hc e=>⟨o,k b o (λz=>hc (by simp[z])) e⟩) (λ_ _ e=>e) (λ_ _ _ e=>e) (λb ps e=>⟨#[],by rw[e];simp⟩) (λm hm=>?_) (λb u e=>?_) I.bare
 ·have e:b=it:=by simpa using hb
  subst e;exact⟨h1,hL,h2,h3⟩
 ·obtain⟨o,es,ep,ho,r⟩:=hm;exact⟨o,es,ep,k _ o (Ne.symm hL) ho,r⟩
 ·refine(I.hok b u e).stay (λc v hc q=>k c v ?_ q) (λ_ q=>q) λ_ _ q=>q
  rcases hc with z|z
  ·rw[z];exact nit b u e
  ·exact nit c _ z
theorem Inv.tok(I:Inv X pins σ H s)(t:Nat):Inv X pins σ H {s with toks:=t}:=I.un (h':=s.heap) (t':=t) Un.refl I.hok
theorem Inv.kept{t':Nat}(I:Inv X pins σ H s)(k:∀b u,s.heap.get? b=some u->h'.get? b=some u):Inv X pins σ H {s with heap:=h',toks:=t'}:=I.un (Un.kept k) (I.hok.kept k)
theorem Inv.laid{a:Addr}{o:HO}{t':Nat}(I:Inv X pins σ H s)(k:∀b u,s.heap.get? b=some u->h'.get? b=some u)(hp:s.heap.objs.size<=a)(new:zx X.prog X.w (upd H a o) h' a o) :
  Inv X pins σ (upd H a o) {s with heap:=h',toks:=t'}:=I.un (Un.laid k hp (I.hok.fresh hp)) (I.hok.laid k hp new)
theorem Inv.write{x e:Addr}{o:HO}{t':Nat}(I:Inv X pins σ H s)(mu:Mut (H x))(he:e=x\/H e=some (.own x))(k:∀b u,b≠e->s.heap.get? b=some u->h'.get? b=some u)(heo:∃u,h'.get? e=some u)
  (new:zx X.prog X.w (upd H x o) h' x o):Inv X pins σ (upd H x o) {s with heap:=h',toks:=t'}:=I.un (Un.write mu he k heo) (I.hok.write mu he k heo new)
theorem Inv.pins_of{pins':List (Addr×Obj)}(I:Inv X pins σ H s)(h:∀p∈pins',s.heap.get? p.1=some p.2/\H p.1=none/\p.1≠X.env.locals/\p.1∉X.fs/\∀v,p.2.data≠.cell v):Inv X pins' σ H s:=
 ⟨I.ok,I.os,I.bare,I.base,I.loc,I.cell,I.free,I.freeC,λp hp=>(List.mem_append.mp hp).elim (λz=>I.pin p (List.mem_append_left _ z)) (h p),I.hok,I.len⟩
theorem nF{N:List Str}(hN:N.Nodup){i j:Nat}{x:Str}(a:N[i]? = some x)(b:N[j]? = some x):i=j:=by
 obtain⟨h1,e1⟩:=List.getElem?_eq_some_iff.mp a;obtain⟨h2,e2⟩:=List.getElem?_eq_some_iff.mp b;exact(List.getElem_inj hN).mp (e1.trans e2.symm)
theorem ny{M:Model}{A:az}{E:ae->af->Prop}{i:Nat}{x:Str}{v:V}{u:ae}{Q:Unit->af->Prop}(I:Inv X pins σ H s)(hN:X.N.Nodup)(hi:X.N[i]? = some x)(hx:Loc X.env.scope x)(r:RelV v u)
  (h:∀s',Inv X pins (σ.set i (some v)) H s'->(∃a,Heap.SameBut a s.heap s'.heap/\(a=X.env.locals\/X.env.cells.lookup x=some a))->Q () s') (hf:X.fn x=true\/X.env.scope.names.lookup x=some .local:=by first|exact .inl rfl|exact .inr rfl|assumption):ao M A (storeName X.env x u) Q E s:=by
 obtain⟨m,hn,hl⟩:=id I.loc;have hcls:(X.env.scope.kind==.class||(X.env.scope.kind==.module&&X.env.locals != X.env.globals))=false:=by rw[I.ok.kind];rfl
 have hiσ:i<σ.length:=by rw[I.len];exact(List.getElem?_eq_some_iff.mp hi).1
 have cne:=I.cne;have tracked:∀{a:Addr}{h':Heap},(∃o,s.heap.get? a=some o/\H a=none)->Heap.SameBut a s.heap h'->HOk X.prog X.w H h':=λ{a h'} ha hs b ob e=>by
  obtain⟨_,_,hfree⟩:=ha;refine(I.hok b ob e).stay (λc w' hc q=>(hs.2 c ?_).trans q) (λ_ q=>q) λ_ _ q=>q
  rintro rfl;rcases hc with rfl|hc
  ·rw[hfree]at e;cases e
  ·rw[hfree]at hc;cases hc
 rcases hx with hk|hk
 ·refine wpAny_storeName_local hk hn (λh' hn' hs=>?_) hcls;obtain⟨oL,_,_,hoL,_⟩:=id hn;refine h _ ⟨I.ok,I.os,I.bare,⟨λb o e n hb hx=>?_,λb o e n hb hx=>?_,I.base.free,λb o e hx=>?_,I.base.tups,I.base.frzs,I.base.tbls⟩,⟨_,hn',λj y v' e1 e2 e3=>?_⟩,λy c e=>?_,I.free,I.freeC,λp hp=>?_,tracked ⟨oL,hoL,I.free⟩ hs,by simpa using I.len⟩ ⟨_,hs,.inl rfl⟩
  ·exact(hs.2 b (a6 (bE (aK e) I.ok.above))).trans (I.base.keep b o e n hb hx)
  ·obtain⟨sl,e1⟩:=I.base.slot b o e n hb hx;exact⟨sl,(hs.2 b (a6 (bE (aK e) I.ok.above))).trans e1⟩
  ·obtain⟨o',e1⟩:=I.base.there b o e hx;exact⟨o',(hs.2 b (a6 (bE (aK e) I.ok.above))).trans e1⟩
  ·by_cases hj:j=i
   ·subst hj;rw[hi]at e1;cases e1;rw[List.getElem?_set_self hiσ]at e2;cases e2;exact⟨u,r,.inl ⟨hk,by simp⟩⟩
   ·rw[List.getElem?_set_ne (Ne.symm hj)]at e2;obtain⟨u',r',q⟩:=hl j y v' e1 e2 e3;refine⟨u',r',?_⟩;rcases q with ⟨k,e⟩|⟨k,c,e,z⟩
    ·refine .inl ⟨k,?_⟩;have:y≠x:=λe=>hj (nF hN e1 (e▸hi))
     simp[this,e]
    ·exact .inr ⟨k,c,e,z.sameBut hs (cne y c e)⟩
  ·obtain⟨w',z⟩:=I.cell y c e;exact⟨w',z.sameBut hs (cne y c e)⟩
  ·obtain⟨e,n,ne,nf,d⟩:=I.pin p hp;exact⟨(hs.2 p.1 ne).trans e,n,ne,nf,d⟩
 ·have hfn:X.fn x=true:=by
   rcases hf with z|z
   ·exact z
   ·rw[z]at hk;cases hk
  obtain⟨c,hc⟩:=I.ok.has x (.inl hk);obtain⟨w',z⟩:=I.cell x c hc;refine wpAny_storeName_cell I.ok.kind hk hc z (λh' hc' hs=>?_);obtain⟨oc,hoc,hocd⟩:=id z;refine h {s with heap:=h'} ⟨I.ok,I.os,I.bare,⟨λb o e n hb hx=>?_,λb o e n hb hx=>?_,I.base.free,λb o e hx=>?_,I.base.tups,I.base.frzs,I.base.tbls⟩,⟨m,hn.sameBut hs (Ne.symm (cne x c hc)),λj y v' e1 e2 e3=>?_⟩,λy c' e=>?_,I.free,I.freeC,λp hp=>?_,tracked ⟨oc,hoc,I.freeC x c hc⟩ hs,by simpa using I.len⟩ ⟨c,hs,.inr hc⟩
  ·exact(hs.2 b (a6 (bE (aK e) (I.ok.cab x c hfn hc)))).trans (I.base.keep b o e n hb hx)
  ·obtain⟨sl,e1⟩:=I.base.slot b o e n hb hx;exact⟨sl,(hs.2 b (a6 (bE (aK e) (I.ok.cab x c hfn hc)))).trans e1⟩
  ·obtain⟨o',e1⟩:=I.base.there b o e hx;exact⟨o',(hs.2 b (a6 (bE (aK e) (I.ok.cab x c hfn hc)))).trans e1⟩
  ·by_cases hj:j=i
   ·subst hj;rw[hi]at e1;cases e1;rw[List.getElem?_set_self hiσ]at e2;cases e2;exact⟨u,r,.inr ⟨.inl hk,c,hc,hc'⟩⟩
   ·rw[List.getElem?_set_ne (Ne.symm hj)]at e2;obtain⟨u',r',q⟩:=hl j y v' e1 e2 e3;refine⟨u',r',?_⟩;rcases q with q|⟨k,c',e,z'⟩
    ·exact .inl q
    ·refine .inr ⟨k,c',e,z'.sameBut hs ?_⟩;rintro rfl;exact hj (nF hN e1 (I.ok.inj _ _ _ e hc▸hi))
  ·by_cases hcc:c'=c
   ·subst hcc;exact⟨_,hc'⟩
   ·obtain⟨w2,z2⟩:=I.cell y c' e;exact⟨w2,z2.sameBut hs hcc⟩
  ·obtain⟨e,n,ne,nf,d⟩:=I.pin p hp;refine⟨(hs.2 p.1 ?_).trans e,n,ne,nf,d⟩;intro q;rw[q,hoc]at e;have q':oc=p.2:=bS e;exact d w' (by rw[<-q'];exact hocd)
theorem mR{M:Model}{A:az}{E:ae->af->Prop}{i:Nat}{x:Str}{v:V}{u:ae}{Q:Unit->af->Prop}(I:Inv X pins σ H s)(hN:X.N.Nodup)(hi:X.N[i]? = some x)(hx:Loc X.env.scope x)(r:RelV v u)
  (h:∀s',Inv X pins (σ.set i (some v)) H s'->Q () s') (hf:X.fn x=true\/X.env.scope.names.lookup x=some .local:=by first|exact .inl rfl|exact .inr rfl|assumption):ao M A (storeName X.env x u) Q E s:=
 ny I hN hi hx r (λs' I' _=>h s' I') hf
theorem Inv.call'{s':af}{ch:List Addr}(I:Inv X pins σ H s)(ho:s'.os=s.os)(u:Un (frs X.stack) ch H H' s.heap s'.heap)(hok:HOk X.prog X.w H' s'.heap)(hg:AllBare s'.gens)
  (hch:∀b∈ch,(b∈X.ex\/X.s₀.heap.objs.size<=b)/\b≠X.env.locals/\(∀x c,X.env.cells.lookup x=some c->c≠b)/\∀p∈X.pn++pins,p.1≠b):Inv X pins σ H' s':=by
 obtain⟨h',g',d',t',o'⟩:=s';have e:o'=s.os:=ho;subst e;exact I.call (g':=g') (t':=t') (d':=d') u hok hg hch
end
abbrev XK:=ae->Option Addr->Hp->Prop
abbrev St:=List (Option V)
abbrev VK:=V->Hp->Prop
abbrev TE:=St->Hp->VK->Prop
abbrev TT:=St->Hp->(Bool->Hp->Prop)->Prop
abbrev TA:=St->Hp->(List V->Hp->Prop)->Prop
structure Ends where
 nx:St->Hp->Prop
 rt:VK
 bk:St->Hp->Prop:=λ_ _=>False
 ct:St->Hp->Prop:=λ_ _=>False
abbrev TS:=Ends->St->Hp->Prop
noncomputable def EP(X:Cx)(pins:List (Addr×Obj))(σ:St)(Q:VK)(u:ae)(s':af):Prop:=∃v H',Inv X pins σ H' s'/\RelV v u/\Q v H'
noncomputable def TP(X:Cx)(pins:List (Addr×Obj))(σ:St)(Q:Bool->Hp->Prop)(b:Bool)(s':af):Prop:=∃H',Inv X pins σ H' s'/\Q b H'
noncomputable def AP(X:Cx)(pins:List (Addr×Obj))(σ:St)(Q:List V->Hp->Prop)(us:List ae)(s':af):Prop:=∃vs H',Inv X pins σ H' s'/\Vals vs us/\Q vs H'
noncomputable def SP(X:Cx)(pins:List (Addr×Obj))(D:Ends)(f:Flow)(s':af):Prop:=
 match f with
 | .next=>∃σ' H',Inv X pins σ' H' s'/\D.nx σ' H'
 | .brk=>∃σ' H',Inv X pins σ' H' s'/\D.bk σ' H'
 | .cont=>∃σ' H',Inv X pins σ' H' s'/\D.ct σ' H'
 | .ret u=>∃v σ' H',Inv X pins σ' H' s'/\RelV v u/\D.rt v H'
noncomputable def PE(X:Cx)(e:Expr)(t:TE):Prop:=
 ∀(pins:List (Addr×Obj)) (s:af) (σ:St) (H:Hp) (Q:VK),Inv X pins σ H s->t σ H Q->ao (aq X.prog X.w) X.A (eval e X.env) (EP X pins σ Q) X.xe s
noncomputable def PT(X:Cx)(e:Expr)(t:TT):Prop:=
 ∀(pins:List (Addr×Obj)) (s:af) (σ:St) (H:Hp) (Q:Bool->Hp->Prop),Inv X pins σ H s->t σ H Q->ao (aq X.prog X.w) X.A (isTrue e X.env (eval e X.env)) (TP X pins σ Q) X.xe s
noncomputable def PW(X:Cx)(e:Expr)(t:TT):Prop:=
 ∀(whole:Sem ae) (pins:List (Addr×Obj)) (s:af) (σ:St) (H:Hp) (Q:Bool->Hp->Prop),Inv X pins σ H s->t σ H Q->ao (aq X.prog X.w) X.A (isTrue e X.env whole) (TP X pins σ Q) X.xe s
theorem PW.pt{X:Cx}{e:Expr}{t:TT}(h:PW X e t):PT X e t:=h _
noncomputable def PA(X:Cx)(es:List Expr)(t:TA):Prop:=
 ∀(pos:Pos) (pins:List (Addr×Obj)) (s:af) (σ:St) (H:Hp) (Q:List V->Hp->Prop),Inv X pins σ H s->t σ H Q->ao (aq X.prog X.w) X.A (spliced (backTo pos (aZ es X.env))) (AP X pins σ Q) X.xe s
noncomputable def PS(X:Cx)(st:Stmt)(t:TS):Prop:=
 ∀(pins:List (Addr×Obj)) (s:af) (σ:St) (H:Hp) (D:Ends),Inv X pins σ H s->t D σ H->ao (aq X.prog X.w) X.A (exec st X.env) (SP X pins D) X.xe s
noncomputable def PSs(X:Cx)(st:List Stmt)(t:TS):Prop:=
 ∀(pins:List (Addr×Obj)) (s:af) (σ:St) (H:Hp) (D:Ends),Inv X pins σ H s->t D σ H->ao (aq X.prog X.w) X.A (execs st X.env) (SP X pins D) X.xe s
theorem thn{α:Type}{t:Sem α}{Q Q':α->af->Prop}{M:Model}{A:az}{E:ae->af->Prop}{s:af}(h:ao M A t Q E s)(hQ:∀a s,Q a s->Q' a s):ao M A t Q' E s:=bK h hQ λ_ _ x=>x
section
variable{X:Cx}
theorem bin{a b:Expr}{ta tb:TE}(ha:PE X a ta)(hb:PE X b tb){pins:List (Addr×Obj)}{s:af}{σ:St}{H:Hp}{R:V->V->Hp->Prop}(I:Inv X pins σ H s)(h:ta σ H λx H1=>tb σ H1 λy H2=>R x y H2)
  {α:Type}{Q:α->af->Prop}{f:ae->ae->Sem α}
  (hf:∀v u s2 x y H2,Inv X pins σ H2 s2->RelV x v->RelV y u->R x y H2->ao (aq X.prog X.w) X.A (f v u) Q X.xe s2) :
  ao (aq X.prog X.w) X.A (eval a X.env) (λv s₁=>ao (aq X.prog X.w) X.A (eval b X.env) (λu s₂=>ao (aq X.prog X.w) X.A (f v u) Q X.xe s₂) X.xe s₁) X.xe s:=by
 refine thn (ha pins s σ H _ I h) λv s1 ⟨x,H1,I1,r1,q1⟩=>?_
 refine thn (hb pins s1 σ H1 _ I1 q1) λu s2 ⟨y,H2,I2,r2,q2⟩=>?_
 exact hf v u s2 x y H2 I2 r1 r2 q2
noncomputable def gD(i:Nat):TE:=λσ H Q=>∃v,σ[i]? = some (some v)/\Q v H
noncomputable def tC(v:V):TE:=λ_ H Q=>Q v H
theorem iG{i:Nat}{x:Str}{pos:Pos}(hN:X.N[i]? = some x)(hv:gx X.env.scope x)(hd:(x==("__debug__" : Str))=false:=by decide)(hcd:(x==("__classdict__" : Str))=false:=by decide):PE X (.Name x pos) (gD i):=by
 intro pins s σ H Q I h;obtain⟨v,e,h⟩:=h;obtain⟨m,hn,hl⟩:=I.loc;obtain⟨u,r,l⟩:=hl i x v hN e hv;have fin:EP X pins σ Q u s:=⟨v,H,I,r,h⟩
 rcases l with ⟨hk,hm⟩|⟨hk,c,hc,hcell⟩
 ·exact wpAny_Name (wpAny_loadName_local I.ok.kind hk hn hm fin) hd
 ·rcases hk with hk|hk
  ·exact wpAny_Name (wpAny_loadName_cell I.ok.kind hk hc hcell fin) hd
  ·exact wpAny_Name (wpAny_loadName_free I.ok.kind hk hc hcell fin hcd) hd
theorem AZ{i j pos}:PE X (.Constant (.int i) j pos) (tC (.int i)):=λ_ _ _ H _ I h=>wpAny_Constant_int ⟨.int i,H,I.tok _,⟨_,rfl⟩,h⟩
theorem uk{b j pos}:PE X (.Constant (.bool b) j pos) (tC (.bl b)):=λ_ _ _ H _ I h=>Constant_bool ⟨.bl b,H,I,rfl,h⟩
theorem sJ{j pos}:PE X (.Constant .none j pos) (tC .non):=λ_ _ _ H _ I h=>Constant_none ⟨.non,H,I,rfl,h⟩
theorem Cz{x j pos}:PE X (.Constant (.str x) j pos) (tC (.str x)):=λ_ _ _ H _ I h=>Calls.Constant_str ⟨.str x,H,I.tok _,⟨_,rfl⟩,h⟩
noncomputable def Gl(X:Cx)(x:Str):Prop:=X.env.kindOf x=some .globalImplicit
theorem kg{E:ae->af->Prop}{pins:List (Addr×Obj)}{s:af}{σ:St}{H:Hp}{x:Str}{u:ae}{pos:Pos}{Q:ae->af->Prop}(I:Inv X pins σ H s)(hg:Gl X x)(hm:X.mg x=some u)(h:Q u s)
  (hd:(x==("__debug__" : Str))=false:=by decide):ao (aq X.prog X.w) X.A (eval (.Name x pos) X.env) Q E s:=
 Calls.Name_function_global I.ok.kind hg (Calls.loadGlobal_global (by rw[I.ok.glob];exact I.mod.glob.keeps I.bk) hm h) hd
theorem fP{E:ae->af->Prop}{pins:List (Addr×Obj)}{s:af}{σ:St}{H:Hp}{x:Str}{u:ae}{pos:Pos}{Q:ae->af->Prop}(I:Inv X pins σ H s)(hg:Gl X x)(hm:X.mg x=none)(hv:bO x=some u)(h:Q u s)
  (hn:x≠"__name__":=by decide) (hd:(x==("__debug__" : Str))=false:=by decide):ao (aq X.prog X.w) X.A (eval (.Name x pos) X.env) Q E s:=by
 obtain⟨mb,h1,h2⟩:=I.mod.blt;exact Calls.Name_function_global I.ok.kind hg (Calls.loadGlobal_builtin (by rw[I.ok.glob];exact I.mod.glob.keeps I.bk) hm (by rw[I.ok.blt];exact h1.keeps I.bk) ((h2 x hn).trans hv) h) hd
theorem jX{x:Str}{v:V}{u:ae}{pos:Pos}(hg:Gl X x)(hm:X.mg x=some u)(r:RelV v u)(hd:(x==("__debug__" : Str))=false:=by decide):PE X (.Name x pos) (tC v):=
 λ_ _ _ H _ I h=>kg I hg hm ⟨v,H,I,r,h⟩ hd
theorem u6{x:Str}{v:V}{u:ae}{pos:Pos}(hg:Gl X x)(hm:X.mg x=none)(hv:bO x=some u)(r:RelV v u)(hn:x≠"__name__":=by decide)(hd:(x==("__debug__" : Str))=false:=by decide):PE X (.Name x pos) (tC v):=
 λ_ _ _ H _ I h=>fP I hg hm hv ⟨v,H,I,r,h⟩ hn hd
variable{a b:Expr}{ta tb:TE}{pos:Pos}
variable{tA tB':TT}{rest:List Expr}
noncomputable def yR(t u:TT):TT:=λσ H Q=>t σ H λc H1=>if c=true then u σ H1 Q else Q false H1
noncomputable def tOr(t u:TT):TT:=λσ H Q=>t σ H λc H1=>if c=true then Q true H1 else u σ H1 Q
noncomputable def Bm(t:TT):TT:=λσ H Q=>t σ H λc H1=>Q (!c) H1
theorem yq(ha:PT X a tA):PW X (.BoolOp .And [a] pos) tA:=by
 intro wh pins s σ H Q I h;refine isTrue_and (thn (ha pins s σ H Q I h) λc s1 e=>?_);cases c with
 |true=>exact isTrue_and_nil e
 |false=>exact e
theorem C_(ha:PT X a tA):PW X (.BoolOp .Or [a] pos) tA:=by
 intro wh pins s σ H Q I h;refine isTrue_or (thn (ha pins s σ H Q I h) λc s1 e=>?_);cases c with
 |false=>exact isTrue_or_nil e
 |true=>exact e
theorem Cf(ha:PT X a tA)(hb:PW X (.BoolOp .And (b::rest) pos) tB'):PW X (.BoolOp .And (a::b::rest) pos) (yR tA tB'):=by
 intro wh pins s σ H Q I h;refine isTrue_and (thn (ha pins s σ H _ I h) λc s1 ⟨H1,I1,q1⟩=>?_);cases c with
 |true=>exact hb wh pins s1 σ H1 Q I1 q1
 |false=>exact⟨H1,I1,q1⟩
theorem Di(ha:PT X a tA)(hb:PW X (.BoolOp .Or (b::rest) pos) tB'):PW X (.BoolOp .Or (a::b::rest) pos) (tOr tA tB'):=by
 intro wh pins s σ H Q I h;refine isTrue_or (thn (ha pins s σ H _ I h) λc s1 ⟨H1,I1,q1⟩=>?_);cases c with
 |true=>exact⟨H1,I1,q1⟩
 |false=>exact hb wh pins s1 σ H1 Q I1 q1
theorem t6(ha:PT X a tA):PT X (.UnaryOp .Not a pos) (Bm tA):=by
 intro pins s σ H Q I h;exact isTrue_not (ha pins s σ H (λc H1=>Q (!c) H1) I h)
noncomputable def vK(ta tb:TE):TE:=λσ H Q=>ta σ H λx H1=>∃c,x=.bl c/\if c=true then tb σ H1 Q else Q (.bl false) H1
noncomputable def uT(ta tb:TE):TE:=λσ H Q=>ta σ H λx H1=>∃c,x=.bl c/\if c=true then Q (.bl true) H1 else tb σ H1 Q
noncomputable def Ck(ta:TE):TE:=λσ H Q=>ta σ H λx H1=>∃c,x=.bl c/\Q (.bl (!c)) H1
theorem xo{op}{t:TE}(h:PE X a t):PE X (.BoolOp op [a] pos) t:=λpins s σ H Q I hw=>BoolOp_one (h pins s σ H Q I hw)
theorem rR(ha:PE X a ta)(hb:PE X (.BoolOp .And (b::rest) pos) tb):PE X (.BoolOp .And (a::b::rest) pos) (vK ta tb):=by
 intro pins s σ H Q I h;refine BoolOp_and (thn (ha pins s σ H _ I h) λv s1 ⟨x,H1,I1,r1,q1⟩=>?_);obtain⟨c,rfl,q1⟩:=q1;cases r1;refine bI ?_;cases c with
 |true=>exact hb pins s1 σ H1 Q I1 q1
 |false=>exact⟨.bl false,H1,I1,rfl,q1⟩
theorem Ba(ha:PE X a ta)(hb:PE X (.BoolOp .Or (b::rest) pos) tb):PE X (.BoolOp .Or (a::b::rest) pos) (uT ta tb):=by
 intro pins s σ H Q I h;refine BoolOp_or (thn (ha pins s σ H _ I h) λv s1 ⟨x,H1,I1,r1,q1⟩=>?_);obtain⟨c,rfl,q1⟩:=q1;cases r1;refine bI ?_;cases c with
 |false=>exact hb pins s1 σ H1 Q I1 q1
 |true=>exact⟨.bl true,H1,I1,rfl,q1⟩
theorem Dt(ha:PE X a ta):PE X (.UnaryOp .Not a pos) (Ck ta):=by
 intro pins s σ H Q I h;refine UnaryOp_ (thn (ha pins s σ H _ I h) λv s1 ⟨x,H1,I1,r1,q1⟩=>?_);obtain⟨c,rfl,q1⟩:=q1;cases r1;exact not_of (bI ⟨.bl (!c),H1,I1,rfl,q1⟩)
noncomputable def tIf(t:TT)(ta tb:TE):TE:=λσ H Q=>t σ H λc H1=>if c=true then ta σ H1 Q else tb σ H1 Q
theorem wM{c:Expr}(hc:PT X c tA)(ha:PE X a ta)(hb:PE X b tb):PE X (.IfExp c a b pos) (tIf tA ta tb):=by
 intro pins s σ H Q I h;refine wpAny_IfExp (thn (hc pins s σ H _ I h) λd s1 ⟨H1,I1,q1⟩=>?_);cases d with
 |true=>exact ha pins s1 σ H1 Q I1 q1
 |false=>exact hb pins s1 σ H1 Q I1 q1
end
noncomputable def SqL(K:aC)(H:Hp)(a:Addr)(xs:List V):Prop:=
 Rd H a (.lst xs) \/
  ∃(o:Obj) (its:Array ae) (n:Nat),K.lookup a=some o/\o.cls=.type "list"/\o.dict=none/\o.data=.seq its n/\its.size<=aL/\Vals xs its.toList
noncomputable def SqT(K:aC)(H:Hp)(a:Addr)(xs:List V):Prop:=
 Rd H a (.tup xs) \/
  ∃(o:Obj) (its:Array ae) (n:Nat),K.lookup a=some o/\o.cls=.type "tuple"/\o.data=.seq its n/\its.size<=aL/\Vals xs its.toList
noncomputable def yB:ae->Option V
 | .none=>some .non
 | .bool b=>some (.bl b)
 | .int i _=>some (.int i)
 | .str x _=>some (.str x)
 | .bytes b _=>some (.byt b)
 | .float b _=>some (.flt b)
 | .ref a=>some (.ref a)
 | .type n=>some (.ty n)
 |_=>none
theorem RelV.abs{x:V}{u:ae}(r:RelV x u):yB u=some x:=by
 cases x with
 |non=>cases r;rfl
 |bl _=>cases r;rfl
 |int _=>obtain⟨t,rfl⟩:=r;rfl
 |str _=>obtain⟨t,rfl⟩:=r;rfl
 |byt _=>obtain⟨t,rfl⟩:=r;rfl
 |flt _=>obtain⟨t,rfl⟩:=r;rfl
 |ref _=>cases r;rfl
 |ty _=>cases r;rfl
theorem RelV.inj{x y:V}{u:ae}(r:RelV x u)(q:RelV y u):x=y:=bS (r.abs.symm.trans q.abs)
theorem Vals.inj{xs ys:List V}{us:List ae}(h:Vals xs us)(h':Vals ys us):xs=ys:=by
 induction h generalizing ys with
 |nil=>cases h';rfl
 |cons r t ih=>cases h' with
  |cons r' t'=>rw[r.inj r',ih t']
section
variable{X:Cx}{pins:List (Addr×Obj)}{σ:St}{H:Hp}{s:af}{a:Addr}{xs ys:List V}
theorem SqL.of{K:aC}(h:H a=some (.lst xs)):SqL K H a xs:=.inl (.inl h)
theorem SqT.of{K:aC}(h:H a=some (.tup xs)):SqT K H a xs:=.inl (.inl h)
theorem Inv.list(I:Inv X pins σ H s)(h:SqL X.K H a xs):∃its:List ae,Vals xs its/\PlainL s.heap a its.toArray/\xs.length<=sizeLine:=by
 rcases h with h|⟨o,its,n,hk,hc,hd,hs,hz,r⟩
 ·obtain⟨z,its,n,r,e⟩:=h.ok I.hok;exact⟨its,r,⟨_,n,e,rfl,rfl,rfl⟩,z⟩
 ·refine⟨its.toList,r,⟨o,n,I.kIn a o hk,hc,hd,by simpa using hs⟩,?_⟩;have e:=r.length;simp only[aR]at e;lia
theorem Inv.tuple(I:Inv X pins σ H s)(h:SqT X.K H a xs):∃its:List ae,Vals xs its/\IsTup s.heap a its.toArray/\xs.length<=sizeLine:=by
 rcases h with h|⟨o,its,n,hk,hc,hs,hz,r⟩
 ·obtain⟨z,its,r,p⟩:=h.ok I.hok;exact⟨its,r,p,z⟩
 ·refine⟨its.toList,r,⟨o,I.kIn a o hk,hc,n,by simpa using hs⟩,?_⟩;have e:=r.length;simp only[aR]at e;lia
theorem Inv.list_inj(I:Inv X pins σ H s)(h:SqL X.K H a xs)(h':SqL X.K H a ys):xs=ys:=by
 obtain⟨its,r,⟨o,n,e,_,_,d⟩,_⟩:=I.list h;obtain⟨its',r',⟨o',n',e',_,_,d'⟩,_⟩:=I.list h';rw[e]at e';cases e';rw[d]at d';injection d' with d1 _
 have:its=its':=by simpa using congrArg Array.toList d1
 subst this;exact r.inj r'
theorem Inv.tuple_inj(I:Inv X pins σ H s)(h:SqT X.K H a xs)(h':SqT X.K H a ys):xs=ys:=by
 obtain⟨its,r,⟨o,e,_,n,d⟩,_⟩:=I.tuple h;obtain⟨its',r',⟨o',e',_,n',d'⟩,_⟩:=I.tuple h';rw[e]at e';cases e';rw[d]at d';injection d' with d1 _
 have:its=its':=by simpa using congrArg Array.toList d1
 subst this;exact r.inj r'
end
abbrev Cx.wish(X:Cx)(E:ae->af->Prop):Cx:={X with xe:=E}
abbrev Cx.nox(X:Cx):Cx:=X.wish λ_ _=>False
theorem Cx.Ok.wish{X:Cx}(ok:X.Ok)(E:ae->af->Prop):(X.wish E).Ok:=
 ⟨ok.mod,ok.kind,ok.glob,ok.blt,ok.above,ok.inj,ok.has,ok.cab,ok.hd,ok.frames,ok.stk,ok.exf,ok.bs,ok.bsz,ok.noex,ok.exfs,ok.funs,ok.frf⟩
theorem Cx.Ok.unwish{X:Cx}{E:ae->af->Prop}(ok:(X.wish E).Ok):X.Ok:=
 ⟨ok.mod,ok.kind,ok.glob,ok.blt,ok.above,ok.inj,ok.has,ok.cab,ok.hd,ok.frames,ok.stk,ok.exf,ok.bs,ok.bsz,ok.noex,ok.exfs,ok.funs,ok.frf⟩
section
variable{X:Cx}{pins:List (Addr×Obj)}{σ:St}{H:Hp}{s:af}{E:ae->af->Prop}
theorem Inv.wish(I:Inv X pins σ H s)(E:ae->af->Prop):Inv (X.wish E) pins σ H s:=⟨I.ok.wish E,I.os,I.bare,I.base,I.loc,I.cell,I.free,I.freeC,I.pin,I.hok,I.len⟩
theorem Inv.unwish(I:Inv (X.wish E) pins σ H s):Inv X pins σ H s:=⟨I.ok.unwish,I.os,I.bare,I.base,I.loc,I.cell,I.free,I.freeC,I.pin,I.hok,I.len⟩
theorem SP.unwish{D:Ends}{f:Flow}{s':af}(h:SP (X.wish E) pins D f s'):SP X pins D f s':=by
 cases f with
 |next=>obtain⟨σ',H',I,q⟩:=h;exact⟨σ',H',I.unwish,q⟩
 |brk=>obtain⟨σ',H',I,q⟩:=h;exact⟨σ',H',I.unwish,q⟩
 |cont=>obtain⟨σ',H',I,q⟩:=h;exact⟨σ',H',I.unwish,q⟩
 |ret u=>obtain⟨v,σ',H',I,r,q⟩:=h;exact⟨v,σ',H',I.unwish,r,q⟩
end
section
variable{X:Cx}{st:Stmt}{rest:List Stmt}{t u:TS}{e:Expr}{te:TE}{pos:Pos}
noncomputable def gZ:TS:=λD σ H=>D.nx σ H
noncomputable def xw(t u:TS):TS:=λD σ H=>t {D with nx:=u D} σ H
theorem sf:PSs X [] gZ:=λ_ _ σ H _ I h=>wpAny_execs_nil ⟨σ,H,I,h⟩
theorem xF(h1:PS X st t)(h2:PSs X rest u):PSs X (st::rest) (xw t u):=by
 intro pins s σ H D I h;refine wpAny_execs_cons (thn (h1 pins s σ H {D with nx:=u D} I h) λf s1 q=>?_);cases f with
 |next=>
  obtain⟨σ',H',I',q⟩:=q;exact h2 pins s1 σ' H' D I' q
 |ret v=>exact q
 |brk=>exact q
 |cont=>exact q
noncomputable def vt:TS:=λD σ H=>D.bk σ H
noncomputable def xf:TS:=λD σ H=>D.ct σ H
theorem Bw:PS X (.Pass pos) gZ:=λ_ _ σ H _ I h=>wpAny_Pass ⟨σ,H,I,h⟩
theorem Ab:PS X (.Break pos) vt:=λ_ _ σ H _ I h=>wpAny_Break ⟨σ,H,I,h⟩
theorem sv:PS X (.Continue pos) xf:=λ_ _ σ H _ I h=>wpAny_Continue ⟨σ,H,I,h⟩
theorem Inv.quiet{pins:List (Addr×Obj)}{σ:St}{H:Hp}{s:af}(I:Inv X pins σ H s):interactive X.env=false:=by simp[interactive,I.ok.kind]
noncomputable def tH(te:TE):TS:=λD σ H=>te σ H λ_ H1=>D.nx σ H1
theorem nD(he:PE X e te)(hs:swapsWith e none pos.line X.env=pure false:=by rfl):PS X (.Expr e pos) (tH te):=by
 intro pins s σ H D I h;exact wpAny_Expr_any (thn (he pins s σ H _ I h) λv s1 ⟨x,H1,I1,r1,q1⟩=>⟨σ,H1,I1,q1⟩) I.quiet hs
noncomputable def yi(te:TE):TS:=λD σ H=>te σ H D.rt
theorem kJ(he:PE X e te):PS X (.Return (some e) pos) (yi te):=by
 intro pins s σ H D I h;exact wpAny_Return_some (thn (he pins s σ H _ I h) λv s1 ⟨x,H1,I1,r1,q1⟩=>⟨x,σ,H1,I1,r1,q1⟩)
noncomputable def sO:TS:=λD _ H=>D.rt .non H
theorem sF:PS X (.Return none pos) sO:=λ_ _ σ H _ I h=>wpAny_Return_none ⟨.non,σ,H,I,rfl,h⟩
noncomputable def iD(c:TT)(t u:TS):TS:=λD σ H=>c σ H λb H1=>if b=true then t D σ H1 else u D σ H1
theorem vp{c:Expr}{a b:List Stmt}{tc:TT}(hc:PT X c tc)(ha:PSs X a t)(hb:PSs X b u):PS X (.If c a b pos) (iD tc t u):=by
 intro pins s σ H D I h;refine wpAny_If (thn (hc pins s σ H _ I h) λd s1 ⟨H1,I1,q1⟩=>?_);cases d with
 |true=>exact ha pins s1 σ H1 D I1 q1
 |false=>exact hb pins s1 σ H1 D I1 q1
end
abbrev TG:=V->St->Hp->(St->Hp->Prop)->Prop
abbrev TGs:=List V->St->Hp->(St->Hp->Prop)->Prop
noncomputable def PG(X:Cx)(target:Expr)(t:TG):Prop:=
 ∀(pins:List (Addr×Obj)) (s:af) (σ:St) (H:Hp) (v:V) (u:ae) (Q:St->Hp->Prop),Inv X pins σ H s->RelV v u->t v σ H Q ->
  ao (aq X.prog X.w) X.A (assign target X.env u) (λ_ s'=>∃σ' H',Inv X pins σ' H' s'/\Q σ' H') X.xe s
noncomputable def PGs(X:Cx)(ts:List Expr)(t:TGs):Prop:=
 ∀(pins:List (Addr×Obj)) (s:af) (σ:St) (H:Hp) (vs:List V) (us:List ae) (Q:St->Hp->Prop),Inv X pins σ H s->Vals vs us->t vs σ H Q ->
  ao (aq X.prog X.w) X.A (assignInOrder ((assignEach ts X.env).map (·.2)) us) (λ_ s'=>∃σ' H',Inv X pins σ' H' s'/\Q σ' H') X.xe s
abbrev ka:=V->V->V->Hp->(Hp->Prop)->Prop
noncomputable def fK(X:Cx)(t:ka):Prop:=
 ∀(pins:List (Addr×Obj)) (s:af) (σ:St) (H:Hp) (o i v:V) (ov iv u:ae) (Q:Hp->Prop),Inv X pins σ H s->RelV o ov->RelV i iv->RelV v u->t o i v H Q ->
  ao (aq X.prog X.w) X.A (setItem ov iv u) (λ_ s'=>∃H',Inv X pins σ H' s'/\Q H') X.xe s
section
variable{X:Cx}{pos:Pos}
noncomputable def fh(i:Nat):TG:=λv σ H Q=>Q (σ.set i (some v)) H
theorem wm{i:Nat}{x:Str}(hN:X.N.Nodup)(hi:X.N[i]? = some x)(hx:Loc X.env.scope x)(hf:X.fn x=true\/X.env.scope.names.lookup x=some .local:=by first|exact .inl rfl|exact .inr rfl|assumption):PG X (.Name x pos) (fh i):=by
 intro pins s σ H v u Q I r h;exact wpAny_assign_Name (mR I hN hi hx r (λs' I'=>⟨_,H,I',h⟩) hf)
noncomputable def mq:TGs:=λvs σ H Q=>vs=[]/\Q σ H
noncomputable def pA(t:TG)(u:TGs):TGs:=λvs σ H Q=>∃v r,vs=v::r/\t v σ H λσ' H'=>u r σ' H' Q
theorem Cp:PGs X [] mq:=by
 intro pins s σ H vs us Q I r h;obtain⟨e,h⟩:=h;subst e;cases r;exact assignInOrder_nil ⟨σ,H,I,h⟩
theorem uv{e:Expr}{es:List Expr}{t:TG}{u:TGs}(h1:PG X e t)(h2:PGs X es u)
  (hs:(assignEach (e::es) X.env).map (·.2)=assign e X.env::(assignEach es X.env).map (·.2):=by rfl):PGs X (e::es) (pA t u):=by
 intro pins s σ H vs us Q I r h;obtain⟨v,vr,e1,h⟩:=h;subst e1;cases r with
 |cons r rr=>
  rw[hs];refine assignInOrder_cons (thn (h1 pins s σ H _ _ _ I r h) λ_ s1 ⟨σ1,H1,I1,q1⟩=>?_);exact h2 pins s1 σ1 H1 _ _ Q I1 rr q1
noncomputable def oM(K:aC)(n:Nat)(t:TGs):TG:=λv σ H Q=>∃a xs,v=.ref a/\SqT K H a xs/\xs.length=n/\t xs σ H Q
theorem vQ{es:List Expr}{k:Nat}{t:TGs}{n:Nat}(hc:X.calm=true)(h:PGs X es t)
  (hn:(assignEach es X.env).length=n:=by rfl) (hst:(assignEach es X.env).findIdx? (·.1)=none:=by rfl):PG X (.Tuple es k pos) (oM X.K n t):=by
 intro pins s σ H v u Q I r hw;obtain⟨a,xs,e1,hq,hl,hw⟩:=hw;subst e1;cases r;obtain⟨its,rv,ht,hz⟩:=I.tuple hq;refine assign_Tuple_tuple (I.ok.hd hc) ht (by simp[hn,<-hl,rv.length]) hst λh' hx=>?_
 have I1:Inv X pins σ H {s with heap:=h'}:=I.kept (t':=s.toks) λb o e=>hx b o (a6 (aK e)) e
 exact h pins _ σ H xs _ Q I1 (by simpa using rv) hw
noncomputable def l6(to ti:TE)(t:ka):TG:=λv σ H Q=>to σ H λo H1=>ti σ H1 λi H2=>t o i v H2 λH3=>Q σ H3
theorem wZ{o i:Expr}{to ti:TE}{t:ka}(ho:PE X o to)(hi:PE X i ti)(hs:fK X t)
  (ha:∀v,assign (.Subscript o i pos) X.env v=(do
   let ov <-holding [v] (eval o X.env)
   let iv <-holding [v,ov] (eval i X.env)
   standAt pos
   holding [v,ov,iv] (setItem ov iv v)
   release [v,ov,iv] []):=by intro _;rfl):PG X (.Subscript o i pos) (l6 to ti t):=by
 intro pins s σ H v u Q I r h;rw[ha];refine ah (bJ (thn (ho pins s σ H _ I h) λov s1 ⟨x,H1,I1,r1,q1⟩=>?_));refine ah (bJ (thn (hi pins s1 σ H1 _ I1 q1) λiv s2 ⟨y,H2,I2,r2,q2⟩=>?_));refine ah (wpAny_standAt (ah (bJ (thn (hs pins s2 σ H2 x y v ov iv u _ I2 r1 r2 r q2) λ_ s3 ⟨H3,I3,q3⟩=>?_))));exact wpAny_release ⟨σ,H3,I3,q3⟩
noncomputable def i3(te:TE)(g:TG):TS:=λD σ H=>te σ H λx H1=>g x σ H1 D.nx
theorem lA{tg e:Expr}{te:TE}{g:TG}(he:PE X e te)(hg:PG X tg g)(hs:swapsWithSole [tg] e pos.line X.env=pure false:=by rfl)(hw:swappedStores [tg] e X.env=pure none:=by rfl)
  (h1:(assignEach [tg] X.env).map (·.2)=[assign tg X.env]:=by rfl):PS X (.Assign [tg] e pos) (i3 te g):=by
 intro pins s σ H D I h;refine wpAny_Assign_stores (thn (he pins s σ H _ I h) λv s1 ⟨x,H1,I1,r1,q1⟩=>?_) hs hw;rw[h1];exact thn (hg pins s1 σ H1 x v _ I1 r1 q1) λ_ s2 q=>q
theorem rq{i:Nat}{x:Str}{e:Expr}{te:TE}{pos':Pos}(hN:X.N.Nodup)(hi:X.N[i]? = some x)(hx:Loc X.env.scope x)(he:PE X e te)(hs:swapsWith e (some (.Name x pos')) pos.line X.env=pure false:=by rfl)(hf:X.fn x=true\/X.env.scope.names.lookup x=some .local:=by first|exact .inl rfl|exact .inr rfl|assumption) :
  PS X (.Assign [.Name x pos'] e pos) (i3 te (fh i)):=by
 intro pins s σ H D I h;refine wpAny_Assign_Name (thn (he pins s σ H _ I h) λv s1 ⟨y,H1,I1,r1,q1⟩=>?_) hs;exact mR I1 hN hi hx r1 (λs2 I2=>⟨_,H1,I2,q1⟩) hf
end
section
variable{X:Cx}{pos:Pos}
end
structure It where
 go:Nat->Hp->Prop
 yld:Nat->Hp->V->Hp->Prop
 stop:Nat->Hp->Prop
noncomputable def dy(X:Cx)(pins:List (Addr×Obj))(H:Hp)(b:Addr):Prop:=
 H b=none/\b≠X.env.locals/\b∉X.fs/\(b∈X.ex\/X.s₀.heap.objs.size<=b)/\(∀x c,X.env.cells.lookup x=some c->c≠b)/\∀p∈X.pn++pins,p.1≠b
theorem Inv.fpOk{X:Cx}{pins:List (Addr×Obj)}{σ:St}{H H':Hp}{s:af}{b:Addr}(I:Inv X pins σ H s)(hb:s.heap.objs.size<=b)(hn:H' b=none):dy X pins H' b:=by
 refine⟨hn,Nat.ne_of_gt (bE I.lt hb),I.nofs hb,.inr (bB I.sz hb),λx c e z=>?_,λp hp z=>?_⟩
 ·obtain⟨v,q⟩:=I.cell x c e;exact absurd (bE q.lt (by rw[z];exact hb)) (bM _)
 ·exact absurd (bE (aK (I.pin p hp).1) (by rw[z];exact hb)) (bM _)
structure Turn(P:aA)(w:av)(K:aC)(tg:Expr)(J:It)(fp:List Addr)(it:Addr)(tn:Nat->Heap->Prop):Prop where
 mem:it∈fp
 obj:∀i h,tn i h->∀b∈fp,∃o,h.get? b=some o/\∀v,o.data≠.cell v
 keep:∀i h h',tn i h->(∀b∈fp,∀o,h.get? b=some o->h'.get? b=some o)->tn i h'
 item:∀(X:Cx),X.prog=P->X.w=w->X.K=K->X.calm=true->∀(i:Nat) (pins:List (Addr×Obj)) (s:af) (σ:St) (H:Hp) (E:ae->af->Prop),Inv X pins σ H s->(∀b∈fp,dy X pins H b)->tn i s.heap->J.go i H ->
  ao (aq P w) X.A (pyNext (.ref it)) (λr s1=>∃u,r=some u /\
   ao (aq P w) X.A (letOwnedTupleGo tg (.ref it) u) (λ_ s2=>∃x H',Inv X pins σ H' s2/\RelV x u/\J.yld i H x H'/\tn (i+1) s2.heap/\∀b∈fp,H' b=none) E s1) E s
 done:∀(X:Cx),X.prog=P->X.w=w->X.K=K->X.calm=true->∀(i:Nat) (pins:List (Addr×Obj)) (s:af) (σ:St) (H:Hp) (E:ae->af->Prop),Inv X pins σ H s->(∀b∈fp,dy X pins H b)->tn i s.heap->J.stop i H ->
  ao (aq P w) X.A (pyNext (.ref it)) (λr s1=>r=none/\Inv X pins σ H s1) E s
 self:∀(A:az) (i:Nat) (s:af) (Q:ae->af->Prop) (E:ae->af->Prop),tn i s.heap->Q (.ref it) s->ao (aq P w) A (pyIter (.ref it)) Q E s
abbrev TI:=St->Hp->(It->Hp->Prop)->Prop
noncomputable def PIE(X:Cx)(pins:List (Addr×Obj))(σ:St)(tg:Expr)(R:It->Hp->Prop)(itv:ae)(s2:af):Prop:=
 ∃(it:Addr) (fp:List Addr) (tn:Nat->Heap->Prop) (J:It) (H':Hp),itv=.ref it/\Inv X pins σ H' s2/\Turn X.prog X.w X.K tg J fp it tn/\tn 0 s2.heap/\(∀b∈fp,dy X pins H' b)/\R J H'
noncomputable def PI(X:Cx)(tg iter:Expr)(wi:TI):Prop:=
 ∀(pins:List (Addr×Obj)) (s:af) (σ:St) (H:Hp) (R:It->Hp->Prop),Inv X pins σ H s->wi σ H R ->
  ao (aq X.prog X.w) X.A (eval iter X.env) (λv s1=>ao (aq X.prog X.w) X.A (pyIter v) (PIE X pins σ tg R) X.xe s1) X.xe s
theorem iH{M:Model}{A:az}{E:ae->af->Prop}{s:af}{tg:Expr}{it:Addr}{u:ae}{o:Obj}{n:String}{vs:Array ae}{Q:Unit->af->Prop}(ho:s.heap.get? it=some o)(hc:o.cls=.type n)(hd:o.data=.fields vs)
  (hn:["enumerate","zip","dict_itemiterator","dict_reverseitemiterator","odict_iterator","itertools.zip_longest","itertools.pairwise"].contains n=false) (hQ:Q () s):ao M A (letOwnedTupleGo tg (.ref it) u) Q E s:=by
 unfold letOwnedTupleGo;cases tg<;>first
  |exact aB hQ
  | (cases u<;>first
    |exact aB hQ
    | (refine ah (wpAny_load ho ?_)
       rw[hc,hd];show ao M A (if (["enumerate","zip","dict_itemiterator","dict_reverseitemiterator","odict_iterator","itertools.zip_longest","itertools.pairwise"].contains n&&vs[0]? == some (rawInt _))=true then _ else _) Q E s;rw[if_neg (by intro h;rw[hn,Bool.false_and]at h;cases h)];exact aB hQ))
noncomputable def Itl(K:aC)(a:Addr):It:=
 ⟨λi H=>∃xs x,SqL K H a xs/\xs[i]? = some x,λi H x H'=>H'=H/\∀xs,SqL K H a xs->xs[i]? = some x,λi H=>∃xs,SqL K H a xs/\xs.length<=i⟩
noncomputable def Itt(K:aC)(a:Addr):It:=
 ⟨λi H=>∃xs x,SqT K H a xs/\xs[i]? = some x,λi H x H'=>H'=H/\∀xs,SqT K H a xs->xs[i]? = some x,λi H=>∃xs,SqT K H a xs/\xs.length<=i⟩
noncomputable def Itr(lo:Int)(n:Nat):It:=⟨λi _=>i<n,λi H x H'=>H'=H/\x=.int (lo+i),λi _=>n<=i⟩
theorem BC{P:aA}{w:av}{K:aC}{tg:Expr}(a it:Addr):Turn P w K tg (Itl K a) [it] it (λi h=>h.IsListIter it a i) where
 mem:=by simp
 obj:=λi h st b hb=>by
  have e:b=it:=by simpa using hb
  subst e;obtain⟨o,e,c,d⟩:=st;exact⟨o,e,λv z=>by rw[d]at z;cases z⟩
 keep:=λi h h' st k=>st.at λo e=>k it (by simp) o e
 item:=by
  intro X hP hw hK hc i pins s σ H E I hf st hg;subst hP hw hK;obtain⟨xs,x,hq,hx⟩:=hg;obtain⟨its,rv,p,hz⟩:=I.list hq;obtain⟨u,hu,ru⟩:=rv.get hx;obtain⟨f0,f1,f2,f3,f4,f5⟩:=hf it (by simp);refine wpAny_pyNext_list_item st p.isList (x:=u) (by simpa using hu) λh' st' sb=>?_
  have I1:Inv X pins σ H {s with heap:=h'}:=I.turned (t':=s.toks) (λb o hb e=>(sb.2 b hb).trans e) f0 f1 f3 f4 f5;obtain⟨o,e,c,d⟩:=id st';exact⟨u,rfl,iH (s:={s with heap:=h'}) e c d (by decide) ⟨x,H,I1,ru,⟨rfl,λys hy=>by rw[I.list_inj hy hq];exact hx⟩,st',λb hb=>(hf b hb).1⟩⟩
 done:=by
  intro X hP hw hK hc i pins s σ H E I hf st hg;subst hP hw hK;obtain⟨xs,hq,hx⟩:=hg;obtain⟨its,rv,p,hz⟩:=I.list hq;obtain⟨f0,f1,f2,f3,f4,f5⟩:=hf it (by simp);have hl:=rv.length;exact wpAny_pyNext_list_end (I.ok.hd hc) st p.isList (by simp;lia) λh' eb=>⟨rfl,I.turned (t':=s.toks) (λb o hb e=>eb b o hb e) f0 f1 f3 f4 f5⟩
 self:=λ_ _ _ _ _ st h=>wpAny_pyIter_listiter st h
theorem Cs{P:aA}{w:av}{K:aC}{tg:Expr}(a it:Addr):Turn P w K tg (Itt K a) [it] it (λi h=>h.IsTupleIter it a i) where
 mem:=by simp
 obj:=λi h st b hb=>by
  have e:b=it:=by simpa using hb
  subst e;obtain⟨o,e,c,d⟩:=st;exact⟨o,e,λv z=>by rw[d]at z;cases z⟩
 keep:=λi h h' st k=>st.at λo e=>k it (by simp) o e
 item:=by
  intro X hP hw hK hc i pins s σ H E I hf st hg;subst hP hw hK;obtain⟨xs,x,hq,hx⟩:=hg;obtain⟨its,rv,p,hz⟩:=I.tuple hq;obtain⟨u,hu,ru⟩:=rv.get hx;obtain⟨f0,f1,f2,f3,f4,f5⟩:=hf it (by simp);refine wpAny_pyNext_tuple_item st (show s.heap.IsTuple a its.toArray from p) (x:=u) (by simpa using hu) λh' st' sb=>?_
  have I1:Inv X pins σ H {s with heap:=h'}:=I.turned (t':=s.toks) (λb o hb e=>(sb.2 b hb).trans e) f0 f1 f3 f4 f5;obtain⟨o,e,c,d⟩:=id st';exact⟨u,rfl,iH (s:={s with heap:=h'}) e c d (by decide) ⟨x,H,I1,ru,⟨rfl,λys hy=>by rw[I.tuple_inj hy hq];exact hx⟩,st',λb hb=>(hf b hb).1⟩⟩
 done:=by
  intro X hP hw hK hc i pins s σ H E I hf st hg;subst hP hw hK;obtain⟨xs,hq,hx⟩:=hg;obtain⟨its,rv,p,hz⟩:=I.tuple hq;obtain⟨f0,f1,f2,f3,f4,f5⟩:=hf it (by simp);have hl:=rv.length;exact wpAny_pyNext_tuple_end (I.ok.hd hc) st (show s.heap.IsTuple a its.toArray from p) (by simp;lia) λh' eb=>⟨rfl,I.turned (t':=s.toks) (λb o hb e=>eb b o hb e) f0 f1 f3 f4 f5⟩
 self:=λ_ _ _ _ _ st h=>wpAny_pyIter_tupleiter st h
theorem uY{P:aA}{w:av}{K:aC}{tg:Expr}(it:Addr)(lo:Int)(n:Nat):Turn P w K tg (Itr lo n) [it] it (λi h=>IsRangeIter h it (lo+(i:Nat) * 1) ((n:Int)-(i:Nat)) 1) where
 mem:=by simp
 obj:=λi h st b hb=>by
  have e:b=it:=by simpa using hb
  subst e;exact⟨_,st,λv z=>by
   have z':Data.fields _=Data.cell v:=z;cases z'⟩
 keep:=λi h h' st k=>k it (by simp) _ st
 item:=by
  intro X hP hw hK hc i pins s σ H E I hf st hg;subst hP hw hK;obtain⟨f0,f1,f2,f3,f4,f5⟩:=hf it (by simp);have W:=Walks.range (prog:=X.prog) (w:=X.w) (I.ok.hd hc) it lo 1 n;refine W.item i s _ _ hg st λv h' tk hv st' kk=>?_
  obtain⟨t,rfl⟩:=hv;have I1:Inv X pins σ H {s with heap:=h',toks:=tk}:=I.turned (λb o hb e=>kk b o (by simpa using hb) e) f0 f1 f3 f4 f5;refine⟨_,rfl,iH (s:={s with heap:=h',toks:=tk}) (n:="range_iterator") st' rfl rfl (by decide) ⟨.int (lo+i),H,I1,⟨t,?_⟩,⟨rfl,rfl⟩,st',λb hb=>(hf b hb).1⟩⟩;rw[Int.mul_one]
 done:=by
  intro X hP hw hK hc i pins s σ H E I hf st hg;subst hP hw hK;obtain⟨f0,f1,f2,f3,f4,f5⟩:=hf it (by simp);exact wpAny_pyNext_range_end (I.ok.hd hc) st (by have:n<=i:=hg;lia) λh' eb=>⟨rfl,I.turned (t':=s.toks) (λb o hb e=>eb b o hb e) f0 f1 f3 f4 f5⟩
 self:=λ_ _ _ _ _ st h=>wpAny_pyIter_rangeiter st h
section
variable{X:Cx}{tg:Expr}
noncomputable def rO(K:aC)(tl:TE):TI:=λσ H R=>tl σ H λx H1=>∃a,x=.ref a/\(∃xs,SqL K H1 a xs)/\R (Itl K a) H1
noncomputable def uR(K:aC)(tl:TE):TI:=λσ H R=>tl σ H λx H1=>∃a,x=.ref a/\(∃xs,SqT K H1 a xs)/\R (Itt K a) H1
theorem AE{l:Expr}{tl:TE}(hl:PE X l tl):PI X tg l (rO X.K tl):=by
 intro pins s σ H R I h;refine thn (hl pins s σ H _ I h) λv s1 ⟨x,H1,I1,r1,q1⟩=>?_
 obtain⟨a,e,⟨xs,hq⟩,q⟩:=q1;subst e;cases r1;obtain⟨its,rv,p,hz⟩:=I1.list hq;refine wpAny_pyIter_list p.isList ?_;refine⟨s1.heap.objs.size,[s1.heap.objs.size],_,_,H1,rfl,I1.kept (t':=s1.toks) λb o e=>Heap.get?_push_of_some _ e,BC a _,⟨_,Heap.get?_push_size _ rfl,rfl,rfl⟩,λb hb=>?_,q⟩;have e:b=s1.heap.objs.size:=by simpa using hb
 subst e;exact I1.fpOk (aD _) (I1.hok.fresh (aD _))
theorem xZ{l:Expr}{tl:TE}(hl:PE X l tl):PI X tg l (uR X.K tl):=by
 intro pins s σ H R I h;refine thn (hl pins s σ H _ I h) λv s1 ⟨x,H1,I1,r1,q1⟩=>?_
 obtain⟨a,e,⟨xs,hq⟩,q⟩:=q1;subst e;cases r1;obtain⟨its,rv,p,hz⟩:=I1.tuple hq;refine wpAny_pyIter_tuple (show s1.heap.IsTuple a its.toArray from p) ?_;refine⟨s1.heap.objs.size,[s1.heap.objs.size],_,_,H1,rfl,I1.kept (t':=s1.toks) λb o e=>Heap.get?_push_of_some _ e,Cs a _,⟨_,Heap.get?_push_size _ rfl,rfl,rfl⟩,λb hb=>?_,q⟩;have e:b=s1.heap.objs.size:=by simpa using hb
 subst e;exact I1.fpOk (aD _) (I1.hok.fresh (aD _))
theorem ou{pins:List (Addr×Obj)}{σ:St}{H:Hp}{s:af}{R:It->Hp->Prop}{E:ae->af->Prop}{lo hi:Int}{t u v:Tok}{tk:Nat}(I:Inv X pins σ H s)(h1:-(2^62)<=lo)(h2:lo<2^62)(h3:-(2^62)<=hi)(h4:hi<2^62)
  (q:R (Itr lo (hi-lo).toNat) H):ao (aq X.prog X.w) X.A (pyIter (.ref s.heap.objs.size)) (PIE X pins σ tg R) E {s with heap:=s.heap.push {cls:=.type "range",data:=.fields #[.int lo t,.int hi u,.int 1 v]},toks:=tk}:=by
 refine wpAny_pyIter_range (IsRange.new ..) (small_one h1 h2 h3 h4) ?_;have I1:Inv X pins σ H {s with heap:=s.heap.push {cls:=.type "range",data:=.fields #[.int lo t,.int hi u,.int 1 v]},toks:=tk}:=I.kept λb o e=>Heap.get?_push_of_some _ e
 refine⟨(s.heap.push {cls:=.type "range",data:=.fields #[.int lo t,.int hi u,.int 1 v]}).objs.size,[(s.heap.push {cls:=.type "range",data:=.fields #[.int lo t,.int hi u,.int 1 v]}).objs.size],_,_,H,rfl,
  I1.kept (t':=tk) λb o e=>Heap.get?_push_of_some _ e,uY _ lo (hi-lo).toNat,?_,λb hb=>?_,q⟩
 ·have e1:lo+((0:Nat):Int) * 1=lo:=by simp
  have e2:(((hi-lo).toNat:Nat):Int)-((0:Nat):Int)=dg lo hi 1:=by rw[rangeSize_one];split<;>lia
  show IsRangeIter _ _ (lo+((0:Nat):Int) * 1) ((((hi-lo).toNat:Nat):Int)-((0:Nat):Int)) 1;rw[e1,e2];exact Heap.get?_push_size _ rfl
 ·have e:b=(s.heap.push {cls:=.type "range",data:=.fields #[.int lo t,.int hi u,.int 1 v]}).objs.size:=by simpa using hb
  subst e;exact I1.fpOk (aD _) (I1.hok.fresh (aD _))
noncomputable def Dm(ta:TA):TI:=λσ H R=>ta σ H λvs H1=>∃j:Int,vs=[.int j]/\-(2^62)<=j/\j<2^62/\R (Itr 0 j.toNat) H1
noncomputable def xt(ta:TA):TI:=λσ H R=>ta σ H λvs H1=>∃i j:Int,vs=[.int i,.int j]/\(-(2^62)<=i/\i<2^62/\-(2^62)<=j/\j<2^62)/\R (Itr i (j-i).toNat) H1
theorem tO{a:Expr}{ta:TA}{p pos:Pos}(hg:Gl X "range")(hm:X.mg "range" = none)(ha:PA X [a] ta)(hs:aZ [a] X.env=[(false,eval a X.env)]:=by rfl):PI X tg (.Call (.Name "range" p) [a] [] pos) (Dm ta):=by
 intro pins s σ H R I h;refine Call_ (fP I hg hm boot_range (eZ (thn (ha pos pins s σ H _ I h) λus s1 ⟨vs,H1,I1,r1,q1⟩=>?_) hs rfl));obtain⟨j,e,q1,q2,q⟩:=q1;subst e;cases r1 with
 |cons r rr=>
  cases rr;obtain⟨t,rfl⟩:=r;exact call_range_1 (ou I1 (by lia) (by lia) q1 q2 (by simpa using q))
theorem w_{a b:Expr}{ta:TA}{p pos:Pos}(hg:Gl X "range")(hm:X.mg "range" = none)(ha:PA X [a,b] ta)(hs:aZ [a,b] X.env=[(false,eval a X.env),(false,eval b X.env)]:=by rfl)(hs2:aZ [b] X.env=[(false,eval b X.env)]:=by rfl) :
  PI X tg (.Call (.Name "range" p) [a,b] [] pos) (xt ta):=by
 intro pins s σ H R I h;refine Call_ (fP I hg hm boot_range (eZ (thn (ha pos pins s σ H _ I h) λus s1 ⟨vs,H1,I1,r1,q1⟩=>?_) (by rw[hs,hs2]) (by rw[hs2];rfl)));obtain⟨i,j,e,⟨q1,q2,q3,q4⟩,q⟩:=q1;subst e;cases r1 with
 |cons r rr=>
  cases rr with
  |cons r' rr=>
   cases rr;obtain⟨t,rfl⟩:=r;obtain⟨t',rfl⟩:=r';exact call_range_2 (ou I1 q1 q2 q3 q4 q)
noncomputable def ye(wi:TI)(g:TG)(tb:TS):TS:=λD σ H=>wi σ H λJ H1=>∃W:Nat->Nat->St->Hp->Prop,(∃m,W 0 m σ H1)/\∀i m σ H,W i m σ H ->
 (J.stop i H/\D.nx σ H)\/(J.go i H/\∃N:St->Hp->Prop,(∀σ' H',N σ' H'->∃m',m'<m/\W (i+1) m' σ' H')/\∀x H',J.yld i H x H'->g x σ H' λσ2 H2=>tb {D with nx:=N,ct:=N,bk:=D.nx} σ2 H2)
noncomputable def g_(fp:List Addr)(h:Heap):List (Addr×Obj):=fp.filterMap λb=>(h.get? b).map λo=>(b,o)
theorem jv{fp:List Addr}{h:Heap}{b:Addr}{o:Obj}(hb:b∈fp)(e:h.get? b=some o):(b,o)∈g_ fp h:=List.mem_filterMap.mpr ⟨b,hb,by rw[e];rfl⟩
theorem yb{fp:List Addr}{h:Heap}{p:Addr×Obj}(hp:p∈g_ fp h):p.1∈fp/\h.get? p.1=some p.2:=by
 obtain⟨b,hb,e⟩:=List.mem_filterMap.mp hp;cases q:h.get? b with
 |none=>rw[q]at e;cases e
 |some o=>
  rw[q]at e;have e':(b,o)=p:=bS e;subst e';exact⟨hb,q⟩
theorem Inv.pinned{pins:List (Addr×Obj)}{σ:St}{H:Hp}{s:af}{fp:List Addr}(I:Inv X pins σ H s)(hf:∀b∈fp,dy X pins H b)(ho:∀b∈fp,∃o,s.heap.get? b=some o/\∀v,o.data≠.cell v):Inv X (pins++g_ fp s.heap) σ H s:=
 I.pins_of λp hp=>(List.mem_append.mp hp).elim (λz=>I.pin p (bZ _ z)) λz=>by
  obtain⟨hb,e⟩:=yb z;obtain⟨f0,f1,f2,_⟩:=hf p.1 hb;obtain⟨o,e',d⟩:=ho p.1 hb;rw[e]at e';cases e';exact⟨e,f0,f1,f2,d⟩
theorem Inv.unpinned{pins pl:List (Addr×Obj)}{σ:St}{H:Hp}{s:af}(I:Inv X (pins++pl) σ H s):Inv X pins σ H s:=I.pins_of λp hp=>I.pin p (bZ _ (List.mem_append_left _ hp))
theorem su{iter:Expr}{body:List Stmt}{wi:TI}{g:TG}{tb:TS}{pos:Pos}(hp:PassesOwn (aq X.prog X.w) X.A X.env X.xe)(hc:X.calm=true)(hi:PI X tg iter wi)(hg:PG X tg g)(hb:PSs X body tb)
  (hs:∀x,foldedSetIterable iter X.env x=pure x:=by intro _;rfl):PS X (.For tg iter body [] pos) (ye wi g tb):=by
 intro pins s σ H D I h;refine wpAny_For (thn (hi pins s σ H _ I h) λv s1 h1=>thn h1 λitv s2 h2=>?_) hs;obtain⟨it,fp,tn,J,H2,e,I2,T,st2,f2,W,⟨m0,w0⟩,turn⟩:=h2;subst e
 -- what stays true of the iterator's objects through the loop
 have stat:∀{H':Hp},(∀b∈fp,H' b=none)->∀b∈fp,dy X pins H' b:=λhn b hb=>⟨hn b hb,(f2 b hb).2⟩
 refine codeAny_forLoop_any (λn s'=>∃i σ' H',Inv X pins σ' H' s'/\tn i s'.heap/\(∀b∈fp,H' b=none)/\W i n σ' H') ?_ m0 ⟨0,σ,H2,I2,st2,λb hb=>(f2 b hb).1,w0⟩;rintro n s3 ⟨i,σ3,H3,I3,st3,fr3,w3⟩;rcases turn i n σ3 H3 w3 with ⟨stop,qn⟩|⟨go,N,hN,step⟩
 ·refine wpAny_passesOwn hp (thn (T.done X rfl rfl rfl hc i pins s3 σ3 H3 X.xe I3 (stat fr3) st3 stop) λr s4 ⟨hr,I4⟩=>?_);subst hr;exact wpAny_execs_nil ⟨σ3,H3,I4,qn⟩
 ·refine wpAny_passesOwn hp (thn (T.item X rfl rfl rfl hc i pins s3 σ3 H3 X.xe I3 (stat fr3) st3 go) λr s4 ⟨u,hr,h4⟩=>?_);subst hr;refine wpAny_passesOwn hp (thn h4 λ_ s5 ⟨x,H5,I5,r5,y5,st5,fr5⟩=>?_);have I5':=I5.pinned (stat fr5) (T.obj _ _ st5);refine wpAny_passesOwn hp (thn (hg _ s5 σ3 H5 x u _ I5' r5 (step x H5 y5)) λ_ s6 ⟨σ6,H6,I6,q6⟩=>?_);refine wpAny_passesOwn hp (thn (hb _ s6 σ6 H6 _ I6 q6) λf s7 q7=>?_);have again:∀{σ7:St}{H7:Hp},Inv X (pins++g_ fp s5.heap) σ7 H7 s7->N σ7 H7->∃m,m<n/\∃i σ' H',Inv X pins σ' H' s7/\tn i s7.heap/\(∀b∈fp,H' b=none)/\W i m σ' H':=λ{σ7 H7} I7 n7=>by
   obtain⟨m',hm,w7⟩:=hN σ7 H7 n7;refine⟨m',hm,i+1,σ7,H7,I7.unpinned,T.keep _ _ _ st5 λb hb o e=>(I7.pin (b,o) (bZ _ (bZ _ (jv hb e)))).1,λb hb=>?_,w7⟩;obtain⟨o,e,d⟩:=T.obj _ _ st5 b hb;exact(I7.pin (b,o) (bZ _ (bZ _ (jv hb e)))).2.1
  cases f with
  |next=>obtain⟨σ7,H7,I7,n7⟩:=q7;exact again I7 n7
  |cont=>obtain⟨σ7,H7,I7,n7⟩:=q7;exact again I7 n7
  |brk=>obtain⟨σ7,H7,I7,q7⟩:=q7;exact⟨σ7,H7,I7.unpinned,q7⟩
  |ret v=>obtain⟨x7,σ7,H7,I7,r7,q7⟩:=q7;exact⟨x7,σ7,H7,I7.unpinned,r7,q7⟩
end
abbrev R2:=V->V->Hp->VK->Prop
noncomputable def OpR(X:Cx)(f:ae->ae->Sem ae)(r:R2):Prop:=
 ∀(pins:List (Addr×Obj)) (s:af) (σ:St) (H:Hp) (x y:V) (v u:ae) (Q:VK),Inv X pins σ H s->RelV x v->RelV y u->r x y H Q ->
  ao (aq X.prog X.w) X.A (f v u) (EP X pins σ Q) X.xe s
noncomputable def qY(X:Cx)(f:ae)(r:List V->Hp->VK->Prop):Prop:=
 ∀(pins:List (Addr×Obj)) (s:af) (σ:St) (H:Hp) (xs:List V) (us:List ae) (Q:VK),Inv X pins σ H s->Vals xs us->r xs H Q ->
  ao (aq X.prog X.w) X.A (call f us) (EP X pins σ Q) X.xe s
noncomputable def wg(X:Cx)(r:V->Hp->(Bool->Hp->Prop)->Prop):Prop:=
 ∀(pins:List (Addr×Obj)) (s:af) (σ:St) (H:Hp) (x:V) (v:ae) (Q:Bool->Hp->Prop),Inv X pins σ H s->RelV x v->r x H Q ->
  ao (aq X.prog X.w) X.A (truthy v) (TP X pins σ Q) X.xe s
noncomputable def tOp(r:R2)(ta tb:TE):TE:=λσ H Q=>ta σ H λx H1=>tb σ H1 λy H2=>r x y H2 Q
noncomputable def rI(C:Int->Int->Prop)(g:Int->Int->V):R2:=λx y H Q=>∃i j,x=.int i/\y=.int j/\C i j/\Q (g i j) H
noncomputable def rI0(g:Int->Int->V):R2:=λx y H Q=>∃i j,x=.int i/\y=.int j/\Q (g i j) H
section
variable{X:Cx}{a b c:Expr}{ta tb tc:TE}{pos:Pos}
theorem ko(ha:PE X a ta)(hb:PE X b tb){pins:List (Addr×Obj)}{s:af}{σ:St}{H:Hp}{R:V->V->Hp->Prop}(I:Inv X pins σ H s)
  (h:ta σ H λx H1=>tb σ H1 λy H2=>R x y H2) {Q:ae->af->Prop}{f:ae->ae->Sem ae}
  (hf:∀v u s2 x y H2,Inv X pins σ H2 s2->RelV x v->RelV y u->R x y H2->ao (aq X.prog X.w) X.A (f v u) Q X.xe s2) :
  ao (aq X.prog X.w) X.A (eval a X.env) (λv s₁=>ao (aq X.prog X.w) X.A (eval b X.env) (λu s₂=>ao (aq X.prog X.w) X.A (f v u) Q X.xe s₂) X.xe s₁) X.xe s:=by
 refine thn (ha pins s σ H _ I h) λv s1 ⟨x,H1,I1,r1,q1⟩=>?_
 refine thn (hb pins s1 σ H1 _ I1 q1) λu s2 ⟨y,H2,I2,r2,q2⟩=>?_
 exact hf v u s2 x y H2 I2 r1 r2 q2
theorem yg{op:Operator}{r:R2}(ho:OpR X (bD op) r)(ha:PE X a ta)(hb:PE X b tb):PE X (.BinOp a op b pos) (tOp r ta tb):=by
 intro pins s σ H Q I h;exact wpAny_BinOp (ko ha hb I h λv u s2 x y H2 I2 rx ry q=>ho pins s2 σ H2 x y v u Q I2 rx ry q)
theorem opI{f:ae->ae->Sem ae}{C:Int->Int->Prop}{g:Int->Int->Int}
  (rule:∀(i j:Int) (t u:Tok) (s:af) (Q:ae->af->Prop) (E:ae->af->Prop),C i j->Q (.int (g i j) s.toks) {s with toks:=s.toks+1}->ao (aq X.prog X.w) X.A (f (.int i t) (.int j u)) Q E s) :
  OpR X f (rI C λi j=>.int (g i j)):=by
 intro pins s σ H x y v u Q I rx ry h;obtain⟨i,j,rfl,rfl,hc,q⟩:=h;obtain⟨t,rfl⟩:=rx;obtain⟨t',rfl⟩:=ry;exact rule i j t t' s _ _ hc ⟨.int (g i j),H,I.tok _,⟨_,rfl⟩,q⟩
theorem gW{f:ae->ae->Sem ae}{g:Int->Int->Int}
  (rule:∀(i j:Int) (t u:Tok) (s:af) (Q:ae->af->Prop) (E:ae->af->Prop),Q (.int (g i j) s.toks) {s with toks:=s.toks+1}->ao (aq X.prog X.w) X.A (f (.int i t) (.int j u)) Q E s) :
  OpR X f (rI0 λi j=>.int (g i j)):=by
 intro pins s σ H x y v u Q I rx ry h;obtain⟨i,j,rfl,rfl,q⟩:=h;obtain⟨t,rfl⟩:=rx;obtain⟨t',rfl⟩:=ry;exact rule i j t t' s _ _ ⟨.int (g i j),H,I.tok _,⟨_,rfl⟩,q⟩
theorem iY{f:ae->ae->Sem ae}{g:Int->Int->Bool}
  (rule:∀(i j:Int) (t u:Tok) (s:af) (Q:ae->af->Prop) (E:ae->af->Prop),Q (.bool (g i j)) s->ao (aq X.prog X.w) X.A (f (.int i t) (.int j u)) Q E s) :
  OpR X f (rI0 λi j=>.bl (g i j)):=by
 intro pins s σ H x y v u Q I rx ry h;obtain⟨i,j,rfl,rfl,q⟩:=h;obtain⟨t,rfl⟩:=rx;obtain⟨t',rfl⟩:=ry;exact rule i j t t' s _ _ ⟨.bl (g i j),H,I,rfl,q⟩
noncomputable def mh(i j:Int):Prop:=0<=j/\j<=1000000/\i.natAbs<2^64
noncomputable def jZ(i j:Int):Prop:=(-(2^64)<i/\i<2^64)\/(-(2^64)<j/\j<2^64)
theorem jZ.ok{i j:Int}(h:jZ i j):IntMulOk i j:=by
 rcases h with ⟨h1,h2⟩|⟨h1,h2⟩
 ·exact .of_left (intBits_le_64 h1 h2)
 ·exact .of_right (intBits_le_64 h1 h2)
theorem wB(k:Nat):(0:Int)<=2^k:=by
 rw[two_pow_cast];exact Int.natCast_nonneg _
theorem BZ:OpR X (bD .Add) (rI0 λi j=>.int (i+j)):=gW λ_ _ _ _ _ _ _ q=>add_int q
theorem BO:OpR X (bD .Sub) (rI0 λi j=>.int (i-j)):=gW λ_ _ _ _ _ _ _ q=>sub_int q
theorem yc:OpR X (bD .Mult) (rI jZ λi j=>.int (i * j)):=opI λ_ _ _ _ _ _ _ hc q=>mul_int q hc.ok
theorem Cy:OpR X (bD .Mod) (rI (λ_ j=>0<j) λi j=>.int (i%j)):=opI λi j _ _ _ _ _ hc q=>by
 have h1:(0:Int)<j:=hc;exact mod_int' (by lia) (by rw[Int.fmod_eq_emod_of_nonneg i (by lia)];exact q)
theorem yy:OpR X (bD .Pow) (rI mh λi j=>.int (i^j.toNat)):=opI λ_ _ _ _ _ _ _ hc q=>pow_int_small hc.1 hc.2.1 hc.2.2 q
theorem yf:OpR X (bD .LShift) (rI mh λi j=>.int (i * 2^j.toNat)):=opI λ_ _ _ _ _ _ _ hc q=>lshift_int_small hc.1 hc.2.1 hc.2.2 q
theorem BK:OpR X (bD .RShift) (rI (λ_ j=>0<=j) λi j=>.int (i/2^j.toNat)):=opI λi j _ _ _ _ _ hc q=>
 rshift_int hc (by rw[Int.fdiv_eq_ediv_of_nonneg i (wB _)];exact q)
theorem xG:OpR X (bD .BitAnd) (rI0 λi j=>.int (Builtin.bitAnd i j)):=gW λ_ _ _ _ _ _ _ q=>and_int q
theorem AV:OpR X (bD .BitOr) (rI0 λi j=>.int (Builtin.bitOr i j)):=gW λ_ _ _ _ _ _ _ q=>or_int q
theorem AS:OpR X (bD .BitXor) (rI0 λi j=>.int (Builtin.bitXor i j)):=gW λ_ _ _ _ _ _ _ q=>xor_int q
end
section
variable{X:Cx}{a b c:Expr}{ta tb tc:TE}{pos:Pos}
theorem iN{pins:List (Addr×Obj)}{σ:St}{H:Hp}{s:af}{Q:VK}{k k':Bool}(I:Inv X pins σ H s)(q:Q (.bl k) H)(e:k=k'):EP X pins σ Q (.bool k') s:=by
 subst e;exact⟨.bl k,H,I,rfl,q⟩
theorem Bb:OpR X (bg .Lt) (rI0 λi j=>.bl (decide (i<j))):=iY λ_ _ _ _ _ _ _ q=>lt_int q
theorem vm:OpR X (bg .LtE) (rI0 λi j=>.bl (decide (i<=j))):=iY λ_ _ _ _ _ _ _ q=>le_int q
theorem xq:OpR X (bg .Gt) (rI0 λi j=>.bl (decide (j<i))):=iY λ_ _ _ _ _ _ _ q=>gt_int q
theorem rG:OpR X (bg .GtE) (rI0 λi j=>.bl (decide (j<=i))):=iY λ_ _ _ _ _ _ _ q=>ge_int q
theorem uO:OpR X (bg .Is) (λx y H Q=>y=.non/\Q (.bl (decide (x=.non))) H):=by
 intro pins s σ H x y v u Q I rx ry h;obtain⟨rfl,q⟩:=h;cases ry;refine is_none_gen (iN I q ?_);cases x<;>first
  | (cases rx;rfl)
  | (obtain⟨t,rfl⟩:=rx;rfl)
theorem vX:OpR X (bg .IsNot) (λx y H Q=>y=.non/\Q (.bl (!decide (x=.non))) H):=by
 intro pins s σ H x y v u Q I rx ry h;obtain⟨rfl,q⟩:=h;cases ry;refine isnot_none_gen (iN I q ?_);cases x<;>first
  | (cases rx;rfl)
  | (obtain⟨t,rfl⟩:=rx;rfl)
theorem OpR.or{f:ae->ae->Sem ae}{r r':R2}(h:OpR X f r)(h':OpR X f r'):OpR X f (λx y H Q=>r x y H Q\/r' x y H Q):=by
 intro pins s σ H x y v u Q I rx ry q;rcases q with q|q
 ·exact h pins s σ H x y v u Q I rx ry q
 ·exact h' pins s σ H x y v u Q I rx ry q
theorem vA{op:CmpOp}{r:R2}(ho:OpR X (bg op) r)(ha:PE X a ta)(hb:PE X b tb)(hm:behindInMarks op b=false):PE X (.Compare a [op] [b] pos) (tOp r ta tb):=by
 intro pins s σ H Q I h;exact wpAny_Compare1 (ko ha hb I h λv u s2 x y H2 I2 rx ry q=>ho pins s2 σ H2 x y v u Q I2 rx ry q) hm
noncomputable def ku(t:TE):TT:=λσ H Q=>t σ H λx H'=>∃k,x=.bl k/\Q k H'
theorem sM{op:CmpOp}{r:R2}(ho:OpR X (bg op) r)(ha:PE X a ta)(hb:PE X b tb)(hm:behindInMarks op b=false):PT X (.Compare a [op] [b] pos) (ku (tOp r ta tb)):=by
 intro pins s σ H Q I h;refine wpAny_isTrue_Compare1 (thn (ha pins s σ H _ I h) λv s1 ⟨x,H1,I1,r1,q1⟩=>thn (hb pins s1 σ H1 _ I1 q1) λu s2 ⟨y,H2,I2,r2,q2⟩=>
  thn (ho pins s2 σ H2 x y v u _ I2 r1 r2 q2) λc s3 ⟨z,H3,I3,r3,k,e,q3⟩=>?_) hm
 subst e;cases r3;exact bI ⟨H3,I3,q3⟩
noncomputable def mB(r r':R2)(ta tb tc:TE):TE:=λσ H Q=>ta σ H λx H1=>tb σ H1 λy H2=>r x y H2 λz H3=>∃k,z=.bl k /\
 (if k=true then tc σ H3 λw' H4=>r' y w' H4 Q else Q (.bl false) H3)
theorem xu{op op':CmpOp}{r r':R2}(ho:OpR X (bg op) r)(ho':OpR X (bg op') r')(ha:PE X a ta)(hb:PE X b tb)(hc:PE X c tc)
  (hm:lastMarks [op,op'] [b,c]=false:=by with_unfolding_all rfl):PE X (.Compare a [op,op'] [b,c] pos) (mB r r' ta tb tc):=by
 intro pins s σ H Q I h;refine Compare_chain (thn (ha pins s σ H _ I h) λv s1 ⟨x,H1,I1,r1,q1⟩=>chain_link (thn (hb pins s1 σ H1 _ I1 q1) λu s2 ⟨y,H2,I2,r2,q2⟩=>
  thn (ho pins s2 σ H2 x y v u _ I2 r1 r2 q2) λd s3 ⟨z,H3,I3,r3,k,e,q3⟩=>?_)) hm
 subst e;cases r3;refine bI ?_;cases k with
 |false=>exact ite_ff ⟨.bl false,H3,I3,rfl,q3⟩
 |true=>exact ite_tt (chain_last (thn (hc pins s3 σ H3 _ I3 q3) λw' s4 ⟨z',H4,I4,r4,q4⟩=>ho' pins s4 σ H4 y z' u w' Q I4 r2 r4 q4))
theorem uQ{op op':CmpOp}{r r':R2}(ho:OpR X (bg op) r)(ho':OpR X (bg op') r')(ha:PE X a ta)(hb:PE X b tb)(hc:PE X c tc)
  (hm:lastMarks [op,op'] [b,c]=false:=by with_unfolding_all rfl):PT X (.Compare a [op,op'] [b,c] pos) (ku (mB r r' ta tb tc)):=by
 intro pins s σ H Q I h;refine isTrue_chain (thn (ha pins s σ H _ I h) λv s1 ⟨x,H1,I1,r1,q1⟩=>test_link (thn (hb pins s1 σ H1 _ I1 q1) λu s2 ⟨y,H2,I2,r2,q2⟩=>
  thn (ho pins s2 σ H2 x y v u _ I2 r1 r2 q2) λd s3 ⟨z,H3,I3,r3,k,e,q3⟩=>?_)) hm
 subst e;cases r3;refine bI ?_;cases k with
 |false=>
  obtain⟨k',e',q'⟩:=q3;cases e';exact ite_ff ⟨H3,I3,q'⟩
 |true=>
  refine ite_tt (test_last (thn (hc pins s3 σ H3 _ I3 q3) λw' s4 ⟨z',H4,I4,r4,q4⟩=>thn (ho' pins s4 σ H4 y z' u w' _ I4 r2 r4 q4) λd' s5 ⟨z2,H5,I5,r5,k2,e2,q5⟩=>?_));subst e2;cases r5;exact bI ⟨H5,I5,q5⟩
noncomputable def k8(K:aC)(x:V)(H:Hp)(k:Bool):Prop:=
 match x with
 | .non=>k=false
 | .bl b=>k=b
 | .int i=>k=(i != 0)
 | .str y=>y.length<=aL/\k=((y.length:Int) != 0)
 | .byt y=>y.size<=aL/\k=((y.size:Int) != 0)
 | .ref p=>(∃xs,SqL K H p xs/\k = !xs.isEmpty)\/(∃xs,SqT K H p xs/\k = !xs.isEmpty)\/∃kvs,H p=some (.dK kvs)/\k = !kvs.isEmpty
 |_=>False
theorem yE{κ:Type}{kvs:List (κ×V)}{vs:List (κ×ae)}(r:KV kvs vs):(!vs.isEmpty) = !kvs.isEmpty:=by
 cases r<;>rfl
theorem og{xs:List V}{its:List ae}(r:Vals xs its):(!its.toArray.isEmpty) = !xs.isEmpty:=by
 cases r<;>simp
theorem iw:(aL:Nat)<2^63:=by rw[bf];decide
theorem Cg:wg X (λx H Q=>∃k,k8 X.K x H k/\Q k H):=by
 intro pins s σ H x v Q I rx h;obtain⟨k,e,q⟩:=h;have hl:=iw;have hs:aL=16777216:=bf;cases x with
 |non=>
  cases rx;have e':k=false:=e;subst e';exact truthy_none ⟨H,I,q⟩
 |bl b=>
  cases rx;have e':k=b:=e;subst e';exact bI ⟨H,I,q⟩
 |int i=>
  obtain⟨t,rfl⟩:=rx;have e':k=(i != 0):=e;subst e';exact PySem.P.truthy_int ⟨H,I,q⟩
 |str y=>
  obtain⟨t,rfl⟩:=rx;obtain⟨hy,e'⟩:y.length<=aL/\k=((y.length:Int) != 0):=e;subst e';exact PySem.P.truthy_str (by lia) ⟨H,I.tok _,q⟩
 |byt y=>
  obtain⟨t,rfl⟩:=rx;obtain⟨hy,e'⟩:y.size<=aL/\k=((y.size:Int) != 0):=e;subst e';exact PySem.W.truthy_bytes (by lia) ⟨H,I.tok _,q⟩
 |ref p=>
  cases rx;have e':(∃xs,SqL X.K H p xs/\k = !xs.isEmpty)\/(∃xs,SqT X.K H p xs/\k = !xs.isEmpty)\/∃kvs,H p=some (.dK kvs)/\k = !kvs.isEmpty:=e;rcases e' with ⟨xs,hx,e'⟩|⟨xs,hx,e'⟩|⟨kvs,hx,e'⟩
  ·subst e';obtain⟨its,r,pl,hz⟩:=I.list hx;have hlen:=r.length;exact wpAny_truthy_list pl.isList (by simp only[aO];lia) ⟨H,I.tok _,by rw[og r];exact q⟩
  ·subst e';obtain⟨its,r,pl,hz⟩:=I.tuple hx;have hlen:=r.length;exact truthy_tuple pl (by simp only[aO];lia) ⟨H,I.tok _,by rw[og r];exact q⟩
  ·subst e';obtain⟨hz,hS,vs,r,m⟩:kvs.length<=aL/\(p==sysModules)=false/\∃vs,KV kvs vs/\s.heap.DictOf (zD X.prog X.w) p vs:=I.hok p _ hx;have hlen:kvs.length=vs.length:=Paired.length r;exact wpAny_truthy_dict hS m (by lia) ⟨H,I.tok _,by rw[yE r];exact q⟩
 |_=>exact(show False from e).elim
theorem Dj(ha:PE X a ta)(he:∀whole,isTrue a X.env whole=(do let v <-whole;standAt a.pos;holding [v] (truthy v))) :
  PT X a (λσ H Q=>ta σ H λx H'=>∃k,k8 X.K x H' k/\Q k H'):=by
 intro pins s σ H Q I h;exact isTrue_plain (thn (ha pins s σ H _ I h) λv s1 ⟨x,H1,I1,r1,q1⟩=>Cg pins s1 σ H1 x v Q I1 r1 q1) (he _)
theorem vals1{x:V}{us:List ae}(r:Vals [x] us):∃u,us=[u]/\RelV x u:=by
 cases r with
 |cons r1 r2=>cases r2;exact⟨_,rfl,r1⟩
theorem vals2{x y:V}{us:List ae}(r:Vals [x,y] us):∃u w',us=[u,w']/\RelV x u/\RelV y w':=by
 cases r with
 |cons r1 r2=>
  cases r2 with
  |cons r3 r4=>cases r4;exact⟨_,_,rfl,r1,r3⟩
theorem AF(hc:X.calm=true):qY X (.builtin "max") (λxs H Q=>∃i j,xs=[.int i,.int j]/\Q (.int (if j>i then j else i)) H):=by
 intro pins s σ H xs us Q I r h;obtain⟨i,j,rfl,q⟩:=h;obtain⟨u,w',rfl,⟨t,rfl⟩,⟨t',rfl⟩⟩:=vals2 r;refine max_two_ints (I.ok.hd hc) λh' tk k=>⟨_,H,I.kept k,?_,q⟩
 by_cases hj:j>i
 ·rw[if_pos hj,if_pos hj];exact⟨_,rfl⟩
 ·rw[if_neg hj,if_neg hj];exact⟨_,rfl⟩
theorem wK(hc:X.calm=true):qY X (.builtin "min") (λxs H Q=>∃i j,xs=[.int i,.int j]/\Q (.int (if j<i then j else i)) H):=by
 intro pins s σ H xs us Q I r h;obtain⟨i,j,rfl,q⟩:=h;obtain⟨u,w',rfl,⟨t,rfl⟩,⟨t',rfl⟩⟩:=vals2 r;refine min_two_ints (I.ok.hd hc) λh' tk k=>⟨_,H,I.kept k,?_,q⟩
 by_cases hj:j<i
 ·rw[if_pos hj,if_pos hj];exact⟨_,rfl⟩
 ·rw[if_neg hj,if_neg hj];exact⟨_,rfl⟩
theorem tW:qY X (.type "int") (λxs H Q=>(∃i,xs=[.int i]/\Q (.int i) H)\/∃k,xs=[.bl k]/\Q (.int (if k then 1 else 0)) H):=by
 intro pins s σ H xs us Q I r h;rcases h with ⟨i,rfl,q⟩|⟨k,rfl,q⟩
 ·obtain⟨u,rfl,t,rfl⟩:=vals1 r;exact call_int_int ⟨.int i,H,I,⟨_,rfl⟩,q⟩
 ·obtain⟨u,rfl,r1⟩:=vals1 r;cases r1;exact call_int_bool ⟨.int (if k then 1 else 0),H,I.tok _,⟨_,rfl⟩,q⟩
end
structure lj(h:Heap)(x dx C:Addr)(mA:Str->Option ae):Prop where
 obj:h.get? x=some (PySem.W.instObj C dx)
 ns:h.Ns1 dx mA
 ne:dx≠x
theorem Ah{h:Heap}{dx:Addr}{mA:Str->Option ae}(n:h.Ns1 dx mA):∃od,h.get? dx=some od/\∀name,PySem.W.lookIn name od=some (mA name):=by
 obtain⟨o,es,ep,ho,hd,hk,_,hm⟩:=n;refine⟨o,ho,λname=>?_⟩;have e:=hm name;unfold nsFind findBy at e;rw[<-Array.find?_toList]at e;unfold PySem.W.lookIn;rw[hd];dsimp only;split
 ·rename_i y q
  rw[q]at e;exact congrArg some e
 ·rename_i q
  rw[q]at e;have a:es.toList.any (·.refKey)=false:=by
   rw[List.any_eq_false];intro y hy;obtain⟨z,t,hkey⟩:=hk y (Array.mem_toList_iff.mp hy);simp[DictEntry.refKey,hkey]
  have a':¬ es.toList.any (·.refKey)=true:=by rw[a];exact dA
  rw[if_neg a'];exact congrArg some e
theorem lj.look{h:Heap}{x dx C:Addr}{mA:Str->Option ae}(I:lj h x dx C mA):∃od,PySem.W.InstAt h x (PySem.W.instObj C dx) C (some od)/\∀name,PySem.W.lookIn name od=some (mA name):=
 let ⟨od,ho,hl⟩:=Ah I.ns
 ⟨od,⟨I.obj,rfl,rfl,ho⟩,hl⟩
section
variable{prog:aA}{w:av}{A:az}{E:ae->af->Prop}{s:af}{K:aC}{x dx C f:Addr}{mA:Str->Option ae}{name:Str}{v:ae}
end
theorem dX.some_of{v:V}{o:Option ae}(r:dX (some v) o):∃u,o=some u/\RelV v u:=by
 cases o with
 |none=>exact(show False from r).elim
 |some u=>exact⟨u,rfl,r⟩
section
variable{P:aA}{w:av}{H H':Hp}{h h':Heap}{a C dx:Addr}{fs fs':List (Str×V)}
theorem B7(hok:HOk P w H h)(e:H a=some (.ins C dx fs)):∃mA,lj h a dx C mA/\(∀f,dX (fs.lookup f) (mA f))/\PySem.Within mA (fs.map (·.1))/\fs.length<=1000/\H dx=some (.own a):=by
 obtain⟨d,z,ne,ob,mA,n,r,q⟩:=(show zx P w H h a (.ins C dx fs)from hok a _ e)
 exact⟨mA,⟨ob,n,ne⟩,r,q,z,d⟩
end
structure Cls(K:aC)(C:Addr):Prop where
 pg:PySem.W.plainGet K C Str.empty=true
 hd:PySem.W.hasDictIn K C=true
 po:PySem.W.plainOver K C=true
 sa:PySem.W.findIn K (.ref C) "__setattr__" = some (some (.builtin "object.__setattr__"))
theorem Cls.get{K:aC}{C:Addr}(c:Cls K C)(f:Str):PySem.W.plainGet K C f=true:=c.pg
section
variable{X:Cx}{pins:List (Addr×Obj)}{σ:St}{H:Hp}{s:af}{a C dx:Addr}{fs:List (Str×V)}{f:Str}{v:V}{A:az}{E:ae->af->Prop}
end
section
variable{X:Cx}{o e value:Expr}{f:Str}{pos pos' tpos:Pos}{ta tv:TE}
end
section
variable{X:Cx}{pins:List (Addr×Obj)}{σ:St}{H:Hp}{s:af}{A:az}{E:ae->af->Prop}{Q:ae->af->Prop}{c:ae}{b:Bool}
inductive dJ(K:aC)(H:Hp):V->ae->Prop where
 |non:dJ K H .non (.type "NoneType")
 |bl (x:Bool):dJ K H (.bl x) (.type "bool")
 |int (i:Int):dJ K H (.int i) (.type "int")
 |str (x:Str):dJ K H (.str x) (.type "str")
 |flt (x:UInt64):dJ K H (.flt x) (.type "float")
 |lst {a:Addr}{xs:List V} (e:H a=some (.lst xs)):dJ K H (.ref a) (.type "list")
 |frz {a:Addr}{o:Obj}{xs:List V} (e:H a=some (.frz o (.lst xs))):dJ K H (.ref a) (.type "list")
 |tup {a:Addr}{xs:List V} (e:H a=some (.tup xs)):dJ K H (.ref a) (.type "tuple")
 |dK {a:Addr}{kvs:List (Key×V)} (e:H a=some (.dK kvs)):dJ K H (.ref a) (.type "dict")
 |dT {a:Addr}{kvs:List (List Key×V)} (e:H a=some (.dT kvs)):dJ K H (.ref a) (.type "dict")
 |ins {a C dx:Addr}{fs:List (Str×V)} (e:H a=some (.ins C dx fs)) (cl:Cls K C) (ha:PySem.W.findIn K (.ref C) "__class__" = some (some (.builtin "object.__class__")))
   (hn:PySem.W.specialIn K (.builtin "object.__class__") "__get__" = some (some (.builtin "getset_descriptor.__get__"))) (htk:PySem.W.takesIn K (.builtin "object.__class__")=some true)
   (hm:PySem.W.mroIn K C (.type "object")=some true):dJ K H (.ref a) (.ref C)
theorem iy{x:V}{u t:ae}(I:Inv X pins σ H s)(rx:RelV x u)(ty:dJ X.K H x t)(e:cb X.K t c=some b)(h:∀tk,Q (.bool b) {s with toks:=tk}) :
  ao (aq X.prog X.w) A (call (.builtin "isinstance") [u,c]) Q E s:=by
 cases ty with
 |non=>cases (show u=ae.none from rx);exact bQ PySem.W.kitx_none I.kIn True.intro e (λz=>nomatch z) h
 |bl y=>cases (show u=ae.bool y from rx);exact bQ PySem.W.kitx_bool I.kIn True.intro e (λz=>nomatch z) h
 |int i=>obtain⟨t,q⟩:=(show ∃t,u=ae.int i t from rx);cases q;exact bQ PySem.W.kitx_int I.kIn True.intro e (λz=>nomatch z) h
 |str y=>obtain⟨t,q⟩:=(show ∃t,u=ae.str y t from rx);cases q;exact bQ PySem.W.kitx_str I.kIn True.intro e (λz=>nomatch z) h
 |flt y=>obtain⟨t,q⟩:=(show ∃t,u=ae.float y t from rx);cases q;exact bQ PySem.W.kitx_float I.kIn True.intro e (λz=>nomatch z) h
 | @lst a xs ea=>
  cases (show u=bq a from rx);obtain⟨_,_,n,_,h1⟩:=(show zx X.prog X.w H s.heap a (.lst xs)from I.hok a _ ea)
  exact bQ PySem.W.kitx_list I.kIn ⟨_,h1,rfl⟩ e (λz=>nomatch z) h
 | @frz a ob xs ea=>
  cases (show u=bq a from rx);obtain⟨_,_,_,n,_,h1⟩:=(show zx X.prog X.w H s.heap a (.frz ob (.lst xs))from I.hok a _ ea)
  exact bQ PySem.W.kitx_list I.kIn ⟨_,h1,rfl⟩ e (λz=>nomatch z) h
 | @tup a xs ea=>
  cases (show u=bq a from rx);obtain⟨_,_,_,p⟩:=(show zx X.prog X.w H s.heap a (.tup xs)from I.hok a _ ea)
  obtain⟨o,h1,h2,_⟩:=p;exact bQ PySem.W.kitx_tuple I.kIn ⟨o,h1,h2⟩ e (λz=>nomatch z) h
 | @dK a kvs ea=>
  cases (show u=bq a from rx);obtain⟨_,_,vs,_,p⟩:=(show zx X.prog X.w H s.heap a (.dK kvs)from I.hok a _ ea)
  obtain⟨o,es,ep,h1,h2,_⟩:=p;exact bQ PySem.W.kitx_dict I.kIn ⟨o,h1,h2.1⟩ e (λz=>nomatch z) h
 | @dT a kvs ea=>
  cases (show u=bq a from rx);obtain⟨_,_,xs,_,o,es,ep,h1,h2,_⟩:=(show zx X.prog X.w H s.heap a (.dT kvs)from I.hok a _ ea)
  exact bQ PySem.W.kitx_dict I.kIn ⟨o,h1,h2.1⟩ e (λz=>nomatch z) h
 | @ins a C dx fs ea cl ha hn htk hm=>
  cases (show u=bq a from rx);obtain⟨mA,O,_⟩:=B7 I.hok ea;obtain⟨od,J,_⟩:=O.look;exact bQ (PySem.W.kitx_own (cl.get _) cl.hd ha hn htk hm) I.kIn J e (λz=>nomatch z) h
end
structure ck(k:Nat)(A:az):Prop where
 hd:A.handled=none
 dp:A.depth+3 * k+5<recursionLimit
 un:A.units+16 * k+200<cLine
theorem ck.deeper{k:Nat}{A:az}(r:ck (k+1) A)(env:Env):ck k (A.deeper env):=
 ⟨r.hd,by have:=r.dp;show A.depth+1+3 * k+5<_;lia,by have:=r.un;show A.units+3+16 * k+200<_;lia⟩
theorem ck.depth{k:Nat}{A:az}(r:ck k A):A.depth<recursionLimit:=by have:=r.dp;lia
theorem ck.units{k:Nat}{A:az}(r:ck k A):A.units+64<cLine:=by have:=r.un;lia
noncomputable def gb:TA:=λ_ H Q=>Q [] H
noncomputable def fR(ta:TE)(tr:TA):TA:=λσ H Q=>ta σ H λx H1=>tr σ H1 λxs H2=>Q (x::xs) H2
section
variable{X:Cx}{e:Expr}{es:List Expr}{te:TE}{t:TA}{pos:Pos}
theorem zX:PA X [] gb:=λ_ _ _ _ H Q I h=>Calls.spliced_nil ⟨[],H,I,.nil,h⟩
theorem zq(ha:PE X e te)(hr:PA X es t)(hs:aZ (e::es) X.env=(false,eval e X.env)::aZ es X.env:=by rfl):PA X (e::es) (fR te t):=by
 intro pos pins s σ H Q I h;rw[hs];show ao _ _ (spliced ((false,eval e X.env)::backTo pos (aZ es X.env))) _ _ s;refine Calls.spliced_cons (thn (ha pins s σ H _ I h) λu s1 ⟨x,H1,I1,r1,q1⟩=>?_);exact thn (hr pos pins s1 σ H1 _ I1 q1) λus s2 ⟨xs,H2,I2,r2,q2⟩=>⟨x::xs,H2,I2,.cons r1 r2,q2⟩
noncomputable def wa(t:TA):TE:=λσ H Q=>t σ H λxs H1=>xs.length<=aL/\∀p,H1 p=none->Q (.ref p) (upd H1 p (.tup xs))
noncomputable def tL(t:TA):TE:=λσ H Q=>t σ H λxs H1=>xs.length<=aL/\∀p,H1 p=none->Q (.ref p) (upd H1 p (.lst xs))
theorem s9{x1}(h:PA X es t):PE X (.Tuple es x1 pos) (wa t):=by
 intro pins s σ H Q I hq;refine wpAny_Tuple_spliced (thn (h pos pins s σ H _ I hq) λus s1 ⟨xs,H1,I1,r,z,q⟩=>⟨by rw[<-r.length];exact z,?_⟩);have hf:H1 s1.heap.objs.size=none:=I1.hok.fresh (aD _);refine⟨.ref s1.heap.objs.size,upd H1 s1.heap.objs.size (.tup xs),I1.laid (t':=s1.toks) (λb u e=>Heap.get?_push_of_some _ e) (aD _) ?_,rfl,q _ hf⟩;exact⟨z,us,r,⟨_,Heap.get?_push_size _ rfl,rfl,_,rfl⟩⟩
theorem tK(h:PA X es t):PE X (.List es pos) (tL t):=by
 intro pins s σ H Q I hq;refine wpAny_List_spliced (thn (h pos pins s σ H _ I hq) λus s1 ⟨xs,H1,I1,r,z,q⟩=>⟨by rw[<-r.length];exact z,?_⟩);have hf:H1 s1.heap.objs.size=none:=I1.hok.fresh (aD _);refine⟨.ref s1.heap.objs.size,upd H1 s1.heap.objs.size (.lst xs),I1.laid (t':=s1.toks) (λb u e=>Heap.get?_push_of_some _ e) (aD _) ?_,rfl,q _ hf⟩;exact⟨z,us,0,r,Heap.get?_push_size _ rfl⟩
end
abbrev Sp:=List V->Hp->VK->XK->Prop
abbrev CXT:=List Env->Hp->af->XK->ae->af->Prop
structure iA(P:aA)(w:av)(K:aC)(mg:Str->Option ae)(base:Heap)(A:az)(outer:List Env)(s:af)(H:Hp):Prop where
 frames:A.frames=some outer
 mod:Mod K mg base
 bs:∀b o,base.get? b=some o->s.heap.get? b=some o/\H b=none
 bsz:base.objs.size<=s.heap.objs.size
 funs:s.heap.FunFrames base outer
 frf:∀b∈frs outer,H b=none
 hok:HOk P w H s.heap
 bare:AllBare s.gens
noncomputable def CE(outer:List Env)(P:aA)(w:av)(H:Hp)(s:af)(Q:VK)(u:ae)(s':af):Prop:=
 ∃v H',s'.os=s.os/\AllBare s'.gens/\Un (frs outer) [] H H' s.heap s'.heap/\HOk P w H' s'.heap/\RelV v u/\Q v H'
noncomputable def CR(CX:CXT)(outer:List Env)(P:aA)(w:av)(H:Hp)(s:af)(Q:VK)(E:XK)(r:Result)(s':af):Prop:=
 match r with
 | .ok (.ret u)=>CE outer P w H s Q u s'
 | .ok _=>False
 | .error e=>CX outer H s E e s'
structure fm(P:aA)(w:av)(K:aC)(mg:Str->Option ae)(base:Heap)(CX:CXT)(k:Nat)(f:Addr)(fd:FuncData)(ps:List Str)(sp:Sp):Prop where
 len:∀vs H Q E,sp vs H Q E->vs.length=ps.length
 run:∀(A:az) (outer:List Env) (s:af) (H:Hp) (args:Args) (us:List ae) (vs:List V) (Q:VK) (E:XK),ck k A->iA P w K mg base A outer s H->BindsTo s fd args (ps.zip us)->Vals vs us->sp vs H Q E ->
  codeAny (aq P w) A (.call (.ref f) args) (CR CX outer P w H s Q E) s
section
variable{X:Cx}{pins:List (Addr×Obj)}{σ:St}{H:Hp}{s s':af}
theorem Inv.env0(I:Inv X pins σ H s):iA X.prog X.w X.K X.mg X.base X.A X.stack s H:=
 ⟨I.ok.frames,I.ok.mod,I.bs,bB I.ok.bsz I.sz,I.stack,I.stkFree,I.hok,I.bare⟩
theorem Inv.after{Q:VK}{u:ae}(I:Inv X pins σ H s)(h:CE X.stack X.prog X.w H s Q u s'):EP X pins σ Q u s':=by
 obtain⟨v,H',os,bare,un,hok,r,q⟩:=h;obtain⟨hh,g,d,t,os'⟩:=s';obtain rfl:os'=s.os:=os;exact⟨v,H',I.call (h':=hh) (g':=g) (d':=d) (t':=t) (ch:=[]) un hok bare (λb z=>absurd z (by simp)),r,q⟩
end
noncomputable def j5(sp:Sp)(dvs:List V)(E:XK)(t:TA):TE:=λσ H Q=>t σ H λvs H1=>sp (vs++dvs) H1 Q E
noncomputable def Binds(K:aC)(fd:FuncData)(ps:List Str)(ds:List ae):Prop:=
 ∀(s:af) (us:List ae),K.In s.heap->(us++ds).length=ps.length->BindsTo s fd ⟨us,[]⟩ (ps.zip (us++ds))
theorem Binds.all{K:aC}{fd:FuncData}{ps:List Str}(h:∀us:List ae,us.length=ps.length->bindArgs fd ⟨us,[]⟩=pure (ps.zip us)):Binds K fd ps []:=λs us _ hl=>by
 rw[dk]at hl ⊢;exact .of_eq (h us hl)
noncomputable def Passes(CX:CXT)(X:Cx)(E:XK):Prop:=∀(pins:List (Addr×Obj)) (σ:St) (H:Hp) (s:af) (e:ae) (s':af),Inv X pins σ H s->CX X.stack H s E e s'->X.xe e s'
section
variable{X:Cx}{CX:CXT}{k:Nat}{f C:Addr}{fd:FuncData}{ps:List Str}{sp:Sp}{dvs:List V}{ds:List ae}{E:XK}{x m:Str}{p pos apos:Pos}{e o:Expr}{es:List Expr}{ta:TE}{t:TA}
theorem yt{pins:List (Addr×Obj)}{σ:St}{H:Hp}{s:af}{Q:VK}{us:List ae}{vs:List V}(F:fm X.prog X.w X.K X.mg X.base CX k f fd ps sp)(hr:ck k X.A)(hb:Binds X.K fd ps ds)(hd:Vals dvs ds)(hx:Passes CX X E)
  (I:Inv X pins σ H s) (r:Vals vs us) (h:sp (vs++dvs) H Q E):ao (aq X.prog X.w) X.A (call (.ref f) us) (EP X pins σ Q) X.xe s:=by
 have r2:Vals (vs++dvs) (us++ds):=r.append hd;have hl:(us++ds).length=ps.length:=by rw[<-r2.length];exact F.len _ _ _ _ h
 refine wpAny_call (codeAny_mono (F.run X.A X.stack s H ⟨us,[]⟩ (us++ds) (vs++dvs) Q E hr I.env0 (hb s us I.kIn hl) r2 h) λr s' hq=>?_);cases r with
 |error e=>exact hx pins σ H s e s' I hq
 |ok fl=>
  cases fl with
  |ret u=>exact I.after hq
  |next=>exact bp hq
  |brk=>exact bp hq
  |cont=>exact bp hq
theorem Dz(F:fm X.prog X.w X.K X.mg X.base CX k f fd ps sp)(hr:ck k X.A)(hg:Gl X x)(hm:X.mg x=some (.ref f))(hk:cB X.K (.ref f)=true)(hb:Binds X.K fd ps ds)(hd:Vals dvs ds)(hx:Passes CX X E)
  (ha:PA X (e::es) t) (hdb:(x==("__debug__" : Str))=false:=by decide) (he:aZ (e::es) X.env=(false,eval e X.env)::aZ es X.env:=by rfl) (hpl:(backTo pos (aZ es X.env)).any (·.1)=false:=by rfl) :
  PE X (.Call (.Name x p) (e::es) [] pos) (j5 sp dvs E t):=by
 intro pins s σ H Q I h;refine wpAny_Call_Name_kw (kg I hg hm ?_ hdb);refine PySem.W.callWith_K (h₀:=X.base) I.ok.mod.kin hk (thn (ha pos pins s σ H _ I h) λus s1 ⟨vs,H1,I1,r,q⟩=>⟨I1.kIn,?_⟩) he hpl;exact yt F hr hb hd hx I1 r q
end
section
variable{X:Cx}{CX:CXT}{k:Nat}{f C:Addr}{fd:FuncData}{ps ks:List Str}{sp:Sp}{E:XK}{x m:Str}{p pos apos kpos:Pos}{e o:Expr}{es:List Expr}{kws:List Keyword}{te ta:TE}{t tk:TA}{nm:Option Str}
variable{g:List ae->List ae->List ae}{gV:List V->List V->List V}
end
structure g9(N P:List Str)(sc:a9):Prop where
 kind:sc.kind=.function
 co:sc.isCoroutine=false
 gen:sc.isGenerator=false
 nd:N.Nodup
 pre:N.take P.length=P
 par:∀x∈P,sc.names.lookup x=some .local\/sc.names.lookup x=some .cell
 nofree:∀y∈sc.names,y.2≠.free
theorem l9{kindOf:Str->Option aS}{x:Str}:∀{binds:List (Str×ae)}{m:Str->Option ae},(∀v,(x,v)∉binds)->bindL kindOf binds m x=m x
 | [],_,_=>rfl
 | (n,v)::r,m,h=>by
  unfold bindL;rw[l9 λw hw=>h w (aV _ hw)];split
  ·have:x≠n:=by rintro rfl;exact h v a8
   simp[this]
  ·rfl
theorem o9{kindOf:Str->Option aS}{x:Str}:∀{binds:List (Str×ae)}{m:Str->Option ae},(∀v,(x,v)∉binds)->bindC kindOf binds m x=m x
 | [],_,_=>rfl
 | (n,v)::r,m,h=>by
  unfold bindC;rw[o9 λw hw=>h w (aV _ hw)];split
  ·rfl
  ·have:x≠n:=by rintro rfl;exact h v a8
   simp[this]
theorem pC{kindOf:Str->Option aS}{x:Str}{v:ae}:∀{P:List Str}{vs:List ae}{i:Nat}{m:Str->Option ae},P.Nodup->P[i]? = some x->vs[i]? = some v->kindOf x=some .local ->
  bindL kindOf (P.zip vs) m x=some v
 | [],_,_,_,_,h,_,_=>by simp at h
 |_::_,[],_,_,_,_,h,_=>by simp at h
 |p::P,w::vs,0,m,nd,h1,h2,hk=>by
  simp at h1 h2;subst h1;subst h2;show bindL kindOf ((p,w)::P.zip vs) m p=_;unfold bindL;rw[l9 λv hv=>(List.nodup_cons.mp nd).1 (List.of_mem_zip hv).1,if_pos hk];simp
 |p::P,w::vs,i+1,m,nd,h1,h2,hk=>by
  show bindL kindOf ((p,w)::P.zip vs) m x=_;unfold bindL;exact pC (i:=i) (List.nodup_cons.mp nd).2 (by simpa using h1) (by simpa using h2) hk
theorem mO{kindOf:Str->Option aS}{x:Str}{v:ae}:∀{P:List Str}{vs:List ae}{i:Nat}{m:Str->Option ae},P.Nodup->P[i]? = some x->vs[i]? = some v->kindOf x≠some .local ->
  bindC kindOf (P.zip vs) m x=some v
 | [],_,_,_,_,h,_,_=>by simp at h
 |_::_,[],_,_,_,_,h,_=>by simp at h
 |p::P,w::vs,0,m,nd,h1,h2,hk=>by
  simp at h1 h2;subst h1;subst h2;show bindC kindOf ((p,w)::P.zip vs) m p=_;unfold bindC;rw[o9 λv hv=>(List.nodup_cons.mp nd).1 (List.of_mem_zip hv).1,if_neg hk];simp
 |p::P,w::vs,i+1,m,nd,h1,h2,hk=>by
  show bindC kindOf ((p,w)::P.zip vs) m x=_;unfold bindC;exact mO (i:=i) (List.nodup_cons.mp nd).2 (by simpa using h1) (by simpa using h2) hk
noncomputable def start(N:List Str)(vs:List V):St:=vs.map some++aX (N.length-vs.length) none
noncomputable def eP(CX:CXT)(P:aA)(w:av)(K:aC)(mg:Str->Option ae)(base:Heap)(N:List Str)(qual:Str)(scope:a9)(f:Addr)(cd:ae)(A:az)(outer:List Env)(s:af)(H:Hp)(E:XK):Cx where
 prog:=P
 w:=w
 K:=K
 mg:=mg
 base:=base
 A:=A.deeper (envOfC qual scope s.heap.objs.size f cd)
 N:=N
 s₀:=s
 H₀:=H
 env:=envOfC qual scope s.heap.objs.size f cd
 outer:=outer
 stack:=envOfC qual scope s.heap.objs.size f cd::outer
 ex:=[]
 calm:=true
 fn:=λ_=>true
 pn:=[]
 xe:=λe s'=>ao (aq P w) (A.deeper (envOfC qual scope s.heap.objs.size f cd)) (leaving (envOfC qual scope s.heap.objs.size f cd) e) (λ_ s''=>CX outer H s E e s'') (λe' s''=>CX outer H s E e' s'') s'
theorem iT{sc:a9}{n:Nat}{x:Str}(h:sc.names.lookup x=some .cell):∃c,(bu n sc.names []).lookup x=some c:=by
 have q:=PySem.W.cellsFrom_some sc.names n [] (.inl h);exact Option.isSome_iff_exists.mp q
theorem Cr{CX:CXT}{P:aA}{w:av}{K:aC}{mg:Str->Option ae}{base:Heap}{N ps:List Str}{qual:Str}{scope:a9}{f:Addr}{cd:ae}{A:az}{outer:List Env}{s s1:af}{H:Hp}{E:XK}{us:List ae}{vs:List V}
  (S:g9 N ps scope) (hd:A.handled=none) (e0:iA P w K mg base A outer s H) (hl:vs.length=ps.length) (r:Vals vs us)
  (x:InCallC s s.heap.objs.size (bindL (envOfC qual scope s.heap.objs.size f cd).kindOf (ps.zip us) λ_=>none) (bu (s.heap.objs.size+1) scope.names []) (bindC (envOfC qual scope s.heap.objs.size f cd).kindOf (ps.zip us) λ_=>none) s1) :
  Inv (eP CX P w K mg base N qual scope f cd A outer s H E) [] (start N vs) H s1:=by
 have hpl:ps.length<=N.length:=by have:=congrArg List.length S.pre;rw[b_]at this;lia
 obtain⟨h1,tk,rfl,hk⟩:=x.done;have noA:∀b:Addr,b∉(eP CX P w K mg base N qual scope f cd A outer s H E).ex:=λb z=>absurd (show b∈([]:List Addr)from z) (by simp)
 refine⟨⟨e0.mod,S.kind,rfl,rfl,aD _,λy z c h1 h2=>?_,λy hy=>?_,λy c _ h=>?_,λ_=>hd,az.frames_deeper e0.frames,.inr ⟨rfl,rfl⟩,λb z=>absurd z (noA b),e0.bs,e0.bsz,λb _ _=>noA b,λb z=>absurd z (noA b),e0.funs,e0.frf⟩,
  rfl,e0.bare,Un.kept hk,⟨_,x.toInCall.ns,λi y v h1 h2 h3=>?_⟩,λy c h=>⟨_,x.cell y c h⟩,e0.hok.fresh (aD _),λy c h=>?_,λp hp=>absurd (show p∈([]:List (Addr×Obj))from hp) (by simp),e0.hok.kept hk,?_⟩
 ·exact name_of_addr x.apart (b7 h1) (b7 h2)
 ·have hy:scope.names.lookup y=some .cell\/scope.names.lookup y=some .free:=hy;rcases hy with hy|hy
  ·exact iT hy
  ·exact absurd rfl (S.nofree _ (b7 hy))
 ·exact Nat.le_of_lt (x.above y c (b7 h))
 ·have hi:i<vs.length:=by
   unfold start at h2;by_cases hi:i<vs.length
   ·exact hi
   ·rw[List.getElem?_append_right (by simpa using hi)]at h2;rw[List.getElem?_replicate]at h2;split at h2<;>cases h2
  have ha:vs[i]? = some v:=by
   unfold start at h2;rw[List.getElem?_append_left (by simpa using hi),List.getElem?_map]at h2;cases e:vs[i]? with
   |none=>rw[e]at h2;cases h2
   |some a=>rw[e]at h2;cases h2;rfl
  obtain⟨u,hu,rv⟩:=r.get ha;have hp:ps[i]? = some y:=by
   rw[<-S.pre,List.getElem?_take_of_lt (by lia)];exact h1
  have ndP:ps.Nodup:=by rw[<-S.pre];exact S.nd.sublist (List.take_sublist _ _)
  refine⟨u,rv,?_⟩;rcases S.par y (List.mem_of_getElem? hp)with k|k
  ·exact .inl ⟨k,pC ndP hp hu k⟩
  ·obtain⟨c,e⟩:=iT (n:=s.heap.objs.size+1) k;refine .inr ⟨.inl k,c,e,?_⟩;have q:=x.cell y c e;rw[mO ndP hp hu (by show scope.names.lookup y≠_;rw[k];decide)]at q;exact q
 ·exact e0.hok.fresh (Nat.le_of_lt (x.above y c (b7 h)))
 ·unfold start;show _=N.length;rw[cy,aP,List.length_replicate];lia
theorem tF{CX:CXT}{P:aA}{w:av}{K:aC}{mg:Str->Option ae}{base:Heap}{k:Nat}{f:Addr}{name qual:Str}{params:Arguments}{body:List Stmt}{scope:a9}{dV kV doc pm cdv ct oc:ae}{an od:Option Addr}
  {osl:Array (Option ae)}{N ps:List Str}{sp:Sp} (lk:K.lookup f=some ⟨oc,od,.func (cf name qual params body scope dV kV doc pm an cdv ct),osl⟩) (hcd:PySem.W.codeIn K cdv qual=true) (S:g9 N ps scope)
  (len:∀vs H Q E,sp vs H Q E->vs.length=ps.length)
  (hbody:∀(A:az) (outer:List Env) (s:af) (H:Hp) (vs:List V) (Q:VK) (E:XK),ck k (A.deeper (envOfC qual scope s.heap.objs.size f cdv))->sp vs H Q E ->
   ∃t,PSs (eP CX P w K mg base N qual scope f cdv A outer s H E) body t/\t {nx:=λ_ H'=>Q .non H',rt:=Q} (start N vs) H) :
  fm P w K mg base CX (k+1) f (cf name qual params body scope dV kV doc pm an cdv ct) ps sp:=by
 refine⟨len,λA outer s H args us vs Q E hr e0 hb r hsp=>?_⟩;have hl:=len _ _ _ _ hsp;have KX:K.In s.heap:=e0.mod.kin.keeps λb o e=>(e0.bs b o e).1
 have lim:s.heap.NoLimit:=e0.mod.nolimit.keeps λb o e=>(e0.bs b o e).1
 have hkind:∀y∈ps.zip us,scope.names.lookup y.1=some .local\/(scope.names.lookup y.1=some .cell/\((bu (s.heap.objs.size+1) scope.names []).lookup y.1).isSome=true):=λ⟨n,v⟩ hy=>by
  rcases S.par n (List.of_mem_zip hy).1 with q|q
  ·exact .inl q
  ·exact .inr ⟨q,PySem.W.cellsFrom_some _ _ _ (.inl q)⟩
 refine codeAny_call_function hr.depth (KX _ _ lk) rfl S.co S.gen rfl (PySem.W.codeRec_of KX hcd) (hb _ _ _ _ ?_);refine wpAny_newFunctionEnv_cells S.kind hkind λenv he s1 x=>?_
 subst he;refine⟨lim.keeps x.toInCall.keep,codeAny_func ?_⟩;obtain⟨t,ht,hq⟩:=hbody A outer s H vs Q E (hr.deeper _) hsp;have I:Inv (eP CX P w K mg base N qual scope f cdv A outer s H E) [] (start N vs) H s1:=Cr S hr.hd e0 hl r x;refine bK (ht [] s1 (start N vs) H _ I hq) (λfl s' hs=>?_) λe s' hs=>hs
 have fin:∀{σ':St}{H':Hp}{v:V}{u:ae},Inv (eP CX P w K mg base N qual scope f cdv A outer s H E) [] σ' H' s'->RelV v u->Q v H'->CE outer P w H s Q u s':=
  λ{σ' H' v u} J rv q=>⟨v,H',J.os,J.bare,J.base,J.hok,rv,q⟩
 cases fl with
 |ret u=>
  obtain⟨v,σ',H',J,rv,q⟩:=hs;exact fin J rv q
 |next=>
  obtain⟨σ',H',J,q⟩:=hs;exact fin (v:=V.non) (u:=ae.none) J rfl q
 |brk=>
  obtain⟨_,_,_,q⟩:=hs;exact bp q
 |cont=>
  obtain⟨_,_,_,q⟩:=hs;exact bp q
section
variable{X:Cx}{x:Str}{p pos:Pos}{e:Expr}{es:List Expr}{t:TA}{id T:String}{r:List V->Hp->VK->Prop}
noncomputable def tCB(r:List V->Hp->VK->Prop)(t:TA):TE:=λσ H Q=>t σ H λvs H1=>r vs H1 Q
theorem jN(hc:qY X (.builtin id) r)(hg:Gl X x)(hm:X.mg x=none)(hv:bO x=some (.builtin id))(ha:PA X (e::es) t)(hn:x≠"__name__":=by decide)(hdb:(x==("__debug__" : Str))=false:=by decide)
  (he:aZ (e::es) X.env=(false,eval e X.env)::aZ es X.env:=by rfl) (hpl:(backTo pos (aZ es X.env)).any (·.1)=false:=by rfl):PE X (.Call (.Name x p) (e::es) [] pos) (tCB r t):=by
 intro pins s σ H Q I h;refine wpAny_Call_Name_kw (fP I hg hm hv ?_ hn hdb);exact PyProof.Rows.callWith_builtin1 (thn (ha pos pins s σ H _ I h) λus s1 ⟨vs,H1,I1,r1,q1⟩=>hc pins s1 σ H1 vs us Q I1 r1 q1) he hpl
theorem fH(hc:qY X (.type T) r)(hg:Gl X x)(hm:X.mg x=none)(hv:bO x=some (.type T))(ha:PA X (e::es) t)(hn:x≠"__name__":=by decide)(hdb:(x==("__debug__" : Str))=false:=by decide)
  (he:aZ (e::es) X.env=(false,eval e X.env)::aZ es X.env:=by rfl) (hpl:(backTo pos (aZ es X.env)).any (·.1)=false:=by rfl):PE X (.Call (.Name x p) (e::es) [] pos) (tCB r t):=by
 intro pins s σ H Q I h;refine wpAny_Call_Name_kw (fP I hg hm hv ?_ hn hdb);exact eZ (thn (ha pos pins s σ H _ I h) λus s1 ⟨vs,H1,I1,r1,q1⟩=>hc pins s1 σ H1 vs us Q I1 r1 q1) he hpl
end
end L2
namespace HT
open PySem PyProof.Rows
noncomputable def lexLt:List Int->List Int->Bool
 | [],[]=>false
 | [],_::_=>true
 |_::_,[]=>false
 |x::xs,y::ys=>if x=y then lexLt xs ys else decide (x<y)
theorem oC(x y:Int)(xs ys:List Int):lexLt (x::xs) (y::ys)=if x=y then lexLt xs ys else decide (x<y):=rfl
theorem p6:lexLt [] []=false:=rfl
theorem nH(y:Int)(ys:List Int):lexLt [] (y::ys)=true:=rfl
theorem l_(x:Int)(xs:List Int):lexLt (x::xs) []=false:=rfl
theorem s_(A:az)(s:af)(a:Int)(t:Tok)(c:Int)(u:Tok):∃e,SeqAt.EqAt A s (.int a t) (.int c u) e/\(e=true↔a=c):=
 ⟨(a==c),SeqAt.EqAt.int_int a t c u,by simp⟩
theorem yU(A:az)(s:af)(a:Int)(t:Tok)(c:Int)(u:Tok)(prog:aA)(w:av)(E:ae->af->Prop)(Q:ae->af->Prop)(h:Q (.bool (decide (a<c))) s) :
  ao (aq prog w) A (richCompare .Lt (.int a t) (.int c u)) Q E s:=
 (PyProof.Rows.lt_int h:ao (aq prog w) A (bg .Lt (.int a t) (.int c u)) Q E s)
section
open PySem.SeqAt
open PySem.AutoSeq1 (wpAny_loadPart')
open PySem.MeetsSeq PySem.MeetsSeq2 PySem.MeetsSeq3
theorem lF(l b:Addr)(items items2:Array ae)(n n2:Nat)(dd dd2:Option Addr)(sl sl2:Array (Option ae))(ns ms:List Int)(hi:a7 items.toList ns)(hj:a7 items2.toList ms) :
  Meets (Builtin.«tuple.__lt__» ⟨[.ref l,.ref b],[]⟩)
   (λ_ R s=>s.heap.get? l=some {cls:=.type "tuple",dict:=dd,data:=.seq items n,slots:=sl}/\s.heap.get? b=some {cls:=.type "tuple",dict:=dd2,data:=.seq items2 n2,slots:=sl2} /\
    R (.ok (.ret (.bool (lexLt ns ms)))) s):=
 .of_wp λprog w A R s h=>by
  obtain⟨hp,g,d,tk,os⟩:=s;obtain⟨hl,hb,h⟩:=h;have f2:=AutoSeq1.sub_tuple_tuple;have z1:items.size=ns.length:=by rw[<-hi.length];simp
  have z2:items2.size=ms.length:=by rw[<-hj.length];simp
  wp_walk using wpAny_loadPart' hl,wpAny_loadPart' hb,wpAny_forIn_list _ (λrest b s'=>b.1=none/\s'=⟨hp,g,d,tk,os⟩/\∃(vs ws:List ae) (ns' ms':List Int),rest=vs.zip ws /\
   a7 vs ns'/\a7 ws ms'/\ns'.length+items2.size=ms'.length+items.size/\R (.ok (.ret (.bool (lexLt ns' ms')))) ⟨hp,g,d,tk,os⟩) _
  case turn=>
   rintro⟨y,x⟩ rest b s' ⟨hb',rfl,vs,ws,ns',ms',hz,hvi,hwi,hlen,hR⟩;cases hvi with
   |nil=>rw[List.zip_nil_left]at hz;cases hz
   |cons a t hvi'=>
    cases hwi with
    |nil=>rw[List.zip_nil_right]at hz;cases hz
    |cons c u hwi'=>
     rw[List.zip_cons_cons]at hz;injection hz with hyx hrest
     injection hyx with hy hx
     subst hy hx;rw[oC]at hR;simp only[b4]at hlen;obtain⟨e,he,hiff⟩:=s_ A.in1 ⟨hp,g,d,tk,os⟩ a t c u;refine ah (he prog w _ _ ?_);cases e with
     |true=>
      rw[if_pos (hiff.mp rfl)]at hR
      wp_walk
      exact⟨rfl,rfl,_,_,_,_,hrest,hvi',hwi',by lia,hR⟩
     |false=>
      rw[if_neg (λq=>absurd (hiff.mpr q) dA)]at hR;have hri:=yU A.in1 ⟨hp,g,d,tk,os⟩ a t c u prog w
      wp_walk using hri
      exact⟨_,rfl,by simpa using hR⟩
  case fin=>
   rintro⟨b1,b2⟩ s' ⟨hb',rfl,vs,ws,ns',ms',hz,hvi,hwi,hlen,hR⟩;simp only at hb';subst hb';have hv:lexLt ns' ms'=decide (items.size<items2.size):=by
    cases hvi with
    |nil=>
     cases hwi with
     |nil=>
      simp only[List.length_nil]at hlen;rw[p6];exact(decide_eq_false (by lia)).symm
     |cons c u hw=>
      simp only[List.length_nil,b4]at hlen;rw[nH];exact(decide_eq_true (by lia)).symm
    |cons a t hv=>
     cases hwi with
     |nil=>
      simp only[List.length_nil,b4]at hlen;rw[l_];exact(decide_eq_false (by lia)).symm
     |cons c u hw=>
      rw[List.zip_cons_cons]at hz;cases hz
   rw[hv]at hR
   wp_walk
   exact⟨_,rfl,by simpa[Builtin.Tuple.tupleCompareSizes]using hR⟩
  case h=>
   exact⟨rfl,rfl,items.toList,items2.toList,ns,ms,rfl,hi,hj,by lia,h⟩
end
section
variable{prog:aA}{w:av}{A:az}{E:ae->af->Prop}{s:af}
theorem wI{l b:Addr}{items items2:Array ae}{ns ms:List Int}{Q:ae->af->Prop}(hl:IsTup s.heap l items)(hb:IsTup s.heap b items2)(hi:a7 items.toList ns)(hj:a7 items2.toList ms)
  (hu:A.units<cLine) (h:Q (.bool (lexLt ns ms)) s):ao (aq prog w) A (bg .Lt (.ref l) (.ref b)) Q E s:=by
 obtain⟨⟨cls,dd,data,sl⟩,ho,hc,n,hd⟩:=id hl;obtain⟨⟨cls2,dd2,data2,sl2⟩,ho2,hc2,n2,hd2⟩:=id hb;simp only at hc hd hc2 hd2;subst hc hd hc2 hd2;exact richCompare_meets_room (op:=.Lt) ⟨_,ho,rfl⟩ ⟨_,ho2,rfl⟩ PySem.F.slot_tuple_lt PySem.F.entry_tuple_lt (PySem.F.args_tuple_lt_2 _ _) (lF l b items items2 n n2 dd dd2 sl sl2 ns ms hi hj)
  ⟨ho,ho2,show ae.bool (lexLt ns ms)≠ae.notImplemented/\Q (.bool (lexLt ns ms)) s from ⟨(λx=>nomatch x),h⟩⟩ hu
theorem ur{t b:Addr}{vs ws:List ae}{Q:ae->af->Prop}(ht:IsTup s.heap t vs.toArray)(hb:IsTup s.heap b ws.toArray)(hv:vs≠[])
  (h1:ws=[]->Q (.ref t) s) (h2:ws≠[]->Q (.ref s.heap.objs.size) {s with heap:=s.heap.push {cls:=.type "tuple",data:=.seq (vs++ws).toArray}})
  (hsz:vs.length+ws.length<=aL):ao (aq prog w) A (bD .Add (.ref t) (.ref b)) Q E s:=by
 obtain⟨⟨cls,dd,data,sl⟩,ho,hc,n,hd⟩:=id ht;obtain⟨⟨cls2,dd2,data2,sl2⟩,ho2,hc2,n2,hd2⟩:=id hb;simp only at hc hd hc2 hd2;subst hc hd hc2 hd2;have e:vs.toArray++ws.toArray=(vs++ws).toArray:=by simp
 by_cases hw:ws=[]
 ·exact concat_meets ⟨_,ho,rfl⟩ ⟨_,ho2,rfl⟩ noFill_tuple_add seq_tuple_add PySem.F.slot_tuple_add PySem.F.entry_tuple_add (PySem.F.args_tuple_add_2 _ _)
   (tuple_addW1 t b vs.toArray ws.toArray n n2 dd dd2 sl sl2 (by simpa using hv) (by simp[hw])) ⟨ho,ho2,h1 hw⟩
 ·refine concat_meets ⟨_,ho,rfl⟩ ⟨_,ho2,rfl⟩ noFill_tuple_add seq_tuple_add PySem.F.slot_tuple_add PySem.F.entry_tuple_add (PySem.F.args_tuple_add_2 _ _)
   (tuple_addW2 t b vs.toArray ws.toArray n n2 dd dd2 sl sl2 (by simpa using hv) (by simpa using hw) (by rw[aO,aO];exact hsz)) ⟨ho,ho2,?_⟩
  rw[e];exact h2 hw
noncomputable def sIx(n d:Nat):Option Int->Nat
 |none=>d
 |some v=>if v<0 then (v+(n:Int)).toNat else min v.toNat n
theorem uJ(n d:Nat):sIx n d none=d:=rfl
theorem AA(n d k:Nat):sIx n d (some (k:Int))=min k n:=by
 show (if (k:Int)<0 then ((k:Int)+(n:Int)).toNat else min (k:Int).toNat n)=min k n;rw[if_neg (by lia),Int.toNat_natCast]
end
end HT
namespace L2
open PySem PySem.Spec PyProof.Rows
abbrev TO:=St->Hp->(Option Int->Hp->Prop)->Prop
noncomputable def PO(X:Cx)(e:Option Expr)(t:TO):Prop:=
 ∀(pins:List (Addr×Obj)) (s:af) (σ:St) (H:Hp) (Q:Option Int->Hp->Prop),Inv X pins σ H s->t σ H Q ->
  ao (aq X.prog X.w) X.A (evalPart e X.env) (λu s'=>∃o H',Inv X pins σ H' s'/\IsPart u o/\Q o H') X.xe s
noncomputable def vB:TO:=λ_ H Q=>Q none H
noncomputable def Ax(t:TE):TO:=λσ H Q=>t σ H λx H1=>∃i,x=.int i/\Q (some i) H1
theorem intsAre_of{ns:List Int}:∀{us:List ae},Vals (ns.map V.int) us->a7 us ns:=by
 induction ns with
 |nil=>intro us r;rw[List.map_nil]at r;cases r;exact .nil
 |cons n ns ih=>
  intro us r;rw[a5]at r;cases r with
  |cons r1 r2=>
   obtain⟨t,e⟩:=r1;subst e;exact .cons n t (ih r2)
section
variable{X:Cx}{e:Expr}{te:TE}{lo hi:Option Expr}{tl th:TO}{pos p2:Pos}
theorem wJ:PO X none vB:=by
 intro pins s σ H Q I h;rw[evalPart_none];exact aB ⟨none,H,I,.none,h⟩
theorem yO(h:PE X e te):PO X (some e) (Ax te):=by
 intro pins s σ H Q I hw;rw[evalPart_some];refine thn (h pins s σ H _ I hw) λu s1 ⟨x,H1,I1,r1,q1⟩=>?_
 obtain⟨i,rfl,q⟩:=q1;obtain⟨t,rfl⟩:=r1;exact⟨some i,H1,I1,.int i t,q⟩
noncomputable def SlR(X:Cx)(r:V->Option Int->Option Int->Hp->VK->Prop):Prop:=
 ∀(pins:List (Addr×Obj)) (s:af) (σ:St) (H:Hp) (x:V) (v vl vu:ae) (lo hi:Option Int) (sl:Addr) (Q:VK),Inv X pins σ H s->RelV x v->s.heap.IsSliceOf sl vl vu .none->IsPart vl lo->IsPart vu hi->r x lo hi H Q ->
  ∃T id,typeLookup (.type T) "__getitem__" = pure (some (.builtin id))/\s.TypeIs v T/\ao (aq X.prog X.w) X.A (getItem v (.ref sl)) (EP X pins σ Q) X.xe s
noncomputable def tSl(r:V->Option Int->Option Int->Hp->VK->Prop)(te:TE)(tl th:TO):TE:=λσ H Q=>te σ H λx H1=>tl σ H1 λl H2=>th σ H2 λu H3=>r x l u H3 Q
theorem Az{r:V->Option Int->Option Int->Hp->VK->Prop}(hr:SlR X r)(he:PE X e te)(hl:PO X lo tl)(hu:PO X hi th):PE X (.Subscript e (.Slice lo hi none p2) pos) (tSl r te tl th):=by
 intro pins s σ H Q I h;refine Subscript_ (thn (he pins s σ H _ I h) λv s1 ⟨x,H1,I1,r1,q1⟩=>?_);refine wpAny_Slice (thn (hl pins s1 σ H1 _ I1 q1) λvl s2 ⟨l,H2,I2,pl,q2⟩=>thn (hu pins s2 σ H2 _ I2 q2) λvu s3 ⟨u,H3,I3,pu,q3⟩=>?_);rw[evalPart_none];refine aB ?_;have I4:Inv X pins σ H3 {s3 with heap:=s3.heap.push {cls:=.type "slice",data:=.fields #[vl,vu,.none]}}:=I3.kept (t':=s3.toks) λb ob q=>Heap.get?_push_of_some _ q
 obtain⟨T,id,hT,ht,hg⟩:=hr pins {s3 with heap:=s3.heap.push {cls:=.type "slice",data:=.fields #[vl,vu,.none]}} σ H3 x v vl vu l u s3.heap.objs.size Q I4 r1 (Heap.IsSliceOf.new ..) pl pu q3;show ao (aq X.prog X.w) X.A (subscriptTail e (.Slice lo hi none p2) v (.ref s3.heap.objs.size)) (EP X pins σ Q) X.xe {s3 with heap:=s3.heap.push {cls:=.type "slice",data:=.fields #[vl,vu,.none]}};exact tail_any (ops:=[.ref s3.heap.objs.size,v]) ht hT hg (by with_unfolding_all rfl)
noncomputable def gp(xs:List V)(lo hi:Option Int):List V:=(xs.drop (HT.sIx xs.length 0 lo)).take (HT.sIx xs.length xs.length hi-HT.sIx xs.length 0 lo)
theorem Bu(xs:List V)(lo hi:Option Int):(gp xs lo hi).length<=xs.length:=by
 unfold gp;rw[b_,List.length_drop];lia
noncomputable def t7(K:aC):R2:=λx y H Q=>∃a b ns ms,x=.ref a/\y=.ref b/\SqT K H a (ns.map V.int)/\SqT K H b (ms.map V.int)/\Q (.bl (HT.lexLt ns ms)) H
theorem um(hu:X.A.units<cLine):OpR X (bg .Lt) (t7 X.K):=by
 intro pins s σ H x y v u Q I rx ry h;obtain⟨a,b,ns,ms,rfl,rfl,ha,hb,q⟩:=h;cases rx;cases ry;obtain⟨its,r1,p1,_⟩:=I.tuple ha;obtain⟨its2,r2,p2,_⟩:=I.tuple hb;have i1:a7 its.toArray.toList ns:=intsAre_of r1;have i2:a7 its2.toArray.toList ms:=intsAre_of r2;exact HT.wI p1 p2 i1 i2 hu ⟨.bl (HT.lexLt ns ms),H,I,rfl,q⟩
noncomputable def rV(K:aC):R2:=λx y H Q=>∃a b xs ys,x=.ref a/\y=.ref b/\SqT K H a xs/\SqT K H b ys/\xs≠[]/\xs.length+ys.length<=aL /\
 (ys=[]->Q (.ref a) H)/\(ys≠[]->∀p,H p=none->Q (.ref p) (upd H p (.tup (xs++ys))))
theorem Vals.nil_iff{xs:List V}{us:List ae}(r:Vals xs us):us=[]↔xs=[]:=by
 cases r with
 |nil=>simp
 |cons _ _=>simp
theorem BR:OpR X (bD .Add) (rV X.K):=by
 intro pins s σ H x y v u Q I rx ry h;obtain⟨a,b,xs,ys,rfl,rfl,ha,hb,hx,hz,q1,q2⟩:=h;cases rx;cases ry;obtain⟨its,r1,p1,_⟩:=I.tuple ha;obtain⟨its2,r2,p2,_⟩:=I.tuple hb;refine HT.ur p1 p2 (λz=>hx (r1.nil_iff.mp z)) (λz=>⟨.ref a,H,I,rfl,q1 (r2.nil_iff.mp z)⟩) (λz=>?_) (by rw[<-r1.length,<-r2.length];exact hz);refine⟨.ref s.heap.objs.size,_,I.laid (t':=s.toks) (o:=.tup (xs++ys)) (λb ob q=>Heap.get?_push_of_some _ q) (aD _) ?_,rfl,q2 (λw=>z (r2.nil_iff.mpr w)) _ (I.hok.fresh (aD _))⟩;exact⟨by rw[cy];exact hz,_,r1.append r2,IsTup.new _ _⟩
end
noncomputable def ixN(n:Nat)(i:Int):Option Nat:=if 0<=i then (if i<n then some i.toNat else none)else if -(n:Int)<=i then some (i+n).toNat else none
noncomputable def atI{α:Type}(xs:List α)(i:Int):Option α:=(ixN xs.length i).bind λj=>xs[j]?
theorem m9{n:Nat}{i:Int}{j:Nat}(h:ixN n i=some j):seqIndex? i n=some j/\j<n/\-(n:Int)<=i/\i<n:=by
 unfold ixN at h;by_cases h0:0<=i
 ·rw[if_pos h0]at h;by_cases h1:i<n
  ·rw[if_pos h1]at h;have e:i.toNat=j:=bS h;exact⟨by rw[seqIndex_of h0 h1,e],by lia,by lia,h1⟩
  ·rw[if_neg h1]at h;cases h
 ·rw[if_neg h0]at h;by_cases h1:-(n:Int)<=i
  ·rw[if_pos h1]at h;have e:(i+n).toNat=j:=bS h;exact⟨by rw[seqIndex_neg (by lia) h1,e],by lia,h1,by lia⟩
  ·rw[if_neg h1]at h;cases h
theorem nc{α:Type}{xs:List α}{i:Int}{v:α}(h:atI xs i=some v):∃j,seqIndex? i xs.length=some j/\xs[j]? = some v/\j<xs.length/\-(xs.length:Int)<=i/\i<xs.length:=by
 unfold atI at h;cases e:ixN xs.length i with
 |none=>rw[e]at h;cases h
 |some j=>
  rw[e]at h;obtain⟨h1,h2,h3,h4⟩:=m9 e;exact⟨j,h1,h,h2,h3,h4⟩
noncomputable def lS(b:Expr):Prop:=∀o i,subscripted b false o i=operate [o,i] (getItem o i)
noncomputable def IxR(X:Cx)(r:R2):Prop:=
 ∀(value slice:Expr) (pins:List (Addr×Obj)) (s:af) (σ:St) (H:Hp) (x y:V) (v u:ae) (Q:VK),Inv X pins σ H s->RelV x v->RelV y u->r x y H Q ->
  subscripted slice false v u=operate [v,u] (getItem v u)->ao (aq X.prog X.w) X.A (subscriptTail value slice v u) (EP X pins σ Q) X.xe s
noncomputable def MtR(X:Cx)(id:String)(r:V->List V->Hp->VK->Prop):Prop:=
 ∀(pins:List (Addr×Obj)) (s:af) (σ:St) (H:Hp) (x:V) (xs:List V) (v:ae) (us:List ae) (Q:VK),Inv X pins σ H s->RelV x v->Vals xs us->r x xs H Q ->
  ao (aq X.prog X.w) X.A (call (.builtin id) (v::us)) (EP X pins σ Q) X.xe s
section
variable{X:Cx}{a b:Expr}{ta tb:TE}{pos:Pos}
theorem IxR.or{r r':R2}(h:IxR X r)(h':IxR X r'):IxR X (λx y H Q=>r x y H Q\/r' x y H Q):=by
 intro value slice pins s σ H x y v u Q I rx ry q hs;rcases q with q|q
 ·exact h value slice pins s σ H x y v u Q I rx ry q hs
 ·exact h' value slice pins s σ H x y v u Q I rx ry q hs
theorem sD{r:R2}(hr:IxR X r)(ha:PE X a ta)(hb:PE X b tb)(hs:lS b):PE X (.Subscript a b pos) (tOp r ta tb):=by
 intro pins s σ H Q I h;exact Subscript_ (ko ha hb I h λv u s2 x y H2 I2 rx ry q=>hr a b pins s2 σ H2 x y v u Q I2 rx ry q (hs _ _))
noncomputable def mE(K:aC):R2:=λx y H Q=>∃p xs i v,x=.ref p/\y=.int i/\SqL K H p xs/\atI xs i=some v/\Q v H
noncomputable def lC(K:aC):R2:=λx y H Q=>∃p xs i v,x=.ref p/\y=.int i/\SqT K H p xs/\atI xs i=some v/\Q v H
theorem Bj:IxR X (mE X.K):=by
 intro value slice pins s σ H x y v u Q I rx ry h hs;obtain⟨p,xs,i,z,rfl,rfl,hq,he,q⟩:=h;cases rx;obtain⟨t,rfl⟩:=ry;obtain⟨its,r,pl,hz⟩:=I.list hq;obtain⟨j,h1,h2,h3,h4,h5⟩:=nc he;obtain⟨w,ew,rw'⟩:=r.get h2;have hl:=r.length;have hn:=iw;have fin:EP X pins σ Q w s:=⟨z,H,I,rw',q⟩
 by_cases h0:0<=i
 ·have hj:i.toNat=j:=by
   rw[seqIndex_of h0 h5]at h1;exact bS h1
  exact item_listR pl.isList h0 (by lia) (by rw[hj];simpa using ew) fin hs
 ·have hj:(i+(its.toArray.size:Int)).toNat=j:=by
   rw[seqIndex_neg (by lia) h4]at h1;rw[aO,<-hl];exact bS h1
  exact subscriptTail_builtinR (x:=w) pl.isList.typeIs slot_list_getitem.lookup
   (wpAny_getItem_list_neg (Q:=λr s'=>r=w/\EP X pins σ Q r s') pl.isList (by lia) (by rw[aO]<;>lia) (by lia) (by rw[hj];simpa using ew) ⟨rfl,fin⟩) hs
theorem B4:IxR X (lC X.K):=by
 intro value slice pins s σ H x y v u Q I rx ry h hs;obtain⟨p,xs,i,z,rfl,rfl,hq,he,q⟩:=h;cases rx;obtain⟨t,rfl⟩:=ry;obtain⟨its,r,pl,hz⟩:=I.tuple hq;obtain⟨j,h1,h2,h3,h4,h5⟩:=nc he;obtain⟨w,ew,rw'⟩:=r.get h2;have hl:=r.length;have hn:=iw;have fin:EP X pins σ Q w s:=⟨z,H,I,rw',q⟩
 exact subscriptTail_builtinR (x:=w) pl.typeIs slot_tuple_getitem.lookup
  (getItem_tuple (j:=j) (Q:=λr s'=>r=w/\EP X pins σ Q r s') pl (by lia) (by lia) (by rw[aO,<-hl];exact h1) (by simpa using ew) ⟨rfl,fin⟩) hs
theorem Dp(its:List ae)(n j:Nat)(u:ae):ba (·.setIfInBounds j u) {cls:=.type "list",data:=.seq its.toArray n}={cls:=.type "list",data:=.seq (its.set j u).toArray n}:=by
 simp[ba]
theorem Inv.lst{pins:List (Addr×Obj)}{σ:St}{H:Hp}{s:af}{p:Addr}{xs:List V}(I:Inv X pins σ H s)(h:H p=some (.lst xs)) :
  ∃(its:List ae) (n:Nat),Vals xs its/\s.heap.get? p=some {cls:=.type "list",data:=.seq its.toArray n}/\xs.length<=sizeLine:=by
 obtain⟨z,its,n,r,e⟩:=I.hok p _ h;exact⟨its,n,r,e,z⟩
theorem Inv.lstUpd{pins:List (Addr×Obj)}{σ:St}{H:Hp}{s:af}{p:Addr}{xs ys:List V}{its its':List ae}{n n':Nat}{f:Obj->Obj}(I:Inv X pins σ H s)(h:H p=some (.lst xs))
  (ho:s.heap.get? p=some {cls:=.type "list",data:=.seq its.toArray n}) (hf:f {cls:=.type "list",data:=.seq its.toArray n}={cls:=.type "list",data:=.seq its'.toArray n'}) (r:Vals ys its') (hz:ys.length<=aL) (t:Nat) :
  Inv X pins σ (upd H p (.lst ys)) {s with heap:=s.heap.update p f,toks:=t}:=by
 have e:(s.heap.update p f).get? p=some {cls:=.type "list",data:=.seq its'.toArray n'}:=by
  rw[Heap.get?_update_self f ho (by rw[hf]<;>rfl),hf]
 refine I.write (x:=p) (e:=p) (by rw[h];trivial) (.inl rfl) (λb u hb q=>(Heap.get?_update_other _ _ (Ne.symm hb)).trans q) ⟨_,e⟩ ?_;exact⟨hz,its',n',r,e⟩
noncomputable def nU:V->V->V->Hp->(Hp->Prop)->Prop:=λo i v H Q=>∃p xs k j,o=.ref p/\i=.int k/\H p=some (.lst xs)/\ixN xs.length k=some j/\Q (upd H p (.lst (xs.set j v)))
theorem set_list:fK X nU:=by
 intro pins s σ H o i v ov iv u Q I ro ri rv h;obtain⟨p,xs,k,j,rfl,rfl,hp,hj,q⟩:=h;cases ro;obtain⟨t,rfl⟩:=ri;obtain⟨its,n,r,ho,hz⟩:=I.lst hp;obtain⟨h1,h2,h3,h4⟩:=m9 hj;have hl:=r.length;have hn:=iw;have I':Inv X pins σ (upd H p (.lst (xs.set j v))) {s with heap:=s.heap.update p (ba (·.setIfInBounds j u))}:=
  I.lstUpd hp ho (Dp its n j u) (r.set rv j) (by rw[List.length_set];exact hz) s.toks
 by_cases h0:0<=k
 ·have hk:k.toNat=j:=by
   rw[seqIndex_of h0 h4]at h1;exact bS h1
  exact PySem.W.ki_setAt ho h0 (by lia) (by rw[aO,<-hl];exact h4) (by rw[hk];exact⟨_,I',q⟩)
 ·have hk:(k+(its.toArray.size:Int)).toNat=j:=by
   rw[seqIndex_neg (by lia) h3]at h1;rw[aO,<-hl];exact bS h1
  exact PySem.W.ki_setBack ho (by lia) (by rw[aO,<-hl];exact h3) (by lia) (by rw[hk];exact⟨_,I',q⟩)
theorem ua(lo hi:Option Int)(n:Nat):(sliceBounds lo hi none n).1=((HT.sIx n 0 lo:Nat):Int)/\(sliceBounds lo hi none n).2.1=((HT.sIx n n hi:Nat):Int)/\(sliceBounds lo hi none n).2.2=1:=by
 refine⟨?_,?_,rfl⟩
 ·cases lo with
  |none=>simp[sliceBounds,HT.sIx]
  |some i=>
   simp only[sliceBounds,HT.sIx,Option.getD_none,show (1:Int)>0 by decide,if_true];by_cases h:i<0
   ·simp only[h,if_true]<;>lia
   ·simp only[h,if_false]<;>lia
 ·cases hi with
  |none=>simp[sliceBounds,HT.sIx]
  |some i=>
   simp only[sliceBounds,HT.sIx,Option.getD_none,show (1:Int)>0 by decide,if_true];by_cases h:i<0
   ·simp only[h,if_true]<;>lia
   ·simp only[h,if_false]<;>lia
theorem CG(its:List ae)(lo hi:Option Int):slicePick its.toArray lo hi none=((its.drop (HT.sIx its.length 0 lo)).take (HT.sIx its.length its.length hi-HT.sIx its.length 0 lo)).toArray:=by
 obtain⟨h1,h2,h3⟩:=ua lo hi its.toArray.size;unfold slicePick;rw[h1,h2,h3];simp only[sliceRange_one,pick_run,aO]<;>rfl
noncomputable def uI(K:aC):V->Option Int->Option Int->Hp->VK->Prop:=λx lo hi H Q=>∃a xs,x=.ref a/\SqL K H a xs/\∀p,H p=none->Q (.ref p) (upd H p (.lst (gp xs lo hi)))
theorem vv:SlR X (uI X.K):=by
 intro pins s σ H x v vl vu lo hi sl Q I rx hs pl pu h;obtain⟨a,xs,rfl,hx,q⟩:=h;cases rx;obtain⟨its,r,ht,hz⟩:=I.list hx;have hlen:=r.length;refine⟨"list",_,slot_list_getitem.lookup,ht.isList.typeIs,?_⟩;refine wpAny_getItem_list_slice ht.isList hs pl pu .none (by simp) ?_ (by rw[aO]<;>lia);rw[CG,<-hlen];refine⟨.ref s.heap.objs.size,_,I.laid (t':=s.toks) (o:=.lst (gp xs lo hi)) (λb ob q=>Heap.get?_push_of_some _ q) (aD _) ?_,rfl,q _ (I.hok.fresh (aD _))⟩;exact⟨bB (Bu xs lo hi) hz,_,0,(r.drop (HT.sIx xs.length 0 lo)).take (HT.sIx xs.length xs.length hi-HT.sIx xs.length 0 lo),Heap.get?_push_size _ rfl⟩
theorem Aj:qY X (.builtin "len") (λxs H Q=>∃p ys,xs=[.ref p]/\(SqL X.K H p ys\/SqT X.K H p ys)/\Q (.int ys.length) H):=by
 intro pins s σ H xs us Q I r h;obtain⟨p,ys,rfl,hq,q⟩:=h;obtain⟨u,rfl,rx⟩:=vals1 r;cases rx;have hn:=iw;rcases hq with hq|hq
 ·obtain⟨its,r',pl,hz⟩:=I.list hq;have hlen:=r'.length;exact Calls.call_len_list pl.isList (by simp only[aO]<;>lia) ⟨.int ys.length,H,I.tok _,⟨s.toks+1,by rw[aO,hlen]⟩,q⟩
 ·obtain⟨its,r',pl,hz⟩:=I.tuple hq;have hlen:=r'.length;exact len_tuple pl (by simp only[aO]<;>lia) ⟨.int ys.length,H,I.tok _,⟨s.toks+1,by rw[aO,hlen]⟩,q⟩
theorem qY.or{f:ae}{r r':List V->Hp->VK->Prop}(h:qY X f r)(h':qY X f r'):qY X f (λxs H Q=>r xs H Q\/r' xs H Q):=by
 intro pins s σ H xs us Q I rs q;rcases q with q|q
 ·exact h pins s σ H xs us Q I rs q
 ·exact h' pins s σ H xs us Q I rs q
theorem uA:qY X (.type "list") (λxs H Q=>∃p ys,xs=[.ref p]/\(SqL X.K H p ys\/SqT X.K H p ys)/\∀l,H l=none->Q (.ref l) (upd H l (.lst ys))):=by
 intro pins s σ H xs us Q I r h;obtain⟨p,ys,rfl,hq,q⟩:=h;obtain⟨u,rfl,rx⟩:=vals1 r;cases rx;have fin:∀(its:List ae),Vals ys its->ys.length<=aL->∀(h':Heap) (c':Nat),(∀b o',s.heap.get? b=some o'->h'.get? b=some o') ->
   h'.get? s.heap.objs.size=some {cls:=.type "list",dict:=none,data:=.seq its.toArray c',slots:=#[]}->EP X pins σ Q (.ref s.heap.objs.size) {s with heap:=h'}:=λits r' hz h' c' kp e=>
  ⟨.ref s.heap.objs.size,_,I.laid (t':=s.toks) kp (aD _) (show zx X.prog X.w _ h' _ (.lst ys)from ⟨hz,its,c',r',e⟩),rfl,q _ (I.hok.fresh (aD _))⟩
 rcases hq with hq|hq
 ·obtain⟨its,r',pl,hz⟩:=I.list hq;have hlen:=r'.length;obtain⟨o,ho,hc,n,hd⟩:=pl.isList;exact call_list_seq p (.inl rfl) ho hc hd (λh' c' kp e=>fin its r' hz h' c' kp e) (by simp only[aO]<;>lia)
 ·obtain⟨its,r',pl,hz⟩:=I.tuple hq;have hlen:=r'.length;obtain⟨o,ho,hc,n,hd⟩:=pl;exact call_list_seq p (.inr rfl) ho hc hd (λh' c' kp e=>fin its r' hz h' c' kp e) (by simp only[aO]<;>lia)
theorem Cb:qY X (.type "tuple") (λxs H Q=>∃p ys,xs=[.ref p]/\((SqL X.K H p ys/\∀l,H l=none->Q (.ref l) (upd H l (.tup ys)))\/(SqT X.K H p ys/\Q (.ref p) H))):=by
 intro pins s σ H xs us Q I r h;obtain⟨p,ys,rfl,h⟩:=h;obtain⟨u,rfl,rx⟩:=vals1 r;cases rx;rcases h with ⟨hq,q⟩|⟨hq,q⟩
 ·obtain⟨its,r',pl,hz⟩:=I.list hq;have hlen:=r'.length;refine call_tuple_list pl.isList (λh' kp=>?_) (by simp only[aO]<;>lia);have I1:Inv X pins σ H {s with heap:=h'}:=I.kept (t':=s.toks) kp;have I2:Inv X pins σ (upd H h'.objs.size (.tup ys)) {s with heap:=h'.push {cls:=.type "tuple",data:=.seq its.toArray}}:=
   I1.laid (t':=s.toks) (λb o e=>Heap.get?_push_of_some _ e) (aD _) (show zx X.prog X.w _ _ _ (.tup ys)from ⟨hz,its,r',IsTup.new _ _⟩)
  exact⟨.ref h'.objs.size,_,I2,rfl,q _ (I1.hok.fresh (aD _))⟩
 ·obtain⟨its,r',pl,hz⟩:=I.tuple hq;exact call_tuple_same pl ⟨.ref p,H,I,rfl,q⟩
noncomputable def tyV(K:aC)(T:String)(x:V)(H:Hp):Prop:=match x with
 | .str _=>T = "str"
 | .int _=>T = "int"
 | .ref p=>(T = "list"/\∃xs,SqL K H p xs)\/(T = "tuple"/\∃o,K.lookup p=some o/\o.cls=.type "tuple"/\o.dict=none) \/
   (T = "dict"/\((∃kvs,H p=some (.dK kvs))\/∃kvs,H p=some (.dT kvs)))\/(T = "set"/\∃S n,H p=some (.set S n))
 |_=>False
theorem CT{pins:List (Addr×Obj)}{σ:St}{H:Hp}{s:af}{T:String}{x:V}{v:ae}(I:Inv X pins σ H s)(r:RelV x v)(ty:tyV X.K T x H) :
  s.TypeIs v T/\∀a,v=.ref a->∃ob,s.heap.get? a=some ob/\ob.dict=none:=by
 cases x with
 |str z=>
  obtain⟨t,rfl⟩:=r;cases (show T = "str" from ty);exact⟨typeIs_str s z t,λ_ e=>nomatch e⟩
 |int i=>
  obtain⟨t,rfl⟩:=r;cases (show T = "int" from ty);exact⟨typeIs_int s i t,λ_ e=>nomatch e⟩
 |ref p=>
  cases r;rcases ty with ⟨rfl,xs,hq⟩|⟨rfl,o,hk,hc,hd⟩|⟨rfl,hk⟩|⟨rfl,S,n,hk⟩
  ·obtain⟨its,_,pl,_⟩:=I.list hq;refine⟨pl.isList.typeIs,λa e=>?_⟩;cases e;obtain⟨o,n,e,c,hd,_⟩:=pl;exact⟨o,e,hd⟩
  ·refine⟨⟨o,I.kIn p o hk,hc⟩,λa e=>?_⟩;cases e;exact⟨o,I.kIn _ o hk,hd⟩
  ·have z:∃o,s.heap.get? p=some o/\o.ExactDict:=by
    rcases hk with ⟨kvs,hk⟩|⟨kvs,hk⟩
    ·obtain⟨_,_,_,_,o,_,_,e,ex,_⟩:=I.hok p _ hk;exact⟨o,e,ex⟩
    ·obtain⟨_,_,_,_,o,_,_,e,ex,_⟩:=I.hok p _ hk;exact⟨o,e,ex⟩
   obtain⟨o,e,ex⟩:=z;refine⟨⟨o,e,ex.1⟩,λa e2=>?_⟩;cases e2;exact⟨o,e,ex.2.1⟩
  ·obtain⟨o,_,_,_,e,ex,_⟩:=I.hok p _ hk;refine⟨⟨o,e,ex.1⟩,λa e2=>?_⟩;cases e2;exact⟨o,e,ex.2.1⟩
 |_=>exact bp ty
noncomputable def tBM(K:aC)(T:String)(r:V->List V->Hp->VK->Prop)(to:TE)(t:TA):TE:=λσ H Q=>to σ H λx H1=>tyV K T x H1/\t σ H1 λxs H2=>r x xs H2 Q
variable{o e:Expr}{es:List Expr}{to:TE}{t:TA}{name:Str}{apos cpos:Pos}{T id:String}{r:V->List V->Hp->VK->Prop}
theorem Bh(pa:PlainAttrs T)(slot:Slot T name id)(hty:typeOf (.builtin id)=pure (.type "method_descriptor"))(hm:MtR X id r)(ho:PE X o to)(ha:PA X (e::es) t)
  (hbase:attributeBase o name X.env (eval o X.env)=eval o X.env:=by rfl)
  (hfew:((backTo cpos (aZ (e::es) X.env)).all (λx=>!x.1)&&(backToKw cpos (keywordEach [] X.env)).all (λx=>x.1.isSome)
   && decide ((e::es).length+([]:List Keyword).length+(if ([]:List Keyword).isEmpty then 0 else 1)<30))=true:=by rfl)
  (hline:(apos.endLine==cpos.line)=true:=by rfl) (hs:aZ (e::es) X.env=(false,eval e X.env)::aZ es X.env:=by rfl) (hplain:(backTo cpos (aZ es X.env)).any (·.1)=false:=by rfl) :
  PE X (.Call (.Attribute o name apos) (e::es) [] cpos) (tBM X.K T r to t):=by
 intro pins s σ H Q I h;refine wpAny_Call_method_late hbase hfew hline rfl (thn (ho pins s σ H _ I h) λv s1 ⟨x,H1,I1,r1,ty,q1⟩=>?_);obtain⟨h1,h2⟩:=CT I1 r1 ty;refine⟨T,id,pa,slot,hty,h1,h2,?_⟩;have hA:=ha cpos pins s1 σ H1 _ I1 q1;rw[hs]at hA ⊢;refine Calls.callWith_builtin (by show (false||(backTo cpos (aZ es X.env)).any (·.1))=false;rw[hplain]<;>rfl) (Calls.evalArgs_plain ?_);exact thn hA λus s2 ⟨vs,H2,I2,r2,q2⟩=>hm pins s2 σ H2 x vs v us Q I2 r1 r2 q2
/- xs.append(e), list.index on a module's tuple .. are MtR facts of 06m -/
end
noncomputable def MtM(X:Cx)(id:String)(r:V->List V->Hp->VK->Prop):Prop:=
 ∀(pins:List (Addr×Obj)) (s:af) (σ:St) (H:Hp) (x:V) (xs:List V) (v:ae) (us:List ae) (Q:VK),Inv X pins σ H s->RelV x v->Vals xs us->r x xs H Q ->
  ao (aq X.prog X.w) X.A (call (.builtin id) (v::us)) (EP X pins σ Q) X.xe s
theorem Vals.one{x:V}{us:List ae}(h:Vals [x] us):∃u,us=[u]/\RelV x u:=by
 cases h with
 |cons r h=>cases h;exact⟨_,rfl,r⟩
theorem Vals.two{x y:V}{us:List ae}(h:Vals [x,y] us):∃u v,us=[u,v]/\RelV x u/\RelV y v:=by
 cases h with
 |cons r h=>cases h with
  |cons q h=>cases h;exact⟨_,_,rfl,r,q⟩
theorem Vals.zero:∀{us:List ae},Vals [] us->us=[]
 |_,.nil=>rfl
section
variable{X:Cx}{pins:List (Addr×Obj)}{σ:St}{H:Hp}{s:af}{l b:Addr}{xs ys zs:List V}
theorem Inv.lset{its its':List ae}{n:Nat}{f:Array ae->Array ae}{t':Nat}(I:Inv X pins σ H s)(hH:H l=some (.lst xs))
  (e:s.heap.get? l=some {cls:=.type "list",data:=.seq its.toArray n}) (hf:f its.toArray=its'.toArray) (hv:Vals ys its') (hz:ys.length<=aL) :
  Inv X pins σ (upd H l (.lst ys)) {s with heap:=s.heap.update l (ba f),toks:=t'}:=by
 have q:=PySem.IsL.update e f;rw[hf]at q;refine I.write (x:=l) (e:=l) (by rw[hH];exact trivial) (.inl rfl) (λb' u hb hu=>(Heap.get?_update_other s.heap (ba f) (Ne.symm hb)).trans hu) ⟨_,q⟩ ?_;exact⟨hz,its',_,hv,q⟩
theorem Inv.lnew{its:List ae}{t':Nat}(I:Inv X pins σ H s)(hv:Vals ys its)(hz:ys.length<=aL) :
  Inv X pins σ (upd H s.heap.objs.size (.lst ys)) {s with heap:=s.heap.push {cls:=.type "list",data:=.seq its.toArray},toks:=t'}:=
 I.laid (λ_ _ q=>Heap.get?_push_of_some _ q) (aD _) ⟨hz,its,0,hv,Heap.get?_push_size _ rfl⟩
theorem Inv.fresh(I:Inv X pins σ H s):H s.heap.objs.size=none:=I.hok.fresh (aD _)
theorem Inv.lstM(I:Inv X pins σ H s)(hH:H l=some (.lst xs)):xs.length<=aL/\∃(its:List ae) (n:Nat),Vals xs its/\xs.length=its.length/\s.heap.get? l=some {cls:=.type "list",data:=.seq its.toArray n}:=by
 obtain⟨z,its,n,r,e⟩:=I.hok l _ hH;exact⟨z,its,n,r,r.length,e⟩
end
section
variable{X:Cx}
noncomputable def sA:V->List V->Hp->VK->Prop:=λx vs H Q=>∃l xs y,x=.ref l/\vs=[y]/\H l=some (.lst xs)/\xs.length<aL/\Q .non (upd H l (.lst (xs++[y])))
theorem o_:MtM X "list.append" sA:=by
 intro pins s σ H x vs v us Q I rx rv h;obtain⟨l,xs,y,rfl,rfl,hH,hz,q⟩:=h;cases rx;obtain⟨u,rfl,ru⟩:=rv.one;obtain⟨z,its,n,r,hl,e⟩:=I.lstM hH;refine call_meets F.slot_list_append ⟨_,e,rfl⟩ F.entry_list_append (F.args_list_append_2 _ _) (PySem.list_append l its.toArray n u (by rw[aO];lia)) ⟨e,?_⟩;refine⟨.non,_,I.lset (its':=its++[u]) hH e (by simp) (r.append (.cons ru .nil)) ?_,rfl,q⟩;rw[cy,List.length_singleton];lia
end
section
variable{prog:aA}{w:av}{A:az}{E:ae->af->Prop}{s:af}
set_option maxRecDepth 100000 in
end
section
variable{X:Cx}
end
end L2
namespace Att
open PySem PySem.W PySem.Calls PyProof.Rows
theorem xA{P:Params}{h:Heap}:∀(ns:List Int) (vs:List ae),WellAll P h vs (ns.map WData.int)->a7 vs ns:=by
 intro ns
 induction ns with
 |nil=>
  intro vs w;rw[List.map_nil]at w;cases w;exact .nil
 |cons n ns ih=>
  intro vs w;rw[a5]at w;cases w with
  |cons a b=>
   cases a;exact .cons _ _ (ih _ b)
theorem xX{l:OpenLaw}{n:Nat}(hn:l.most=some n){P:Params}{h:Heap}{args:List WData}{vals:List ae}
  (hpre:l.row.toRowW.claim.pre args=true) (hwl:WellAll P h vals args) :
  ∃a vs ns,vals=[bq a]/\args=[WData.list (ns.map WData.int)]/\h.get? a=some {cls:=.type "list",data:=.seq vs.toArray}/\a7 vs ns/\ns.length<=n:=by
 have hsh:WShape.hasAll [] args [.list .int]=true:=(pre_splitW hpre).1;have hc:l.pre.holds [] {args:=args}=true:=(pre_splitW hpre).2;obtain⟨d,r,rfl,h1,h2⟩:=hasAllW_cons hsh;obtain rfl:=hasAllW_nil h2;obtain⟨xs,rfl,h3⟩:=hasW_list h1;obtain⟨ns,rfl⟩:=items_int h3;have hlen:ns.length<=n:=by
  unfold OpenLaw.pre at hc;have h4:(WTm.not (.lt (.lit (.int (n:Int))) (.len (.arg 0)))).holds [] {args:=[.list (ns.map .int)]}=true:=by
   have h4:=(holds_andW hc).1;rw[hn]at h4;exact h4
  have h5:=condW_of h4 (w_not (w_lt w_lit (w_len_list (w_arg rfl))));rw[aP]at h5;refine dD λq=>?_
  have q':(n:Int)<((ns.length:Nat):Int):=by lia
  first
   | (rw[decide_eq_true q']at h5;exact absurd h5 (by decide))
   | (simp at h5;lia)
 cases hwl with
 |cons w1 w2=>
  cases w2;cases w1 with
  |list ho hall=>exact⟨_,_,ns,rfl,rfl,ho,xA ns _ hall,hlen⟩
theorem xD(l:OpenLaw)(args:List WData):l.row.toRowW.claim.post args (.bool true) args=true:=
 postW_of (r:=l.row.toRowW) (X:=(true==true))
  (show WShape.has [] (.bool true) .bool=true by first|rfl|decide|simp[WShape.has,WShape.arms,WShape.armsAll])
  (show (WTm.eq .res (.lit (.bool true))).value [] {args:=args,res:=some (.bool true),after:=args}=some (.bool (true==true))from w_eq_bool (w_res rfl) w_lit) rfl
theorem Cd{l:OpenLaw}{n:Nat}{q:aA}{loose:List Str}{XP:(Str->Option ae)->Heap->Prop}{YP:av->Heap->Prop}{d:DefRec}
  (hn:l.most=some n) (hdf:d.params.defaults=[])
  (call:∀(w:av) (s₀ s₁:af) (mg mb:Str->Option ae) (fa:Addr) (o:Obj) (pm cd doc:ae) (a:Addr) (vs:List ae) (ns:List Int),
   Ground q loose [] XP w s₀ mg mb s₁.heap->YP w s₁.heap ->
   s₁.heap.get? fa=some o->o.data=.func (docDef d.name d.params d.body d.scope pm cd doc)->s₁.heap.CodeRec cd d.name->mg d.name=some (.ref fa) ->
   s₁.heap.get? a=some {cls:=.type "list",data:=.seq vs.toArray}->a7 vs ns->ns.length<=n->s₁.gens = #[] ->
   codeAny (aq l.prog w) callerA (.call (.ref fa) ⟨[.ref a],[]⟩) (λr s'=>r=.ok (.ret (.bool true))/\OldK s₁.heap s'.heap/\s'.os=s₁.os/\AllBare s'.gens) s₁) :
  WalkO q loose XP YP l.row.toRowW d [] (λf vs=>PySem.call f vs):=by
 intro w s₀ s₁ mg mb G Y fa o pm cd doc dV kV ho hd hcd hD hmg hg args vals as hpre hlay hrd hwl hlo;obtain rfl:dV=.none:=Dflts.none hD hdf;obtain rfl:kV=.none:=Dflts.noKw hD;obtain⟨a,vs,ns,rfl,rfl,hobj,hints,hlen⟩:=xX hn hpre hwl;refine enter_call (codeAny_mono (call w s₀ s₁ mg mb fa o pm cd doc a vs ns G Y ho (fd_plain hd) hcd hmg hobj hints hlen hg) λr s' hq=>?_);obtain⟨rfl,h2,h3,h4⟩:=hq;exact⟨.inl ⟨.bool true,.bool true,[],rfl,λ_=>rfl,.bool true,xD l _,λ_=>⟨List.Pairwise.nil,λ_ hm=>(nomatch hm)⟩⟩,h2,h3,h4⟩
section
variable{prog:aA}{w:av}{A:az}{E:ae->af->Prop}{s:af}{K:Frag}
end
end Att
namespace L2
open PySem PySem.Spec PyProof.Rows
theorem mY:∀{vs:List ae}{ns:List Int},a7 vs ns->Vals (ns.map V.int) vs
 |_,_,.nil=>.nil
 |_,_,.cons n t h=>.cons ⟨t,rfl⟩ (mY h)
noncomputable def jK(H:Hp):Prop:=∀b,H b=none\/∃o xs,H b=some (.frz o (.lst xs))
theorem y7{P:aA}{w:av}{K:aC}{mg mb:Str->Option ae}{CX:CXT}{k:Nat}{fa a:Addr}{fd:FuncData}{x:Str}{sp:Sp}{s₁:af}{vs:List ae}{ns:List Int}
  (KX:K.In s₁.heap) (hns:s₁.heap.Ns aE mg) (hb:s₁.heap.Ns builtinsNs mb) (hbb:∀x:Str,x≠"__name__"->mb x=bO x) (hlim:s₁.heap.NoLimit) (hg:s₁.gens = #[])
  (ha:s₁.heap.get? a=some {cls:=.type "list",data:=.seq vs.toArray}) (hi:a7 vs ns) (hl:ns.length<=aL) (hr:ck k callerA)
  (F:∀base:Heap,K.In base->base.Ns aE mg->fm P w K mg base CX k fa fd [x] sp) (hbind:∀(s:af) (u:ae),BindsTo s fd ⟨[u],[]⟩ [(x,u)])
  (hsp:∀H:Hp,jK H->SqL K H a (ns.map V.int)->sp [.ref a] H (λv _=>v=.bl true) λ_ _ _=>False)
  (hCX:∀H e s',CX [] H s₁ (λ_ _ _=>False) e s'->False) :
  codeAny (aq P w) callerA (.call (.ref fa) ⟨[.ref a],[]⟩) (λr s'=>r=.ok (.ret (.bool true))/\OldK s₁.heap s'.heap/\s'.os=s₁.os/\AllBare s'.gens) s₁:=by
 have rv:=mY hi;have lenV:=hi.length
 -- from an abstract heap in which nothing but the script may be tracked
 have core:∀H:Hp,jK H->SqL K H a (ns.map V.int)->HOk P w H s₁.heap->(∀b,H b≠none->b=a)->(H a≠none->K.lookup a=none) ->
   codeAny (aq P w) callerA (.call (.ref fa) ⟨[.ref a],[]⟩) (λr s'=>r=.ok (.ret (.bool true))/\OldK s₁.heap s'.heap/\s'.os=s₁.os/\AllBare s'.gens) s₁:=by
  intro H hO hS hok hA hK;have base_of:∀{b:Addr}{o:Obj},s₁.heap.get? b=some o->H b=none->(eV s₁.heap H).get? b=some o:=λe n=>xN e n
  have noA:∀{b:Addr}{o:Obj}{es:Array DictEntry}{ep:Nat},s₁.heap.get? b=some o->o.data=.dict es ep->H b=none:=λ{b o es ep} e d=>by
   cases q:H b with
   |none=>rfl
   |some u=>
    have e':b=a:=hA b (by rw[q];simp);subst e';rw[ha]at e;cases e;have d':Data.seq vs.toArray _=Data.dict es ep:=d;cases d'
  have nsK:∀{b:Addr}{m:Str->Option ae},s₁.heap.Ns b m->(eV s₁.heap H).Ns b m:=λ{b m} ⟨o,es,ep,e,d,r⟩=>⟨o,es,ep,base_of e (noA e d),d,r⟩
  have hKb:K.In (eV s₁.heap H):=λb o e=>base_of (KX b o e) (by
   cases q:H b with
   |none=>rfl
   |some u=>
    have e':b=a:=hA b (by rw[q];simp);subst e';rw[hK (by rw[q];simp)]at e;cases e)
  have hM:Mod K mg (eV s₁.heap H):=⟨hKb,nsK hns,⟨mb,nsK hb,hbb⟩,let ⟨mc,h1,h2⟩:=hlim;⟨mc,nsK h1,h2⟩⟩
  have e0:iA P w K mg (eV s₁.heap H) callerA [] s₁ H:=⟨rfl,hM,λb o e=>BS e,Nat.le_of_eq (vq _ _),trivial,λb hb=>absurd (show b∈([]:List Addr)from hb) (by simp),hok,.of_eq hg⟩
  refine codeAny_mono ((F _ hKb (nsK hns)).run callerA [] s₁ H ⟨[.ref a],[]⟩ [.ref a] [.ref a] _ _ hr e0 (hbind s₁ (.ref a)) (.cons rfl .nil) (hsp H hO hS)) λr s' h=>?_
  cases r with
  |error e=>exact(hCX H e s' h).elim
  |ok fl=>
   cases fl with
   |next=>exact bp h
   |brk=>exact bp h
   |cont=>exact bp h
   |ret u=>
    obtain⟨v,H',os,bare,un,hok',r',q⟩:=h;have q':v=.bl true:=q;subst q';obtain rfl:u=ae.bool true:=r';refine⟨rfl,OldK.of_keep λb o e=>?_,os,bare⟩;cases q:H b with
    |none=>exact un.keep b o e q (by intro z;exact absurd (show b∈([]:List Addr)from z) (by simp)) (by simp)
    |some u=>
     rcases hO b with z|⟨ob,xs,z⟩
     ·rw[q]at z;cases z
     ·have z2:=un.frzs b ob _ z;obtain⟨e1,_⟩:=hok b _ z;obtain⟨e2,_⟩:=hok' b _ z2;rw[e]at e1;cases e1;exact e2
 cases hk:K.lookup a with
 |some o=>
  -- the script is one of the module's own objects
  have e:=KX a o hk;rw[ha]at e;cases e;refine core (λ_=>none) (λ_=>.inl rfl) (.inr ⟨_,vs.toArray,_,hk,rfl,rfl,rfl,by rw[aO,lenV];exact hl,by simpa using rv⟩) (λb u z=>by have z':(none:Option HO)=some u:=z;cases z') (λb z=>absurd rfl z) λz=>absurd rfl z
 |none=>
  refine core (λb=>if b=a then some (.frz {cls:=.type "list",data:=.seq vs.toArray} (.lst (ns.map V.int)))else none) (λb=>?_) (.inl (.inr ⟨{cls:=.type "list",data:=.seq vs.toArray},if_pos rfl⟩)) (λb u z=>?_) (λb z=>?_) λ_=>hk
  ·by_cases hb:b=a
   ·exact .inr ⟨_,_,if_pos hb⟩
   ·exact .inl (if_neg hb)
  ·by_cases hb:b=a
   ·have z':=(if_pos hb).symm.trans z;cases z';subst hb;exact⟨ha,by rw[aP];exact hl,vs,_,rv,ha⟩
   ·have z':=(if_neg hb).symm.trans z;cases z'
  ·by_cases hb:b=a
   ·exact hb
   ·exact absurd (if_neg hb) z
theorem rQ{l:PySem.W.OpenLaw}{n k:Nat}{q:aA}{loose:List Str}{XP:(Str->Option ae)->Heap->Prop}{YP:av->Heap->Prop}{d:DefRec}{K:Params->aC}{CX:av->CXT}{sp:av->Sp}{x:Str}
  (hn:l.most=some n) (hn2:n<=aL) (hdf:d.params.defaults=[]) (hr:ck k callerA)
  (hY:∀(w:av) (h:Heap),YP w h->(K w.params).In h)
  (F:∀(w:av) (mg:Str->Option ae) (fa:Addr) (h:Heap),(K w.params).In h->h.Ns aE mg->mg d.name=some (.ref fa) ->
   ∃fd:FuncData,(∀(s:af) (u:ae),BindsTo s fd ⟨[u],[]⟩ [(x,u)]) /\
    ∀base:Heap,(K w.params).In base->base.Ns aE mg->fm l.prog w (K w.params) mg base (CX w) k fa fd [x] (sp w))
  (hsp:∀(w:av) (H:Hp) (a:Addr) (ns:List Int),ns.length<=n->jK H->SqL (K w.params) H a (ns.map V.int)->sp w [.ref a] H (λv _=>v=.bl true) λ_ _ _=>False)
  (hCX:∀(w:av) (H:Hp) (s:af) (e:ae) (s':af),CX w [] H s (λ_ _ _=>False) e s'->False) :
  PySem.W.WalkO q loose XP YP l.row.toRowW d [] (λf vs=>PySem.call f vs):=by
 refine Att.Cd hn hdf λw s₀ s₁ mg mb fa o pm cd doc a vs ns G Y ho hd hcd hmg hobj hints hlen hg=>?_
 have KX:=hY w _ Y;obtain⟨fd,hb,hF⟩:=F w mg fa _ KX G.T.g hmg;exact y7 KX G.T.g G.T.b G.T.builtins G.T.nolimit hg hobj hints (bB hlen hn2) hr hF hb (λH hO hS=>hsp w H a ns hlen hO hS) λH e s'=>hCX w H s₁ e s'
end L2
/- THE LAST THEOREM (shape; LID, My.* are yours):
   My.Adr: a structure of the addresses that your layer names (classes, functions); My.Txt K t: a structure (Prop) of the equations over K;
   My.txt_mk : {K} {implicit addresses ..} (e1 : nsIn K mainGlobals "law" = some (some (.ref f))) (e2 : K.lookup f = some ⟨oc, od, .func (fnOf "law" "law" params body scope dV kV doc pm an cdv ct), sl⟩) (e3 : codeIn K cdv "law" = true) .. : ∃ t, My.Txt K t
set_option maxRecDepth 100000 in
set_option maxHeartbeats 0 in
theorem PySem.Challenge.cw_LID_holds : PySem.Challenge.rw_LID.Holds := by
 w_on; o_law; k_head; (case hw => w_witness2)
 k_fill
 refine L2.walk_of (l := PySem.Challenge.rw_LID) (n := 63) (k := 40) (x := "script") (CX := fun w => ..) (sp := fun _ => My.sp_law) rfl (by decide) rfl ⟨rfl, by decide, by decide⟩ (fun w h Y => PySem.W.kIn_of Y) ?F ?S ?C
 case F =>
  intro w mg fa h KX G hmg;have T : ∃ t, My.Txt (L2.KOf KX) t := by
   dsimp only [L2.KOf]                          -- K must stand as «<heap const> w.params» for k_is
   refine' My.txt_mk ?e1 ?e2 ?e3 ..
   (case e1 => PySem.W.k_is)                    -- in the order: a name -> its address -> its object -> its parts
   (case e2 => PySem.W.k_is)
   ..
  obtain ⟨t, T⟩ := T;have e0 := hmg.symm.trans (PySem.W.mg_of KX G T.law);cases e0                                       -- fa is the law's own address
  exact ⟨_, fun s u => .of_eq rfl, fun base kb nb => My.law_fn T kb nb⟩     -- if «.of_eq rfl» comes too early: refine' ⟨_, ?b, fun base kb nb => My.law_fn T kb nb⟩; exact fun s u => .of_eq rfl
 case S => exact fun w H a ns hl hO hS => ..
 case C => exact ..
(the tactic k_is has no namespace: write k_is) -/
namespace L2
open PySem PySem.Spec PyProof.Rows
noncomputable def zp(s:Stmt):Arguments:=match s with
 | .FunctionDef _ a _ _ _ _ _ _ _ _=>a
 |_=>{posonlyargs:=[],args:=[],vararg:=none,kwonlyargs:=[],kw_defaults:=[],kwarg:=none,defaults:=[]}
noncomputable def dU(s:Stmt):List Stmt:=match s with
 | .FunctionDef _ _ b _ _ _ _ _ _ _=>b
 |_=>[]
noncomputable def zo(s:Stmt):Scope:=match s with
 | .FunctionDef _ _ _ _ _ _ sc _ _ _=>sc
 |_=>{kind:=.function,names:=[],isGenerator:=false,isCoroutine:=false}
abbrev E0:XK:=λ_ _ _=>False
structure Fun(K:aC)(x qual:Str)(st:Stmt)(f:Addr)(fd:FuncData):Prop where
 ex:∃(oc:ae) (od:Option Addr) (kV doc pm:ae) (an:Option Addr) (cdv ct:ae) (osl:Array (Option ae)),
  fd=cf x qual (zp st) (dU st) (zo st) .none kV doc pm an cdv ct/\K.lookup f=some ⟨oc,od,.func fd,osl⟩/\PySem.W.codeIn K cdv qual=true
 kp:cB K (.ref f)=true
section
variable{P:aA}{w:av}{K:aC}{mg:Str->Option ae}{base:Heap}
theorem Fun.binds{x qual:Str}{st:Stmt}{f:Addr}{fd:FuncData}{ps:List Str}(F:Fun K x qual st f fd)
  (h:∀(kV doc pm:ae) (an:Option Addr) (cdv ct:ae) (us:List ae),us.length=ps.length->bindArgs (cf x qual (zp st) (dU st) (zo st) .none kV doc pm an cdv ct) ⟨us,[]⟩=pure (ps.zip us)):Binds K fd ps []:=by
 obtain⟨oc,od,kV,doc,pm,an,cdv,ct,osl,rfl,lk,hcd⟩:=F.ex;exact .all (h kV doc pm an cdv ct)
theorem oE{x qual:Str}{st:Stmt}{f:Addr}{oc:ae}{od an:Option Addr}{osl:Array (Option ae)}{kV doc pm cdv ct:ae}(l:K.lookup f=some ⟨oc,od,.func (cf x qual (zp st) (dU st) (zo st) .none kV doc pm an cdv ct),osl⟩)
  (c:PySem.W.codeIn K cdv qual=true) (k:cB K (.ref f)=true):Fun K x qual st f (cf x qual (zp st) (dU st) (zo st) .none kV doc pm an cdv ct):=⟨⟨oc,od,kV,doc,pm,an,cdv,ct,osl,rfl,l,c⟩,k⟩
end
section
variable{X:Cx}
end
noncomputable def qa(H H':Hp):Prop:=∀b o,H b=some o->H' b=some o
theorem qa.refl(H:Hp):qa H H:=λ_ _ h=>h
theorem qa.trans{H H1 H2:Hp}(a:qa H H1)(b:qa H1 H2):qa H H2:=λc o h=>b c o (a c o h)
theorem qa.free{H H':Hp}(e:qa H H'){l:Addr}(h:H' l=Option.none):H l=Option.none:=by
 cases q:H l with
 |none=>rfl
 |some o=>
  rw[e l o q]at h;cases h
theorem qa.seq{K:aC}{H H':Hp}{a:Addr}{xs:List V}(e:qa H H')(h:SqL K H a xs):SqL K H' a xs:=by
 rcases h with (h|⟨o,h⟩)|h
 ·exact .inl (.inl (e _ _ h))
 ·exact .inl (.inr ⟨o,e _ _ h⟩)
 ·exact .inr h
noncomputable def eX(elt:Expr)(gens:List b5)(scope:a9)(pos:Pos)(d:Nat)(acc:ae)(env:Env):Sem Unit:=
 match gens[d+1]? with
 |some g'=>do
  let x <-eval g'.iter env
  standAt g'.iter.pos
  let x <-foldedSetIterable g'.iter env x
  let _ <-runOwn (.compStart (.ListComp elt gens scope pos) (d+1) (<-holding [x] (pyIter x)) acc env) env
  pure ()
 |none=>do
  let _ <-call (.builtin "list.append") [acc,<-eval elt env]
  pure ()
theorem sT{elt:Expr}{gens:List b5}{scope:a9}{pos:Pos}{d:Nat}{g:b5}{it acc:ae}{env:Env}(hg:gens[d]? = some g)(ha:g.is_async=0)
  (hn:∀g',gens[d+1]? = some g'->g'.is_async=0) :
  compTurn (.ListComp elt gens scope pos) d it acc env=(do
   standAt g.iter.pos
   match <-pyNext it with
   |none=>pure (.done .next)
   |some v=>
    letOwnedTupleGo g.target it v
    assign g.target env v
    let ok <-(forIn g.ifs true λc r=>if r=true then do let ok <-isTrue c env (eval c env);pure (dq ok)else pure (dq r))
    if ok then
     eX elt gens scope pos d acc env
     again (.compLoop (.ListComp elt gens scope pos) d it acc env)
    else again (.compLoop (.ListComp elt gens scope pos) d it acc env)):=by
 unfold compTurn;cases e:gens[d+1]? with
 |none=>
  simp only[hg,ha,e,eX]
  rfl
 |some g'=>
  have ha':=hn g' e;simp only[hg,ha,e,ha',eX];simp only[bne_self_eq_false,aW,if_false,bind_assoc,pure_bind]
  rfl
theorem wN{prog:aA}{w:av}{A:az}{R:Result->af->Prop}{s:af}{elt:Expr}{gens:List b5}{scope:a9}{pos:Pos}{d:Nat}{g:b5}{it acc:ae}{env:Env}
  (hg:gens[d]? = some g) (ha:g.is_async=0)
  (h0:codeAny (aq prog w) A (.compLoop (.ListComp elt gens scope pos) d it acc env) R s)
  (h:ao (aq prog w) A (pyIter it) (λit' s'=>codeAny (aq prog w) A (.compLoop (.ListComp elt gens scope pos) d it' acc env) R s')
   (notedBy (aq prog w) A env λx s'=>R (.error x) s') s) :
  codeAny (aq prog w) A (.compStart (.ListComp elt gens scope pos) d it acc env) R s:=by
 refine codeAny_of_tree ?_;show ao _ _ ((compStart (.ListComp elt gens scope pos) d it acc env).onRaise (λx=>do noteFrame x env;standAt theWindowsPlace)) _ _ s;refine wpAny_notedAt ?_;unfold compStart;have e2:(clausesOf (.ListComp elt gens scope pos))[d]? = some g:=hg;simp only[e2];rw[if_neg (by show ¬ (g.is_async != 0)=true;simp[ha])];show ao _ _ (ask>>=_) _ _ s;refine ah (wpAny_askSetting (wpAny_ite ?_));split
 ·first
   |exact ah (aB (aB (aw rfl h0)))
   |exact aB (aw rfl h0)
 ·first
   |exact ah (wpAny_rule (ah (wpAny_standAt (ah (bK h (λit' s' h'=>aB (aw rfl h')) λ_ _ x=>x)))))
   | (refine ah (wpAny_rule ?_);show ao _ _ (standAt g.iter.pos>>=_) _ _ s;exact ah (wpAny_standAt (ah (bK h (λit' s' h'=>aB (aw rfl h')) λ_ _ x=>x))))
noncomputable def PTs(Y:Cx)(ifs:List Expr)(t:TT):Prop:=
 ∀(pins:List (Addr×Obj)) (s:af) (σ:St) (H:Hp) (Q:Bool->Hp->Prop),Inv Y pins σ H s->t σ H Q ->
  ao (aq Y.prog Y.w) Y.A (forIn ifs true λc r=>if r=true then do let ok <-isTrue c Y.env (eval c Y.env);pure (dq ok)else pure (dq r)) (TP Y pins σ Q) Y.xe s
noncomputable def u4:TT:=λ_ H Q=>Q true H
theorem CM{Y:Cx}:PTs Y [] u4:=λ_ _ _ H _ I h=>wpAny_tests_nil ⟨H,I,h⟩
theorem yd{Y:Cx}{c:Expr}{t:TT}(hc:PT Y c t):PTs Y [c] t:=λpins s σ H Q I h=>wpAny_tests_one (hc pins s σ H Q I h)
noncomputable def PB(Y:Cx)(m:Sem Unit)(t:TS):Prop:=
 ∀(pins:List (Addr×Obj)) (s:af) (σ:St) (H:Hp) (D:Ends),Inv Y pins σ H s->t D σ H ->
  ao (aq Y.prog Y.w) Y.A m (λ_ s'=>∃σ' H',Inv Y pins σ' H' s'/\D.nx σ' H') Y.xe s
section
variable{Y:Cx}{elt:Expr}{gens:List b5}{scope:a9}{pos:Pos}{d:Nat}
noncomputable def jj(acc:Addr)(te:TE):TS:=λD σ H=>te σ H λy H1=>∃xs,H1 acc=some (.lst xs)/\xs.length<aL/\D.nx σ (upd H1 acc (.lst (xs++[y])))
theorem nZ{acc:Addr}{te:TE}(hn:gens[d+1]? = none)(he:PE Y elt te):PB Y (eX elt gens scope pos d (.ref acc) Y.env) (jj acc te):=by
 intro pins s σ H D I h;unfold eX;rw[hn];refine ah (thn (he pins s σ H _ I h) λu s1 ⟨y,H1,I1,r1,xs,hx,hz,q⟩=>?_);refine ah (thn (o_ pins s1 σ H1 (.ref acc) [y] (.ref acc) [u] (λ_ H'=>D.nx σ H') I1 rfl (.cons r1 .nil) ⟨acc,xs,y,rfl,rfl,hx,hz,q⟩) λ_ s2 ⟨_,H2,I2,_,q2⟩=>?_);exact aB ⟨σ,H2,I2,q2⟩
theorem Bl{g:b5}{it:Addr}{acc:ae}{fp:List Addr}{tn:Nat->Heap->Prop}{J:It}{tg:TG}{tt:TT}{tb:TS}(hc:Y.calm=true)(hx:∀e s,¬ Y.xe e s)(hg:gens[d]? = some g)(ha:g.is_async=0)
  (hn:∀g',gens[d+1]? = some g'->g'.is_async=0) (T:Turn Y.prog Y.w Y.K g.target J fp it tn) (pg:PG Y g.target tg) (pt:PTs Y g.ifs tt) (pb:PB Y (eX elt gens scope pos d acc Y.env) tb)
  {pins:List (Addr×Obj)}{s:af}{σ:St}{H:Hp}{D:Ends} (I:Inv Y pins σ H s) (st:tn 0 s.heap) (fr:∀b∈fp,dy Y pins H b)
  (h:∃W:Nat->Nat->St->Hp->Prop,(∃m,W 0 m σ H)/\∀i m σ H,W i m σ H ->
   (J.stop i H/\D.nx σ H)\/(J.go i H/\∃N:St->Hp->Prop,(∀σ' H',N σ' H'->∃m',m'<m/\W (i+1) m' σ' H')/\∀x H',J.yld i H x H'->tg x σ H' λσ2 H2=>iD tt tb gZ {D with nx:=N,ct:=N,bk:=D.nx} σ2 H2)) :
  codeAny (aq Y.prog Y.w) Y.A (.compLoop (.ListComp elt gens scope pos) d (.ref it) acc Y.env) (λr s'=>r=.ok .next/\∃σ' H',Inv Y pins σ' H' s'/\D.nx σ' H') s:=by
 obtain⟨W,⟨m0,w0⟩,turn⟩:=h;have stat:∀{H':Hp},(∀b∈fp,H' b=none)->∀b∈fp,dy Y pins H' b:=λhn b hb=>⟨hn b hb,(fr b hb).2⟩
 refine codeAny_loop rfl (λn s'=>∃i σ' H',Inv Y pins σ' H' s'/\tn i s'.heap/\(∀b∈fp,H' b=none)/\W i n σ' H') ?_ m0 ⟨0,σ,H,I,st,λb hb=>(fr b hb).1,w0⟩;rintro n s3 ⟨i,σ3,H3,I3,st3,fr3,w3⟩;show ao _ Y.A ((compTurn (.ListComp elt gens scope pos) d (.ref it) acc Y.env).onRaise (λx=>do noteFrame x Y.env;theTreesLotGoes x)) _ _ s3;refine wpAny_noted ?_;rw[sT hg ha hn];have nox:∀{E:ae->af->Prop} (e:ae) (s:af),Y.xe e s->E e s:=λe s z=>absurd z (hx e s)
 refine ah (wpAny_standAt ?_);rcases turn i n σ3 H3 w3 with ⟨stop,qn⟩|⟨go,N,hN,step⟩
 ·refine ah (thn (T.done Y rfl rfl rfl hc i pins s3 σ3 H3 _ I3 (stat fr3) st3 stop) λr s4 ⟨hr,I4⟩=>?_);subst hr;exact aB ⟨rfl,σ3,H3,I4,qn⟩
 ·refine ah (thn (T.item Y rfl rfl rfl hc i pins s3 σ3 H3 _ I3 (stat fr3) st3 go) λr s4 ⟨u,hr,h4⟩=>?_);subst hr;refine ah (thn h4 λ_ s5 ⟨x,H5,I5,r5,y5,st5,fr5⟩=>?_);have I5':=I5.pinned (stat fr5) (T.obj _ _ st5);refine ah (bK (pg _ s5 σ3 H5 x u _ I5' r5 (step x H5 y5)) (λ_ s6 ⟨σ6,H6,I6,q6⟩=>?_) nox);have again:∀{s7:af}{σ7:St}{H7:Hp},Inv Y (pins++g_ fp s5.heap) σ7 H7 s7->N σ7 H7->∃m,m<n/\∃i σ' H',Inv Y pins σ' H' s7/\tn i s7.heap/\(∀b∈fp,H' b=none)/\W i m σ' H':=λ{s7 σ7 H7} I7 n7=>by
   obtain⟨m',hm,w7⟩:=hN σ7 H7 n7;refine⟨m',hm,i+1,σ7,H7,I7.unpinned,T.keep _ _ _ st5 λb hb o e=>(I7.pin (b,o) (bZ _ (bZ _ (jv hb e)))).1,λb hb=>?_,w7⟩;obtain⟨o,e,d⟩:=T.obj _ _ st5 b hb;exact(I7.pin (b,o) (bZ _ (bZ _ (jv hb e)))).2.1
  refine ah (bK (pt _ s6 σ6 H6 _ I6 q6) (λb s7 ⟨H7,I7,q7⟩=>?_) nox);cases b with
  |true=>
   rw[if_pos rfl];rw[if_pos rfl]at q7;refine ah (bK (pb _ s7 σ6 H7 _ I7 q7) (λ_ s8 ⟨σ8,H8,I8,q8⟩=>?_) nox);exact aB ⟨rfl,again I8 q8⟩
  |false=>
   rw[if_neg dA];rw[if_neg dA]at q7;exact aB ⟨rfl,again I7 q7⟩
end
theorem kc{env:Env}:∀{names:List (Str×aS)}{cs:List (Str×Addr)},(∀x∈names,x.2=.free->∃c,env.cells.lookup x.1=some c) ->
  ∃cl,(forIn names cs (λ(x:Str×aS) (cs:List (Str×Addr))=>if (x.2==bU)=true then do let c <-cellOf env x.1;pure (dq ((x.1,c)::cs))else pure (dq cs)):Sem (List (Str×Addr)))=pure cl /\
   (∀x c,cl.lookup x=some c->env.cells.lookup x=some c\/cs.lookup x=some c)/\(∀x,(∃c,cs.lookup x=some c)->∃c,cl.lookup x=some c)/\∀x∈names,x.2=.free->∃c,cl.lookup x.1=some c
 | [],cs,_=>⟨cs,by rw[List.forIn_nil],λ_ _ h=>.inr h,λ_ h=>h,λ_ h=>nomatch h⟩
 | (n,k)::r,cs,h=>by
  rw[List.forIn_cons];by_cases hk:k=.free
  ·subst hk;obtain⟨c,hc⟩:=h (n,.free) a8 rfl;have e:cellOf env n=pure c:=by
    have hc':env.cells.lookup n=some c:=hc;unfold cellOf;rw[hc']
   obtain⟨cl,e1,e2,e3,e4⟩:=kc (names:=r) (cs:=(n,c)::cs) λx hx=>h x (aV _ hx)
   refine⟨cl,?_,λx c' q=>?_,λx q=>e3 x ?_,λx hx hf=>?_⟩
   ·simp only[beq_self_eq_true,if_true,e,pure_bind];exact e1
   ·rcases e2 x c' q with z|z
    ·exact .inl z
    ·rw[bC]at z;by_cases hxn:(x==n)=true
     ·rw[hxn]at z;have:x=n:=by simpa using hxn
      subst this;cases z;exact .inl hc
     ·have hxn':(x==n)=false:=by simpa using hxn
      rw[hxn']at z;exact .inr z
   ·rw[bC];by_cases hxn:(x==n)=true
    ·rw[hxn];exact⟨c,rfl⟩
    ·have hxn':(x==n)=false:=by simpa using hxn
     rw[hxn'];exact q
   ·rcases aN.mp hx with z|z
    ·subst z;exact e3 n ⟨c,by rw[bC,beq_self_eq_true]⟩
    ·exact e4 x z hf
  ·have hk':(k==bU)=false:=by simpa using hk
   obtain⟨cl,e1,e2,e3,e4⟩:=kc (names:=r) (cs:=cs) λx hx=>h x (aV _ hx)
   refine⟨cl,?_,e2,e3,λx hx hf=>?_⟩
   ·simp only[hk',aW,if_false,pure_bind];exact e1
   ·rcases aN.mp hx with z|z
    ·subst z;exact absurd hf hk
    ·exact e4 x z hf
theorem n9{env:Env}{scope:a9}(h:∀x∈scope.names,x.2=.free->∃c,env.cells.lookup x.1=some c) :
  ∃cl,closureFor scope env=pure cl/\(∀x c,cl.lookup x=some c->env.cells.lookup x=some c)/\∀x∈scope.names,x.2=.free->∃c,cl.lookup x.1=some c:=by
 obtain⟨cl,e1,e2,_,e4⟩:=kc (env:=env) (names:=scope.names) (cs:=[]) h;refine⟨cl,?_,λx c q=>(e2 x c q).elim (λz=>z) (λz=>by simp at z),e4⟩;have e:closureFor scope env=(forIn scope.names [] (λ(x:Str×aS) (cs:List (Str×Addr))=>if (x.2==bU)=true then do let c <-cellOf env x.1;pure (dq ((x.1,c)::cs))else pure (dq cs))>>=λcs=>pure cs):=rfl;rw[e,e1,pure_bind]
theorem jm{env:Env}:∀{names:List (Str×aS)}{x:Str}{k:aS},
  (names.map λ(n,k)=>if (k==bU&&env.scope.kind==.function&&env.kindOf n==some .cell)then (n,aS.cell)else (n,k)).lookup x=some k ->
  names.lookup x=some k\/(k=.cell/\names.lookup x=some .free)
 | [],_,_,h=>by simp at h
 | (n,k')::r,x,k,h=>by
  have ih:=@jm env r x k;have h':List.lookup x ((if (k'==bU&&env.scope.kind==.function&&env.kindOf n==some .cell)=true then (n,aS.cell)else (n,k'))::r.map (λ(n,k)=>if (k==bU&&env.scope.kind==.function&&env.kindOf n==some .cell)then (n,aS.cell)else (n,k)))=some k:=h;cases hx:x==n with
  |true=>
   by_cases hc:(k'==bU&&env.scope.kind==.function&&env.kindOf n==some .cell)=true
   ·rw[if_pos hc]at h';simp only[bC,hx]at h';cases h';have:k'=.free:=by
     have z:(k'==bU)=true:=by
      cases q:(k'==bU)with
      |true=>rfl
      |false=>rw[q]at hc;simp at hc
     simpa using z
    subst this;exact .inr ⟨rfl,by simp[bC,hx]⟩
   ·rw[if_neg hc]at h';simp only[bC,hx]at h';cases h';exact .inl (by simp[bC,hx])
  |false=>
   have h2:(r.map (λ(n,k)=>if (k==bU&&env.scope.kind==.function&&env.kindOf n==some .cell)then (n,aS.cell)else (n,k))).lookup x=some k:=by
    by_cases hc:(k'==bU&&env.scope.kind==.function&&env.kindOf n==some .cell)=true
    ·rw[if_pos hc]at h';simpa only[bC,hx]using h'
    ·rw[if_neg hc]at h';simpa only[bC,hx]using h'
   rcases ih h2 with z|z
   ·exact .inl (by simpa only[bC,hx]using z)
   ·exact .inr ⟨z.1,by simpa only[bC,hx]using z.2⟩
noncomputable def gC(names:List (Str×aS)):List Str:=(names.filter λy=>y.2==.cell).map (·.1)
theorem jU:∀(names:List (Str×aS)) (n:Nat) (a b:List (Str×Addr)),bu n names (a++b)=bu n names a++b
 | [],_,_,_=>rfl
 | (x,k)::r,n,a,b=>by
  unfold bu;split
  ·exact jU r (n+1) ((x,n)::a) b
  ·exact jU r n a b
theorem kr{x:Str}{c:Addr}:∀{names:List (Str×aS)}{n:Nat}{a:List (Str×Addr)},(x,c)∈bu n names a->(x,c)∈a\/(x,aS.cell)∈names
 | [],_,_,h=>.inl h
 | (y,k)::r,n,a,h=>by
  unfold bu at h;split at h
  ·rename_i hk
   rcases kr h with z|z
   ·rcases aN.mp z with q|q
    ·have hk:k=.cell:=by simpa using hk
     cases q;exact .inr (by rw[hk];exact a8)
    ·exact .inl q
   ·exact .inr (aV _ z)
  ·rcases kr h with z|z
   ·exact .inl z
   ·exact .inr (aV _ z)
theorem tU{M:Model}{A:az}{E:ae->af->Prop}{s:af}{scope:a9}{globals:Addr}{cl:List (Str×Addr)}{qual:Str}{env:Env}{Q:Env->af->Prop}
  (hQ:∀h₁,h₁.Ns s.heap.objs.size (λ_=>none)->(∀b o,s.heap.get? b=some o->h₁.get? b=some o)->CellsOk h₁ (s.heap.objs.size+1) (bu (s.heap.objs.size+1) scope.names []) ->
   Q (newEnv scope s.heap.objs.size globals (bu (s.heap.objs.size+1) scope.names []++cl) qual none .none (some env) builtinsNs) {s with heap:=h₁}) :
  ao M A (newFunctionEnv scope globals cl [] qual none .none (some env)) Q E s:=by
 simp only[newFunctionEnv,Option.isSome_some,if_true];refine ah (wpAny_alloc ?_);refine ah (wpAny_layCells _ (λname kind cells=>by cases hkc:kind==aS.cell<;>simp[hkc]) _ _ _ _ ?_);have ok:=cellsFrom_ok scope.names (s.heap.push {cls:=.type "dict",data:=.dict #[]}) (s.heap.objs.size+1) [] ⟨λ_ _ hm=>(nomatch hm),List.Pairwise.nil⟩ (by rw[cc];exact aD _);rw[cc]at ok;rw[show ({s with heap:=s.heap.push {cls:=.type "dict",data:=.dict #[]}}:af).heap.objs.size=s.heap.objs.size+1 from cc ..];rw[show cl=[]++cl from rfl,jU];rw[List.forIn_nil];exact ah (aB (aB (hQ _ ((Heap.Ns.new s.heap (.type "dict")).keeps (pushCells_keeps _ _)) (λb o e=>pushCells_keeps _ _ b o (Heap.get?_push_of_some _ e)) ok)))
noncomputable def zC(X:Cx)(NY:List Str)(scope:a9)(cl:List (Str×Addr))(C:Addr)(s₀:af)(H₀:Hp)(fp:List Addr):Cx where
 prog:=X.prog
 w:=X.w
 K:=X.K
 mg:=X.mg
 base:=X.base
 A:=X.A
 N:=NY
 s₀:=s₀
 H₀:=H₀
 env:=compEnvC scope (bu (C+1) scope.names []++cl) C X.env
 outer:=X.stack
 stack:=X.stack
 ex:=fp
 fn:=λx=>(gC scope.names).contains x
 calm:=X.calm
 pn:=[]
 xe:=λ_ _=>False
noncomputable def caps(cap:List (Option Nat))(σ:St):St:=cap.map λo=>o.bind λj=>(σ[j]?).join
noncomputable def pX(X:Cx)(NY:List Str)(cap:List (Option Nat))(scope:a9):Prop:=
 cap.length=NY.length/\∀(i j:Nat),cap[i]? = some (some j)->∃x,NY[i]? = some x/\X.N[j]? = some x/\scope.names.lookup x=some .free/\(X.env.kindOf x=some .cell\/X.env.kindOf x=some .free)
structure dH(X:Cx)(NY:List Str)(cap:List (Option Nat))(scope:a9):Prop where
 kind:scope.kind=.function
 cells:∀y∈scope.names,y.2=.cell->scope.names.lookup y.1=some .cell
 names:∀y∈scope.names,y.2=.local->scope.names.lookup y.1=some .local
 free:∀y∈scope.names,y.2=.free->X.env.kindOf y.1=some .cell\/X.env.kindOf y.1=some .free
 cap:pX X NY cap scope
theorem As{cap:List (Option Nat)}{σ:St}{i:Nat}{v:V}(h:(caps cap σ)[i]? = some (some v)):∃j,cap[i]? = some (some j)/\σ[j]? = some (some v):=by
 unfold caps at h;rw[List.getElem?_map]at h;cases e:cap[i]? with
 |none=>rw[e]at h;simp at h
 |some o=>
  rw[e]at h;cases o with
  |none=>simp at h
  |some j=>
   refine⟨j,rfl,?_⟩;have h':(σ[j]?).join=some v:=by simpa using h
   cases q:σ[j]? with
   |none=>rw[q]at h';cases h'
   |some z=>rw[q]at h';exact congrArg some h'
theorem wA{X:Cx}{pins:List (Addr×Obj)}{σ:St}{H:Hp}{s:af}{NY:List Str}{cap:List (Option Nat)}{scope:a9}{cl:List (Str×Addr)}{fp:List Addr}{h₁:Heap}{m:Str->Option ae}
  (I:Inv X pins σ H s) (S:dH X NY cap scope) (hsub:∀x c,cl.lookup x=some c->X.env.cells.lookup x=some c) (hall:∀x∈scope.names,x.2=.free->∃c,cl.lookup x.1=some c)
  (hf:∀b∈fp,dy X pins H b) (hlt:∀b∈fp,b<s.heap.objs.size) (hn:h₁.Ns s.heap.objs.size m) (hk:∀b o,s.heap.get? b=some o->h₁.get? b=some o) (hcs:CellsOk h₁ (s.heap.objs.size+1) (bu (s.heap.objs.size+1) scope.names [])) {tk:Nat} :
  Inv (zC X NY scope cl s.heap.objs.size s H fp) [] (caps cap σ) H {s with heap:=h₁,toks:=tk}:=by
 have relx:∀x,(compEnvC scope (bu (s.heap.objs.size+1) scope.names []++cl) s.heap.objs.size X.env).kindOf x=some .cell\/(compEnvC scope (bu (s.heap.objs.size+1) scope.names []++cl) s.heap.objs.size X.env).kindOf x=some .free->scope.names.lookup x=some .free\/scope.names.lookup x=some .cell:=λx hx=>by
  rcases hx with q|q
  ·rcases jm (env:=X.env) (names:=scope.names) (x:=x) (k:=.cell) q with z|z
   ·exact .inr z
   ·exact .inl z.2
  ·rcases jm (env:=X.env) (names:=scope.names) (x:=x) (k:=.free) q with z|z
   ·exact .inl z
   ·exact .inl z.2
 have cnew:∀x c,cl.lookup x=some c->c<s.heap.objs.size:=λx c e=>by
  obtain⟨v,q⟩:=I.cell x c (hsub x c e);exact q.lt
 -- a cell is one of its own, or one from around
 have two:∀x c,(bu (s.heap.objs.size+1) scope.names []++cl).lookup x=some c->(x,c)∈bu (s.heap.objs.size+1) scope.names []\/cl.lookup x=some c:=λx c e=>by
  rw[List.lookup_append]at e;cases q:(bu (s.heap.objs.size+1) scope.names []).lookup x with
  |none=>rw[q]at e;exact .inr e
  |some c'=>rw[q]at e;cases e;exact .inl (b7 q)
 have own1:∀x c,(x,c)∈bu (s.heap.objs.size+1) scope.names []->scope.names.lookup x=some .cell:=λx c e=>by
  rcases kr e with z|z
  ·cases z
  ·exact S.cells _ z rfl
 have ownA:∀x c,(x,c)∈bu (s.heap.objs.size+1) scope.names []->s.heap.objs.size<c:=λx c e=>(hcs.empty x c e).2
 have frl:∀x c,scope.names.lookup x=some .free->cl.lookup x=some c->(bu (s.heap.objs.size+1) scope.names []++cl).lookup x=some c:=λx c e1 e2=>by
  rw[List.lookup_append];cases q:(bu (s.heap.objs.size+1) scope.names []).lookup x with
  |none=>rw[e2];rfl
  |some c'=>have:=own1 x c' (b7 q);rw[e1]at this;cases this
 refine⟨⟨I.ok.mod,S.kind,I.ok.glob,I.ok.blt,aD _,λx y c e1 e2=>?_,λx hx=>?_,λx c e e2=>?_,I.ok.hd,I.ok.frames,.inl rfl,λb hb=>?_,λb o e=>I.bs b o e,bB I.ok.bsz I.sz,λb o e hb=>?_,λb hb z=>?_,I.stack,I.stkFree⟩,
  rfl,I.bare,Un.kept hk,⟨m,hn,λi x v e1 e2 e3=>?_⟩,λx c e=>?_,I.hok.fresh (aD _),λx c e=>?_,λp hp=>absurd (show p∈([]:List (Addr×Obj))from hp) (by simp),I.hok.kept hk,?_⟩
 ·rcases two x c e1 with z1|z1<;>rcases two y c e2 with z2|z2
  ·exact name_of_addr hcs.apart z1 z2
  ·exact absurd (Nat.lt_trans (cnew y c z2) (ownA x c z1)) (bM _)
  ·exact absurd (Nat.lt_trans (cnew x c z1) (ownA y c z2)) (bM _)
  ·exact I.ok.inj x y c (hsub x c z1) (hsub y c z2)
 ·rcases relx x hx with z|z
  ·obtain⟨c,hc⟩:=hall (x,.free) (b7 z) rfl;exact⟨c,frl x c z hc⟩
  ·obtain⟨c,hc⟩:=iT (n:=s.heap.objs.size+1) z;refine⟨c,?_⟩;show (bu (s.heap.objs.size+1) scope.names []++cl).lookup x=some c;rw[List.lookup_append,hc];rfl
 ·have e:(gC scope.names).contains x=true:=e;have hm:scope.names.lookup x=some .cell:=by
   simp only[gC,List.contains_iff_mem,bt,List.mem_filter,beq_iff_eq]at e;obtain⟨y,⟨y1,y2⟩,rfl⟩:=e;exact S.cells y y1 y2
  rcases two x c e2 with z|z
  ·exact Nat.le_of_lt (ownA x c z)
  ·obtain⟨c',hc⟩:=iT (n:=s.heap.objs.size+1) hm;have e2:(bu (s.heap.objs.size+1) scope.names []++cl).lookup x=some c:=e2;rw[List.lookup_append,hc]at e2;cases e2;exact Nat.le_of_lt (ownA x _ (b7 hc))
 ·obtain⟨f0,f1,f2,f3,f4,f5⟩:=hf b hb;refine⟨a6 (hlt b hb),λx c e=>?_⟩;rcases two x c e with z|z
  ·exact λw=>absurd (Nat.lt_trans (ownA x c z) (w▸hlt b hb)) (bM _)
  ·exact f4 x c (hsub x c z)
 ·obtain⟨f0,f1,f2,f3,f4,f5⟩:=hf b hb;rcases f3 with z|z
  ·exact I.ok.noex b o e z
  ·exact absurd (bE (aK e) (bB I.ok.bsz z)) (bM _)
 ·obtain⟨f0,f1,f2,f3,f4,f5⟩:=hf b hb;rcases aN.mp (I.stkSub b z)with q|q
  ·exact f1 q
  ·exact f2 q
 ·obtain⟨j,c1,c2⟩:=As e2;obtain⟨x',n1,n2,n3,n4⟩:=S.cap.2 i j c1;have ex:x'=x:=bS (n1.symm.trans e1);subst ex;obtain⟨m',_,hl⟩:=I.loc;obtain⟨u,r,l⟩:=hl j x' v n2 c2 (n4.elim (λz=>.inr (.inl z)) λz=>.inr (.inr z));refine⟨u,r,.inr ⟨?_,?_⟩⟩
  ·rcases e3 with z|z|z
   ·rcases jm (env:=X.env) (names:=scope.names) (x:=x') (k:=.local) z with q|q
    ·rw[n3]at q;cases q
    ·cases q.1
   ·exact .inl z
   ·exact .inr z
  ·rcases l with ⟨kk,_⟩|⟨_,c,ec,ic⟩
   ·rcases n4 with z|z
    ·rw[kk]at z;cases z
    ·rw[kk]at z;cases z
   ·obtain⟨c',ec'⟩:=hall (x',.free) (b7 n3) rfl;have:=hsub x' c' ec';rw[ec]at this;cases this;obtain⟨o,ho,hd⟩:=ic;exact⟨c,frl x' c n3 ec',o,hk _ _ ho,hd⟩
 ·rcases two x c e with z|z
  ·exact⟨_,(hcs.empty x c z).1⟩
  ·obtain⟨v,o,ho,hd⟩:=I.cell x c (hsub x c z);exact⟨v,o,hk _ _ ho,hd⟩
 ·rcases two x c e with z|z
  ·exact I.hok.fresh (Nat.le_of_lt (ownA x c z))
  ·exact I.freeC x c (hsub x c z)
 ·show (caps cap σ).length=NY.length;unfold caps;rw[aP];exact S.cap.1
noncomputable def kM(cap:List (Option Nat))(wi:TI)(tg:TG)(tt:TT)(tb:Addr->TS):TE:=λσ H Q=>wi σ H λJ H1=>∀acc,H1 acc=none ->
 ∃W:Nat->Nat->St->Hp->Prop,(∃m,W 0 m (caps cap σ) (upd H1 acc (.lst [])))/\∀i m τ H,W i m τ H ->
  (J.stop i H/\(Ends.mk (λ_ H=>Q (.ref acc) H) (λ_ _=>False) (λ_ _=>False) (λ_ _=>False)).nx τ H)\/(J.go i H/\∃N:St->Hp->Prop,(∀σ' H',N σ' H'->∃m',m'<m/\W (i+1) m' σ' H')/\∀x H',J.yld i H x H' ->
   tg x τ H' λσ2 H2=>iD tt (tb acc) gZ {(Ends.mk (λ_ H=>Q (.ref acc) H) (λ_ _=>False) (λ_ _=>False) (λ_ _=>False))with nx:=N,ct:=N,bk:=(Ends.mk (λ_ H=>Q (.ref acc) H) (λ_ _=>False) (λ_ _=>False) (λ_ _=>False)).nx} σ2 H2)
structure Loose(X:Cx)(pins:List (Addr×Obj))(C:Addr):Prop where
 loc:C≠X.env.locals
 cell:∀x c,X.env.cells.lookup x=some c->c≠C
 up:X.s₀.heap.objs.size<=C
 pin:∀p∈X.pn++pins,p.1≠C
theorem Loose.turn{X:Cx}{pins:List (Addr×Obj)}{C:Addr}{σ:St}{H:Hp}{s:af}{h':Heap}(L:Loose X pins C)(I:Inv X pins σ H s)(hn:H C=none)(hs:Heap.SameBut C s.heap h'):Inv X pins σ H {s with heap:=h'}:=
 I.turned (t':=s.toks) (it:=C) (λb o hb e=>(hs.2 b hb).trans e) hn L.loc (.inr L.up) L.cell L.pin
section
variable{X:Cx}{elt tgt it:Expr}{ifs:List Expr}{gs:List b5}{scope:a9}{pos:Pos}{NY:List Str}{cap:List (Option Nat)}{wi:TI}{tg:TG}{tt:TT}{tb:Addr->TS}
theorem mi{Q:VK}{pins:List (Addr×Obj)}{σ:St}{H:Hp}{s s2:af}{cl:List (Str×Addr)}{itv:ae}{E:ae->af->Prop}{use:Option (ae->Sem Unit)}{QQ:ae->af->Prop}
  (hc:X.calm=true) (S:dH X NY cap scope) (hng:∀g'∈gs,g'.is_async=0)
  (hsub:∀x c,cl.lookup x=some c->X.env.cells.lookup x=some c) (hall:∀x∈scope.names,x.2=.free->∃c,cl.lookup x.1=some c)
  (hb:∀cl C s₀ H₀ fp,PG (zC X NY scope cl C s₀ H₀ fp) tgt tg/\PTs (zC X NY scope cl C s₀ H₀ fp) ifs tt/\∀acc,PB (zC X NY scope cl C s₀ H₀ fp) (eX elt (⟨tgt,it,ifs,0⟩::gs) scope pos 0 (.ref acc) (zC X NY scope cl C s₀ H₀ fp).env) (tb acc))
  (h2:PIE X pins σ tgt (λJ H1=>∀acc,H1 acc=none ->
   ∃W:Nat->Nat->St->Hp->Prop,(∃m,W 0 m (caps cap σ) (upd H1 acc (.lst [])))/\∀i m τ H,W i m τ H ->
    (J.stop i H/\(Ends.mk (λ_ H=>Q (.ref acc) H) (λ_ _=>False) (λ_ _=>False) (λ_ _=>False)).nx τ H)\/(J.go i H/\∃N:St->Hp->Prop,(∀σ' H',N σ' H'->∃m',m'<m/\W (i+1) m' σ' H')/\∀x H',J.yld i H x H' ->
     tg x τ H' λσ2 H2=>iD tt (tb acc) gZ {(Ends.mk (λ_ H=>Q (.ref acc) H) (λ_ _=>False) (λ_ _=>False) (λ_ _=>False))with nx:=N,ct:=N,bk:=(Ends.mk (λ_ H=>Q (.ref acc) H) (λ_ _=>False) (λ_ _=>False) (λ_ _=>False)).nx} σ2 H2)) itv s2)
  (fin:∀(acc C:Addr) (s':af) (m:Str->Option ae) (H':Hp),s'.heap.Ns C m->Loose X pins C->Inv X pins σ H' s'->H' C=none->Q (.ref acc) H'->compPost (aq X.prog X.w) X.A E use QQ (.ref acc) C (.ok .next) s') :
  ao (aq X.prog X.w) X.A (newList []) (λacc s₃=>ao (aq X.prog X.w) X.A (newFunctionEnv scope X.env.globals cl [] X.env.qual none .none (some X.env)) (λcenv s₄=>
   codeAny (aq X.prog X.w) X.A (.compStart (.ListComp elt (⟨tgt,it,ifs,0⟩::gs) scope pos) 0 itv acc {cenv with scope:=relabel scope X.env}) (compPost (aq X.prog X.w) X.A E use QQ acc cenv.locals) s₄) E s₃) E s2:=by
 obtain⟨ia,fp,tn,J,H2,e,I2,T,st2,f2,q⟩:=h2;subst e;have hlt2:∀b∈fp,b<s2.heap.objs.size:=λb hb=>by
  obtain⟨o,ho,_⟩:=T.obj _ _ st2 b hb;exact aK ho
 refine di ?_;have hacc:H2 s2.heap.objs.size=none:=I2.hok.fresh (aD _);have I3:Inv X pins σ (upd H2 s2.heap.objs.size (.lst [])) {s2 with heap:=s2.heap.push {cls:=.type "list",dict:=none,data:=.seq ([]:List ae).toArray}}:=
  I2.laid (t':=s2.toks) (λb u e=>Heap.get?_push_of_some _ e) (aD _) ⟨br _,[],0,.nil,Heap.get?_push_size _ rfl⟩
 have hsz3:(s2.heap.push {cls:=.type "list",dict:=none,data:=.seq ([]:List ae).toArray}).objs.size=s2.heap.objs.size+1:=cc ..;generalize hs3:({s2 with heap:=s2.heap.push {cls:=.type "list",dict:=none,data:=.seq ([]:List ae).toArray}}:af)=s3 at I3 ⊢;have hsz:s3.heap.objs.size=s2.heap.objs.size+1:=by rw[<-hs3];exact hsz3
 have st3:tn 0 s3.heap:=T.keep _ _ _ st2 λb hb o e=>by rw[<-hs3];exact Heap.get?_push_of_some _ e
 have f3:∀b∈fp,dy X pins (upd H2 s2.heap.objs.size (.lst [])) b:=λb hb=>⟨by rw[qm (a6 (hlt2 b hb))];exact(f2 b hb).1,(f2 b hb).2⟩
 have hlt3:∀b∈fp,b<s3.heap.objs.size:=λb hb=>by rw[hsz];exact bR (hlt2 b hb)
 refine tU λh₁ hns₁ hk1 hcs=>?_
 have IY:=wA (tk:=s3.toks) I3 S hsub hall f3 hlt3 hns₁ hk1 hcs;have stY:tn 0 h₁:=T.keep _ _ _ st3 λb hb o e=>hk1 b o e
 obtain⟨pg,pt,pb⟩:=hb cl s3.heap.objs.size s3 (upd H2 s2.heap.objs.size (.lst [])) fp;have fY:∀b∈fp,dy (zC X NY scope cl s3.heap.objs.size s3 (upd H2 s2.heap.objs.size (.lst [])) fp) [] (upd H2 s2.heap.objs.size (.lst [])) b:=λb hb=>by
  obtain⟨g0,g1,g2,g3,g4,g5⟩:=f3 b hb;refine⟨g0,a6 (hlt3 b hb),λz=>?_,.inl hb,(IY.ok.exf b hb).2,λp hp=>absurd (show p∈([]:List (Addr×Obj))from hp) (by simp)⟩;rcases aN.mp (I3.stkSub b z)with w|w
  ·exact g1 w
  ·exact g2 w
 have L:=Bl (elt:=elt) (gens:=⟨tgt,it,ifs,0⟩::gs) (scope:=scope) (pos:=pos) (d:=0) (Y:=zC X NY scope cl s3.heap.objs.size s3 (upd H2 s2.heap.objs.size (.lst [])) fp) (acc:=.ref s2.heap.objs.size) hc (λ_ _ z=>z) rfl rfl
  (λg' hg'=>hng g' (List.mem_of_getElem? (i:=0) (by simpa using hg'))) T pg pt (pb s2.heap.objs.size) IY stY fY (q s2.heap.objs.size hacc)
 refine codeAny_mono (wN (elt:=elt) (gens:=⟨tgt,it,ifs,0⟩::gs) (scope:=scope) (pos:=pos) (d:=0) (env:=compEnvC scope (bu (s3.heap.objs.size+1) scope.names []++cl) s3.heap.objs.size X.env) rfl rfl L (T.self _ 0 _ _ _ stY L)) λr s' ⟨e,τ',H',I',q'⟩=>?_
 subst e;obtain⟨m',hn',_⟩:=id I'.loc;have hLne:s3.heap.objs.size≠X.env.locals:=Nat.ne_of_gt I3.lt;have hCne:∀x c,X.env.cells.lookup x=some c->c≠s3.heap.objs.size:=λx c e z=>by
  obtain⟨v,qv⟩:=I3.cell x c e;exact absurd qv.lt (by rw[z];exact bM _)
 have J1:Inv X pins σ H' s':=by
  refine I3.call' (ch:=fp) I'.os I'.base I'.hok I'.bare λb hb=>?_
  obtain⟨g0,g1,g2,g3,g4,g5⟩:=f3 b hb;exact⟨g3,g1,g4,g5⟩
 refine fin s2.heap.objs.size s3.heap.objs.size s' m' H' hn' ⟨hLne,hCne,I3.sz,λp hp z=>?_⟩ J1 I'.free q';have:=aK (I3.pin p hp).1;rw[z]at this;exact bM _ this
theorem yp(hc:X.calm=true)(S:dH X NY cap scope)(hi:PI X tgt it wi)
  (hb:∀cl C s₀ H₀ fp,PG (zC X NY scope cl C s₀ H₀ fp) tgt tg/\PTs (zC X NY scope cl C s₀ H₀ fp) ifs tt/\∀acc,PB (zC X NY scope cl C s₀ H₀ fp) (eX elt (⟨tgt,it,ifs,0⟩::gs) scope pos 0 (.ref acc) (zC X NY scope cl C s₀ H₀ fp).env) (tb acc))
  (hng:∀g'∈gs,g'.is_async=0:=by simp)
  (hs:∀x,foldedSetIterable it X.env x=pure x:=by intro _;rfl):PE X (.ListComp elt (⟨tgt,it,ifs,0⟩::gs) scope pos) (kM cap wi tg tt tb):=by
 intro pins s σ H Q I h;obtain⟨cl,hcl,hsub,hall⟩:=n9 (env:=X.env) (scope:=scope) λx hx hf=>I.ok.has x.1 (S.free x hx hf)
 rw[eval_ListComp];refine wpAny_comprehension_free (use:=none) rfl hs hcl S.kind S.names (thn (hi pins s σ H _ I h) λv s1 h1=>thn h1 λitv s2 h2=>?_);exact mi (s:=s) (H:=H) (use:=none) hc S hng hsub hall hb h2 λacc C s' m H' hn L I' hC q=>⟨m,hn,λh' hs'=>⟨.ref acc,H',L.turn I' hC hs',rfl,q⟩⟩
theorem By{i:Nat}{x:Str}{pos' spos:Pos}(hN:X.N.Nodup)(hix:X.N[i]? = some x)(hx:Loc X.env.scope x)(hc:X.calm=true)(S:dH X NY cap scope)(hi:PI X tgt it wi)
  (hb:∀cl C s₀ H₀ fp,PG (zC X NY scope cl C s₀ H₀ fp) tgt tg/\PTs (zC X NY scope cl C s₀ H₀ fp) ifs tt/\∀acc,PB (zC X NY scope cl C s₀ H₀ fp) (eX elt (⟨tgt,it,ifs,0⟩::gs) scope pos 0 (.ref acc) (zC X NY scope cl C s₀ H₀ fp).env) (tb acc))
  (hng:∀g'∈gs,g'.is_async=0:=by simp)
  (hsw:swapsWith (.ListComp elt (⟨tgt,it,ifs,0⟩::gs) scope pos) (some (.Name x pos')) spos.line X.env=pure true:=by rfl)
  (hf:X.fn x=true\/X.env.scope.names.lookup x=some .local:=by first|exact .inl rfl|exact .inr rfl|assumption)
  (hs:∀x,foldedSetIterable it X.env x=pure x:=by intro _;rfl) :
  PS X (.Assign [.Name x pos'] (.ListComp elt (⟨tgt,it,ifs,0⟩::gs) scope pos) spos) (i3 (kM cap wi tg tt tb) (fh i)):=by
 intro pins s σ H D I h;obtain⟨cl,hcl,hsub,hall⟩:=n9 (env:=X.env) (scope:=scope) λx hx hf=>I.ok.has x.1 (S.free x hx hf)
 rw[exec_Assign_Name_used _ _ _ _ hsw];refine ah (wpAny_standAt (ah ?_));show ao _ _ (do let _ <-comprehension (.ListComp elt (⟨tgt,it,ifs,0⟩::gs) scope pos) scope X.env _ (newList []) false (eval it X.env) (some (assign (.Name x pos') X.env))) _ _ s;refine ah (bK (wpAny_comprehension_free (use:=some (assign (.Name x pos') X.env)) (Q:=λ_ s'=>SP X pins D .next s') rfl hs hcl S.kind S.names (thn (hi pins s σ H _ I h) λv s1 h1=>thn h1 λitv s2 h2=>?_)) (λ_ s' q=>aB (aB q)) λ_ _ e=>e);refine mi (s:=s) (H:=H) (Q:=λx H1=>fh i x σ H1 D.nx) (use:=some (assign (.Name x pos') X.env)) hc S hng hsub hall hb h2 λacc C s' m H' hn L I1 hC q1=>?_
 show ao _ _ (assign (.Name x pos') X.env (.ref acc)) _ _ _;refine wpAny_assign_Name (ny (v:=.ref acc) I1 hN hix hx rfl (λs3 I3 ⟨a,hsa,ha⟩=>?_) hf);have hCa:C≠a:=by
  rcases ha with z|z
  ·rw[z];exact L.loc
  ·exact Ne.symm (L.cell x a z)
 exact⟨m,hn.sameBut hsa hCa,λh' hsb=>⟨_,H',L.turn I3 hC hsb,q1⟩⟩
end
theorem zx.there{P:aA}{w:av}{H:Hp}{h:Heap}{a:Addr}{o:HO}(x:zx P w H h a o):∃u,h.get? a=some u:=by
 cases o with
 |lst xs=>obtain⟨_,_,_,_,e⟩:=x;exact⟨_,e⟩
 |tup xs=>obtain⟨_,_,_,o,e,_⟩:=x;exact⟨_,e⟩
 |dK kvs=>obtain⟨_,_,_,_,o,_,_,e,_⟩:=x;exact⟨_,e⟩
 |dT kvs=>obtain⟨_,_,_,_,o,_,_,e,_⟩:=x;exact⟨_,e⟩
 |set S n=>obtain⟨o,_,_,_,e,_⟩:=x;exact⟨_,e⟩
 |ins C dx fs=>obtain⟨_,_,_,e,_⟩:=x;exact⟨_,e⟩
 |own y=>obtain⟨_,e⟩:=x;exact⟨_,e⟩
 |xd fs=>obtain⟨_,⟨_,_,_,e,_⟩,_⟩:=x;exact⟨_,e⟩
 |rng lo hi=>obtain⟨_,_,_,e⟩:=x;exact⟨_,e⟩
 |frz ob u=>obtain⟨e,_⟩:=x;exact⟨_,e⟩
 |tbl ps=>exact⟨_,(show h.get? a=some _ from x)⟩
 |met f y=>exact⟨_,(show h.get? a=some _ from x)⟩
 |ext φ=>obtain⟨_,e,_⟩:=x;exact e
theorem HOk.free_of{P:aA}{w:av}{H:Hp}{h:Heap}{a:Addr}(x:HOk P w H h)(e:h.get? a=none):H a=none:=by
 cases q:H a with
 |none=>rfl
 |some o=>obtain⟨u,z⟩:=(x a o q).there;rw[e]at z;cases z
structure Apart(X:Cx)(pins:List (Addr×Obj))(H:Hp)(b:Addr):Prop where
 new:X.s₀.heap.get? b=none
 free:H b=none
 pin:∀p∈X.pn++pins,p.1≠b
structure eA(X:Cx)(pins:List (Addr×Obj))(H:Hp)(h:Heap)(x:Addr)(cls:ae):Prop where
 me:Apart X pins H x
 tr:∃oe vs T oT ts a0,h.get? x=some oe/\oe.cls=cls/\vs[0]? = some a0/\oe.data=.fields vs/\vs[1]? = some (.ref T)/\T≠x/\h.get? T=some oT/\oT.data=.fields ts/\ts[3]? = some .none/\Apart X pins H T
structure Fly(h₀ h:Heap)(H:Hp)(x:Addr)(cls:ae):Prop where
 new:h₀.get? x=none
 free:H x=none
 tr:∃oe vs T oT ts a0,h.get? x=some oe/\oe.cls=cls/\vs[0]? = some a0/\oe.data=.fields vs/\vs[1]? = some (.ref T)/\T≠x/\h.get? T=some oT/\oT.data=.fields ts/\ts[3]? = some .none/\h₀.get? T=none/\H T=none
noncomputable def CX1(P:aA)(w:av):CXT:=λouter H s E e s'=>
 ∃x cls H',e=.ref x/\s'.os=s.os/\AllBare s'.gens/\Un (frs outer) [] H H' s.heap s'.heap/\HOk P w H' s'.heap/\Fly s.heap s'.heap H' x cls/\E cls none H'
section
variable{X:Cx}{pins:List (Addr×Obj)}{σ:St}{H:Hp}{s:af}{x T:Addr}{cls:ae}
theorem Inv.stepN{h':Heap}{t':Nat}{ch:List Addr}(I:Inv X pins σ H s)(hex:X.ex=[])(hch:∀b∈ch,Apart X pins H b/\b≠X.env.locals/\(∀x c,X.env.cells.lookup x=some c->c≠b)/\b∉X.fs)
  (keep:∀b o,b∉frs X.stack->b≠X.env.locals->b∉X.fs->b∉ch->s.heap.get? b=some o->h'.get? b=some o)
  (slot:∀b o,(b∈frs X.stack\/b=X.env.locals\/b∈X.fs)->s.heap.get? b=some o->∃sl,h'.get? b=some {o with slots:=sl}) (there:∀b o,b∉ch->s.heap.get? b=some o->∃o',h'.get? b=some o') :
  Inv X pins σ H {s with heap:=h',toks:=t'}:=by
 have sub:∀b,b∈frs X.stack->b=X.env.locals\/b∈X.fs:=λb hb=>aN.mp (I.stkSub b hb)
 have keep':∀b o,b≠X.env.locals->b∉X.fs->b∉ch->s.heap.get? b=some o->h'.get? b=some o:=λb o h1 h2 h3 e=>keep b o (λz=>(sub b z).elim h1 h2) h1 h2 h3 e
 have neL:∀b o,X.s₀.heap.get? b=some o->b≠X.env.locals:=λb o e=>a6 (bE (aK e) I.ok.above)
 have neC:∀b o,X.s₀.heap.get? b=some o->b∉ch:=λb o e hb=>by
  have:=(hch b hb).1.new;rw[e]at this;cases this
 have cellK:∀x c,X.env.cells.lookup x=some c->∀v,s.heap.IsCell c v->h'.IsCell c v:=λx c e v ⟨o,ho,hd⟩=>by
  have nch:c∉ch:=λz=>(hch c z).2.2.1 x c e rfl
  by_cases hc:c∈X.fs
  ·obtain⟨sl,q⟩:=slot c o (.inr (.inr hc)) ho;exact⟨_,q,hd⟩
  ·exact⟨o,keep' c o (I.cne x c e) hc nch ho,hd⟩
 have nex:∀b,b∉X.ex:=λb=>by rw[hex];simp
 refine⟨I.ok,I.os,I.bare,⟨λb o e n hb hx=>?_,λb o e n hb hx=>?_,I.base.free,λb o e hx=>?_,I.base.tups,I.base.frzs,I.base.tbls⟩,?_,λx c e=>?_,I.free,I.freeC,λp hp=>?_,λb u e=>?_,I.len⟩
 ·exact keep' b o (neL b o e) hb (neC b o e) (I.base.keep b o e n hb hx)
 ·obtain⟨sl,e1⟩:=I.base.slot b o e n hb hx;obtain⟨sl',e2⟩:=slot b _ (.inr (.inr hb)) e1;exact⟨sl',e2⟩
 ·obtain⟨o',e1⟩:=I.base.there b o e hx;exact there b o' (neC b o e) e1
 ·obtain⟨m,hn,hl⟩:=I.loc;obtain⟨oL,es,ep,hoL,hdL,r⟩:=id hn;obtain⟨sl,eL⟩:=slot _ _ (.inr (.inl rfl)) hoL;refine⟨m,⟨_,es,ep,eL,hdL,r⟩,λi x v e1 e2 e3=>?_⟩;obtain⟨u,ru,l⟩:=hl i x v e1 e2 e3;refine⟨u,ru,?_⟩;rcases l with l|⟨k,c,e,z⟩
  ·exact .inl l
  ·exact .inr ⟨k,c,e,cellK x c e _ z⟩
 ·obtain⟨v,z⟩:=I.cell x c e;exact⟨v,cellK x c e v z⟩
 ·obtain⟨e,n,ne,nf,d⟩:=I.pin p hp;exact⟨keep' p.1 p.2 ne nf (λz=>(hch p.1 z).1.pin p hp rfl) e,n,ne,nf,d⟩
 ·have nfr:∀b,(∃u,H b=some u)->b≠X.env.locals/\b∉X.fs/\b∉ch:=λb ⟨u,e⟩=>by
   refine⟨λz=>?_,λz=>?_,λz=>?_⟩
   ·rw[z,I.free]at e;cases e
   ·obtain⟨_,o,ho,_⟩:=I.ok.funs.mem z;have:=I.base.free b o ho (I.ok.frf b z) (nex b);rw[e]at this;cases this
   ·have:=(hch b z).1.free;rw[e]at this;cases this
  refine(I.hok b u e).stay (λc v hc q=>?_) (λ_ q=>q) λ_ _ q=>q
  have hc':∃u,H c=some u:=by
   rcases hc with z|z
   ·exact⟨u,by rw[z];exact e⟩
   ·exact⟨_,z⟩
  obtain⟨n1,n2,n3⟩:=nfr c hc';exact keep' c v n1 n2 n3 q
theorem Inv.rec_ne(I:Inv X pins σ H s){b:Addr}{o:Obj}{vs:Array ae}(e:s.heap.get? b=some o)(d:o.data=.fields vs):b≠X.env.locals/\(∀x c,X.env.cells.lookup x=some c->c≠b)/\b∉X.fs/\b∉frs X.stack:=by
 have h1:b≠X.env.locals:=λz=>by
  obtain⟨m,⟨o',es,ep,ho,hd,_⟩,_⟩:=I.loc;rw[<-z,e]at ho;cases ho;rw[d]at hd;cases hd
 have h3:b∉X.fs:=λz=>by
  obtain⟨_,o',ho,hn⟩:=I.funs.mem z;rw[e]at ho;cases ho;exact hn vs d
 refine⟨h1,λx c ec z=>?_,h3,λz=>(aN.mp (I.stkSub b z)).elim h1 h3⟩;obtain⟨v,o',ho,hd⟩:=I.cell x c ec;rw[z,e]at ho;cases ho;rw[d]at hd;cases hd
theorem eA.flying(I:Inv X pins σ H s)(F:eA X pins H s.heap x cls):∃T oT ts a0,Heap.FlyingW (PySem.W.hideAll s.heap (x::T::frs X.stack)) X.stack x cls a0 s.heap/\s.heap.get? T=some oT/\oT.data=.fields ts/\Apart X pins H T:=by
 obtain⟨oe,vs,T,oT,ts,a0,e1,e2,e3,e4,e5,e6,e7,e8,e9,e10⟩:=F.tr;refine⟨T,oT,ts,a0,⟨λb o q=>PySem.W.of_hideAll _ q,PySem.W.hideAll_none _ a8,?_,oe,vs,T,oT,ts,e1,⟨e2,e3⟩,e4,e5,PySem.W.hideAll_none _ (aV _ a8),e6,e7,e8,e9⟩,e7,e8,e10⟩;exact PySem.W.funFrames_hide I.stack λenv he a ha=>aV _ (aV _ (List.mem_filterMap.mpr ⟨env,he,ha⟩))
theorem eA.back(I:Inv X pins σ H s)(hex:X.ex=[])(me:Apart X pins H x){ox:Obj}{vs:Array ae}(hx:s.heap.get? x=some ox)(hxd:ox.data=.fields vs){oT:Obj}{ts:Array ae}(hT:s.heap.get? T=some oT)(hTd:oT.data=.fields ts)(aT:Apart X pins H T)
  {l:List Env}{a0:ae}{h':Heap} (W:Heap.FlyingW (PySem.W.hideAll s.heap (x::T::frs X.stack)) l x cls a0 h') (u:s.heap.UpToSlots h') :
  Inv X pins σ H {s with heap:=h'}/\eA X pins H h' x cls:=by
 obtain⟨w1,w2,w3,oe',vs',T',oT',ts',f1,⟨f2,f3⟩,f4,f5,f6,f7,f8,f9,f10⟩:=W;obtain⟨nx1,nx2,nx3,nx4⟩:=I.rec_ne hx hxd;obtain⟨nt1,nt2,nt3,nt4⟩:=I.rec_ne hT hTd;have frd:∀b o,(b∈frs X.stack\/b=X.env.locals\/b∈X.fs)->s.heap.get? b=some o->∀ws,o.data≠.fields ws:=λb o hb e ws d=>by
  obtain⟨n1,n2,n3,n4⟩:=I.rec_ne e d;rcases hb with z|z|z
  ·exact n4 z
  ·exact n1 z
  ·exact n3 z
 have nch:∀b,b∉[x,T]->b∉frs X.stack->b∉(x::T::frs X.stack):=λb h1 h2 h3=>by
  rcases aN.mp h3 with z|h3
  ·exact h1 (by simp[z])
  ·rcases aN.mp h3 with z|h3
   ·exact h1 (by simp[z])
   ·exact h2 h3
 refine⟨?_,me,oe',vs',T',oT',ts',a0,f1,f2,f3,f4,f5,f7,f8,f9,f10,?_⟩
 ·refine I.stepN (t':=s.toks) (ch:=[x,T]) hex (λb hb=>?_) (λb o h1 h2 h3 h4 e=>w1 b o (PySem.W.hideAll_get _ e (nch b h4 h1))) (λb o hb e=>u b o e (frd b o hb e)) λb o h4 e=>?_
  ·rcases aN.mp hb with z|hb
   ·subst z;exact⟨me,nx1,nx2,nx3⟩
   ·have z:b=T:=by simpa using hb
    subst z;exact⟨aT,nt1,nt2,nt3⟩
  ·by_cases hb:b∈frs X.stack
   ·obtain⟨sl,q⟩:=u b o e (frd b o (.inl hb) e);exact⟨_,q⟩
   ·exact⟨o,w1 b o (PySem.W.hideAll_get _ e (nch b h4 hb))⟩
 ·by_cases hTT:T'=T
  ·rw[hTT];exact aT
  ·by_cases hTf:T'∈frs X.stack
   ·obtain⟨_,o,ho,hn⟩:=I.stack.mem hTf;obtain⟨sl,q⟩:=u T' o ho hn;rw[q]at f8;have z:({o with slots:=sl}:Obj)=oT':=bS f8;subst z;exact absurd f9 (hn ts')
   ·have hnone:s.heap.get? T'=none:=by
     cases q:s.heap.get? T' with
     |none=>rfl
     |some o=>
      have:(PySem.W.hideAll s.heap (x::T::frs X.stack)).get? T'=some o:=PySem.W.hideAll_get _ q (nch T' (by simp[f7,hTT]) hTf);rw[f6]at this;cases this
    refine⟨?_,I.hok.free_of hnone,λp hp z=>?_⟩
    ·cases q:X.s₀.heap.get? T' with
     |none=>rfl
     |some o=>
      obtain⟨o',e'⟩:=I.base.there T' o q (by rw[hex];simp);rw[hnone]at e';cases e'
    ·have:=(I.pin p hp).1;rw[z,hnone]at this;cases this
theorem B9{P:aA}{w:av}(hP:X.prog=P)(hw:X.w=w)(I:Inv X pins σ H s)(hex:X.ex=[]){E:XK}{e:ae}{s':af}(h:CX1 P w X.stack H s E e s') :
  ∃x cls H',e=.ref x/\Inv X pins σ H' s'/\eA X pins H' s'.heap x cls/\E cls none H':=by
 subst hP hw;obtain⟨x,cls,H',rfl,os,bare,un,hok,F,q⟩:=h;have ap:∀b,s.heap.get? b=none->H' b=none->Apart X pins H' b:=λb h1 h2=>by
  refine⟨?_,h2,λp hp z=>?_⟩
  ·cases q:X.s₀.heap.get? b with
   |none=>rfl
   |some o=>
    obtain⟨o',e'⟩:=I.base.there b o q (by rw[hex];simp);rw[h1]at e';cases e'
  ·have:=(I.pin p hp).1;rw[z,h1]at this;cases this
 obtain⟨oe,vs,T,oT,ts,a0,e1,e2,e3,e4,e5,e6,e7,e8,e9,e10,e11⟩:=F.tr;exact⟨x,cls,H',rfl,I.call' (ch:=[]) os un hok bare (λb z=>absurd z (by simp)),⟨ap x F.new F.free,oe,vs,T,oT,ts,a0,e1,e2,e3,e4,e5,e6,e7,e8,e9,ap T e10 e11⟩,q⟩
theorem eA.leaves(I:Inv X pins σ H s)(hex:X.ex=[]){env:Env}{outer:List Env}(hst:X.stack=X.env::X.outer)(hfr:X.env.frame=some X.env.locals)(F:eA X pins H s.heap x cls){E:XK}(q:E cls none H)
  {EE:ae->af->Prop}:ao (aq X.prog X.w) X.A (leaving X.env (.ref x)) (λ_ s''=>CX1 X.prog X.w X.outer X.H₀ X.s₀ E (.ref x) s'') EE s:=by
 obtain⟨oe,vs,_,_,_,_,e1,_,_,e4,_⟩:=id F.tr;obtain⟨T,oT,ts,a0,W,hT,hTd,aT⟩:=eA.flying I F;have hfrm:=I.ok.frames;rw[hst]at hfrm W;refine wpAny_leaves_onW hfrm hfr W λh' W' u=>?_
 rw[<-hst]at W';obtain⟨I',F'⟩:=eA.back I hex F.me e1 e4 hT hTd aT W' u;obtain⟨oe',vs',T',oT',ts',a0',f1,f2,f3,f4,f5,f6,f7,f8,f9,f10⟩:=F'.tr;have hb:=I'.base;rw[hex]at hb;exact⟨x,cls,H,rfl,I'.os,I'.bare,hb,I'.hok,⟨F'.me.new,F'.me.free,oe',vs',T',oT',ts',a0',f1,f2,f3,f4,f5,f6,f7,f8,f9,f10.new,f10.free⟩,q⟩
end
section
variable{P:aA}{w:av}{K:aC}{mg:Str->Option ae}{base:Heap}{N:List Str}{qual:Str}{scope:a9}{f:Addr}{cd:ae}{A:az}{outer:List Env}{s₀:af}{H₀:Hp}{E:XK}
theorem xK:Passes (CX1 P w) (eP (CX1 P w) P w K mg base N qual scope f cd A outer s₀ H₀ E) E:=by
 intro pins σ H s e s' I h;obtain⟨x,cls,H',rfl,I',F,q⟩:=B9 rfl rfl I rfl h;exact eA.leaves (env:=(eP (CX1 P w) P w K mg base N qual scope f cd A outer s₀ H₀ E).env) (outer:=outer) I' rfl rfl rfl F q
theorem nI{X:Cx}(hP:X.prog=P)(hw:X.w=w):Passes (CX1 P w) X E0:=by
 intro pins σ H s e s' I h;obtain⟨x,cls,H',rfl,_,_,_,_,_,q⟩:=h;exact q.elim
noncomputable def Throws(X:Cx)(E:XK):Prop:=∀(pins:List (Addr×Obj)) (σ:St) (H:Hp) (s:af) (h':Heap) (e:Addr) (cls:ae) (args:List ae),Inv X pins σ H s->Heap.MadeExcOf s.heap h' e cls args->E cls none H->X.xe (.ref e) {s with heap:=h'}
end
abbrev jf:List Value:=[.type "ValueError",.type "Exception",.type "BaseException",.type "object"]
noncomputable def mL(K:aC)(C:Addr):Prop:=PySem.W.excIn K C jf "ValueError.__new__" = true
section
variable{X:Cx}{C:Addr}{x:Str}{E:XK}{t:TA}{e:Expr}{es:List Expr}{np cpos pos:Pos}
end
structure g6(k:Nat)(A:az):Prop where
 dp:A.depth+3 * k+5<recursionLimit
 un:A.units+16 * k+200<cLine
theorem ck.u{k:Nat}{A:az}(r:ck k A):g6 k A:=⟨r.dp,r.un⟩
structure jz(P:aA)(w:av)(K:aC)(mg:Str->Option ae)(base:Heap)(CX:CXT)(k:Nat)(f:Addr)(fd:FuncData)(ps:List Str)(sp:Sp):Prop where
 len:∀vs H Q E,sp vs H Q E->vs.length=ps.length
 run:∀(A:az) (outer:List Env) (s:af) (H:Hp) (args:Args) (us:List ae) (vs:List V) (Q:VK) (E:XK),g6 k A->iA P w K mg base A outer s H->BindsTo s fd args (ps.zip us)->Vals vs us->sp vs H Q E ->
  codeAny (aq P w) A (.call (.ref f) args) (CR CX outer P w H s Q E) s
section
variable{CX:CXT}{P:aA}{w:av}{K:aC}{mg:Str->Option ae}{base:Heap}{k:Nat}{f:Addr}{fd:FuncData}{ps:List Str}{sp:Sp}
end
section
variable{X:Cx}{CX:CXT}{k:Nat}{f:Addr}{fd:FuncData}{ps:List Str}{sp:Sp}{dvs:List V}{ds:List ae}{E:XK}{x:Str}{p pos:Pos}{e:Expr}{es:List Expr}{t:TA}
theorem rA{pins:List (Addr×Obj)}{σ:St}{H:Hp}{s:af}{Q:VK}{us:List ae}{vs:List V}(F:jz X.prog X.w X.K X.mg X.base CX k f fd ps sp)(hr:g6 k X.A)(hb:Binds X.K fd ps ds)(hd:Vals dvs ds)(hx:Passes CX X E)
  (I:Inv X pins σ H s) (r:Vals vs us) (h:sp (vs++dvs) H Q E):ao (aq X.prog X.w) X.A (call (.ref f) us) (EP X pins σ Q) X.xe s:=by
 have r2:Vals (vs++dvs) (us++ds):=r.append hd;have hl:(us++ds).length=ps.length:=by rw[<-r2.length];exact F.len _ _ _ _ h
 refine wpAny_call (codeAny_mono (F.run X.A X.stack s H ⟨us,[]⟩ (us++ds) (vs++dvs) Q E hr I.env0 (hb s us I.kIn hl) r2 h) λr s' hq=>?_);cases r with
 |error e=>exact hx pins σ H s e s' I hq
 |ok fl=>
  cases fl with
  |ret u=>exact I.after hq
  |next=>exact bp hq
  |brk=>exact bp hq
  |cont=>exact bp hq
theorem CB(F:jz X.prog X.w X.K X.mg X.base CX k f fd ps sp)(hr:g6 k X.A)(hg:Gl X x)(hm:X.mg x=some (.ref f))(hk:cB X.K (.ref f)=true)(hb:Binds X.K fd ps ds)(hd:Vals dvs ds)(hx:Passes CX X E)
  (ha:PA X (e::es) t) (hdb:(x==("__debug__" : Str))=false:=by decide) (he:aZ (e::es) X.env=(false,eval e X.env)::aZ es X.env:=by rfl) (hpl:(backTo pos (aZ es X.env)).any (·.1)=false:=by rfl) :
  PE X (.Call (.Name x p) (e::es) [] pos) (j5 sp dvs E t):=by
 intro pins s σ H Q I h;refine wpAny_Call_Name_kw (kg I hg hm ?_ hdb);refine PySem.W.callWith_K (h₀:=X.base) I.ok.mod.kin hk (thn (ha pos pins s σ H _ I h) λus s1 ⟨vs,H1,I1,r,q⟩=>⟨I1.kIn,?_⟩) he hpl;exact rA F hr hb hd hx I1 r q
end
noncomputable def sI(x:Addr)(cls:ae):HO:=.ext λh=>∃o vs,h.get? x=some o/\o.cls=cls/\o.data=.fields vs
section
variable{X:Cx}{pins:List (Addr×Obj)}{σ:St}{H:Hp}{s:af}
end
end L2
namespace L2
open PySem PySem.Spec PyProof.Rows PySem.W PySem.Calls Builtin Builtin.ObjectAttr Builtin.Getset_descriptor
structure kn(K:Frag)(C:Addr):Prop where
 ga:findIn K (.ref C) "__getattribute__" = some (some (.builtin "BaseException.__getattribute__"))
 gt:findIn K (.ref C) "__getattr__" = some none
 gc:findIn K (.ref C) "__class__" = some (some (.builtin "object.__class__"))
 mb:mroIn K C (.type "BaseException")=some true
 mo:mroIn K C (.type "object")=some true
 cl:∃c dd cd sl,K.lookup C=some ⟨c,dd,.cls cd,sl⟩
section
variable{prog:aA}{w:av}{A:az}{E:ae->af->Prop}{h:Heap}{g:Array GenState}{d:Drawn}{t:Nat}{os:OsState}{x C:Addr}{K:Frag}
end
end L2
namespace L2
open PySem PySem.Spec PyProof.Rows
structure DG(prog:aA)(w:av)(xs:Array ae)(i l:Addr)(P:Nat->Heap->Prop):Prop where
 fr:∀k h h',P k h->(∀o,h.get? i=some o->h'.get? i=some o)->(∀o,h.get? l=some o->h'.get? l=some o)->P k h'
 nx:∀{A:az} (k:Nat) (x:ae) (s:af) (Q:ae->af->Prop) (E:ae->af->Prop),P k s.heap->xs[k]? = some x->(∀h',P (k+1) h'->Heap.SameBut i s.heap h'->Q x {s with heap:=h'})->ao (aq prog w) A (Builtin.SmallTypes.nextOf (.ref i)) Q E s
 en:∀{A:az} (k:Nat) (s:af) (Q:ae->af->Prop) (E:ae->af->Prop),A.handled=none->P k s.heap->xs[k]? = none ->
  (∀h' e,Heap.ExtBut i s.heap h'->(∃o,h'.get? e=some o/\o.cls=.type "StopIteration")->E (.ref e) {s with heap:=h'})->ao (aq prog w) A (Builtin.SmallTypes.nextOf (.ref i)) Q E s
 at_:∀k h,P k h->∃o,h.get? i=some o/\∃vs,o.data=.fields vs
section
variable{prog:aA}{w:av}{A:az}{E:ae->af->Prop}{s:af}
end
section
variable{prog:aA}{w:av}{A:az}{E:ae->af->Prop}{s:af}{z TI TO i1 i2 l1 l2:Addr}{k:Nat}{xs ys:Array ae}{P1 P2:Nat->Heap->Prop}
structure DE(z TI TO i1 i2 l1 l2:Addr):Prop where
 d:ZipApart z TI TO i1 i2 l1 l2
end
section
variable{X:Cx}{pins:List (Addr×Obj)}{σ:St}{H:Hp}{s:af}{h':Heap}{tk:Nat}
theorem Inv.turnNew{ch:List Addr}{p:Addr}{vs:List V}{its:List ae}(I:Inv X pins σ H s)(hf:∀b∈ch,dy X pins H b)(k:∀b o,b∉ch->s.heap.get? b=some o->h'.get? b=some o)
  (hp:s.heap.objs.size<=p) (ht:IsTup h' p its.toArray) (r:Vals vs its) (hz:vs.length<=aL):Inv X pins σ (upd H p (.tup vs)) {s with heap:=h',toks:=tk}:=by
 have hpn:H p=none:=I.hok.fresh hp;have nch:∀b u,H b=some u->b∉ch:=λb u e z=>by have:=(hf b z).1;rw[e]at this;cases this
 have np:∀b u,H b=some u->b≠p:=λb u e z=>by rw[z,hpn]at e;cases e
 refine I.step (g':=s.gens) (d':=s.drawn) (ch:=ch) (λb hb=>?_) (λb o _ _ hc e _=>k b o hc e) (λb o _ _ hc e _=>⟨o.slots,k b o hc e⟩) (λb o hc e n=>?_) (λb o hc e=>⟨o,k b o hc e⟩)
  (λb xs e=>by rw[qm (np b _ e)];exact e) (λb o u e=>by rw[qm (np b _ e)];exact e) (λb ps e=>⟨#[],by rw[qm (np b _ e),e];simp⟩) (λm hm=>?_) (λb u e=>?_) I.bare
 ·obtain⟨f0,f1,f2,f3,f4,f5⟩:=hf b hb;exact⟨f3,f1,f4,f5⟩
 ·rw[qm (a6 (bE (aK e) hp))];exact n
 ·obtain⟨o,es,ep,ho,r⟩:=hm;exact⟨o,es,ep,k _ o (λz=>(hf _ z).2.1 rfl) ho,r⟩
 ·by_cases hb:b=p
  ·subst hb;rw[zr]at e;cases e;exact⟨hz,its,r,ht⟩
  ·rw[qm hb]at e;refine(I.hok b u e).stay (λc v hc q=>k c v ?_ q) (λc q=>by rw[qm (np c _ q)];exact q) λc xs q=>by rw[qm (np c _ q)];exact q
   rcases hc with z|z
   ·rw[z];exact nch b u e
   ·exact nch c _ z
theorem Inv.turnAll{ch:List Addr}(I:Inv X pins σ H s)(hf:∀b∈ch,dy X pins H b)(k:∀b o,b∉ch->s.heap.get? b=some o->h'.get? b=some o):Inv X pins σ H {s with heap:=h',toks:=tk}:=by
 have nch:∀b u,H b=some u->b∉ch:=λb u e z=>by have:=(hf b z).1;rw[e]at this;cases this
 refine I.step (g':=s.gens) (d':=s.drawn) (ch:=ch) (λb hb=>?_) (λb o _ _ hc e _=>k b o hc e) (λb o _ _ hc e _=>⟨o.slots,k b o hc e⟩) (λb o hc e n=>n) (λb o hc e=>⟨o,k b o hc e⟩)
  (λb xs e=>e) (λb o u e=>e) (λb ps e=>⟨#[],by rw[e];simp⟩) (λm hm=>?_) (λb u e=>?_) I.bare
 ·obtain⟨f0,f1,f2,f3,f4,f5⟩:=hf b hb;exact⟨f3,f1,f4,f5⟩
 ·obtain⟨o,es,ep,ho,r⟩:=hm;exact⟨o,es,ep,k _ o (λz=>(hf _ z).2.1 rfl) ho,r⟩
 ·refine(I.hok b u e).stay (λc v hc q=>k c v ?_ q) (λc q=>q) λc xs q=>q
  rcases hc with z|z
  ·rw[z];exact nch b u e
  ·exact nch c _ z
end
section
variable{prog:aA}{w:av}{A:az}{E:ae->af->Prop}{s:af}
end
theorem AI{K:aC}{T:String}:cb K (.type T) (.type T)=some true:=by unfold cb;rw[if_pos (by simp)]
theorem ux{K:aC}{a T:String}{b:Bool}(hne:(bH a==bH T)=false)(hm:PySem.W.kitMeta T=true)(hf:(fastBuiltinMro a).map (·.contains (.type T))=some b):cb K (.type a) (.type T)=some b:=by
 unfold cb PySem.W.kitCls PySem.W.subIn;rw[if_neg (by rw[hne];exact dA)];dsimp only;rw[if_pos hm];exact hf
noncomputable def fU(a T:String):Bool:=a==T||(a == "bool" && T == "int")
theorem wW{K:aC}{a T:String}(ha:a∈["NoneType","bool","int","str","list","tuple","dict"])(hT:T∈["int","bool","str","list","tuple"]):cb K (.type a) (.type T)=some (fU a T):=by
 simp only[aN,b9,or_false]at ha hT;rcases ha with rfl|rfl|rfl|rfl|rfl|rfl|rfl<;>rcases hT with rfl|rfl|rfl|rfl|rfl<;>first|exact AI|exact ux (by decide +kernel) (by decide +kernel) (by decide +kernel)
noncomputable def ltP(p q:Int×Int):Bool:=if p.1=q.1 then decide (p.2<q.2)else decide (p.1<q.1)
section
variable{prog:aA}{w:av}{A:az}{E:ae->af->Prop}{s:af}
end
theorem Aa{h:Heap}{a:Addr}{m m':Str->Option ae}(x:h.Ns a m)(y:h.Ns a m'):m=m':=by
 obtain⟨o,es,ep,e1,e2,_,e4⟩:=x;obtain⟨o',es',ep',f1,f2,_,f4⟩:=y;rw[e1]at f1;cases f1;rw[e2]at f2;cases f2;funext n;rw[<-e4,<-f4]
theorem Inv.newList{X:Cx}{pins:List (Addr×Obj)}{σ:St}{H:Hp}{s s':af}{D:Addr}{out:List V}{its:List ae}{c:Nat}(I:Inv X pins σ H s)(hos:s'.os=s.os)(hg:s'.gens=s.gens)
  (k:∀b o,b≠X.env.locals->s.heap.get? b=some o->s'.heap.get? b=some o) (ns:∀m,s.heap.Ns X.env.locals m->s'.heap.Ns X.env.locals m) (hD:s.heap.get? D=none) (hDL:D≠X.env.locals)
  (hl:s'.heap.get? D=some {cls:=.type "list",data:=.seq its.toArray c}) (r:Vals out its) (hz:out.length<=aL):Inv X pins σ (upd H D (.lst out)) s':=by
 obtain⟨h',g',d',t',o'⟩:=s';have eo:o'=s.os:=hos;have eg:g'=s.gens:=hg;subst eo eg;have hpn:H D=none:=I.hok.free_of hD;have np:∀b u,H b=some u->b≠D:=λb u e z=>by rw[z,hpn]at e;cases e
 obtain⟨m0,n0,_⟩:=id I.loc;obtain⟨oL,es,ep,hoL,_⟩:=id n0;obtain⟨oL',es',ep',hoL',_⟩:=ns _ n0;refine I.step (g':=s.gens) (d':=d') (ch:=[]) (λb hb=>absurd hb (by simp)) (λb o hL _ _ e _=>k b o hL e) (λb o hL _ _ e _=>⟨o.slots,k b o hL e⟩) (λb o _ e n=>?_) (λb o _ e=>?_)
  (λb xs e=>by rw[qm (np b _ e)];exact e) (λb o u e=>by rw[qm (np b _ e)];exact e) (λb ps e=>⟨#[],by rw[qm (np b _ e),e];simp⟩) ns (λb u e=>?_) I.bare
 ·rw[qm (λz=>by rw[z,hD]at e;cases e)];exact n
 ·by_cases hL:b=X.env.locals
  ·exact⟨oL',by rw[hL];exact hoL'⟩
  ·exact⟨o,k b o hL e⟩
 ·by_cases hb:b=D
  ·subst hb;rw[zr]at e;cases e;exact⟨hz,its,c,r,hl⟩
  ·rw[qm hb]at e;have nl:∀c,(∃u,H c=some u)->c≠X.env.locals:=λc ⟨u,e⟩ z=>by rw[z,I.free]at e;cases e
   refine(I.hok b u e).stay (λc v hc q=>k c v (nl c ?_) q) (λc q=>by rw[qm (np c _ q)];exact q) λc xs q=>by rw[qm (np c _ q)];exact q
   rcases hc with z|z
   ·exact⟨u,by rw[z];exact e⟩
   ·exact⟨_,z⟩
section
variable{prog:aA}{w:av}{A:az}{E:ae->af->Prop}{s:af}
theorem lz{a:Addr}{vs:List ae}{P:Fin->af->Prop}(hoL:s.heap.get? a=some (aG "list" vs.toArray 0))(h2:vs.length<2)(h:P (.done (.ret .none)) {s with heap:=sortedHeap s.heap a vs vs.toArray}) :
  ao (aq prog w) A (Builtin.«list.sort» ⟨[.ref a],[]⟩) P E s:=by
 rw[list_sort_plain];refine ah (listItems_at  hoL rfl ?_);refine ah (listUpdate_at  hoL rfl ?_ (by rw[aO,bf];lia) (br _));obtain⟨e1,ho1⟩:∃e1,(s.heap.update a (ba λ_=>#[])).get? a=some (aG "list" #[] e1):=⟨_,get?_update_seq hoL (λ_=>#[])⟩
 refine ah (seqEpoch_at ho1 rfl ?_);refine ah (wpAny_newTuple ?_ (by show vs.length<=_;rw[bf];lia));refine ah (wpAny_newList ?_ (br _));refine bJ ?_;have hlt:a<s.heap.objs.size:=aK hoL;have ho6:(((s.heap.update a (ba λ_=>#[])).push (aG "tuple" vs.toArray 0)).push (aG "list" #[] 0)).get? a=some (aG "list" #[] e1):=by
  rw[Heap.get?_push_ne _ _ _ (by rw[size_push',Heap.size_update];exact a6 (bR hlt)),Heap.get?_push_ne _ _ _ (by rw[Heap.size_update];exact a6 hlt)];exact ho1
 show ao (aq prog w) _ _ _ _ {s with heap:=((s.heap.update a (ba λ_=>#[])).push (aG "tuple" vs.toArray 0)).push (aG "list" #[] 0)};dsimp only;have h2':vs.toArray.size<2:=by rw[aO];exact h2
 rw[if_pos h2',if_pos h2'];refine ah (aB ?_);rw[StateT.run_pure];refine ah (aB ?_);dsimp only;refine ah (seqEpoch_at ho6 rfl ?_);have hout:(ag (aF.mk' general' (vs.toArray.zip vs.toArray) #[] 7 none)).map (·.2)=vs.toArray:=by
  show (vs.toArray.zip vs.toArray).map (·.2)=vs.toArray;apply Array.toList_inj.mp;simp[List.map_snd_zip]
 refine ah (listUpdate_at ho6 rfl ?_ (br _) (by rw[hout,aO,bf];lia));simp only[bne_self_eq_false,aW,if_false];refine aB ?_;rw[hout];exact h
theorem BM{l:Addr}{vs:List ae}{Q:ae->af->Prop}(hl:s.heap.IsList l vs.toArray)(h2:vs.length<2)(h:Q (.ref (s.heap.objs.size+1)) {s with heap:=sortedAll s.heap vs vs.toArray}):ao (aq prog w) A (call (.builtin "sorted") [.ref l]) Q E s:=by
 refine Calls.call_function_entry kind_sorted plain_sorted entry_sorted (args_sorted1 _) ?_;unfold Builtin.«sorted»;refine ah (m:=checkCount "sorted" 1 1 _) (aB ?_);refine ah (collect_list hl ?_ (by rw[bf];lia));refine ah (wpAny_newList ?_ (by rw[bf];lia));have hsz:((s.heap.push (aG "list" #[] 0)).update s.heap.objs.size (ba (· ++ vs.toArray))).objs.size=s.heap.objs.size+1:=by rw[Heap.size_update,size_push']
 have hoL:(((s.heap.push (aG "list" #[] 0)).update s.heap.objs.size (ba (· ++ vs.toArray))).push (aG "list" vs.toArray 0)).get? (s.heap.objs.size+1)=some (aG "list" vs.toArray 0):=by rw[<-hsz];exact Heap.get?_push_size _ rfl
 show ao _ _ _ _ _ {s with heap:=((s.heap.push (aG "list" #[] 0)).update s.heap.objs.size (ba (· ++ vs.toArray))).push (aG "list" vs.toArray 0)};rw[hsz];refine ah (bJ (cA slot_list_sort ⟨_,hoL,rfl⟩ entry_list_sort ?body (args_list_sort _)))
 case body=>
  exact lz hoL h2 ⟨_,rfl,aB ⟨_,rfl,h⟩⟩
end
section
variable{X:Cx}{pins:List (Addr×Obj)}{σ:St}{H:Hp}{s:af}
theorem uG{A:az}{bs:List Bool}{us:List ae}(r:Vals (bs.map V.bl) us):us=bs.map ae.bool:=by
 induction bs generalizing us with
 |nil=>cases r;rfl
 |cons b bs ih=>cases r with
  |cons h t=>rw[ih t,show _=ae.bool b from h];rfl
end
section
variable{X:Cx}
noncomputable def lM(r r' r'':R2)(ta tb tc td:TE):TE:=λσ H Q=>ta σ H λx H1=>tb σ H1 λy H2=>r x y H2 λz H3=>∃k,z=.bl k /\
 (if k=true then tc σ H3 λw' H4=>r' y w' H4 λz H5=>∃k,z=.bl k/\(if k=true then td σ H5 λw'' H6=>r'' w' w'' H6 Q else Q (.bl false) H5)else Q (.bl false) H3)
theorem CQ{a b c d:Expr}{ta tb tc td:TE}{pos:Pos}{op op' op'':CmpOp}{r r' r'':R2}(ho:OpR X (bg op) r)(ho':OpR X (bg op') r')(ho'':OpR X (bg op'') r'')(ha:PE X a ta)(hb:PE X b tb)(hc:PE X c tc)(hd:PE X d td)
  (hm:lastMarks [op,op',op''] [b,c,d]=false:=by with_unfolding_all rfl):PE X (.Compare a [op,op',op''] [b,c,d] pos) (lM r r' r'' ta tb tc td):=by
 intro pins s σ H Q I h;refine Compare_chain (thn (ha pins s σ H _ I h) λv s1 ⟨x,H1,I1,r1,q1⟩=>chain_link (thn (hb pins s1 σ H1 _ I1 q1) λu s2 ⟨y,H2,I2,r2,q2⟩=>
  thn (ho pins s2 σ H2 x y v u _ I2 r1 r2 q2) λd s3 ⟨z,H3,I3,r3,k,e,q3⟩=>?_)) hm
 subst e;cases r3;refine bI ?_;cases k with
 |false=>exact ite_ff ⟨.bl false,H3,I3,rfl,q3⟩
 |true=>
  refine ite_tt (chain_link (thn (hc pins s3 σ H3 _ I3 q3) λw' s4 ⟨z',H4,I4,r4,q4⟩=>thn (ho' pins s4 σ H4 y z' u w' _ I4 r2 r4 q4) λd' s5 ⟨z2,H5,I5,r5,k2,e2,q5⟩=>?_));subst e2;cases r5;refine bI ?_;cases k2 with
  |false=>exact ite_ff ⟨.bl false,H5,I5,rfl,q5⟩
  |true=>exact ite_tt (chain_last (thn (hd pins s5 σ H5 _ I5 q5) λw'' s6 ⟨z3,H6,I6,r6,q6⟩=>ho'' pins s6 σ H6 z' z3 w' w'' Q I6 r4 r6 q6))
noncomputable def wz(K:aC):R2:=λx y H Q=>∃a b xs ys,x=.ref a/\y=.ref b/\SqT K H a xs/\SqT K H b ys/\xs.length+ys.length<=aL /\
 (xs=[]->Q (.ref b) H)/\(xs≠[]->ys=[]->Q (.ref a) H)/\(xs≠[]->ys≠[]->∀p,H p=none->Q (.ref p) (upd H p (.tup (xs++ys))))
theorem yT:OpR X (bD .Add) (wz X.K):=by
 intro pins s σ H x y v u Q I rx ry h;obtain⟨a,b,xs,ys,rfl,rfl,ha,hb,hz,q0,q1,q2⟩:=h;by_cases hx:xs=[]
 ·subst hx;cases rx;cases ry;obtain⟨its,r1,p1,_⟩:=I.tuple ha;obtain⟨its2,r2,p2,_⟩:=I.tuple hb;cases r1;obtain⟨⟨cls,dd,data,sl⟩,ho,hc,n,hd⟩:=id p1;obtain⟨⟨cls2,dd2,data2,sl2⟩,ho2,hc2,n2,hd2⟩:=id p2;simp only at hc hd hc2 hd2;subst hc hd hc2 hd2;exact concat_meets ⟨_,ho,rfl⟩ ⟨_,ho2,rfl⟩ noFill_tuple_add seq_tuple_add PySem.F.slot_tuple_add PySem.F.entry_tuple_add (PySem.F.args_tuple_add_2 _ _)
   (tuple_addW0 a b _ its2.toArray n n2 dd dd2 sl sl2 (by simp)) ⟨ho,ho2,⟨.ref b,H,I,rfl,q0 rfl⟩⟩
 ·exact BR pins s σ H (.ref a) (.ref b) v u Q I rx ry ⟨a,b,xs,ys,rfl,rfl,ha,hb,hx,hz,q1 hx,q2 hx⟩
theorem jd{vs:List ae}{ns:List Int}(h:a7 vs ns):Vals (ns.map V.int) vs:=by
 induction h with
 |nil=>exact .nil
 |cons n t _ ih=>exact .cons ⟨t,rfl⟩ ih
noncomputable def yj(K:aC):List V->Hp->VK->Prop:=λvs H Q=>∃(l:Addr) (ns:List Int),vs=[.ref l]/\SqL K H l (ns.map V.int)/\ns.length<64/\∀(D:Addr) (ms:List Int),H D=none->ms.Perm ns->ms.Pairwise (·<=·)->Q (.ref D) (upd H D (.lst (ms.map V.int)))
theorem Ce:qY X (.builtin "sorted") (yj X.K):=by
 intro pins s σ H xs us Q I r h;obtain⟨l,ns,rfl,hl,h64,q⟩:=h;obtain⟨u,rfl,ru⟩:=r.one;cases ru;obtain⟨its,rv,pl,hz⟩:=I.list hl;obtain⟨m,F⟩:=I.fr;refine PySem.W.kso_sorted F (AO (g:=X.base) (h:=s.heap) (L:=X.env.locals)) pl.isList (intsAre_of rv) h64 λD vs' ns' c h' F' N' hlt hi he hp ho _=>?_
 have keep:∀b o,b≠X.env.locals->s.heap.get? b=some o->h'.get? b=some o:=λb o hb e=>by
  cases qb:X.base.get? b with
  |some ob=>have:=I.bk b ob qb;rw[e]at this;cases this;exact F'.keep b _ qb
  |none=>exact(N' (b,o) (aV _ (nk hb qb e))).1
 have hDn:=N' (D,_) a8;have hD0:s.heap.get? D=none:=by
  cases qd:s.heap.get? D with
  |none=>rfl
  |some o=>exact absurd (hlt (D,o) (nk hDn.2.1 hDn.2.2 qd)) (bM _)
 refine⟨.ref D,_,I.newList (s':={s with heap:=h'}) (c:=c) rfl rfl keep (λm' hm'=>?_) hD0 hDn.2.1 hDn.1 (jd hi) (by rw[aP,he,bf];lia),rfl,q D ns' (I.hok.free_of hD0) hp ho⟩;rw[Aa hm' F.ns];exact F'.ns
end
noncomputable def Ite(K:aC)(l:Addr):It:=
 ⟨λi H=>∃xs x,SqL K H l xs/\xs[i]? = some x,
  λi H v H'=>∃p x,H p=none/\v=.ref p/\H'=upd H p (.tup [.int i,x])/\∀xs,SqL K H l xs->xs[i]? = some x,
  λi H=>∃xs,SqL K H l xs/\xs.length<=i⟩
theorem vg{P:aA}{w:av}{K:aC}{es:List Expr}{ek:Nat}{epos:Pos}{e it l:Addr}(n1:e≠it)(n2:l≠e)(n3:l≠it) :
  Turn P w K (.Tuple es ek epos) (Ite K l) [e,it] e (λi h=>(∃old,IsEnum h e it ((i:Nat):Int) old)/\h.IsListIter it l i) where
 mem:=by simp
 obj:=λi h st b hb=>by
  obtain⟨⟨old,hz⟩,o1,e1,_,d1⟩:=st;have hb':b=e\/b=it:=by simpa using hb
  rcases hb' with q|q
  ·subst q;exact⟨_,hz,λv q=>by cases q⟩
  ·subst q;exact⟨o1,e1,λv q=>by rw[d1]at q;cases q⟩
 keep:=λi h h' st k=>by
  obtain⟨⟨old,hz⟩,h1⟩:=st;exact⟨⟨old,k e (by simp) _ hz⟩,h1.at λo q=>k it (by simp) o q⟩
 item:=by
  intro X hP hw hK hc i pins s σ H E I hf st hg;subst hP hw hK;obtain⟨⟨old,hz⟩,h1⟩:=st;obtain⟨xs,x,q1,hx⟩:=hg;obtain⟨its,r1,p1,z1⟩:=I.list q1;obtain⟨u1,hu1,ru1⟩:=r1.get hx;refine wpAny_pyNext_enum_item hz h1 p1.isList (x:=u1) (by simpa using hu1) n1 λh' a1 a2 a3 a4 hk=>?_
  have hkc:∀b o,b∉[e,it]->s.heap.get? b=some o->h'.get? b=some o:=λb o hb q=>hk b o (λz=>hb (by simp[z])) (λz=>hb (by simp[z])) q
  have I1:Inv X pins σ (upd H s.heap.objs.size (.tup [.int i,x])) {s with heap:=h',toks:=s.toks+1}:=I.turnNew (tk:=s.toks+1) (its:=[.int i s.toks,u1]) hf hkc (aD _) ⟨_,a3,rfl,_,rfl⟩ (.cons ⟨_,rfl⟩ (.cons ru1 .nil)) (by show 2<=aL;decide);have hpn:H s.heap.objs.size=none:=I.hok.fresh (aD _);have hfp:∀b∈[e,it],b≠s.heap.objs.size:=λb hb q=>by
   have hb':b=e\/b=it:=by simpa using hb
   obtain⟨o1,e1,_,d1⟩:=h1;have:b<s.heap.objs.size:=by
    rcases hb' with q|q
    ·subst q;exact aK hz
    ·subst q;exact aK e1
   rw[q]at this;exact bM _ this
  have hnone:∀b∈[e,it],(upd H s.heap.objs.size (.tup [.int i,x])) b=none:=λb hb=>by rw[qm (hfp b hb)];exact(hf b hb).1
  refine⟨_,rfl,?_⟩;refine wpAny_letOwnedTupleGo_enum (s:={s with heap:=h',toks:=s.toks+1}) a1 λh2' hz' hs'=>?_
  obtain⟨f0,f1,f2,f3,f4,f5⟩:=hf e (by simp);refine⟨.ref s.heap.objs.size,_,I1.turned (t':=s.toks+1) (it:=e) (λb o hb q=>(hs'.2 b hb).trans q) (hnone e (by simp)) f1 f3 f4 f5,rfl,⟨_,x,hpn,rfl,rfl,λzs hq=>by rw[I.list_inj hq q1];exact hx⟩,⟨⟨u1,?_⟩,a2.at λo q=>(hs'.2 it (Ne.symm n1)).trans q⟩,hnone⟩
  ·have:((i+1:Nat):Int)=(i:Int)+1:=by push_cast;rfl
   rw[this];exact hz'
 done:=by
  intro X hP hw hK hc i pins s σ H E I hf st hg;subst hP hw hK;obtain⟨⟨old,hz⟩,h1⟩:=st;obtain⟨xs,q1,hx⟩:=hg;obtain⟨its,r1,p1,z1⟩:=I.list q1;have hl:=r1.length;exact wpAny_pyNext_enum_end (I.ok.hd hc) hz h1 p1.isList (by simp;lia) λh' eb=>⟨rfl,I.turnAll (tk:=s.toks) hf λb o hb q=>eb b o (λz=>hb (by simp[z])) q⟩
 self:=λ_ _ _ _ _ st h=>by
  obtain⟨⟨old,hz⟩,_⟩:=st;exact wpAny_pyIter_enum hz h
noncomputable def xx(K:aC)(ta:TA):TI:=λσ H R=>ta σ H λvs H1=>∃(l:Addr),vs=[.ref l]/\(∃xs,SqL K H1 l xs)/\R (Ite K l) H1
theorem CI{X:Cx}{es:List Expr}{ek:Nat}{epos p pos:Pos}{a:Expr}{ta:TA}(hg:Gl X "enumerate")(hm:X.mg "enumerate" = none)(hv:bO "enumerate" = some (.type "enumerate"))(ha:PA X [a] ta)
  (hs:aZ [a] X.env=[(false,eval a X.env)]:=by rfl):PI X (.Tuple es ek epos) (.Call (.Name "enumerate" p) [a] [] pos) (xx X.K ta):=by
 intro pins s σ H R I h;refine Call_ (fP I hg hm hv (eZ (thn (ha pos pins s σ H _ I h) λus s1 ⟨vs,H1,I1,r1,q1⟩=>?_) (by rw[hs];rfl) (by rfl)));obtain⟨l,e,⟨xs,q2⟩,q⟩:=q1;subst e;cases r1 with
 |cons r rr=>
  cases rr;cases r;obtain⟨its1,v1,p1,_⟩:=I1.list q2;have lt1:l<s1.heap.objs.size:=by obtain⟨_,e,_⟩:=p1.isList;exact aK e
  refine call_enumerate_list p1.isList λh' hE hI hsz k=>?_
  have I2:Inv X pins σ H1 {s1 with heap:=h'}:=I1.kept (t':=s1.toks) k;refine wpAny_pyIter_enum hE ?_;refine⟨_,_,_,_,H1,rfl,I2,vg (P:=X.prog) (w:=X.w) (K:=X.K) (e:=s1.heap.objs.size+1) (it:=s1.heap.objs.size) (l:=l) (Nat.succ_ne_self _) (a6 (bR lt1)) (a6 lt1),⟨⟨_,hE⟩,hI⟩,λb hb=>?_,q⟩;have hb':b=s1.heap.objs.size+1\/b=s1.heap.objs.size:=by simpa using hb
  have:s1.heap.objs.size<=b:=by
   rcases hb' with q|q
   ·rw[q];exact Nat.le_succ _
   ·rw[q];exact aD _
  exact I1.fpOk this (I1.hok.fresh this)
end L2
namespace L2
open PySem PySem.Spec PyProof.Rows PySem.SeqAt
mutual
inductive ef(K:aC)(H:Hp):V->PyData->Prop
 |non:ef K H .non .none
 |bl (b:Bool):ef K H (.bl b) (.bool b)
 |int (i:Int):ef K H (.int i) (.int i)
 |str (x:Str):ef K H (.str x) (.str x)
 |lst {a:Addr}{xs:List V}{ds:List PyData}:SqL K H a xs->gw K H xs ds->ef K H (.ref a) (.list ds)
 |tup {a:Addr}{xs:List V}{ds:List PyData}:SqT K H a xs->gw K H xs ds->ef K H (.ref a) (.tuple ds)
inductive gw(K:aC)(H:Hp):List V->List PyData->Prop
 |nil:gw K H [] []
 |cons {x:V}{xs:List V}{d:PyData}{ds:List PyData}:ef K H x d->gw K H xs ds->gw K H (x::xs) (d::ds)
end
section
variable{X:Cx}{pins:List (Addr×Obj)}{σ:St}{H:Hp}{s:af}
theorem Inv.reads(I:Inv X pins σ H s){x:V}{d:PyData}(h:ef X.K H x d):∀{u:ae},RelV x u->∃as,Reads s.heap u d as:=
 h.rec (motive_1:=λx d _=>∀{u:ae},RelV x u->∃as,Reads s.heap u d as) (motive_2:=λxs ds _=>∀{us:List ae},Vals xs us->∃as,ReadsAll s.heap us ds as) (λr=>by cases r;exact⟨_,.none⟩) (λb _ r=>by cases r;exact⟨_,.bool b⟩) (λi _ r=>by obtain⟨t,rfl⟩:=r;exact⟨_,.int i t⟩) (λx _ r=>by obtain⟨t,rfl⟩:=r;exact⟨_,.str x t⟩)
  (λh _ g _ r=>by
   cases r;obtain⟨its,rv,pl,_⟩:=I.list h;obtain⟨as,ra⟩:=g rv;obtain⟨o,ho,hc,n,hd⟩:=pl.isList;exact⟨_,Reads.list ho hc hd (by simpa using ra)⟩)
  (λh _ g _ r=>by
   cases r;obtain⟨its,rv,pl,_⟩:=I.tuple h;obtain⟨as,ra⟩:=g rv;obtain⟨o,ho,hc,n,hd⟩:=pl;exact⟨_,Reads.tuple ho hc hd (by simpa using ra)⟩)
  (λr=>by cases r;exact⟨_,.nil⟩) (λ_ _ a b _ r=>by
   cases r with
   |cons r1 r2=>
    obtain⟨as,ra⟩:=a r1;obtain⟨bs,rb⟩:=b r2;exact⟨_,.cons ra rb⟩)
end
section
variable{X:Cx}
end
end L2
namespace L2
open PySem PySem.Spec PyProof.Rows
section
variable{lt:Nat->Nat->Bool}
noncomputable def Asc(lt:Nat->Nat->Bool)(p:Array Nat)(m:Nat):Prop:=∀i j,i<j->j<m->lt (p.getD j 0) (p.getD i 0)=false
end
section
variable{lt:Nat->Nat->Bool}
structure Part(lt:Nat->Nat->Bool)(p:Array Nat)(r:Nat×Array Nat):Prop where
 perm:r.2.Perm p
 size:r.2.size=p.size
 lo:1<=r.1
 hi:r.1<=p.size
 asc:Asc lt r.2 r.1
end
section
variable{X:Cx}
end
end L2
namespace HT
open PySem PySem.Spec PyProof.Rows L2
section
variable{prog:aA}{w:av}{A:az}{E:ae->af->Prop}{s:af}
end
end HT
namespace L2
open PySem PySem.Spec PyProof.Rows
noncomputable def ItS(lo:Int)(st:Int)(n:Nat):It:=⟨λi _=>i<n,λi H x H'=>H'=H/\x=.int (lo+i * st),λi _=>n<=i⟩
theorem rM{P:aA}{w:av}{K:aC}{tg:Expr}(it:Addr)(lo st:Int)(n:Nat):Turn P w K tg (ItS lo st n) [it] it (λi h=>IsRangeIter h it (lo+(i:Nat) * st) ((n:Int)-(i:Nat)) st) where
 mem:=by simp
 obj:=λi h st b hb=>by
  have e:b=it:=by simpa using hb
  subst e;exact⟨_,st,λv z=>by
   have z':Data.fields _=Data.cell v:=z;cases z'⟩
 keep:=λi h h' st k=>k it (by simp) _ st
 item:=by
  intro X hP hw hK hc i pins s σ H E I hf st' hg;subst hP hw hK;obtain⟨f0,f1,f2,f3,f4,f5⟩:=hf it (by simp);have W:=Walks.range (prog:=X.prog) (w:=X.w) (I.ok.hd hc) it lo st n;refine W.item i s _ _ hg st' λv h' tk hv st' kk=>?_
  obtain⟨t,rfl⟩:=hv;have I1:Inv X pins σ H {s with heap:=h',toks:=tk}:=I.turned (λb o hb e=>kk b o (by simpa using hb) e) f0 f1 f3 f4 f5;exact⟨_,rfl,iH (s:={s with heap:=h',toks:=tk}) (n:="range_iterator") st' rfl rfl (by decide) ⟨.int (lo+i * st),H,I1,⟨t,rfl⟩,⟨rfl,rfl⟩,st',λb hb=>(hf b hb).1⟩⟩
 done:=by
  intro X hP hw hK hc i pins s σ H E I hf st' hg;subst hP hw hK;obtain⟨f0,f1,f2,f3,f4,f5⟩:=hf it (by simp);exact wpAny_pyNext_range_end (I.ok.hd hc) st' (by have:n<=i:=hg;lia) λh' eb=>⟨rfl,I.turned (t':=s.toks) (λb o hb e=>eb b o hb e) f0 f1 f3 f4 f5⟩
 self:=λ_ _ _ _ _ st h=>wpAny_pyIter_rangeiter st h
noncomputable def bV(lo hi st:Int):Nat:=if lo<hi then ((hi-lo-1)/st+1).toNat else 0
theorem j4{lo hi st:Int}(h:0<st):dg lo hi st=(bV lo hi st:Nat):=by
 unfold dg bV;rw[if_pos h];split
 ·have:0<=(hi-lo-1)/st:=Int.ediv_nonneg (by lia) (by lia);lia
 ·rfl
theorem nL{lo hi st:Int}(h:0<st)(h1:-1000000<=lo)(h2:hi<=1000000):bV lo hi st<=2000001:=by
 unfold bV;split
 ·have:(hi-lo-1)/st<=hi-lo-1:=Int.ediv_le_self _ (by lia);lia
 ·lia
theorem nR{a b c:Int}(hc:0<c)(hc':c<=1000000)(ha:-1000000<=a)(ha':a<=1000000)(hb:-1000000<=b)(hb':b<=1000000):Builtin.Range.small a b c=true:=by
 have h1:=j4 (lo:=a) (hi:=b) hc;have h2:=nL (lo:=a) (hi:=b) hc ha hb';unfold Builtin.Range.small;rw[h1];have hcc:(bV a b c:Int) * c<=4000000 * 1000000:=by
  have e1:(bV a b c:Int)<=4000000:=by lia
  exact Int.mul_le_mul e1 hc' (by lia) (by lia)
 have hc0:0<=(bV a b c:Int) * c:=Int.mul_nonneg (by lia) (by lia);simp only[Builtin.Range.rangeFitsLong,aM,bL,decide_eq_true_eq,beq_iff_eq,hc,if_true];generalize hm:(bV a b c:Int) * c=m at *;lia
section
variable{X:Cx}{tg:Expr}
theorem yH{pins:List (Addr×Obj)}{σ:St}{H:Hp}{s:af}{R:It->Hp->Prop}{E:ae->af->Prop}{lo hi st:Int}{t u v:Tok}{tk:Nat}(I:Inv X pins σ H s)(hst:0<st)(hsm:Builtin.Range.small lo hi st=true)
  (q:R (ItS lo st (bV lo hi st)) H):ao (aq X.prog X.w) X.A (pyIter (.ref s.heap.objs.size)) (PIE X pins σ tg R) E {s with heap:=s.heap.push {cls:=.type "range",data:=.fields #[.int lo t,.int hi u,.int st v]},toks:=tk}:=by
 refine wpAny_pyIter_range (IsRange.new ..) hsm ?_;have I1:Inv X pins σ H {s with heap:=s.heap.push {cls:=.type "range",data:=.fields #[.int lo t,.int hi u,.int st v]},toks:=tk}:=I.kept λb o e=>Heap.get?_push_of_some _ e
 refine⟨(s.heap.push {cls:=.type "range",data:=.fields #[.int lo t,.int hi u,.int st v]}).objs.size,[(s.heap.push {cls:=.type "range",data:=.fields #[.int lo t,.int hi u,.int st v]}).objs.size],_,_,H,rfl,
  I1.kept (t':=tk) λb o e=>Heap.get?_push_of_some _ e,rM _ lo st (bV lo hi st),?_,λb hb=>?_,q⟩
 ·have e1:lo+((0:Nat):Int) * st=lo:=by simp
  have e2:((bV lo hi st:Nat):Int)-((0:Nat):Int)=dg lo hi st:=by rw[j4 hst];lia
  show IsRangeIter _ _ (lo+((0:Nat):Int) * st) (((bV lo hi st:Nat):Int)-((0:Nat):Int)) st;rw[e1,e2];exact Heap.get?_push_size _ rfl
 ·have e:b=(s.heap.push {cls:=.type "range",data:=.fields #[.int lo t,.int hi u,.int st v]}).objs.size:=by simpa using hb
  subst e;exact I1.fpOk (aD _) (I1.hok.fresh (aD _))
noncomputable def wY(ta:TA):TI:=λσ H R=>ta σ H λvs H1=>∃i j k:Int,vs=[.int i,.int j,.int k]/\(-1000000<=i/\i<=1000000/\-1000000<=j/\j<=1000000/\0<k/\k<=1000000)/\R (ItS i k (bV i j k)) H1
theorem xk{a b c:Expr}{ta:TA}{p pos:Pos}(hg:Gl X "range")(hm:X.mg "range" = none)(ha:PA X [a,b,c] ta)(hs:aZ [a,b,c] X.env=(false,eval a X.env)::aZ [b,c] X.env)(hs2:aZ [b,c] X.env=[(false,eval b X.env),(false,eval c X.env)]) :
  PI X tg (.Call (.Name "range" p) [a,b,c] [] pos) (wY ta):=by
 intro pins s σ H R I h;refine Call_ (fP I hg hm boot_range (eZ (thn (ha pos pins s σ H _ I h) λus s1 ⟨vs,H1,I1,r1,q1⟩=>?_) hs (by rw[hs2];rfl)));obtain⟨i,j,k,e,⟨q1,q2,q3,q4,q5,q6⟩,q⟩:=q1;subst e;cases r1 with
 |cons r rr=>
  cases rr with
  |cons r' rr=>
   cases rr with
   |cons r'' rr=>
    cases rr;obtain⟨t,rfl⟩:=r;obtain⟨t',rfl⟩:=r';obtain⟨t'',rfl⟩:=r'';exact call_range_3 (by lia) (yH I1 q5 (nR q5 q6 q1 q2 q3 q4) q) (.inl (PyProof.noPylong_small (by lia)))
end
section
variable{κ:Type} [DecidableEq κ]
noncomputable def cP(kvs:List (κ×V))(k:κ):Option V:=(kvs.find? λkv=>decide (kv.1=k)).map (·.2)
noncomputable def putK(kvs:List (κ×V))(k:κ)(v:V):List (κ×V):=
 if (kvs.any λkv=>decide (kv.1=k))=true then kvs.map (λkv=>if kv.1=k then (kv.1,v)else kv)else kvs++[(k,v)]
theorem fG{p:κ×V}{r:List (κ×V)}{k:κ}(e:p.1=k):cP (p::r) k=some p.2:=by simp[cP,List.find?_cons,e]
theorem fL{p:κ×V}{r:List (κ×V)}{k:κ}(e:¬ p.1=k):cP (p::r) k=cP r k:=by simp[cP,List.find?_cons,e]
theorem km(k:κ):∀kvs:List (κ×V),(kvs.any λkv=>decide (kv.1=k))=(cP kvs k).isSome
 | []=>rfl
 |p::r=>by
  rw[List.any_cons];by_cases e:p.1=k
  ·simp only[fG e,decide_eq_true e,Bool.true_or,Option.isSome_some]
  ·rw[fL e,decide_eq_false e,Bool.false_or];exact km k r
theorem CH(k j:κ)(y:V):∀kvs:List (κ×V),cP (kvs.map λkv=>if kv.1=k then (kv.1,y)else kv) j=(cP kvs j).map λx=>if j=k then y else x
 | []=>rfl
 |p::r=>by
  have ih:=CH k j y r;rw[a5];by_cases h:p.1=k
  ·rw[if_pos h];by_cases e:p.1=j
   ·rw[fG (p:=(p.1,y)) e,fG e,Option.map_some,if_pos (e.symm.trans h)]
   ·rw[fL (p:=(p.1,y)) e,fL e,ih]
  ·rw[if_neg h];by_cases e:p.1=j
   ·rw[fG (p:=p) e,fG e,Option.map_some,if_neg (λz=>h (e.trans z))]
   ·rw[fL (p:=p) e,fL e,ih]
theorem pf(kvs:List (κ×V))(k:κ)(v:V):(putK kvs k v).length<=kvs.length+1:=by
 unfold putK;split
 ·rw[aP];lia
 ·rw[cy,b4,List.length_nil];lia
theorem dX.isSome_eq{o:Option V}{u:Option ae}(r:dX o u):o.isSome=u.isSome:=by
 cases o with
 |none=>cases u with
  |none=>rfl
  |some _=>exact(show False from r).elim
 |some _=>cases u with
  |none=>exact(show False from r).elim
  |some _=>rfl
theorem KV.val{kvs:List (κ×V)}{vs:List (κ×ae)}(r:KV kvs vs)(k:κ):dX (cP kvs k) (valueAt vs k):=by
 unfold KV at r
 induction r with
 |nil=>exact True.intro
 | @cons p q ps qs h t ih=>
  obtain⟨h1,h2⟩:=h;by_cases e:p.1=k
  ·have e':q.1=k:=h1.symm.trans e;have b:valueAt (q::qs) k=some q.2:=by simp[valueAt,List.find?_cons,e']
   rw[fG e,b];exact h2
  ·have e':¬ q.1=k:=λz=>e (h1.trans z)
   have b:valueAt (q::qs) k=valueAt qs k:=by simp[valueAt,List.find?_cons,e']
   rw[fL e,b];exact ih
theorem KV.any{kvs:List (κ×V)}{vs:List (κ×ae)}(r:KV kvs vs)(k:κ):(kvs.any λkv=>decide (kv.1=k))=vs.any λkv=>decide (kv.1=k):=by
 unfold KV at r
 induction r with
 |nil=>rfl
 |cons h t ih=>rw[List.any_cons,List.any_cons,ih,h.1]
theorem KV.repl{kvs:List (κ×V)}{vs:List (κ×ae)}(r:KV kvs vs)(k:κ){y:V}{u:ae}(ry:RelV y u) :
  KV (kvs.map λkv=>if kv.1=k then (kv.1,y)else kv) (vs.map λkv=>if kv.1=k then (kv.1,u)else kv):=by
 unfold KV at r ⊢
 induction r with
 |nil=>exact .nil
 | @cons p q ps qs h t ih=>
  rw[a5,a5];refine .cons ?_ ih;obtain⟨h1,h2⟩:=h;by_cases e:p.1=k
  ·rw[if_pos e,if_pos (h1.symm.trans e)];exact⟨h1,ry⟩
  ·rw[if_neg e,if_neg (λz=>e (h1.trans z))];exact⟨h1,h2⟩
theorem KV.put{kvs:List (κ×V)}{vs:List (κ×ae)}(r:KV kvs vs)(k:κ){y:V}{u:ae}(ry:RelV y u):KV (putK kvs k y) (stored vs k u):=by
 unfold putK stored;rw[r.any k];by_cases e:(vs.any λkv=>decide (kv.1=k))=true
 ·rw[if_pos e,if_pos e];exact r.repl k ry
 ·rw[if_neg e,if_neg e];exact Paired.snoc r ⟨rfl,ry⟩
theorem KV.length{kvs:List (κ×V)}{vs:List (κ×ae)}(r:KV kvs vs):kvs.length=vs.length:=Paired.length r
end
theorem hX{P:aA}{w:av}{k:Key}{u:ae}(r:RelV (kV k) u):(zD P w).is k u=true:=by
 cases k with
 |inl i=>obtain⟨t,e⟩:=(show ∃t,u=ae.int i t from r);subst e;exact AG P w i t
 |inr x=>obtain⟨t,e⟩:=(show ∃t,u=ae.str x t from r);subst e;exact C9 P w x t
theorem mU{P:aA}{w:av}:∀{ks:List Key}{us:List ae},Vals (ks.map kV) us->ItemsAre (zD P w) ks us
 | [],_,r=>by rw[List.map_nil]at r;cases r;exact .nil
 |k::ks,_,r=>by
  rw[a5]at r;cases r with
  |cons h t=>exact .cons (hX h) (mU t)
abbrev KT(H:Hp):List (List Key×V)->List (List Key×Addr×ae)->Prop:=Paired λp q=>p.1=q.1/\H q.2.1=some (.tup (p.1.map kV))/\RelV p.2 q.2.2
theorem KT.val{H:Hp}{kvs:List (List Key×V)}{xs:List (List Key×Addr×ae)}(r:KT H kvs xs)(k:List Key):dX (cP kvs k) ((atKey xs k).map (·.2)):=by
 induction r with
 |nil=>exact True.intro
 | @cons p q ps qs h t ih=>
  obtain⟨h1,_,h2⟩:=h;by_cases e:p.1=k
  ·have e':q.1=k:=h1.symm.trans e;have b:atKey (q::qs) k=some q.2:=by simp[atKey,List.find?_cons,e']
   rw[fG e,b];exact h2
  ·have e':¬ q.1=k:=λz=>e (h1.trans z)
   have b:atKey (q::qs) k=atKey qs k:=by simp[atKey,List.find?_cons,e']
   rw[fL e,b];exact ih
theorem KT.repl{H:Hp}{kvs:List (List Key×V)}{xs:List (List Key×Addr×ae)}(r:KT H kvs xs)(k:List Key){y:V}{u:ae}(ry:RelV y u) :
  KT H (kvs.map λkv=>if kv.1=k then (kv.1,y)else kv) (xs.map (putAt k u)):=by
 induction r with
 |nil=>exact .nil
 | @cons p q ps qs h t ih=>
  rw[a5,a5];refine .cons ?_ ih;obtain⟨h1,h2,h3⟩:=h;unfold putAt;by_cases e:p.1=k
  ·rw[if_pos e,if_pos (h1.symm.trans e)];exact⟨h1,h2,ry⟩
  ·rw[if_neg e,if_neg (λz=>e (h1.trans z))];exact⟨h1,h2,h3⟩
theorem KT.put{H:Hp}{kvs:List (List Key×V)}{xs:List (List Key×Addr×ae)}(r:KT H kvs xs)(k:List Key){b:Addr}{y:V}{u:ae}(hb:H b=some (.tup (k.map kV)))(ry:RelV y u) :
  KT H (putK kvs k y) (storedH xs k b u):=by
 have e:(kvs.any λkv=>decide (kv.1=k))=(atKey xs k).isSome:=by
  rw[km,(r.val k).isSome_eq,Option.isSome_map]
 unfold putK storedH;rw[e];by_cases q:(atKey xs k).isSome=true
 ·rw[if_pos q,if_pos q];exact r.repl k ry
 ·rw[if_neg q,if_neg q];exact Paired.snoc r ⟨rfl,hb,ry⟩
theorem KT.keeps{H H':Hp}{kvs:List (List Key×V)}{xs:List (List Key×Addr×ae)}(r:KT H kvs xs)(ht:∀b ys,H b=some (.tup ys)->H' b=some (.tup ys)):KT H' kvs xs:=
 Paired.mapP r λ_ _ z=>⟨z.1,ht _ _ z.2.1,z.2.2⟩
section
variable{P:aA}{w:av}{H:Hp}{h:Heap}{a:Addr}
theorem pT{u:HO}(ok:HOk P w H h)(e:Rd H a u):zx P w H h a u:=e.ok ok
theorem gJ{kvs:List (Key×V)}(ok:HOk P w H h)(e:Rd H a (.dK kvs)):kvs.length<=aL/\(a==sysModules)=false/\∃vs,KV kvs vs/\h.DictOf (zD P w) a vs:=
 show zx P w H h a (.dK kvs)from pT ok e
theorem pZ{kvs:List (Key×V)}(ok:HOk P w H h)(e:H a=some (.dK kvs)):kvs.length<=aL/\(a==sysModules)=false/\∃vs,KV kvs vs/\h.DictOf (zD P w) a vs:=gJ ok (.inl e)
theorem g7{ks:List Key}(ok:HOk P w H h)(e:H a=some (.tup (ks.map kV))):(tupleKind (zD P w)).is h ks a:=by
 obtain⟨_,its,r,o,h1,h2,n,h3⟩:=(show zx P w H h a (.tup (ks.map kV))from ok a _ e)
 exact⟨o,its.toArray,n,h1,h2,h3,by simpa using mU r⟩
theorem gY{kvs:List (List Key×V)}(ok:HOk P w H h)(e:Rd H a (.dT kvs)):kvs.length<=aL/\(a==sysModules)=false /\
  ∃xs,KT H kvs xs/\h.DictOfH (tupleKind (zD P w)) a xs:=by
 obtain⟨z,y,xs,r,o,es,ep,h1,h2,h3,h4,h5⟩:=(show zx P w H h a (.dT kvs)from pT ok e)
 refine⟨z,y,xs,r,o,es,ep,h1,h2,h3,h4,λx hx=>?_,h5⟩;have all:∀{l:List (List Key×V)}{m:List (List Key×Addr×ae)},KT H l m->∀x∈m,(tupleKind (zD P w)).is h x.1 x.2.1:=by
  intro l m q
  induction q with
  |nil=>intro x hx;exact nomatch hx
  | @cons p q ps qs hq t ih=>
   intro x hx;rcases aN.mp hx with e|hx
   ·subst e;exact g7 ok (by rw[<-hq.1];exact hq.2.1)
   ·exact ih x hx
 exact all r x hx
theorem A_{kvs:List (List Key×V)}(ok:HOk P w H h)(e:H a=some (.dT kvs)):kvs.length<=aL/\(a==sysModules)=false /\
  ∃xs,KT H kvs xs/\h.DictOfH (tupleKind (zD P w)) a xs:=gY ok (.inl e)
end
noncomputable def eC(H:Hp)(a:Addr)(y:V)(r:Option V):Prop:=
 (∃kvs k,Rd H a (.dK kvs)/\y=kV k/\r=cP kvs k)\/∃kvs k b,Rd H a (.dT kvs)/\y=.ref b/\H b=some (.tup (k.map kV))/\r=cP kvs k
noncomputable def i9(H:Hp)(a:Addr)(y v:V)(H':Hp):Prop:=
 (∃kvs k,H a=some (.dK kvs)/\y=kV k/\kvs.length<aL/\H'=upd H a (.dK (putK kvs k v))) \/
 ∃kvs k b,H a=some (.dT kvs)/\y=.ref b/\H b=some (.tup (k.map kV))/\kvs.length<aL/\H'=upd H a (.dT (putK kvs k v))
theorem eC.k{H:Hp}{a:Addr}{kvs:List (Key×V)}{k:Key}(e:H a=some (.dK kvs)):eC H a (kV k) (cP kvs k):=.inl ⟨kvs,k,.inl e,rfl,rfl⟩
theorem i9.k{H:Hp}{a:Addr}{kvs:List (Key×V)}{k:Key}{v:V}(e:H a=some (.dK kvs))(hl:kvs.length<aL):i9 H a (kV k) v (upd H a (.dK (putK kvs k v))):=.inl ⟨kvs,k,e,rfl,hl,rfl⟩
section
variable{X:Cx}{pins:List (Addr×Obj)}{σ:St}{H:Hp}{s:af}{a:Addr}{y v:V}{u r:ae}{o:Option V}{A:az}{E:ae->af->Prop}
theorem Inv.big(I:Inv X pins σ H s):sysModules<s.heap.objs.size:=by
 have h:aE<s.heap.objs.size:=(I.mod.glob.keeps I.bk).lt;exact Nat.lt_trans (by decide) h
theorem Bz{Q:ae->af->Prop}(hu:A.units+1<cLine)(I:Inv X pins σ H s)(g:eC H a y (some v))(ry:RelV y u)(h:∀w' s',Inv X pins σ H s'->RelV v w'->Q w' s') :
  ao (aq X.prog X.w) A (getItem (.ref a) u) Q E s:=by
 rcases g with ⟨kvs,k,e,ey,l⟩|⟨kvs,k,b,e,ey,eb,l⟩
 ·subst ey;obtain⟨z,hd,vs,rel,dd⟩:=gJ I.hok e;obtain⟨w',hw,rw'⟩:=dX.some_of (v:=v) (o:=valueAt vs k) (by rw[l];exact rel.val k);exact wpAny_getItem_of (hX ry) dd.mapOf hw (h w' _ (I.tok _) rw')
 ·subst ey;cases (show u=bq b from ry);obtain⟨z,hd,xs,rel,dd⟩:=gY I.hok e;obtain⟨w',hw,rw'⟩:=dX.some_of (v:=v) (o:=(atKey xs k).map (·.2)) (by rw[l];exact rel.val k);obtain⟨p,hp,hp2⟩:=bA.mp hw;refine wpAny_getItem_heap (tupleKind_room_in1 hu) (g7 I.hok eb) dd hp ?_;rw[hp2];exact h w' _ (I.tok _) rw'
theorem tJ{Q:ae->af->Prop}(hu:A.units+1<cLine)(I:Inv X pins σ H s)(g:eC H a y o)(ry:RelV y u)(h:∀s',Inv X pins σ H s'->Q (.bool o.isSome) s') :
  ao (aq X.prog X.w) A (bg .In u (.ref a)) Q E s:=by
 rcases g with ⟨kvs,k,e,ey,l⟩|⟨kvs,k,b,e,ey,eb,l⟩
 ·subst ey;obtain⟨z,hd,vs,rel,dd⟩:=gJ I.hok e;refine wpAny_in_of (hX ry) hd dd.mapOf ?_;rw[<-(rel.val k).isSome_eq,<-l];exact h _ (I.tok _)
 ·subst ey;cases (show u=bq b from ry);obtain⟨z,hd,xs,rel,dd⟩:=gY I.hok e;refine wpAny_in_heap (tupleKind_room_in1 hu) (g7 I.hok eb) hd dd ?_;have q:=(rel.val k).isSome_eq;rw[Option.isSome_map]at q;rw[<-q,<-l];exact h _ (I.tok _)
theorem sE{Q:ae->af->Prop}(hu:A.units+1<cLine)(I:Inv X pins σ H s)(g:eC H a y o)(ry:RelV y u)(h:∀s',Inv X pins σ H s'->Q (.bool (!o.isSome)) s') :
  ao (aq X.prog X.w) A (bg .NotIn u (.ref a)) Q E s:=by
 rcases g with ⟨kvs,k,e,ey,l⟩|⟨kvs,k,b,e,ey,eb,l⟩
 ·subst ey;obtain⟨z,hd,vs,rel,dd⟩:=gJ I.hok e;refine wpAny_notIn_of (hX ry) hd dd.mapOf ?_;rw[<-(rel.val k).isSome_eq,<-l];exact h _ (I.tok _)
 ·subst ey;cases (show u=bq b from ry);obtain⟨z,hd,xs,rel,dd⟩:=gY I.hok e;refine wpAny_notIn_heap (tupleKind_room_in1 hu) (g7 I.hok eb) hd dd ?_;have q:=(rel.val k).isSome_eq;rw[Option.isSome_map]at q;rw[<-q,<-l];exact h _ (I.tok _)
theorem nQ{h':Heap}{t':Nat}{ob:HO}(I:Inv X pins σ H s)(mu:Mut (H a))(hs:Heap.SameBut a s.heap h')(he:∃q,h'.get? a=some q)(new:zx X.prog X.w (upd H a ob) h' a ob) :
  Inv X pins σ (upd H a ob) {s with heap:=h',toks:=t'}:=
 I.write (x:=a) (e:=a) mu (.inl rfl) (λb q hb z=>(hs.2 b hb).trans z) he new
theorem Ap{P:aA}{w:av}{H':Hp}{h':Heap}{kvs:List (Key×V)}{vs:List (Key×ae)}(z:kvs.length<=aL)(hd:(a==sysModules)=false)(rel:KV kvs vs)(dd:h'.DictOf (zD P w) a vs) :
  zx P w H' h' a (.dK kvs):=⟨z,hd,vs,rel,dd⟩
theorem y6{H':Hp}{Q:Unit->af->Prop}(hu:A.units+1<cLine)(I:Inv X pins σ H s)(g:i9 H a y v H')(ry:RelV y u)(rv:RelV v r)(h:∀s',Inv X pins σ H' s'->Q () s') :
  ao (aq X.prog X.w) A (setItem (.ref a) u r) Q E s:=by
 rcases g with ⟨kvs,k,e,ey,l,eH⟩|⟨kvs,k,b,e,ey,eb,l,eH⟩
 ·subst ey eH;obtain⟨z,hd,vs,rel,dd⟩:=pZ I.hok e;have hz:vs.length<=sizeLine:=by rw[<-rel.length];exact z
  have hl:(putK kvs k v).length<=sizeLine:=by have:=pf kvs k v;lia
  refine wpAny_setItem_pairs (hsz:=hz) (hX ry) dd λh' dd' hs=>h _ ?_
  have he:∃q,h'.get? a=some q:=let ⟨q,_,_,hq,_⟩:=dd';⟨q,hq⟩
  exact nQ I (by rw[e];exact True.intro) hs he (Ap hl hd (rel.put k rv) dd')
 ·subst ey eH;cases (show u=bq b from ry);obtain⟨z,hd,xs,rel,dd⟩:=A_ I.hok e;have hz:xs.length<=sizeLine:=by rw[<-Paired.length rel];exact z
  have hl:(putK kvs k v).length<=sizeLine:=by have:=pf kvs k v;lia
  refine wpAny_setItem_heap (hsz:=hz) (tupleKind_room_in1 hu) (g7 I.hok eb) dd λh' dd' hs=>h _ ?_
  obtain⟨q,es,ep,hq,h2,h3,h4,_,h5⟩:=dd';refine nQ I (by rw[e];exact True.intro) hs ⟨q,hq⟩ ⟨hl,hd,_,(rel.put k eb rv).keeps λc ys ec=>?_,q,es,ep,hq,h2,h3,h4,h5⟩;rw[qm (tN ec e (λz=>nomatch z))];exact ec
end
section
variable{X:Cx}{pins:List (Addr×Obj)}{σ:St}{H:Hp}{s:af}{a:Addr}{kvs:List (Key×V)}{k:Key}{u:ae}{A:az}{E:ae->af->Prop}
end
theorem rB{X:Cx}{pins:List (Addr×Obj)}{σ:St}{H:Hp}{s:af}{a:Addr}{y:V}{o:Option V}(I:Inv X pins σ H s)(g:eC H a y o):s.TypeIs (.ref a) "dict":=by
 rcases g with ⟨kvs,k,e,_,_⟩|⟨kvs,k,b,e,_,_,_⟩
 ·obtain⟨_,_,vs,_,dd⟩:=gJ I.hok e;exact dd.typeIs
 ·obtain⟨_,_,xs,_,dd⟩:=gY I.hok e;exact dd.typeIs
section
variable{X:Cx}{o i e value:Expr}{pos pos' tpos:Pos}{td ty tv:TE}
end
theorem vS{P:aA}{w:av}{H:Hp}(h:Heap)(hb:sysModules<h.objs.size):zx P w H (h.push {cls:=.type "dict",data:=.dict #[]}) h.objs.size (.dK []):=
 ⟨br _,beq_eq_false_iff_ne.mpr (Ne.symm (a6 hb)),[],.nil,Heap.DictOf.new h⟩
noncomputable def vO:TE:=λ_ H Q=>∀p,H p=none->Q (.ref p) (upd H p (.dK []))
section
variable{X:Cx}{pos:Pos}
theorem yS:PE X (.Dict [] [] pos) vO:=λpins s σ H Q I h=>
 wpAny_Dict_empty ⟨.ref s.heap.objs.size,_,I.laid (a:=s.heap.objs.size) (o:=.dK []) (t':=s.toks) (λ_ _ q=>Heap.get?_push_of_some _ q) (aD _) (vS s.heap I.big),rfl,h _ (I.hok.fresh (aD _))⟩
end
structure M1(X:Cx)(o:Expr)(m:Str)(apos:Pos)(e:Expr)(cpos:Pos):Prop where
 base:attributeBase o m X.env (eval o X.env)=eval o X.env
 few:((backTo cpos (aZ [e] X.env)).all (λx=>!x.1)&&(backToKw cpos (keywordEach [] X.env)).all (λx=>x.1.isSome)
  && decide (([e]:List Expr).length+([]:List Keyword).length+(if ([]:List Keyword).isEmpty then 0 else 1)<30))=true
 line:(apos.endLine==cpos.line)=true
 trees:backTo cpos (aZ [e] X.env)=[(false,eval e X.env)]
structure M2(X:Cx)(o:Expr)(m:Str)(apos:Pos)(e f:Expr)(cpos:Pos):Prop where
 base:attributeBase o m X.env (eval o X.env)=eval o X.env
 few:((backTo cpos (aZ [e,f] X.env)).all (λx=>!x.1)&&(backToKw cpos (keywordEach [] X.env)).all (λx=>x.1.isSome)
  && decide (([e,f]:List Expr).length+([]:List Keyword).length+(if ([]:List Keyword).isEmpty then 0 else 1)<30))=true
 line:(apos.endLine==cpos.line)=true
 trees:backTo cpos (aZ [e,f] X.env)=[(false,eval e X.env),(false,eval f X.env)]
section
variable{X:Cx}{pins:List (Addr×Obj)}{σ:St}{H:Hp}{s:af}{a:Addr}{y d:V}{u r:ae}{o:Option V}{A:az}{E:ae->af->Prop}
end
section
variable{X:Cx}{o e f:Expr}{apos cpos:Pos}{td ty tx:TE}
end
section
variable{X:Cx}{pins:List (Addr×Obj)}{σ:St}{H:Hp}{s:af}{a:Addr}{kvs:List (Key×V)}{A:az}{E:ae->af->Prop}
end
section
variable{X:Cx}{pins:List (Addr×Obj)}{σ:St}{H:Hp}{s:af}{a:Addr}{y:V}{u:ae}{A:az}{E:ae->af->Prop}
end
section
variable{X:Cx}
end
end L2
namespace HT
open PySem PySem.Spec PyProof.Rows L2
section
variable{prog:aA}{w:av}{A:az}{E:ae->af->Prop}{s:af}
theorem CA{l:Addr}{its:Array ae}{Q:List ae->af->Prop}(ht:IsTup s.heap l its)(hz:its.size<=aL)
  (h:Q its.toList {s with heap:=(s.heap.push (aG "list" #[] 0)).update s.heap.objs.size (ba (· ++ its))}) :
  ao (aq prog w) A (collect (.ref l)) Q E s:=by
 obtain⟨o,ho,hc,n,hd⟩:=id ht;unfold collect;apply ah;apply wpAny_runValue;apply bT entry_proto_collect';show ao _ _ (do again (.builtin "list.__iadd__" ⟨[<-newList [],.ref l],[]⟩)) _ _ s;apply ah;refine wpAny_newList (hsz:=br _) ?_;refine aB ⟨Code.quiet_builtin _ (by decide +kernel),?_⟩;apply bT entry_list_iadd';show ao _ _ (dY (.ref s.heap.objs.size) (.ref l) (.ref s.heap.objs.size)) _ _ ({s with heap:=s.heap.push (aG "list" #[] 0)}:af);have hS:(s.heap.push (aG "list" #[] 0)).get? s.heap.objs.size=some (aG "list" #[] 0):=Heap.get?_push_size _ rfl;have hT:=Heap.get?_push_of_some (aG "list" #[] 0) ho;unfold dY;apply ah;refine wpAny_typeOf (T:="tuple") ⟨o,hT,hc⟩ ?_;rw[if_pos (by simp)];apply ah;refine listItems_at hT hd ?_;apply ah;refine listItems_at hS rfl ?_;rw[if_neg (by simp)];apply ah;refine listUpdate_at hS rfl ?_ (br _) (by show (#[]++its).size<=aL+1;rw[Array.size_append];show 0+its.size<=_;lia);apply aB;show ao (aq prog w) A (load s.heap.objs.size>>=λo=>match o.data with
  | .seq xs _=>pure xs.toList
  |_=>unsupported "internal:collect") Q E _
 apply ah;refine wpAny_load (get?_update_seq hS _) ?_;show ao _ _ (pure ((#[]:Array ae)++its).toList) Q E _;rw[show ((#[]:Array ae)++its).toList=its.toList by simp];exact aB h
theorem xS{l:Addr}{vs:List ae}{ns:List Int}{Q:ae->af->Prop}(ht:IsTup s.heap l vs.toArray)(hI:a7 vs ns)(h64:vs.length<64)
  (h:∀(out:Array ae) (ns':List Int),a7 out.toList ns'->ns'.Perm ns->ns'.Pairwise (·<=·)->Q (.ref (s.heap.objs.size+1)) {s with heap:=sortedAll s.heap vs out}) :
  ao (aq prog w) A (call (.builtin "sorted") [.ref l]) Q E s:=by
 refine Calls.call_function_entry kind_sorted plain_sorted entry_sorted (args_sorted1 _) ?_;unfold Builtin.«sorted»;apply ah (m:=checkCount "sorted" 1 1 _);apply aB;apply ah;refine CA ht (by rw[aO,bf];lia) ?_;apply ah;refine wpAny_newList (hsz:=by rw[bf];show vs.length<=_;lia) ?_;have hz:((s.heap.push (aG "list" #[] 0)).update s.heap.objs.size (ba (· ++ vs.toArray))).objs.size=s.heap.objs.size+1:=by rw[Heap.size_update,size_push']
 have hL:(((s.heap.push (aG "list" #[] 0)).update s.heap.objs.size (ba (· ++ vs.toArray))).push (aG "list" vs.toArray 0)).get? (s.heap.objs.size+1)=some (aG "list" vs.toArray 0):=hz▸Heap.get?_push_size _ rfl;show ao _ _ _ _ _ ({s with heap:=((s.heap.push (aG "list" #[] 0)).update s.heap.objs.size (ba (· ++ vs.toArray))).push (aG "list" vs.toArray 0)}:af);rw[hz];apply ah;apply bJ;refine cA slot_list_sort ⟨_,hL,rfl⟩ entry_list_sort (list_sort_tree hL hI h64 λout ns' a1 a2 a3=>⟨_,rfl,?_⟩) (args_list_sort _);exact aB ⟨_,rfl,h out ns' a1 a2 a3⟩
end
end HT
namespace L2
open PySem PySem.Spec PyProof.Rows
variable{X:Cx}
noncomputable def tX(K:aC):List V->Hp->VK->Prop:=λvs H Q=>∃(l:Addr) (ns:List Int),vs=[.ref l]/\SqT K H l (ns.map V.int)/\ns.length<64/\∀(D:Addr) (ms:List Int),H D=none->ms.Perm ns->ms.Pairwise (·<=·)->Q (.ref D) (upd H D (.lst (ms.map V.int)))
theorem v_:qY X (.builtin "sorted") (tX X.K):=by
 intro pins s σ H xs us Q I r ⟨l,ns,e,hl,h64,q⟩;subst e;obtain⟨u,rfl,ru⟩:=r.one;cases ru;obtain⟨its,rv,ht,hz⟩:=I.tuple hl;have hI:=intsAre_of rv;have hle:=a7.length hI;refine HT.xS ht hI (by rw[hle];exact h64) λout ns' a1 a2 a3=>?_
 obtain⟨c,hc⟩:=sortedAll_at s.heap its out;have keep:∀b o,s.heap.get? b=some o->(sortedAll s.heap its out).get? b=some o:=λb o e=>sortedAll_old e
 have hn:H (s.heap.objs.size+1)=none:=I.hok.fresh (Nat.le_succ _);have hl':ns'.length=ns.length:=a2.length_eq;exact⟨.ref (s.heap.objs.size+1),_,I.laid (t':=s.toks) (o:=.lst (ns'.map V.int)) keep (Nat.le_succ _) ⟨by rw[aP,bf];lia,out.toList,c,jd a1,by rw[Array.toArray_toList];exact hc⟩,rfl,q _ ns' hn a2 a3⟩
noncomputable def bP(kvs:List (Int×Int)):List (Key×V):=kvs.map λp=>(Sum.inl p.1,V.int p.2)
noncomputable def atK(kvs:List (Int×Int))(i:Int):Option Int:=(kvs.find? λp=>decide (p.1=i)).map (·.2)
noncomputable def fN(kvs:List (Int×Int))(i v:Int):List (Int×Int):=if (kvs.any λp=>decide (p.1=i))=true then kvs.map (λp=>if p.1=i then (p.1,v)else p)else kvs++[(i,v)]
theorem lE(a i:Int):decide ((Sum.inl a:Key)=Sum.inl i)=decide (a=i):=decide_eq_decide.mpr ⟨λh=>Sum.inl.inj h,λh=>by rw[h]⟩
theorem BH(kvs:List (Int×Int))(i:Int):cP (bP kvs) (Sum.inl i)=(atK kvs i).map V.int:=by
 rw[cP,atK,bP]
 induction kvs with
 |nil=>rfl
 |cons p r ih=>
  rw[a5,List.find?_cons,List.find?_cons];rw[show decide ((Sum.inl p.1,V.int p.2).fst=(Sum.inl i:Key))=decide (p.1=i)from lE p.1 i];cases decide (p.1=i)with
  |true=>rfl
  |false=>exact ih
theorem nO(kvs:List (Int×Int))(i:Int):((bP kvs).any λkv=>decide (kv.1=Sum.inl i))=kvs.any λp=>decide (p.1=i):=by
 rw[bP,List.any_map]
 congr 1
 funext p;exact lE p.1 i
theorem oY(kvs:List (Int×Int))(i:Int):(cP (bP kvs) (Sum.inl i)).isSome=kvs.any λp=>decide (p.1=i):=by
 rw[<-km,nO]
theorem ud(kvs:List (Int×Int))(i v:Int):putK (bP kvs) (Sum.inl i) (V.int v)=bP (fN kvs i v):=by
 rw[putK,fN,nO];by_cases h:(kvs.any λp=>decide (p.1=i))=true
 ·rw[if_pos h,if_pos h,bP,bP,bN,bN];refine List.map_congr_left λp _=>?_
  show (if (Sum.inl p.1:Key)=Sum.inl i then ((Sum.inl p.1:Key),V.int v)else (Sum.inl p.1,V.int p.2))=_;by_cases e:p.1=i
  ·rw[if_pos (by rw[e])];show _=((Sum.inl (if p.1=i then (p.1,v)else p).1:Key),V.int (if p.1=i then (p.1,v)else p).2)
   rw[if_pos e]
  ·rw[if_neg (λz=>e (Sum.inl.inj z))];show _=((Sum.inl (if p.1=i then (p.1,v)else p).1:Key),V.int (if p.1=i then (p.1,v)else p).2)
   rw[if_neg e]
 ·rw[if_neg h,if_neg h,bP,bP,List.map_append];rfl
theorem AL(kvs:List (Int×Int)):(bP kvs).length=kvs.length:=aP ..
section
variable{X:Cx}
noncomputable def u_:List V->Hp->VK->Prop:=λvs H Q=>∃(l:Addr) (kvs:List (Int×Int)),vs=[.ref l]/\H l=some (.dK (bP kvs))/\kvs.length<64/\∀(D:Addr) (ms:List Int),H D=none->ms.Perm (kvs.map (·.1))->ms.Pairwise (·<=·)->Q (.ref D) (upd H D (.lst (ms.map V.int)))
theorem lq{P:aA}{w:av}:∀{ks:List (Int×Int)}{vs:List (Key×ae)}{xs:List ae},KV (bP ks) vs->xs.length=vs.length->(∀(j:Nat) (v:ae),xs[j]? = some v->∃k x,vs[j]? = some (k,x)/\(zD P w).is k v=true)->a7 xs (ks.map (·.1))
 | [],vs,xs,r,hl,h=>by
  cases r;cases xs with
  |nil=>exact .nil
  |cons _ _=>cases hl
 |p::ks,vs,xs,r,hl,h=>by
  cases r with
  | @cons a b as bs h1 t=>
   cases xs with
   |nil=>cases hl
   |cons x xs=>
    obtain⟨k,y,e1,e2⟩:=h 0 x rfl;cases e1;obtain⟨z1,_⟩:=h1;have z1:Sum.inl p.1=k:=z1;subst z1;obtain⟨tk,rfl⟩:∃t,x=ae.int p.1 t:=ae.isInt_shape (k:=p.1) (v:=x) e2;exact .cons _ _ (lq t (by simpa using hl) λj v e=>h (j+1) v e)
theorem Dh{prog:aA}{w:av}{A:az}{E:ae->af->Prop}{s:af}{T:String}{r d:Addr}{n:Nat}{P:Nat->ae->Prop}{OK:Heap->Prop}{R:List ae->af->Prop}(K:PySem.W.KdlSrc prog w T r d n P OK)(hh:A.handled=none)(hok:OK s.heap)(hn:n<=aL)
  (h:∀(h':Heap) (tk:Nat) (acc:Array ae),s.heap.objs.size<h'.objs.size->(∀b o,s.heap.get? b=some o->h'.get? b=some o)->ItemsOf P acc n->R acc.toList {s with heap:=h',toks:=tk}) :
  ao (aq prog w) A (collect (.ref r)) R E s:=by
 have hlt:=K.there _ hok;unfold collect;refine ah (wpAny_runValue (bT F.entry_proto_collect ?_));rw[cx F.plain_proto_collect _];show ao _ A.in1 (newList []>>=λl=>again (.builtin "list.__iadd__" ⟨[l,.ref r],[]⟩)) _ _ s;refine ah (di ?_);refine aB ⟨plainId_quiet F.plain_list_iadd _,bT F.entry_list_iadd ?_⟩;rw[cx F.plain_list_iadd _];have hS:(s.heap.push {cls:=.type "list",data:=.seq ([]:List ae).toArray}).get? s.heap.objs.size=some {cls:=.type "list",data:=.seq #[]}:=Heap.get?_push_size _ rfl;show ao _ A.in1 (dY (.ref s.heap.objs.size) (.ref r) (.ref s.heap.objs.size)) _ _ _;refine bK (PySem.W.kdl_extend (A:=A) (R:=λq s'=>∃h' tk acc c,q=.ok (.ret (.ref s.heap.objs.size))/\s'={s with heap:=h',toks:=tk}/\(∀b o,s.heap.get? b=some o->h'.get? b=some o)/\h'.get? s.heap.objs.size=some {cls:=.type "list",data:=.seq acc c}/\ItemsOf P acc n)
  K hh (K.keep _ _ hok λb _ o e=>Heap.get?_push_of_some _ e) _ (Nat.ne_of_gt hlt.1) (Nat.ne_of_gt hlt.2) (.ref s.heap.objs.size) 0 hS
  (λh' tk acc c k1 k2 k3=>⟨h',tk,acc,c,rfl,rfl,λb o e=>k1 b o (a6 (aK e)) (Heap.get?_push_of_some _ e),k2,k3⟩) hn) (λf s' x=>?_) λe s' x=>?_
 ·have fin:∀{q:Result}{s':af},(∃h' tk acc c,q=.ok (.ret (.ref s.heap.objs.size))/\s'={s with heap:=h',toks:=tk}/\(∀b o,s.heap.get? b=some o->h'.get? b=some o)/\h'.get? s.heap.objs.size=some {cls:=.type "list",data:=.seq acc c}/\ItemsOf P acc n)->∃u,q=.ok (.ret u)/\ao (aq prog w) A (match (u:ae)with|bq a=>load a>>=λo=>(match o.data with | .seq xs _=>pure xs.toList|_=>unsupported "internal:collect")|_=>unsupported "internal:collect") R E s':=by
   rintro q s' ⟨h',tk,acc,c,rfl,rfl,k1,k2,k3⟩;exact⟨_,rfl,ah (wpAny_load k2 (aB (h h' tk acc (aK k2) k1 k3)))⟩
  cases f with
  |done f=>
   obtain⟨u,e,z⟩:=fin x;cases e;exact z
  |again c=>
   refine⟨x.1,codeAny_mono x.2 λq s2 y=>?_⟩;obtain⟨u,rfl,z⟩:=fin y;exact z
 ·obtain⟨_,_,_,_,z,_⟩:=x;cases z
theorem BW(hc:X.calm=true):qY X (.builtin "sorted") u_:=by
 intro pins s σ H xs us Q I r ⟨l,kvs,e,hl,h64,q⟩;subst e;obtain⟨u,rfl,ru⟩:=r.one;cases ru;obtain⟨z,hd,vs,rel,dd⟩:=pZ I.hok hl;obtain⟨ep,hat⟩:=dd.dictAt;have hlen:vs.length=kvs.length:=by rw[<-rel.length];exact aP ..
 have hn:vs.length<=sizeLine:=by rw[bf];lia
 refine Calls.call_function_entry kind_sorted plain_sorted entry_sorted (args_sorted1 _) ?_;unfold Builtin.«sorted»;refine ah (m:=checkCount "sorted" 1 1 _) (aB ?_);refine ah (Dh (A:=X.A.in1) (PySem.W.kdl_dict (knd:=zD X.prog X.w) (kvs:=vs) (ep:=ep) hd) (I.ok.hd hc) hat hn λh' tk acc hsz hk hacc=>?_);have hla:acc.toList.length=vs.length:=by rw[aR];exact hacc.1
 have hI:a7 acc.toList (kvs.map (·.1)):=lq (P:=X.prog) (w:=X.w) rel hla λj v e=>hacc.2 j v (by rw[<-Array.getElem?_toList];exact e)
 refine ah (wpAny_newList ?_ (by rw[hla];exact hn));have hL:(h'.push (aG "list" acc.toList.toArray 0)).get? h'.objs.size=some (aG "list" acc.toList.toArray 0):=Heap.get?_push_size _ rfl;refine ah (bJ ?_);refine cA slot_list_sort ⟨_,hL,rfl⟩ entry_list_sort (list_sort_tree hL hI (by rw[hla,hlen];exact h64) λout ns' a1 a2 a3=>⟨_,rfl,?_⟩) (args_list_sort _);obtain⟨c,hc⟩:=sortedHeap_at (out:=out) hL;have hle:=a7.length a1;refine aB ⟨_,rfl,.ref h'.objs.size,_,I.laid (t':=tk) (o:=.lst (ns'.map V.int)) (λb o e=>?_) (Nat.le_of_lt hsz) ⟨by rw[aP,a2.length_eq,aP,bf];lia,out.toList,c,jd a1,by rw[Array.toArray_toList];exact hc⟩,rfl,q _ ns' (I.hok.fresh (Nat.le_of_lt hsz)) a2 a3⟩;have e1:=hk b o e;have hb:=aK e1;show (sortedHeap _ _ _ _).get? b=some o;rw[sortedHeap_old (a6 hb) (by rw[cc];exact bR hb)];exact Heap.get?_push_of_some _ e1
theorem wU(hu:X.A.units+64<cLine):OpR X (bg .In) (λx y H Q=>∃a kvs i,y=.ref a/\x=.int i/\H a=some (.dK (bP kvs))/\Q (.bl (kvs.any λp=>decide (p.1=i))) H):=by
 intro pins s σ H x y v u Q I rx ry ⟨a,kvs,i,e1,e2,ha,q⟩;subst e1 e2;obtain rfl:u=bq a:=ry;refine tJ (by lia) I (eC.k (k:=Sum.inl i) ha) rx λs' I'=>⟨.bl _,H,I',rfl,?_⟩
 rw[oY];exact q
theorem tj(hu:X.A.units+64<cLine):OpR X (bg .NotIn) (λx y H Q=>∃a kvs i,y=.ref a/\x=.int i/\H a=some (.dK (bP kvs))/\Q (.bl (!kvs.any λp=>decide (p.1=i))) H):=by
 intro pins s σ H x y v u Q I rx ry ⟨a,kvs,i,e1,e2,ha,q⟩;subst e1 e2;obtain rfl:u=bq a:=ry;refine sE (by lia) I (eC.k (k:=Sum.inl i) ha) rx λs' I'=>⟨.bl _,H,I',rfl,?_⟩
 rw[oY];exact q
theorem C6{prog:aA}{w:av}{A:az}{E:ae->af->Prop}{s:af}{e b:Expr}{o i:ae}{T id:String}{Q:ae->af->Prop}(hT:s.TypeIs o T)(hl:typeLookup (.type T) "__getitem__" = pure (some (.builtin id)))
  (h:ao (aq prog w) A (getItem o i) Q E s) (hs:subscripted b false o i=operate [o,i] (getItem o i)):ao (aq prog w) A (subscriptTail e b o i) Q E s:=by
 unfold subscriptTail;refine ah ?_;rw[getitemInPython_of_ne hT.not_modules];refine ah (wpAny_specialOf hT hl ?_);have fin:ao (aq prog w) A (subscripted b false o i) (λr s'=>ao (aq prog w) A (letTemporaryGo e o r>>=λ_=>pure r) Q E s') E s:=by
  rw[hs];exact wpAny_operating (bK h (λr s' z=>ah (wpAny_letTemporaryGo (aB z))) λ_ _ x=>x)
 first
  |exact aB (ah fin)
  |exact ah (aB (ah fin))
  |exact ah fin
noncomputable def lG:R2:=λx y H Q=>∃a kvs i v,x=.ref a/\y=.int i/\H a=some (.dK (bP kvs))/\atK kvs i=some v/\Q (.int v) H
theorem vw(hu:X.A.units+64<cLine):IxR X lG:=by
 intro value slice pins s σ H x y v u Q I rx ry ⟨a,kvs,i,z,e1,e2,ha,he,q⟩ hs;subst e1 e2;obtain rfl:v=bq a:=rx;have g:eC H a (.int i) (some (.int z)):=by
  have:=eC.k (k:=Sum.inl i) ha;rw[BH,he]at this;exact this
 exact C6 (rB I g) PySem.F.slot_dict_getitem.lookup (Bz (by lia) I g ry λw' s' I' rw'=>⟨_,H,I',rw',q⟩) hs
theorem fK.or{r r':V->V->V->Hp->(Hp->Prop)->Prop}(h:fK X r)(h':fK X r'):fK X (λx y v H Q=>r x y v H Q\/r' x y v H Q):=by
 intro pins s σ H o i v ov iv u Q I ro ri rv q;rcases q with q|q
 ·exact h pins s σ H o i v ov iv u Q I ro ri rv q
 ·exact h' pins s σ H o i v ov iv u Q I ro ri rv q
noncomputable def oG:V->V->V->Hp->(Hp->Prop)->Prop:=λo i v H Q=>∃a kvs k z,o=.ref a/\i=.int k/\v=.int z/\H a=some (.dK (bP kvs))/\kvs.length<aL/\Q (upd H a (.dK (bP (fN kvs k z))))
theorem CN(hu:X.A.units+64<cLine):fK X oG:=by
 intro pins s σ H o i v ov iv u Q I ro ri rv ⟨a,kvs,k,z,e1,e2,e3,ha,hz,q⟩;subst e1 e2 e3;obtain rfl:ov=bq a:=ro;refine y6 (by lia) I (i9.k (k:=Sum.inl k) (v:=.int z) ha (by rw[AL];exact hz)) ri rv λs' I'=>⟨_,I',?_⟩
 rw[ud];exact q
end
noncomputable def gF(kX:Str->Option aS)(NX NY:List Str)(cap:List (Option Nat))(scope:a9):Bool:=
 (scope.kind==.function)&&(scope.names.all λy=>(y.2 != .cell||scope.names.lookup y.1==some .cell)&&(y.2 != .local||scope.names.lookup y.1==some .local)&&(y.2 != .free||kX y.1==some .cell||kX y.1==some .free)) &&
 (cap.length==NY.length)&&(a_ cap.length).all λi=>match cap[i]? with
  |some (some j)=>(match NY[i]?,NX[j]? with
   |some x,some y=>x==y&&scope.names.lookup x==some .free&&(kX x==some .cell||kX x==some .free)
   |_,_=>false)
  |_=>true
theorem dH.of{X:Cx}{NY:List Str}{cap:List (Option Nat)}{scope:a9}(h:gF X.env.kindOf X.N NY cap scope=true):dH X NY cap scope:=by
 unfold gF at h;simp only[aM,dC,beq_iff_eq]at h;obtain⟨⟨⟨h1,h2⟩,h3⟩,h4⟩:=h;refine⟨h1,λy hy e=>?_,λy hy e=>?_,λy hy e=>?_,h3,λi j hc=>?_⟩
 ·have:=(h2 y hy).1.1;rw[e]at this
  simpa using this
 ·have:=(h2 y hy).1.2;rw[e]at this
  simpa using this
 ·have:=(h2 y hy).2;rw[e]at this
  simpa using this
 ·have hi:i<cap.length:=(List.getElem?_eq_some_iff.mp hc).1;have:=h4 i (List.mem_range.mpr hi);rw[hc]at this;dsimp only at this;split at this
  ·rename_i x y e1 e2
   simp only[aM,beq_iff_eq,bL]at this;obtain⟨⟨e3,e4⟩,e5⟩:=this;subst e3;exact⟨x,e1,e2,e4,e5⟩
  ·cases this
end L2
namespace WB
open PySem PySem.Spec PyProof.Rows L2
section
variable{P:aA}{w:av}{K:aC}{mg:Str->Option ae}{base:Heap}{f g:Addr}{fd gd:FuncData}
theorem _root_.L2.Fun.ok1{x qual:Str}{st:Stmt}{f:Addr}{fd:FuncData}{N ps:List Str}{k:Nat}{sp:Sp}(F:Fun K x qual st f fd)(S:g9 N ps (zo st))(len:∀vs H Q E,sp vs H Q E->vs.length=ps.length)
  (hbody:∀(cdv:ae) (A:az) (outer:List Env) (s:af) (H:Hp) (vs:List V) (Q:VK) (E:XK),ck k (A.deeper (envOfC qual (zo st) s.heap.objs.size f cdv))->sp vs H Q E ->
   ∃t,PSs (eP (CX1 P w) P w K mg base N qual (zo st) f cdv A outer s H E) (dU st) t/\t {nx:=λ_ H'=>Q .non H',rt:=Q} (start N vs) H):fm P w K mg base (CX1 P w) (k+1) f fd ps sp:=by
 obtain⟨oc,od,kV,doc,pm,an,cdv,ct,osl,rfl,lk,hcd⟩:=F.ex;exact tF lk hcd S len λA outer s H vs Q E hr hsp=>hbody cdv A outer s H vs Q E hr hsp
end
noncomputable def xI(H:Hp)(ps:List Addr)(ks:List (Int×Int)):Prop:=ps.length=ks.length/\∀(i:Nat) p k,ps[i]? = some p->ks[i]? = some k->H p=some (.tup [.int k.1,.int k.2])
structure Built(H0:Hp)(acc:Addr)(ks:List (Int×Int))(H:Hp):Prop where
 ex:∃ps:List Addr,H acc=some (.lst (ps.map V.ref))/\xI H ps ks
 same:∀b o,b≠acc->H0 b=some o->H b=some o
end WB
set_option genSizeOf false
set_option genSizeOfSpec false
namespace EV
open PySem L2
inductive D where
 |non|bl (b:Bool)|int (i:Int)|str (x:Str)|tup (xs:List D)|lst (xs:List D)|fn (x:Str)|exn (c:Str)|dic (kvs:List (Int×Int))
inductive R(α:Type) where
 |ok (a:α)|ex (c:Str)|no
noncomputable def R.bind{α β:Type}:R α->(α->R β)->R β
 | .ok a,f=>f a
 | .ex c,_=>.ex c
 | .no,_=>.no
@[simp] theorem R.bind_ok{α β:Type}(a:α)(f:α->R β):(R.ok a).bind f=f a:=rfl
@[simp] theorem R.bind_ex{α β:Type}(c:Str)(f:α->R β):(R.ex c:R α).bind f=.ex c:=rfl
@[simp] theorem R.bind_no{α β:Type}(f:α->R β):(R.no:R α).bind f=.no:=rfl
inductive O2 where
 |add|sub|mul|fdiv|mod|pow|shl|shr|band|bor|bxor
 deriving DecidableEq
inductive C2 where
 |eq|ne|lt|le|gt|ge|isin|notin|is|isnot
 deriving DecidableEq
inductive B1 where
 |len|tuple|list|sorted|all|any|sum|min|max|abs|int|bool
 deriving DecidableEq
inductive Cl where
 |ty (n:String)|ex (x:Str)
 deriving DecidableEq
inductive Tg where
 |nm (i:Nat)|tp (is:List Nat)
mutual
inductive E where
 |var (i:Nat)|own (i:Nat)|con (d:D)|glb (x:Str)|fnv (x:Str)
 |op (o:O2) (a b:E)|neg (a:E)|inv (a:E)|not (a:E)|and (a b:E)|or (a b:E)
 |cmp (c:C2) (a b:E)|cmp2 (c c':C2) (a b d:E)|cmp3 (c c' c'':C2) (a b d e:E)
 |ite (t:T) (a b:E)
 |tup (es:Es)|lst (es:Es)
 |ix (a b:E)|sl (a:E) (lo hi:OE)
 |call (f:Str) (es:Es)|callE (f:E) (es:Es)
 |bi (b:B1) (es:Es)
 |rtup (a:It)|rlst (a:It)
 |isi (a:E) (c:Cl)
 |comp (it:It) (cap:List (Option Nat)) (tg:Tg) (t:T) (elt:E)
 |mth (ix:Bool) (a:E)
 |cnt (a b:E)
 |mxk (mx:Bool) (a:E)
 |dic
 |callo (f:Str) (es:Es)
 |comp2 (it:It) (cap:List (Option Nat)) (tg:Tg) (it2:It) (tg2:Tg) (t:T) (elt:E)
 |fst2 (t0:Str) (a:E) (t1:Str) (b:E) (t2:Str)
 |sset (ln:Bool) (a:E)
 |rev (a:E)
 |dic1 (a b:E)
 |dget (a b:E)
 |dget2 (a b d:E)
 |lsd (a:E)
 |lstc (f:Str) (es:Es)
inductive OE where
 |none|some (e:E)
inductive Es where
 |nil|cons (e:E) (es:Es)
inductive It where
 |seq (e:E)|rng (a:E)|rng2 (a b:E)|enum (e:E)|zip (a b:E)|rng3 (a b k:E)|rrev (a:E)
inductive T where
 |yes|val (e:E)|cmp (c:C2) (a b:E)|cmp2 (c c':C2) (a b d:E)|and (a b:T)|or (a b:T)|not (a:T)
end
noncomputable def SZ:Nat:=1000000
noncomputable def small(j:Int):Bool:=decide (-(2^64)<j)&&decide (j<2^64)
noncomputable def opI:O2->Int->Int->R D
 | .add,i,j=>.ok (.int (i+j))
 | .sub,i,j=>.ok (.int (i-j))
 | .mul,i,j=>if small i||small j then .ok (.int (i * j))else .no
 | .fdiv,i,j=>if 0<j/\j<1000000000000000000000000000000 then .ok (.int (i/j))else .no
 | .mod,i,j=>if 0<j then .ok (.int (i%j))else .no
 | .pow,i,j=>if 0<=j/\j<=1000000/\i.natAbs<2^64 then .ok (.int (i^j.toNat))else .no
 | .shl,i,j=>if 0<=j/\j<=1000000/\i.natAbs<2^64 then .ok (.int (i * 2^j.toNat))else .no
 | .shr,i,j=>if 0<=j then .ok (.int (i/2^j.toNat))else .no
 | .band,i,j=>.ok (.int (Builtin.bitAnd i j))
 | .bor,i,j=>.ok (.int (Builtin.bitOr i j))
 | .bxor,i,j=>.ok (.int (Builtin.bitXor i j))
noncomputable def zu:D->Bool
 | .lst _=>true
 | .dic _=>true
 |_=>false
noncomputable def kP:D->Bool
 | .lst _=>true
 |_=>false
noncomputable def op2(o:O2):D->D->R D
 | .int i,.int j=>opI o i j
 | .tup xs,.tup ys=>if o=.add/\xs.length+ys.length<=SZ then .ok (.tup (xs++ys))else .no
 | .lst xs,.lst ys=>if o=.add/\xs.length+ys.length<=SZ then .ok (.lst (xs++ys))else .no
 | .lst xs,.int j=>if o=.mul/\0<=j/\xs.length * j.toNat<=SZ/\j<=1000000 then .ok (.lst (aX j.toNat xs).flatten)else .no
 | .tup xs,.int j=>if o=.mul/\0<=j/\xs.length * j.toNat<=SZ/\j<=1000000 then .ok (.tup (aX j.toNat xs).flatten)else .no
 |_,_=>.no
mutual
noncomputable def D.plain:D->Bool
 | .non=>true
 | .bl _=>true
 | .int _=>true
 | .str x=>PyData.strOk x
 | .tup xs=>plainAll xs
 | .lst xs=>plainAll xs
 | .fn _=>false
 | .exn _=>false
 | .dic _=>false
noncomputable def plainAll:List D->Bool
 | []=>true
 |x::xs=>x.plain&&plainAll xs
end
mutual
noncomputable def D.deep:D->Nat
 | .tup xs=>dO xs+1
 | .lst xs=>dO xs+1
 |_=>0
noncomputable def dO:List D->Nat
 | []=>0
 |x::xs=>max x.deep (dO xs)
end
mutual
noncomputable def D.eqv:D->D->Bool
 | .non,.non=>true
 | .bl a,.bl b=>a==b
 | .bl a,.int j=>(if a then 1 else 0)==j
 | .int i,.bl b=>i==(if b then 1 else 0)
 | .int i,.int j=>i==j
 | .str x,.str y=>x==y
 | .tup xs,.tup ys=>eqvAll xs ys
 | .lst xs,.lst ys=>eqvAll xs ys
 |_,_=>false
noncomputable def eqvAll:List D->List D->Bool
 | [],[]=>true
 |x::xs,y::ys=>x.eqv y&&eqvAll xs ys
 |_,_=>false
end
noncomputable def D.asks(d:D):Bool:=d.plain&&decide (d.deep<=20)
mutual
noncomputable def D.noL:D->Bool
 | .non=>true
 | .bl _=>true
 | .int _=>true
 | .str _=>true
 | .tup xs=>mF xs
 |_=>false
noncomputable def mF:List D->Bool
 | []=>true
 |x::xs=>x.noL&&mF xs
end
noncomputable def ints?:List D->Option (List Int)
 | []=>some []
 | .int i::r=>(ints? r).map (i :: ·)
 |_=>none
noncomputable def bools?:List D->Option (List Bool)
 | []=>some []
 | .bl i::r=>(bools? r).map (i :: ·)
 |_=>none
noncomputable def pairs?:List D->Option (List (Int×Int))
 | []=>some []
 | .tup [.int i,.int j]::r=>(pairs? r).map ((i,j) :: ·)
 |_=>none
noncomputable def seq?:D->Option (List D)
 | .tup xs=>some xs
 | .lst xs=>some xs
 |_=>none
noncomputable def du:List Int->List Int->Bool
 | [],[]=>false
 | [],_::_=>true
 |_::_,[]=>false
 |a::r,b::t=>if a=b then du r t else decide (a<b)
noncomputable def gE(c:C2)(i j:Int):Option Bool:=
 match c with
 | .lt=>some (decide (i<j))
 | .le=>some (decide (i<=j))
 | .gt=>some (decide (j<i))
 | .ge=>some (decide (j<=i))
 | .eq=>some (decide (i=j))
 | .ne=>some (!decide (i=j))
 |_=>none
noncomputable def inD(x:D)(xs:List D):Bool:=xs.any λy=>y.eqv x
noncomputable def hU:D->Bool
 | .non=>true
 |_=>false
noncomputable def isB(n:Bool):D->D->R Bool
 | .bl a,.bl b=>.ok (n != (a==b))
 |_,_=>.no
noncomputable def eY(a b:D):R Bool:=match b with
 | .dic kvs=>(match a with
  | .int i=>.ok (kvs.any λp=>decide (p.1=i))
  |_=>.no)
 |_=>.no
noncomputable def qE:C2->D->D->R Bool
 | .is,a,b=>if hU b then .ok (hU a)else isB false a b
 | .isnot,a,b=>if hU b then .ok (!hU a)else isB true a b
 | .isin,a,b=>match seq? b with
  |some xs=>if a.asks&&xs.all D.asks then .ok (inD a xs)else .no
  |none=>eY a b
 | .notin,a,b=>match seq? b with
  |some xs=>if a.asks&&xs.all D.asks then .ok (!inD a xs)else .no
  |none=>(eY a b).bind λr=>.ok (!r)
 | .eq,a,b=>if a.asks&&b.asks then .ok (a.eqv b)else .no
 | .ne,a,b=>if a.asks&&b.asks then .ok (!a.eqv b)else .no
 | .lt,.tup xs,.tup ys=>match ints? xs,ints? ys with
  |some ns,some ms=>.ok (du ns ms)
  |_,_=>.no
 |c,.int i,.int j=>match gE c i j with
  |some b=>.ok b
  |none=>.no
 |_,_,_=>.no
noncomputable def truth:D->R Bool
 | .non=>.ok false
 | .bl b=>.ok b
 | .int i=>.ok (i != 0)
 | .tup xs=>.ok (!xs.isEmpty)
 | .lst xs=>.ok (!xs.isEmpty)
 |_=>.no
noncomputable def ixD:D->D->R D
 | .tup xs,.int i=>match atI xs i with|some d=>.ok d|none=>.no
 | .lst xs,.int i=>match atI xs i with|some d=>.ok d|none=>.no
 | .dic kvs,.int i=>match atK kvs i with|some v=>.ok (.int v)|none=>.no
 |_,_=>.no
noncomputable def cutD(xs:List D)(lo hi:Option Int):List D:=(xs.drop (HT.sIx xs.length 0 lo)).take (HT.sIx xs.length xs.length hi-HT.sIx xs.length 0 lo)
noncomputable def slD:D->Option Int->Option Int->R D
 | .lst xs,lo,hi=>.ok (.lst (cutD xs lo hi))
 |_,_,_=>.no
noncomputable def insI(i:Int):List Int->List Int
 | []=>[i]
 |j::r=>if i<=j then i::j::r else j::insI i r
noncomputable def sortI:List Int->List Int
 | []=>[]
 |i::r=>insI i (sortI r)
noncomputable def jq(p:Int×Int):List (Int×Int)->List (Int×Int)
 | []=>[p]
 |q::r=>if ltP q p then q::jq p r else p::q::r
noncomputable def ee:List (Int×Int)->List (Int×Int)
 | []=>[]
 |p::r=>jq p (ee r)
noncomputable def pairD(p:Int×Int):D:=.tup [.int p.1,.int p.2]
noncomputable def ez(d:D)(k:List D->R D):R D:=match d with | .lst xs=>k xs|_=>.no
noncomputable def ibR(d:D)(f:Int->R D)(q:Bool->R D):R D:=match d with | .int i=>f i | .bl b=>q b|_=>.no
noncomputable def iiR(d e:D)(k:Int->Int->R D):R D:=match d,e with | .int i,.int j=>k i j|_,_=>.no
noncomputable def cg{α β:Type}(o:Option α)(k:α->R β):R β:=match o with|some a=>k a|none=>.no
noncomputable def tups?:List D->Option (List (List Int))
 | []=>some []
 | .tup xs::r=>(ints? xs).bind λn=>(tups? r).map (n :: ·)
 |_=>none
noncomputable def eU(p:List Int):List (List Int)->List (List Int)
 | []=>[p]
 |q::r=>if du q p then q::eU p r else p::q::r
noncomputable def zA:List (List Int)->List (List Int)
 | []=>[]
 |p::r=>eU p (zA r)
noncomputable def fQ(l:List Int):D:=.tup (l.map D.int)
noncomputable def eB:List (List Int)->Bool
 |p::q::r=>p.isEmpty||(p::q::r).all λt=>!t.isEmpty
 | [_]=>true
 |_=>false
noncomputable def cR(xs:List D):R D:=cg (tups? xs) λts=>if eB ts then .ok (.lst ((zA ts).map fQ))else .no
noncomputable def b11(b:B1)(d:D):R D:=match b with
 | .len=>cg (seq? d) λxs=>.ok (.int xs.length)
 | .tuple=>cg (seq? d) λxs=>.ok (.tup xs)
 | .list=>cg (seq? d) λxs=>.ok (.lst xs)
 | .all=>ez d λxs=>cg (bools? xs) λbs=>.ok (.bl (bs.all id))
 | .any=>ez d λxs=>cg (bools? xs) λbs=>.ok (.bl (bs.any id))
 | .sorted=>match d with
  | .tup xs=>if xs.length<64 then cg (ints? xs) λns=>.ok (.lst ((sortI ns).map D.int))else .no
  | .dic kvs=>if kvs.length<64 then .ok (.lst ((sortI (kvs.map (·.1))).map D.int))else .no
  |d=>ez d λxs=>if xs.length<64 then (match ints? xs with
   |some ns=>.ok (.lst ((sortI ns).map D.int))
   |none=>match pairs? xs with
    |some ps=>.ok (.lst ((ee ps).map pairD))
    |none=>cR xs)else cR xs
 | .abs=>.no
 | .int=>ibR d (λi=>.ok (.int i)) λb=>.ok (.int (if b then 1 else 0))
 | .bool=>.no
 | .min=>.no
 | .max=>.no
 | .sum=>.no
noncomputable def b12(b:B1)(d e:D):R D:=match b with
 | .min=>iiR d e λi j=>.ok (.int (if j<i then j else i))
 | .max=>iiR d e λi j=>.ok (.int (if j>i then j else i))
 |_=>.no
noncomputable def uq{α:Type} [DecidableEq α]:List α->List α
 | []=>[]
 |a::l=>if a∈l then uq l else a::uq l
noncomputable def one?:D->Option (List D)
 | .tup xs=>some xs
 |_=>none
noncomputable def iz(ln:Bool)(d:D):R D:=cg (one? d) λxs=>if xs.length<1200 then (match ints? xs with
 |some ns=>if ln then .no else .ok (.lst ((sortI (uq ns)).map D.int))
 |none=>.no)else .no
noncomputable def b1(b:B1):List D->R D
 | [d]=>b11 b d
 | [d,e]=>b12 b d e
 |_=>.no
noncomputable def tyD:D->Option String
 | .non=>some "NoneType"
 | .bl _=>some "bool"
 | .int _=>some "int"
 | .str _=>some "str"
 | .tup _=>some "tuple"
 | .lst _=>some "list"
 | .dic _=>some "dict"
 |_=>none
noncomputable def zE(lo:Int)(n:Nat):List D:=(a_ n).map λ(i:Nat)=>.int (lo+(i:Int))
noncomputable def fC(lo st:Int)(n:Nat):List D:=(a_ n).map λ(i:Nat)=>.int (lo+(i:Int) * st)
noncomputable def dN:Nat->List D->List D
 |_,[]=>[]
 |k,x::r=>.tup [.int k,x]::dN (k+1) r
noncomputable def qg(j:Int):Bool:=decide (-1000000<=j)&&decide (j<=1000000)
abbrev Env:=List (Option D)
structure W where
 call:Str->List D->R D
 glb:Str->Option D
 sub:Str->Cl->Option Bool
 cat:Str->Str->Bool
noncomputable def cW(w:W)(x:D)(c:Cl):R D:=match tyD x,c with
 |some t,.ty n=>if n = "ValueError" then .no else .ok (.bl (fU t n))
 |_,_=>.no
noncomputable def b6(τ:Env)(i:Nat):R D:=match τ[i]? with
 |some (some d)=>.ok d
 |_=>.no
noncomputable def setAll:List Nat->List D->Env->R Env
 | [],[],τ=>.ok τ
 |i::is,d::ds,τ=>setAll is ds (τ.set i (some d))
 |_,_,_=>.no
noncomputable def store:Tg->D->Env->R Env
 | .nm i,d,τ=>.ok (τ.set i (some d))
 | .tp is,.tup ds,τ=>if ds.length=is.length then setAll is ds τ else .no
 |_,_,_=>.no
noncomputable def eM(cap:List (Option Nat))(τ:Env):Env:=cap.map λo=>o.bind λj=>(τ[j]?).join
noncomputable def noEx{α:Type}:R α->R α
 | .ok a=>.ok a
 |_=>.no
noncomputable def cn(body:D->Env->R (Env×List D)):List D->Env->List D->R (List D)
 | [],_,acc=>.ok acc
 |x::r,τ,acc=>(body x τ).bind λp=>cn body r p.1 (acc++p.2)
mutual
noncomputable def evE(w:W):E->Env->R D
 | .var i,τ=>b6 τ i
 | .own i,τ=>b6 τ i
 | .con d,_=>.ok d
 | .glb x,_=>match w.glb x with|some d=>.ok d|none=>.no
 | .fnv x,_=>.no
 | .op o a b,τ=>(evE w a τ).bind λx=>(evE w b τ).bind λy=>op2 o x y
 | .neg a,_=>.no
 | .inv a,_=>.no
 | .not a,τ=>(evE w a τ).bind λx=>match x with | .bl b=>.ok (.bl (!b))|_=>.no
 | .and a b,τ=>(evE w a τ).bind λx=>match x with | .bl true=>evE w b τ | .bl false=>.ok (.bl false)|_=>.no
 | .or a b,τ=>(evE w a τ).bind λx=>match x with | .bl true=>.ok (.bl true) | .bl false=>evE w b τ|_=>.no
 | .cmp c a b,τ=>(evE w a τ).bind λx=>(evE w b τ).bind λy=>(qE c x y).bind λr=>.ok (.bl r)
 | .cmp2 c c' a b d,τ=>(evE w a τ).bind λx=>(evE w b τ).bind λy=>(qE c x y).bind λr=>if r then (evE w d τ).bind λz=>(qE c' y z).bind λr'=>.ok (.bl r')else .ok (.bl false)
 | .cmp3 c c' c'' a b d e,τ=>(evE w a τ).bind λx=>(evE w b τ).bind λy=>(qE c x y).bind λr=>if r then (evE w d τ).bind λz=>(qE c' y z).bind λr'=>if r' then (evE w e τ).bind λu=>(qE c'' z u).bind λr''=>.ok (.bl r'')else .ok (.bl false)else .ok (.bl false)
 | .ite t a b,τ=>(evT w t τ).bind λr=>if r then evE w a τ else evE w b τ
 | .tup es,τ=>(zB w es τ).bind λds=>.ok (.tup ds)
 | .lst es,τ=>(zB w es τ).bind λds=>.ok (.lst ds)
 | .ix a b,τ=>(evE w a τ).bind λx=>(evE w b τ).bind λy=>ixD x y
 | .sl a lo hi,τ=>(evE w a τ).bind λx=>(evO w lo τ).bind λl=>(evO w hi τ).bind λh=>slD x l h
 | .call f es,τ=>(zB w es τ).bind λds=>w.call f ds
 | .callE f es,_=>.no
 | .bi b es,τ=>(zB w es τ).bind λds=>b1 b ds
 | .rtup a,τ=>(evI w a τ).bind λds=>.ok (.tup ds)
 | .rlst a,τ=>(evI w a τ).bind λds=>.ok (.lst ds)
 | .isi a c,τ=>(evE w a τ).bind λx=>cW w x c
 | .comp it cap tg t elt,τ=>(evI w it τ).bind λds=>if SZ<ds.length then .no else (cn (λx σ=>noEx ((store tg x σ).bind λσ'=>(evT w t σ').bind λr=>if r then (evE w elt σ').bind λd=>.ok (σ',[d])else .ok (σ',[]))) ds (eM cap τ) []).bind λout=>.ok (.lst out)
 | .mth ix a,_=>.no
 | .cnt a b,_=>.no
 | .mxk mx a,_=>.no
 | .dic,_=>.ok (.dic [])
 | .callo f es,_=>.no
 | .comp2 it cap tg it2 tg2 t elt,_=>.no
 | .fst2 t0 a t1 b t2,_=>.no
 | .sset ln a,τ=>(evE w a τ).bind (iz ln)
 | .rev a,_=>.no
 | .dic1 a b,_=>.no
 | .dget a b,_=>.no
 | .dget2 a b d,_=>.no
 | .lsd a,_=>.no
 | .lstc f es,τ=>(zB w es τ).bind λds=>(w.call f ds).bind λd=>if zu d then .ok d else .no
noncomputable def evO(w:W):OE->Env->R (Option Int)
 | .none,_=>.ok none
 | .some e,τ=>(evE w e τ).bind λx=>match x with | .int i=>.ok (some i)|_=>.no
noncomputable def zB(w:W):Es->Env->R (List D)
 | .nil,_=>.ok []
 | .cons e es,τ=>(evE w e τ).bind λd=>(zB w es τ).bind λds=>.ok (d::ds)
noncomputable def evI(w:W):It->Env->R (List D)
 | .seq e,τ=>(evE w e τ).bind λx=>match seq? x with|some xs=>.ok xs|none=>.no
 | .rng a,τ=>(evE w a τ).bind λx=>match x with | .int j=>if qg j then .ok (zE 0 j.toNat)else .no|_=>.no
 | .rng2 a b,τ=>(evE w a τ).bind λx=>(evE w b τ).bind λy=>match x,y with | .int i,.int j=>if qg i&&qg j then .ok (zE i (j-i).toNat)else .no|_,_=>.no
 | .enum e,τ=>(evE w e τ).bind λx=>match x with | .lst xs=>.ok (dN 0 xs)|_=>.no
 | .zip a b,_=>.no
 | .rng3 a b k,τ=>(evE w a τ).bind λx=>(evE w b τ).bind λy=>(evE w k τ).bind λz=>match x with
  | .int i=>(match y with
   | .int j=>(match z with
    | .int l=>if qg i&&qg j&&(decide (0<l)&&qg l)then .ok (fC i l (L2.bV i j l))else .no
    |_=>.no)
   |_=>.no)
  |_=>.no
 | .rrev a,_=>.no
noncomputable def evT(w:W):T->Env->R Bool
 | .yes,_=>.ok true
 | .val e,τ=>(evE w e τ).bind λx=>truth x
 | .cmp c a b,τ=>(evE w a τ).bind λx=>(evE w b τ).bind λy=>qE c x y
 | .cmp2 c c' a b d,τ=>(evE w a τ).bind λx=>(evE w b τ).bind λy=>(qE c x y).bind λr=>if r then (evE w d τ).bind λz=>qE c' y z else .ok false
 | .and a b,τ=>(evT w a τ).bind λr=>if r then evT w b τ else .ok false
 | .or a b,τ=>(evT w a τ).bind λr=>if r then .ok true else evT w b τ
 | .not a,τ=>(evT w a τ).bind λr=>.ok (!r)
end
theorem zb:∀{w i τ},@Eq (R D) (evE w (.var i) τ) (b6 τ i):=rfl
theorem zf:∀{w i τ},@Eq (R D) (evE w (.own i) τ) (b6 τ i):=rfl
theorem ze:∀{w d τ},@Eq (R D) (evE w (.con d) τ) (.ok d):=rfl
theorem zd:∀{w x τ},@Eq (R D) (evE w (.glb x) τ) (match w.glb x with|some d=>.ok d|none=>.no):=rfl
theorem zc:∀{w x τ},@Eq (R D) (evE w (.fnv x) τ) (.no):=rfl
theorem za:∀{w o a b τ},@Eq (R D) (evE w (.op o a b) τ) ((evE w a τ).bind λx=>(evE w b τ).bind λy=>op2 o x y):=rfl
theorem zi:∀{w a τ},@Eq (R D) (evE w (.neg a) τ) (.no):=rfl
theorem zh:∀{w a τ},@Eq (R D) (evE w (.inv a) τ) (.no):=rfl
theorem zg:∀{w a τ},@Eq (R D) (evE w (.not a) τ) ((evE w a τ).bind λx=>match x with | .bl b=>.ok (.bl (!b))|_=>.no):=rfl
theorem qy:∀{w a b τ},@Eq (R D) (evE w (.and a b) τ) ((evE w a τ).bind λx=>match x with | .bl true=>evE w b τ | .bl false=>.ok (.bl false)|_=>.no):=rfl
theorem qB:∀{w a b τ},@Eq (R D) (evE w (.or a b) τ) ((evE w a τ).bind λx=>match x with | .bl true=>.ok (.bl true) | .bl false=>evE w b τ|_=>.no):=rfl
theorem qr:∀{w c a b τ},@Eq (R D) (evE w (.cmp c a b) τ) ((evE w a τ).bind λx=>(evE w b τ).bind λy=>(qE c x y).bind λr=>.ok (.bl r)):=rfl
theorem qC:∀{w c c' a b d τ},@Eq (R D) (evE w (.cmp2 c c' a b d) τ) ((evE w a τ).bind λx=>(evE w b τ).bind λy=>(qE c x y).bind λr=>if r then (evE w d τ).bind λz=>(qE c' y z).bind λr'=>.ok (.bl r')else .ok (.bl false)):=rfl
theorem qD:∀{w c c' c'' a b d e τ},@Eq (R D) (evE w (.cmp3 c c' c'' a b d e) τ) ((evE w a τ).bind λx=>(evE w b τ).bind λy=>(qE c x y).bind λr=>if r then (evE w d τ).bind λz=>(qE c' y z).bind λr'=>if r' then (evE w e τ).bind λu=>(qE c'' z u).bind λr''=>.ok (.bl r'')else .ok (.bl false)else .ok (.bl false)):=rfl
theorem qe:∀{w t a b τ},@Eq (R D) (evE w (.ite t a b) τ) ((evT w t τ).bind λr=>if r then evE w a τ else evE w b τ):=rfl
theorem qw:∀{w es τ},@Eq (R D) (evE w (.tup es) τ) ((zB w es τ).bind λds=>.ok (.tup ds)):=rfl
theorem qt:∀{w es τ},@Eq (R D) (evE w (.lst es) τ) ((zB w es τ).bind λds=>.ok (.lst ds)):=rfl
theorem qq:∀{w a b τ},@Eq (R D) (evE w (.ix a b) τ) ((evE w a τ).bind λx=>(evE w b τ).bind λy=>ixD x y):=rfl
theorem qx:∀{w a lo hi τ},@Eq (R D) (evE w (.sl a lo hi) τ) ((evE w a τ).bind λx=>(evO w lo τ).bind λl=>(evO w hi τ).bind λh=>slD x l h):=rfl
theorem qA:∀{w f es τ},@Eq (R D) (evE w (.call f es) τ) ((zB w es τ).bind λds=>w.call f ds):=rfl
theorem qR:∀{w f es τ},@Eq (R D) (evE w (.callE f es) τ) (.no):=rfl
theorem qk:∀{w b es τ},@Eq (R D) (evE w (.bi b es) τ) ((zB w es τ).bind λds=>b1 b ds):=rfl
theorem ql:∀{w a τ},@Eq (R D) (evE w (.rtup a) τ) ((evI w a τ).bind λds=>.ok (.tup ds)):=rfl
theorem qI:∀{w a τ},@Eq (R D) (evE w (.rlst a) τ) ((evI w a τ).bind λds=>.ok (.lst ds)):=rfl
theorem qz:∀{w a c τ},@Eq (R D) (evE w (.isi a c) τ) ((evE w a τ).bind λx=>cW w x c):=rfl
theorem qo:∀{w it cap tg t elt τ},@Eq (R D) (evE w (.comp it cap tg t elt) τ) ((evI w it τ).bind λds=>if SZ<ds.length then .no else (cn (λx σ=>noEx ((store tg x σ).bind λσ'=>(evT w t σ').bind λr=>if r then (evE w elt σ').bind λd=>.ok (σ',[d])else .ok (σ',[]))) ds (eM cap τ) []).bind λout=>.ok (.lst out)):=rfl
theorem qN:∀{w ix a τ},@Eq (R D) (evE w (.mth ix a) τ) (.no):=rfl
theorem qG:∀{w a b τ},@Eq (R D) (evE w (.cnt a b) τ) (.no):=rfl
theorem qJ:∀{w mx a τ},@Eq (R D) (evE w (.mxk mx a) τ) (.no):=rfl
theorem qS:∀{w τ},@Eq (R D) (evE w (.dic) τ) (.ok (.dic [])):=rfl
theorem qH:∀{w f es τ},@Eq (R D) (evE w (.callo f es) τ) (.no):=rfl
theorem qO:∀{w it cap tg it2 tg2 t elt τ},@Eq (R D) (evE w (.comp2 it cap tg it2 tg2 t elt) τ) (.no):=rfl
theorem qP:∀{w t0 a t1 b t2 τ},@Eq (R D) (evE w (.fst2 t0 a t1 b t2) τ) (.no):=rfl
theorem qu:∀{w ln a τ},@Eq (R D) (evE w (.sset ln a) τ) ((evE w a τ).bind (iz ln)):=rfl
theorem qF:∀{w a τ},@Eq (R D) (evE w (.rev a) τ) (.no):=rfl
theorem qM:∀{w a b τ},@Eq (R D) (evE w (.dic1 a b) τ) (.no):=rfl
theorem qT:∀{w a b τ},@Eq (R D) (evE w (.dget a b) τ) (.no):=rfl
theorem qK:∀{w a b d τ},@Eq (R D) (evE w (.dget2 a b d) τ) (.no):=rfl
theorem qQ:∀{w a τ},@Eq (R D) (evE w (.lsd a) τ) (.no):=rfl
theorem qL:∀{w f es τ},@Eq (R D) (evE w (.lstc f es) τ) ((zB w es τ).bind λds=>(w.call f ds).bind λd=>if zu d then .ok d else .no):=rfl
theorem fj:∀{w τ},@Eq (R Bool) (evT w (.yes) τ) (.ok true):=rfl
theorem fq:∀{w e τ},@Eq (R Bool) (evT w (.val e) τ) ((evE w e τ).bind λx=>truth x):=rfl
theorem fb:∀{w c a b τ},@Eq (R Bool) (evT w (.cmp c a b) τ) ((evE w a τ).bind λx=>(evE w b τ).bind λy=>qE c x y):=rfl
theorem fv:∀{w c c' a b d τ},@Eq (R Bool) (evT w (.cmp2 c c' a b d) τ) ((evE w a τ).bind λx=>(evE w b τ).bind λy=>(qE c x y).bind λr=>if r then (evE w d τ).bind λz=>qE c' y z else .ok false):=rfl
theorem fg:∀{w a b τ},@Eq (R Bool) (evT w (.and a b) τ) ((evT w a τ).bind λr=>if r then evT w b τ else .ok false):=rfl
theorem fE:∀{w a b τ},@Eq (R Bool) (evT w (.or a b) τ) ((evT w a τ).bind λr=>if r then .ok true else evT w b τ):=rfl
theorem fz:∀{w a τ},@Eq (R Bool) (evT w (.not a) τ) ((evT w a τ).bind λr=>.ok (!r)):=rfl
mutual
inductive S where
 |set (tg:Tg) (e:E)
 |app (i:Nat) (e:E)
 |seti (i:Nat) (k e:E)
 |exp (e:E)
 |ret (e:E)|retN
 |ite (t:T) (a b:Ss)
 |for (tg:Tg) (it:It) (b:Ss)
 |while (t:T) (b:Ss)
 |raise (c:Str) (es:Es)
 |try (b:Ss) (c:Str) (i:Option Nat) (h:Ss)
 |ins (i:Nat) (k e:E)
 |pass|brk|cnt|unk
 |par (i j:Nat) (a b:E)
 |par3 (i j k:Nat) (a b c:E)
 |dupd (i:Nat) (e:E)
 |pop0 (j i:Nat)
 |ext (i:Nat) (e:E)
 |retn (e:E)
 |try2 (b:Ss) (c:Str) (i:Nat) (h:Ss) (c2:Str) (h2:Ss)
inductive Ss where
 |nil|cons (s:S) (r:Ss)
end
inductive O where
 |nx (τ:Env)|rt (d:D)|bk (τ:Env)|ct (τ:Env)|ex (c:Str)|no
noncomputable def R.out{α:Type}:R α->(α->O)->O
 | .ok a,f=>f a
 | .ex c,_=>.ex c
 | .no,_=>.no
@[simp] theorem R.out_ok{α:Type}(a:α)(f:α->O):(R.ok a).out f=f a:=rfl
@[simp] theorem R.out_ex{α:Type}(c:Str)(f:α->O):(R.ex c:R α).out f=.ex c:=rfl
@[simp] theorem R.out_no{α:Type}(f:α->O):(R.no:R α).out f=.no:=rfl
noncomputable def dE(tg:Tg)(body:Env->O):List D->Env->O
 | [],τ=>.nx τ
 |x::r,τ=>(store tg x τ).out λτ'=>match body τ' with
  | .nx σ=>dE tg body r σ
  | .ct σ=>dE tg body r σ
  | .bk σ=>.nx σ
  |o=>o
noncomputable def O.noEx:O->O
 | .ex _=>.no
 |o=>o
noncomputable def O.rtOnly:O->O
 | .rt d=>.rt d
 |_=>.no
noncomputable def iQ(τ:Env)(i:Option Nat)(k:Str):Env:=match i with
 |none=>τ.map λ_=>none
 |some i=>(τ.map λ_=>none).set i (some (.exn k))
mutual
noncomputable def evS(w:W):S->Env->O
 | .set tg e,τ=>(evE w e τ).out λd=>(store tg d τ).out .nx
 | .app i e,τ=>(b6 τ i).out λx=>match x with
  | .lst xs=>(evE w e τ).out λd=>if xs.length<SZ then .nx (τ.set i (some (.lst (xs++[d]))))else .no
  |_=>.no
 | .seti i k e,τ=>(evE w e τ).out λd=>(b6 τ i).out λx=>(evE w k τ).out λn=>match x,n with
  | .lst xs,.int j=>match ixN xs.length j with
   |some m=>.nx (τ.set i (some (.lst (xs.set m d))))
   |none=>.no
  | .dic kvs,.int j=>(match d with
   | .int v=>if kvs.length<SZ then .nx (τ.set i (some (.dic (fN kvs j v))))else .no
   |_=>.no)
  |_,_=>.no
 | .exp e,τ=>(evE w e τ).out λ_=>.nx τ
 | .ret e,τ=>(evE w e τ).out .rt
 | .retN,_=>.rt .non
 | .ite t a b,τ=>(evT w t τ).out λr=>if r then qi w a τ else qi w b τ
 | .for tg it b,τ=>((evI w it τ).out λds=>dE tg (λσ=>qi w b σ) ds τ).noEx
 | .while t b,_=>.no
 | .raise c es,_=>.no
 | .try b c i h,_=>.no
 | .ins i k e,_=>.no
 | .unk,_=>.no
 | .pass,τ=>.nx τ
 | .brk,τ=>.bk τ
 | .cnt,τ=>.ct τ
 | .par i j a b,_=>.no
 | .par3 i j k a b c,_=>.no
 | .dupd i e,_=>.no
 | .pop0 j i,_=>.no
 | .ext i e,_=>.no
 | .retn e,τ=>(evE w e τ).out λd=>if zu d then .no else .rt d
 | .try2 b c i h c2 h2,τ=>match qi w b τ with
  | .ex k=>if w.cat k c=true then (qi w h (iQ τ (some i) k)).rtOnly else if w.cat c c=true/\w.sub k (.ex c)=some false/\w.cat k c2=true then (qi w h2 (iQ τ none k)).rtOnly else .no
  |o=>o
noncomputable def qi(w:W):Ss->Env->O
 | .nil,τ=>.nx τ
 | .cons s r,τ=>match evS w s τ with
  | .nx σ=>qi w r σ
  |o=>o
end
theorem zJ:∀{w tg e τ},@Eq (O) (evS w (.set tg e) τ) ((evE w e τ).out λd=>(store tg d τ).out .nx):=rfl
theorem cK:∀{w i e τ},@Eq (O) (evS w (.app i e) τ) ((b6 τ i).out λx=>match x with
  | .lst xs=>(evE w e τ).out λd=>if xs.length<SZ then .nx (τ.set i (some (.lst (xs++[d]))))else .no
  |_=>.no):=rfl
theorem cG:∀{w i k e τ},@Eq (O) (evS w (.seti i k e) τ) ((evE w e τ).out λd=>(b6 τ i).out λx=>(evE w k τ).out λn=>match x,n with
  | .lst xs,.int j=>match ixN xs.length j with
   |some m=>.nx (τ.set i (some (.lst (xs.set m d))))
   |none=>.no
  | .dic kvs,.int j=>(match d with
   | .int v=>if kvs.length<SZ then .nx (τ.set i (some (.dic (fN kvs j v))))else .no
   |_=>.no)
  |_,_=>.no):=rfl
theorem cQ:∀{w e τ},@Eq (O) (evS w (.exp e) τ) ((evE w e τ).out λ_=>.nx τ):=rfl
theorem zH:∀{w e τ},@Eq (O) (evS w (.ret e) τ) ((evE w e τ).out .rt):=rfl
theorem cF:∀{w τ},@Eq (O) (evS w (.retN) τ) (.rt .non):=rfl
theorem cm:∀{w t a b τ},@Eq (O) (evS w (.ite t a b) τ) ((evT w t τ).out λr=>if r then qi w a τ else qi w b τ):=rfl
theorem cD:∀{w tg it b τ},@Eq (O) (evS w (.for tg it b) τ) (((evI w it τ).out λds=>dE tg (λσ=>qi w b σ) ds τ).noEx):=rfl
theorem cX:∀{w t b τ},@Eq (O) (evS w (.while t b) τ) (.no):=rfl
theorem zK:∀{w c es τ},@Eq (O) (evS w (.raise c es) τ) (.no):=rfl
theorem zO:∀{w b c i h τ},@Eq (O) (evS w (.try b c i h) τ) (.no):=rfl
theorem zQ:∀{w i k e τ},@Eq (O) (evS w (.ins i k e) τ) (.no):=rfl
theorem zT:∀{w τ},@Eq (O) (evS w (.unk) τ) (.no):=rfl
theorem zW:∀{w τ},@Eq (O) (evS w (.pass) τ) (.nx τ):=rfl
theorem zV:∀{w τ},@Eq (O) (evS w (.brk) τ) (.bk τ):=rfl
theorem zR:∀{w τ},@Eq (O) (evS w (.cnt) τ) (.ct τ):=rfl
theorem cZ:∀{w i j a b τ},@Eq (O) (evS w (.par i j a b) τ) (.no):=rfl
theorem zZ:∀{w i j k a b c τ},@Eq (O) (evS w (.par3 i j k a b c) τ) (.no):=rfl
theorem cY:∀{w i e τ},@Eq (O) (evS w (.dupd i e) τ) (.no):=rfl
theorem zP:∀{w j i τ},@Eq (O) (evS w (.pop0 j i) τ) (.no):=rfl
theorem c_:∀{w i e τ},@Eq (O) (evS w (.ext i e) τ) (.no):=rfl
theorem zY:∀{w e τ},@Eq (O) (evS w (.retn e) τ) ((evE w e τ).out λd=>if zu d then .no else .rt d):=rfl
theorem cV:∀{w b c i h c2 h2 τ},@Eq (O) (evS w (.try2 b c i h c2 h2) τ) (match qi w b τ with
  | .ex k=>if w.cat k c=true then (qi w h (iQ τ (some i) k)).rtOnly else if w.cat c c=true/\w.sub k (.ex c)=some false/\w.cat k c2=true then (qi w h2 (iQ τ none k)).rtOnly else .no
  |o=>o):=rfl
structure Fn where
 ps:Nat
 N:Nat
 fr:Bool
 body:Ss
noncomputable def cM(w:W)(f:Fn)(ds:List D):R D:=if ds.length=f.ps then (match qi w f.body (ds.map some++aX (f.N-f.ps) none)with
  | .nx _=>if f.fr then .no else .ok .non
  | .rt d=>.ok d
  | .ex c=>.ex c
  |_=>.no)else .no
structure Pr where
 fns:Str->Option Fn
 glb:Str->Option D
 sub:Str->Cl->Option Bool
 cat:Str->Str->Bool
noncomputable def qf(p:Pr):Nat->Str->List D->R D
 | 0,_,_=>.no
 |k+1,x,ds=>match p.fns x with
  |some f=>cM ⟨qf p k,p.glb,p.sub,p.cat⟩ f ds
  |none=>.no
inductive GK where
  |fn (fresh:Bool)|val|bi (b:B1)|rng|enum|zip|isi|ty (n:String) (b:Option B1)|exc|exk|set|rvd
  deriving DecidableEq
structure Cc where
  nm:List (Str×aS)
  N:List Str
  own:List Str
  G:List (Str×GK)
  calm:Bool
  fnc:Bool
  thr:Bool
  GH:List (Str×GK)
  oc:List Str
  frz:Bool
noncomputable def loc(c:Cc)(x:Str):Option Nat:=
  if x == "__debug__" ||x == "__classdict__" then none else
  match c.nm.lookup x with
  |some .local|some .cell|some .free=>let i:=c.N.findIdx (· == x);if c.N[i]? = some x then some i else none
  |_=>none
noncomputable def dw(c:Cc)(x:Str):Option Nat:=
  match c.nm.lookup x with
  |some .local=>loc c x
  |some .cell=>if c.fnc||c.oc.contains x then loc c x else none
  |_=>none
noncomputable def glob(c:Cc)(x:Str):Option GK:=
  if x == "__debug__" ||x == "__name__" then none else
  match c.nm.lookup x with
  |some .globalImplicit=>c.G.lookup x
  |_=>none
noncomputable def esc:E->Bool
  | .own _=>false
  |_=>true
noncomputable def d_:Es->Bool
  | .nil=>true
  | .cons e es=>esc e&&d_ es
noncomputable def isL:E->Bool
  | .lst _=>true
  | .rlst _=>true
  | .comp .. => true
  |_=>false
noncomputable def Dn:O2->Bool
  | .add=>true
  | .mul=>true
  |_=>false
noncomputable def fresh(c:Cc):E->Bool
  | .op o a b=>Dn o&&isL a||o==.add&&isL b
  | .lst _=>true
  | .rlst _=>true
  | .comp .. => true
  | .comp2 .. => true
  | .dic=>true
  | .dic1 .. => true
  | .lsd _=>true
  | .bi .list _=>true
  | .bi .sorted _=>true
  | .lstc f _=>c.G.lookup f==some (.fn true)
  |_=>false
noncomputable def zL(c:Cc):E->Bool
  | .call f _=>c.G.lookup f==some (.fn true)
  | .ite _ a b=>zL c a&&zL c b
  |e=>fresh c e
noncomputable def iI(c:Cc):E->E
  | .call f es=>if c.G.lookup f==some (.fn true)then .lstc f es else .call f es
  |e=>e
noncomputable def o2:Operator->Option O2
  | .Add=>some .add
  | .Sub=>some .sub
  | .Mult=>some .mul
  | .FloorDiv=>some .fdiv
  | .Mod=>some .mod
  | .Pow=>some .pow
  | .LShift=>some .shl
  | .RShift=>some .shr
  | .BitAnd=>some .band
  | .BitOr=>some .bor
  | .BitXor=>some .bxor
  |_=>none
noncomputable def c2:CmpOp->C2
  | .Eq=>.eq
  | .NotEq=>.ne
  | .Lt=>.lt
  | .LtE=>.le
  | .Gt=>.gt
  | .GtE=>.ge
  | .Is=>.is
  | .IsNot=>.isnot
  | .In=>.isin
  | .NotIn=>.notin
noncomputable def eR:Expr->Bool
  | .ListComp .. => true
  | .SetComp .. => true
  | .DictComp .. => true
  |_=>false
noncomputable def zt:Expr->Bool
  | .Set .. => false
  |_=>true
noncomputable def i4(names nm:List (Str×aS)):List (Str×aS):=names.map λ(n,k)=>if k==bU&&(nm.lookup n==some .cell)then (n,aS.cell)else (n,k)
noncomputable def bY(names:List (Str×aS)):List Str:=(names.filter λp=>p.2==.local||p.2==.free||p.2==.cell).map (·.1)
noncomputable def gr(c:Cc)(names:List (Str×aS)):List (Option Nat):=(bY names).map λx=>if names.lookup x==some .free then loc c x else none
noncomputable def fX:List Expr->Option (List Str)
  | []=>some []
  | .Name x _::r=>(fX r).map (x :: ·)
  |_=>none
noncomputable def cTg(c:Cc):Expr->Option Tg
  | .Name x _=>if c.own.contains x then none else (dw c x).map .nm
  | .Tuple es _ _=>if c.calm then do
      let xs <-fX es
      if xs.any c.own.contains then none else
      let is <-xs.mapM (dw c)
      if is.Nodup then some (.tp is)else none
    else none
  |_=>none
noncomputable def isStar:Expr->Bool
  | .Starred .. => true
  |_=>false
noncomputable def isSlice:Expr->Bool
  | .Slice .. => true
  |_=>false
noncomputable def isTup:Expr->Bool
  | .Tuple .. => true
  |_=>false
noncomputable def gk(it:It)(tg:Expr):Bool:=match it with
  | .enum _=>isTup tg
  | .zip .. => isTup tg
  |_=>true
noncomputable def i0(c:Cc):Expr->Option Cl
  | .Name x _=>match glob c x with
    |some (.ty n _)=>some (.ty n)
    |some .exc=>some (.ex x)
    |some .exk=>some (.ex x)
    |_=>none
  |_=>none
noncomputable def vr(c:Cc)(x:Str)(i:Nat):E:=if c.own.contains x then .own i else .var i
noncomputable def cMt(c:Cc)(o:Expr)(m:Str)(ap:Pos)(as:List Expr)(cp:Pos):Option E:=none
noncomputable def baseOk:Expr->Bool
  | .Call (.Name _ _) (_::_) _ _=>true
  | .Name .. => true
  |_=>false
noncomputable def owned:It->Bool
  | .seq (.own _)=>true
  | .enum (.own _)=>true
  | .zip (.own _) _=>true
  | .zip _ (.own _)=>true
  |_=>false
noncomputable def jA:Expr->Option Str
  | .Constant k _ _=>match k with
    | .str t=>some t
    |_=>none
  |_=>none
noncomputable def nr:Expr->Option Expr
  | .FormattedValue a k f _=>match f with
    |none=>if k = -1 then some a else none
    |_=>none
  |_=>none
noncomputable def DF:List Expr->Option (Str×Expr×Str×Expr×Str)
  | [x0,x1,x2,x3,x4]=>do
    let t0 <-jA x0
    let a <-nr x1
    let t1 <-jA x2
    let b <-nr x3
    let t2 <-jA x4
    if (Str.empty++t0).length<=1000 then some (t0,a,t1,b,t2)else none
  |_=>none
noncomputable def DD:Expr->Bool
  | .UnaryOp .USub (.Constant (.int i) _ _) _=>decide (i=1)
  |_=>false
noncomputable def k7(c:Cc)(b:B1):List Expr->Option Expr
  | [.Call (.Name g _) [a] [] _]=>if (b==.sorted)&&loc c g==none&&glob c g==some .set && !isStar a&&c.calm then some a else none
  |_=>none
noncomputable def jR(c:Cc)(t:String):List Expr->Option Expr
  | [a]=>match a with
    | .Name x _=>if t == "list" && c.calm&&c.own.contains x then some a else none
    |_=>none
  |_=>none
noncomputable def iL:Expr->Bool
  | .ListComp _ gs _ _=>gs.length==2
  |_=>false
mutual
noncomputable def cE:Nat->Cc->Expr->Option E
  | 0,_,_=>none
  |n+1,c,e=>match e with
    | .Name x _=>match loc c x with
      |some i=>if c.own.contains x then some (.own i)else some (.var i)
      |none=>match glob c x with
        |some .val=>some (.glb x)
        |some (.fn _)=>some (.fnv x)
        |_=>none
    | .Constant k _ _=>match k with
      | .int i=>some (.con (.int i))
      | .bool i=>some (.con (.bl i))
      | .none=>some (.con .non)
      | .str x=>some (.con (.str x))
      |_=>none
    | .BinOp a op b _=>do
      let o <-o2 op
      let a <-cE n c a
      let b <-cE n c b
      some (.op o a b)
    | .UnaryOp op a _=>do
      let a <-cE n c a
      match op with
      | .USub=>some (.neg a)
      | .Invert=>some (.inv a)
      | .Not=>some (.not a)
      |_=>none
    | .BoolOp op vs _=>cBo n c op vs
    | .Compare a ops bs _=>match ops,bs with
      | [o],[b]=>do
        let a <-cE n c a
        let b' <-cE n c b
        if zt b then some (.cmp (c2 o) a b')else none
      | [o,o'],[b,d]=>do
        let a <-cE n c a
        let b' <-cE n c b
        let d' <-cE n c d
        if zt b&&zt d then some (.cmp2 (c2 o) (c2 o') a b' d')else none
      | [o,o',o''],[b,d,f]=>do
        let a <-cE n c a
        let b' <-cE n c b
        let d' <-cE n c d
        let f' <-cE n c f
        if zt b&&zt d&&zt f then some (.cmp3 (c2 o) (c2 o') (c2 o'') a b' d' f')else none
      |_,_=>none
    | .Dict ks vs _=>match ks with
      | []=>if vs.isEmpty then some .dic else none
      |k::r=>match k with
        |some k=>match vs with
          |v::q=>if r.isEmpty&&q.isEmpty then (do
              let k <-cE n c k
              let v <-cE n c v
              some (.dic1 k v))else none
          | []=>none
        |none=>none
    | .IfExp t a b _=>do
      let t <-cT n c t
      let a <-cE n c a
      let b <-cE n c b
      if esc a&&esc b then some (.ite t a b)else none
    | .Tuple es _ _=>do
      let es <-cEs n c es
      if d_ es then some (.tup es)else none
    | .List es _=>do
      let es <-cEs n c es
      if d_ es then some (.lst es)else none
    | .Subscript a b _=>match b with
      | .Slice lo hi st _=>match st with
        |some _=>none
        |none=>do
          let a <-cE n c a
          let lo <-cO n c lo
          let hi <-cO n c hi
          some (.sl a lo hi)
      |b=>do
        if isSlice b then none else
        let a <-cE n c a
        let b <-cE n c b
        some (.ix a b)
    | .ListComp elt gs sc _=>match gs with
     | [⟨tgt,it,ifs,asy⟩]=>do
      if !(asy==0) || !c.calm || !zt it then none else
      let c':Cc:={c with nm:=i4 sc.names c.nm,N:=bY sc.names,fnc:=false,oc:=gC sc.names}
      let cap:=gr c sc.names
      if !gF (λx=>c.nm.lookup x) c.N (bY sc.names) cap sc || !decide (bY sc.names).Nodup then none else
      let it <-cI n c it
      let tg <-cTg c' tgt
      let t <-fD n c' ifs
      let elt <-cE n c' elt
      if esc elt&&gk it tgt then some (.comp it cap tg t elt)else none
     |_=>none
    | .Call fe as ks cp=>match ks with
     | []=>match fe with
      | .Name f _=>match loc c f with
        |some _=>none
        |none=>match glob c f with
          |some (.fn _)=>do
            let es <-cEs n c as
            if d_ es && !as.isEmpty then some (.call f es)else if !as.isEmpty then some (.callo f es)else none
          |some (.bi b)=>match k7 c b as with
            |some a=>(cE n c a).map (.sset (b==.len))
            |none=>do
              let es <-cEs n c as
              if !as.isEmpty&&(c.calm||b==.len||b==.abs)then some (.bi b es)else none
          |some (.ty t (some b))=>match as with
            | [.Call (.Name g p) as' [] q]=>if loc c g==none&&glob c g==some .rng then (if c.calm&&(t == "tuple" ||t == "list")then (match as' with
                | [a]=>if isStar a then none else do
                  let a <-cE n c a
                  some (if t = "tuple" then .rtup (.rng a)else .rlst (.rng a))
                | [a,d]=>if isStar a||isStar d then none else do
                  let a <-cE n c a
                  let d <-cE n c d
                  some (if t = "tuple" then .rtup (.rng2 a d)else .rlst (.rng2 a d))
                | [a,d,k]=>if isStar a||isStar d||isStar k then none else do
                  let a <-cE n c a
                  let d <-cE n c d
                  let k <-cE n c k
                  if t == "tuple" then some (.rtup (.rng3 a d k))else none
                |_=>none)
                else none)
              else do
                let es <-cEs n c as
                some (.bi b es)
            |_=>match jR c t as with
             |some a=>(cE n c a).map .lsd
             |none=>do
              let es <-cEs n c as
              if !as.isEmpty then some (.bi b es)else none
          |some .isi=>match as with
            | [a,k]=>do
              if isStar a then none else
              let a <-cE n c a
              let k <-i0 c k
              some (.isi a k)
            |_=>none
          |_=>none
      | .Attribute o m ap=>match cMt c o m ap as cp with
        |some e=>some e
        |none=>match as with
          | [a]=>do
            if !baseOk o||isStar a || !(m == "count" ||m == "get") || !(ap.endLine==cp.line)then none else
            let o' <-cE n c o
            let a' <-cE n c a
            if m == "get" then some (.dget o' a')else if esc a' then some (.cnt o' a')else none
          | [a,d]=>do
            if !baseOk o||isStar a||isStar d || !(m == "get") || !(ap.endLine==cp.line)then none else
            let o' <-cE n c o
            let a' <-cE n c a
            let d' <-cE n c d
            if esc d' then some (.dget2 o' a' d')else none
          |_=>none
      |_=>none
     |_=>none
    |_=>none
noncomputable def fD:Nat->Cc->List Expr->Option T
  | 0,_,_=>none
  |n+1,c,ifs=>match ifs with
    | []=>some .yes
    | [t]=>cT n c t
    |_=>none
noncomputable def cBo:Nat->Cc->BoolOp->List Expr->Option E
  | 0,_,_,_=>none
  |n+1,c,op,vs=>match vs with
    | []=>none
    | [a]=>do
      let a <-cE n c a
      if esc a then some a else none
    |a::b::r=>do
      let a <-cE n c a
      let r <-cBo n c op (b::r)
      match op with
      | .And=>some (.and a r)
      | .Or=>some (.or a r)
noncomputable def cO:Nat->Cc->Option Expr->Option OE
  | 0,_,_=>none
  |n+1,c,o=>match o with
    |none=>some .none
    |some e=>(cE n c e).map .some
noncomputable def cEs:Nat->Cc->List Expr->Option Es
  | 0,_,_=>none
  |n+1,c,es=>match es with
    | []=>some .nil
    |e::r=>do
      if isStar e then none else
      let e <-cE n c e
      let r <-cEs n c r
      some (.cons e r)
noncomputable def cI:Nat->Cc->Expr->Option It
  | 0,_,_=>none
  |n+1,c,e=>match e with
    | .Call (.Name f p) as [] q=>match loc c f with
      |some _=>(cE n c (.Call (.Name f p) as [] q)).map .seq
      |none=>match glob c f with
        |some .rng=>(match as with
          | [a]=>if isStar a then none else (cE n c a).map .rng
          | [a,b]=>if isStar a||isStar b then none else do
            let a <-cE n c a
            let b <-cE n c b
            some (.rng2 a b)
          | [a,b,d]=>if isStar a||isStar b||isStar d then none else do
            let a <-cE n c a
            let b <-cE n c b
            let d <-cE n c d
            some (.rng3 a b d)
          |_=>none)
        |some .enum=>(match as with
          | [a]=>if isStar a then none else (cE n c a).map .enum
          |_=>none)
        |some .zip=>(match as with
          | [a,b]=>if isStar a||isStar b then none else do
            let a <-cE n c a
            let b <-cE n c b
            some (.zip a b)
          |_=>none)
        |some .rvd=>(match as with
          | [.Call (.Name g _) [a] [] _]=>if loc c g==none&&glob c g==some .rng && !isStar a then (cE n c a).map .rrev else none
          |_=>none)
        |_=>(cE n c (.Call (.Name f p) as [] q)).map .seq
    |e=>(cE n c e).map .seq
noncomputable def cT:Nat->Cc->Expr->Option T
  | 0,_,_=>none
  |n+1,c,e=>match e with
    | .UnaryOp .Not a _=>(cT n c a).map .not
    | .BoolOp op vs _=>cTs n c op vs
    | .IfExp .. => none
    | .Compare a ops bs _=>match ops,bs with
      | [o],[b]=>do
        let a <-cE n c a
        let b' <-cE n c b
        if zt b then some (.cmp (c2 o) a b')else none
      | [o,o'],[b,d]=>do
        let a <-cE n c a
        let b' <-cE n c b
        let d' <-cE n c d
        if zt b&&zt d then some (.cmp2 (c2 o) (c2 o') a b' d')else none
      | [o,o',o''],[b,d,f]=>do
        let a <-cE n c a
        let b' <-cE n c b
        let d' <-cE n c d
        let f' <-cE n c f
        if zt b&&zt d&&zt f then some (.val (.cmp3 (c2 o) (c2 o') (c2 o'') a b' d' f'))else none
      |_,_=>none
    |e=>(cE n c e).map .val
noncomputable def cTs:Nat->Cc->BoolOp->List Expr->Option T
  | 0,_,_,_=>none
  |n+1,c,op,vs=>match vs with
    | []=>none
    | [a]=>cT n c a
    |a::b::r=>do
      let a <-cT n c a
      let r <-cTs n c op (b::r)
      match op with
      | .And=>some (.and a r)
      | .Or=>some (.or a r)
end

noncomputable def jJ:Expr->Option (Str×Str×Pos×Expr×Pos)
  | .Call f as ks cp=>match f with
    | .Attribute o m ap=>match o with
      | .Name x _=>match as with
        | [a]=>if ks.isEmpty then some (x,m,ap,a,cp)else none
        |_=>none
      |_=>none
    |_=>none
  |_=>none
noncomputable def lL(_:Expr):Option (Str×Pos×Expr×Expr×Pos):=none
noncomputable def j7:Expr->Option (Str×Pos×Pos)
  | .Call f as ks cp=>match f with
    | .Attribute o m ap=>match o with
      | .Name x _=>match as with
        | [a]=>match a with
          | .Constant k _ _=>match k with
            | .int i=>if ks.isEmpty&&m == "pop" && decide (i=0)then some (x,ap,cp)else none
            |_=>none
          |_=>none
        |_=>none
      |_=>none
    |_=>none
  |_=>none
noncomputable def jM:Expr->Bool
  | .Tuple es _ _=>es.all (foldedForSure 8)
  |_=>false
mutual
noncomputable def cS:Nat->Cc->Bool->Stmt->Option S
  | 0,_,_,_=>none
  |n+1,c,fr,s=>match s with
    | .Assign ts e _=>match ts with
      | [t]=>match t with
        | .Name x _=>match j7 e with
         |some (y,ap,cp)=>do
          let i <-dw c x
          let j <-loc c y
          if c.own.contains y && !c.own.contains x&&ap.endLine==cp.line && !c.frz then some (.pop0 i j)else none
         |none=>do
          if iL e then none else
          let i <-dw c x
          let e' <-cE n c e
          if c.own.contains x then (if zL c e' && !c.frz then some (.set (.nm i) e')else none)else if esc e' then some (.set (.nm i) e')else none
        | .Tuple ts k p=>do
              let tg <-cTg c (.Tuple ts k p)
              let e' <-cE n c e
              if (isTup e && !jM e)||eR e || !esc e' then none else some (.set tg e')
        | .Subscript a k _=>match a with
          | .Name x _=>do
            let i <-dw c x
            let e' <-cE n c e
            let k' <-cE n c k
            if c.own.contains x&&esc e' && !isSlice k && !eR e && !c.frz then some (.seti i k' e')else none
          |_=>none
        |_=>none
      |_=>none
    | .Expr e _=>match lL e with
      |some (x,ap,k,a,cp)=>do
        let i <-dw c x
        let k' <-cE n c k
        let a' <-cE n c a
        if c.own.contains x&&esc a' && !isStar k && !isStar a&&ap.endLine==cp.line && !c.frz then some (.ins i k' a')else none
      |none=>match jJ e with
      |some (x,m,ap,a,cp)=>do
        let i <-dw c x
        let a' <-cE n c a
        if m == "update" then (if c.own.contains x&&esc a' && !isStar a&&ap.endLine==cp.line && !c.frz then some (.dupd i a')else none)else
        if m == "extend" then (if c.own.contains x&&esc a' && !isStar a&&ap.endLine==cp.line && !c.frz then some (.ext i a')else none)else
        if m == "append" && c.own.contains x&&esc a' && !isStar a&&ap.endLine==cp.line && !c.frz then some (.app i a')else none
      |none=>do
        if eR e then none else
        let e' <-cE n c e
        some (.exp e')
    | .Return o _=>match o with
      |some e=>do
        let e' <-cE n c e
        if fr then (match e with
          | .Name y _=>if c.own.contains y then (loc c y).map (λi=>.ret (.own i))else none
          |_=>if zL c e' then some (.ret e')else some (.retn e'))
        else some (.ret e')
      |none=>if fr then none else some .retN
    | .If t a b _=>do
      let t <-cT n c t
      let a <-cSs n c fr a
      let b <-cSs n c fr b
      some (.ite t a b)
    | .For tg it b els _=>do
      if !els.isEmpty || !c.calm || !zt it then none else
      let tg' <-cTg c tg
      let it <-cI n c it
      if !gk it tg then none else
      let b <-cSs n {c with frz:=c.frz||owned it} fr b
      some (.for tg' it b)
    | .Pass _=>some .pass
    | .Break _=>some .brk
    | .Continue _=>some .cnt
    |_=>none
noncomputable def cSs:Nat->Cc->Bool->List Stmt->Option Ss
  | 0,_,_,_=>none
  |n+1,c,fr,ss=>match ss with
    | []=>some .nil
    |s::r=>do
      let r <-cSs n c fr r
      some (.cons ((cS n c fr s).getD .unk) r)
end
noncomputable def noOwn(c:Cc):Cc:={c with own:=[],frz:=false}
noncomputable def ji(n:Nat)(c:Cc)(fr:Bool)(b:List Stmt):Option Ss:=cSs n c fr b
noncomputable def argNames(a:Arguments):List Str:=a.args.map (·.arg)
noncomputable def h9(a:Arguments)(sc:a9):List Str:=argNames a++((sc.names.filter λp=>p.2==.local||p.2==.cell).map (·.1)).filter λx=>!(argNames a).contains x
noncomputable def jt(N ps:List Str)(sc:a9):Bool:=
  sc.kind==.function && !sc.isCoroutine && !sc.isGenerator&&decide N.Nodup&&decide (N.take ps.length=ps)&&ps.all (λx=>sc.names.lookup x==some .local||sc.names.lookup x==some .cell)&&sc.names.all λy=>y.2 != .free
noncomputable def j8:Nat:=60
noncomputable def cFn(G GH:List (Str×GK))(own:List Str)(fr:Bool)(st:Stmt):Option Fn:=do
  let a:=zp st
  let sc:=zo st
  let N:=h9 a sc
  if !jt N (argNames a) sc||(argNames a).any own.contains then none else
  let b <-ji j8 ⟨sc.names,N,own,G,true,true,false,GH,[],false⟩ fr (dU st)
  some ⟨(argNames a).length,N.length,fr,b⟩
noncomputable def nj(GU:List (Str×GK))(own:List Str)(fr:Bool)(st:Stmt):Option Fn:=none
end EV

namespace EV
open PySem PySem.Spec PyProof.Rows L2
structure Gc where
 K:aC
 fnA:Str->Option Addr
 clA:Str->Option Addr
mutual
inductive Rep(g:Gc)(H:Hp):D->V->Prop
 |non:Rep g H .non .non
 |bl (b:Bool):Rep g H (.bl b) (.bl b)
 |int (i:Int):Rep g H (.int i) (.int i)
 |str (x:Str):Rep g H (.str x) (.str x)
 |tup {a:Addr}{xs:List V}{ds:List D}:SqT g.K H a xs->qV g H ds xs->Rep g H (.tup ds) (.ref a)
 |lst {a:Addr}{xs:List V}{ds:List D}:SqL g.K H a xs->qV g H ds xs->Rep g H (.lst ds) (.ref a)
 |fn {x:Str}{a:Addr}:g.fnA x=some a->Rep g H (.fn x) (.ref a)
 |exn {c:Str}{a C:Addr}:g.clA c=some C->H a=some (sI a (.ref C))->Rep g H (.exn c) (.ref a)
 |dic {a:Addr}{kvs:List (Int×Int)}:H a=some (.dK (bP kvs))->Rep g H (.dic kvs) (.ref a)
inductive qV(g:Gc)(H:Hp):List D->List V->Prop
 |nil:qV g H [] []
 |cons {d:D}{ds:List D}{x:V}{xs:List V}:Rep g H d x->qV g H ds xs->qV g H (d::ds) (x::xs)
end
theorem eW{K:aC}{H H':Hp}{a:Addr}{xs:List V}(e:qa H H')(h:SqT K H a xs):SqT K H' a xs:=by
 rcases h with (h|⟨o,h⟩)|h
 ·exact .inl (.inl (e _ _ h))
 ·exact .inl (.inr ⟨o,e _ _ h⟩)
 ·exact .inr h
section
variable{g:Gc}{H H':Hp}
theorem jw{a b:Bool}(h:(a&&b)=true):a=true/\b=true:=by rw[aM]at h;exact h
theorem Rep.mono(e:qa H H'){d:D}{v:V}(h:Rep g H d v):Rep g H' d v:=
 h.rec (motive_1:=λd v _=>Rep g H' d v) (motive_2:=λd v _=>qV g H' d v) .non .bl .int .str (λq _ r=>.tup (eW e q) r) (λq _ r=>.lst (e.seq q) r) .fn (λq r=>.exn q (e _ _ r)) (λq=>.dic (e _ _ q)) .nil (λ_ _ a b=>.cons a b)
theorem qV.mono(e:qa H H'){d:List D}{v:List V}(h:qV g H d v):qV g H' d v:=
 h.rec (motive_1:=λd v _=>Rep g H' d v) (motive_2:=λd v _=>qV g H' d v) .non .bl .int .str (λq _ r=>.tup (eW e q) r) (λq _ r=>.lst (e.seq q) r) .fn (λq r=>.exn q (e _ _ r)) (λq=>.dic (e _ _ q)) .nil (λ_ _ a b=>.cons a b)
theorem qV.length{ds:List D}:∀{vs:List V},qV g H ds vs->ds.length=vs.length:=by
 induction ds with
 |nil=>intro vs h;cases h;rfl
 |cons d ds ih=>intro vs h;cases h with|cons _ r=>exact congrArg (· + 1) (ih r)
theorem qV.get{ds:List D}:∀{vs:List V}{i:Nat}{d:D},qV g H ds vs->ds[i]? = some d->∃v,vs[i]? = some v/\Rep g H d v:=by
 induction ds with
 |nil=>intro vs i d h e;cases e
 |cons d ds ih=>
  intro vs i d' h e;cases h with
  |cons h t=>cases i with
   |zero=>cases e;exact⟨_,rfl,h⟩
   |succ i=>exact ih (i:=i) t e
theorem qV.append{ds:List D}:∀{es:List D}{vs us:List V},qV g H ds vs->qV g H es us->qV g H (ds++es) (vs++us):=by
 induction ds with
 |nil=>intro es vs us h s;cases h;exact s
 |cons d ds ih=>intro es vs us h s;cases h with|cons r t=>exact .cons r (ih t s)
theorem qV.take{ds:List D}:∀{vs:List V} (n:Nat),qV g H ds vs->qV g H (ds.take n) (vs.take n):=by
 induction ds with
 |nil=>intro vs n h;cases h;cases n<;>exact .nil
 |cons d ds ih=>intro vs n h;cases h with|cons r t=>cases n with
  |zero=>exact .nil
  |succ n=>exact .cons r (ih n t)
theorem qV.drop{ds:List D}:∀{vs:List V} (n:Nat),qV g H ds vs->qV g H (ds.drop n) (vs.drop n):=by
 induction ds with
 |nil=>intro vs n h;cases h;cases n<;>exact .nil
 |cons d ds ih=>intro vs n h;cases n with
  |zero=>exact h
  |succ n=>cases h with|cons r t=>exact ih n t
theorem qV.set{d:D}{v:V}(r:Rep g H d v){ds:List D}:∀{vs:List V} (i:Nat),qV g H ds vs->qV g H (ds.set i d) (vs.set i v):=by
 induction ds with
 |nil=>intro vs i h;cases h;exact .nil
 |cons d' ds ih=>intro vs i h;cases h with|cons q t=>cases i with
  |zero=>exact .cons r t
  |succ i=>exact .cons q (ih i t)
theorem qV.ints{ds:List D}:∀{vs:List V}{ns:List Int},qV g H ds vs->ints? ds=some ns->vs=ns.map V.int/\ds=ns.map D.int:=by
 induction ds with
 |nil=>intro vs ns h e;cases h;cases e;exact⟨rfl,rfl⟩
 |cons d ds ih=>
  intro vs ns h e;cases h with
  |cons h t=>cases d with
   |int i=>
    obtain⟨ms,e1,rfl⟩:=bA.mp (show (ints? ds).map (i :: ·)=some ns from e);obtain⟨h1,h2⟩:=ih t e1;cases h;exact⟨by rw[h1];rfl,by rw[h2];rfl⟩
   |_=>cases (show none=some ns from e)
theorem qV.bools{ds:List D}:∀{vs:List V}{ns:List Bool},qV g H ds vs->bools? ds=some ns->vs=ns.map V.bl:=by
 induction ds with
 |nil=>intro vs ns h e;cases h;cases e;rfl
 |cons d ds ih=>
  intro vs ns h e;cases h with
  |cons h t=>cases d with
   |bl i=>
    obtain⟨ms,e1,rfl⟩:=bA.mp (show (bools? ds).map (i :: ·)=some ns from e);have h1:=ih t e1;cases h;rw[h1];rfl
   |_=>cases (show none=some ns from e)
theorem qV.ofInts:∀(ns:List Int),qV g H (ns.map D.int) (ns.map V.int)
 | []=>.nil
 |i::r=>.cons (.int i) (qV.ofInts r)
end
structure Sh where
 o:Addr->Bool
 h:Addr->Bool
 z:L2.St
 y:Hp
noncomputable def hid(H:Hp)(S:Sh):Hp:=λb=>if S.h b=true then none else H b
noncomputable def cw(S:Sh)(a:Addr):Sh:=⟨S.o,λb=>S.h b||b==a,S.z,S.y⟩
theorem bW{H:Hp}{S:Sh}{b:Addr}{o:HO}:hid H S b=some o↔S.h b=false/\H b=some o:=by
 unfold hid;cases h:S.h b<;>simp
theorem dv{H:Hp}{S:Sh}:qa (hid H S) H:=λ_ _ h=>(bW.mp h).2
theorem qX{H H':Hp}{S:Sh}(e:qa H H'):qa (hid H S) (hid H' S):=λb o h=>bW.mpr ⟨(bW.mp h).1,e _ _ (bW.mp h).2⟩
noncomputable def Sub(S:Sh)(H:Hp):Prop:=∀a,(S.h a=true\/S.o a=true)->H a≠none
theorem Sub.same{S:Sh}{H H':Hp}(h:Sub S H)(e:qa H H'):Sub S H':=λa s n=>by
 cases q:H a with
 |none=>exact h a s q
 |some o=>rw[e _ _ q]at n;cases n
theorem Sub.free{S:Sh}{H:Hp}(h:Sub S H){p:Addr}(n:H p=none):S.h p=false:=by
 cases q:S.h p with
 |false=>rfl
 |true=>exact absurd n (h p (.inl q))
theorem Sub.freeO{S:Sh}{H:Hp}(h:Sub S H){p:Addr}(n:H p=none):S.o p=false:=by
 cases q:S.o p with
 |false=>rfl
 |true=>exact absurd n (h p (.inr q))
theorem qU{H:Hp}{p:Addr}{o:HO}(n:H p=none):qa H (upd H p o):=λb u h=>by
 rw[qm (λz=>by rw[z,n]at h;cases h)];exact h
theorem kR{H:Hp}{S:Sh}{p:Addr}{o:HO}(hs:Sub S H)(n:H p=none):hid (upd H p o) S p=some o:=bW.mpr ⟨hs.free n,zr⟩
theorem i6{H:Hp}{S:Sh}{p:Addr}{o:HO}(n:H p=none):qa (hid H S) (hid (upd H p o) (cw S p)):=λb u h=>by
 obtain⟨h1,h2⟩:=bW.mp h;have hb:b≠p:=λz=>by rw[z,n]at h2;cases h2
 refine bW.mpr ⟨?_,by rw[qm hb];exact h2⟩;show (S.h b||b==p)=false;rw[h1]
 simpa using hb
theorem o7{H:Hp}{S:Sh}{p:Addr}:qa (hid H (cw S p)) (hid H S):=λb u h=>by
 obtain⟨h1,h2⟩:=bW.mp h;refine bW.mpr ⟨?_,h2⟩;have h1:(S.h b||b==p)=false:=h1;simp at h1;exact h1.1
inductive cH(g:Gc)(H:Hp):D->HO->Prop
 |lst {ds:List D}{vs:List V}:qV g H ds vs->cH g H (.lst ds) (.lst vs)
 |dic (kvs:List (Int×Int)):cH g H (.dic kvs) (.dK (bP kvs))
theorem cH.mono{g:Gc}{H H':Hp}{d:D}{o:HO}(e:qa H H')(h:cH g H d o):cH g H' d o:=by
 cases h with
 |lst r=>exact .lst (r.mono e)
 |dic k=>exact .dic k
theorem cH.rep{g:Gc}{H H':Hp}{d:D}{o:HO}{a:Addr}(h:cH g H d o)(e:qa H H')(ha:H' a=some o):Rep g H' d (.ref a):=by
 cases h with
 |lst r=>exact .lst (SqL.of ha) (r.mono e)
 |dic k=>exact .dic ha
noncomputable def zw(g:Gc)(H:Hp)(S:Sh)(d:D)(v:V):Prop:=
 Rep g (hid H S) d v\/∃a o,S.o a=true/\v=.ref a/\H a=some o/\cH g (hid H S) d o
noncomputable def Fr(g:Gc)(H0:Hp)(S:Sh)(H:Hp)(d:D)(v:V):Prop:=
 ∃a o,v=.ref a/\H0 a=none/\H a=some o/\cH g (hid H (cw S a)) d o
section
variable{g:Gc}{H H' H0:Hp}{S:Sh}{d:D}{v:V}
theorem zw.mono(e:qa H H')(h:zw g H S d v):zw g H' S d v:=by
 rcases h with h|⟨a,o,h1,h2,h3,h4⟩
 ·exact .inl (h.mono (qX e))
 ·exact .inr ⟨a,o,h1,h2,e _ _ h3,h4.mono (qX e)⟩
theorem zw.rep(h:zw g H S d v):Rep g H d v:=by
 rcases h with h|⟨a,o,h1,rfl,h3,h4⟩
 ·exact h.mono dv
 ·exact h4.rep dv h3
theorem zw.lst{ds:List D}(h:zw g H S (.lst ds) v):∃a vs,v=.ref a/\SqL g.K H a vs/\qV g (hid H S) ds vs:=by
 rcases h with h|⟨a,o,h1,rfl,h3,h4⟩
 ·cases h with
  |lst h r=>exact⟨_,_,rfl,dv.seq h,r⟩
 ·cases h4 with
  |lst r=>exact⟨a,_,rfl,SqL.of h3,r⟩
theorem zw.dic{kvs:List (Int×Int)}(h:zw g H S (.dic kvs) v):∃a,v=.ref a/\H a=some (.dK (bP kvs)):=by
 rcases h with h|⟨a,o,h1,rfl,h3,h4⟩
 ·cases h with
  |dic h=>exact⟨_,rfl,dv _ _ h⟩
 ·cases h4 with
  |dic k=>exact⟨a,rfl,h3⟩
theorem zw.strong(h:zw g H S d v)(n:∀ds,d≠.lst ds)(n2:∀k,d≠.dic k:=by intro _ z;cases z):Rep g (hid H S) d v:=by
 rcases h with h|⟨a,o,h1,rfl,h3,h4⟩
 ·exact h
 ·cases h4 with
  |lst r=>exact absurd rfl (n _)
  |dic k=>exact absurd rfl (n2 _)
theorem zw.tup{ds:List D}(h:zw g H S (.tup ds) v):∃a vs,v=.ref a/\SqT g.K H a vs/\qV g (hid H S) ds vs:=by
 cases h.strong (by intro _ z;cases z)with
 |tup h2 r=>exact⟨_,_,rfl,eW dv h2,r⟩
theorem zw.seq{ds:List D}(h:zw g H S d v)(e:seq? d=some ds):∃a vs,v=.ref a/\(SqL g.K H a vs\/SqT g.K H a vs)/\qV g (hid H S) ds vs:=by
 cases d with
 |tup xs=>cases e;obtain⟨a,vs,h1,h2,h3⟩:=h.tup;exact⟨a,vs,h1,.inr h2,h3⟩
 |lst xs=>cases e;obtain⟨a,vs,h1,h2,h3⟩:=h.lst;exact⟨a,vs,h1,.inl h2,h3⟩
 |_=>cases e
theorem zw.int{i:Int}(h:zw g H S (.int i) v):v=.int i:=by cases h.strong (by intro _ z;cases z);rfl
theorem zw.bl{b:Bool}(h:zw g H S (.bl b) v):v=.bl b:=by cases h.strong (by intro _ z;cases z);rfl
theorem fF{ds:List D}{vs:List V}{p:Addr}(hs:Sub S H)(n:H p=none)(r:qV g (hid H S) ds vs):Rep g (hid (upd H p (.tup vs)) S) (.tup ds) (.ref p):=
 .tup (SqT.of (kR hs n)) (r.mono (qX (qU n)))
theorem zN{ds:List D}{vs:List V}{p:Addr}(hs:Sub S H)(n:H p=none)(r:qV g (hid H S) ds vs):Rep g (hid (upd H p (.lst vs)) S) (.lst ds) (.ref p):=
 .lst (SqL.of (kR hs n)) (r.mono (qX (qU n)))
theorem dW{ds:List D}{vs:List V}{p:Addr}(e:qa H0 H)(n:H p=none)(r:qV g (hid H S) ds vs):Fr g H0 S (upd H p (.lst vs)) (.lst ds) (.ref p):=
 ⟨p,_,rfl,e.free n,zr,.lst (r.mono (i6 n))⟩
theorem wx{kvs:List (Int×Int)}{p:Addr}(hs:Sub S H)(n:H p=none):Rep g (hid (upd H p (.dK (bP kvs))) S) (.dic kvs) (.ref p):=.dic (kR hs n)
theorem CD{kvs:List (Int×Int)}{p:Addr}(e:qa H0 H)(n:H p=none):Fr g H0 S (upd H p (.dK (bP kvs))) (.dic kvs) (.ref p):=⟨p,_,rfl,e.free n,zr,.dic kvs⟩
end
end EV
namespace L2
open PySem PySem.Spec PyProof.Rows
theorem AN:fillsNumberSlot (.type "tuple") "mul" = pure false:=
 PySem.fillsNumberSlot_seq (id:="tuple.__mul__") (r:=some (.builtin "tuple.__rmul__")) PySem.F.slot_tuple_mul.lookup (by decide +kernel) PySem.F.slot_tuple_rmul.lookup (by decide +kernel)
theorem Bf:seqRepeat? (.type "tuple")=pure (some (.builtin "tuple.__mul__")):=by
 unfold seqRepeat?;rw[PySem.seqSlot_of (T:="tuple") (name:="__mul__") (id:="tuple.__mul__") PySem.F.slot_tuple_mul.lookup (by decide +kernel),PySem.seqSlot_of (T:="tuple") (name:="__rmul__") (id:="tuple.__rmul__") PySem.F.slot_tuple_rmul.lookup (by decide +kernel)]
 rfl
theorem uM(a:Int)(t:Tok)(l:Addr)(items:Array ae)(n:Nat)(d:Option Addr)(sl:Array (Option ae)) :
  Meets (Builtin.«int.__rmul__» ⟨[.int a t,.ref l],[]⟩) (λ_ R s=>s.heap.get? l=some ⟨.type "tuple",d,.seq items n,sl⟩/\R (.ok (.ret ae.notImplemented)) s):=
 .of_wp λprog w A R s h=>by
  obtain⟨hp,g,d,tk,os⟩:=s;obtain⟨hl,h⟩:=h
  wp_walk
  exact⟨_,rfl,h⟩
theorem jk{M:Model}{A:az}{α:Type}{b:Bool}{x y:Sem α}{Q:α->af->Prop}{E:ae->af->Prop}{s:af}(h:b=false)(k:ao M A y Q E s):ao M A (if b=true then x else y) Q E s:=by subst h;exact k
theorem wD{M:Model}{A:az}{α:Type}{b:Bool}{x y:Sem α}{Q:α->af->Prop}{E:ae->af->Prop}{s:af}(h:b=true)(k:ao M A x Q E s):ao M A (if b=true then x else y) Q E s:=by subst h;exact k
theorem AW(l:Addr)(items:Array ae)(n:Nat)(d:Option Addr)(sl:Array (Option ae))(x:Int)(u:Tok)(h0:0<=x)(h1:x<2^63)(h2:(items.isEmpty||x==1)=true) :
  Meets (Builtin.«tuple.__mul__» ⟨[.ref l,.int x u],[]⟩) (λ_ R s=>s.heap.get? l=some ⟨.type "tuple",d,.seq items n,sl⟩/\R (.ok (.ret (.ref l))) s):=
 .of_wp λprog w A R s h=>by
  obtain⟨hp,g,d,tk,os⟩:=s;obtain⟨hl,h⟩:=h
  wp_walk
  refine jk (by simp;lia) ?_
  wp_walk
  exact⟨_,rfl,h⟩
theorem uj(l:Addr)(items:Array ae)(n:Nat)(d:Option Addr)(sl:Array (Option ae))(x:Int)(u:Tok)(h0:0<=x)(h1:x<=1000000)(hz:items.size * x.toNat<=16777216)(h2:(items.isEmpty||x==1)=false) :
  Meets (Builtin.«tuple.__mul__» ⟨[.ref l,.int x u],[]⟩) (λ_ R s=>s.heap.get? l=some ⟨.type "tuple",d,.seq items n,sl⟩/\R (.ok (.ret (.ref s.heap.objs.size))) {s with heap:=s.heap.push ⟨.type "tuple",none,.seq (List.foldl (λa b=>a++b) #[] (aX x.toNat items)) 0,#[]⟩}):=
 .of_wp λprog w A R s h=>by
  obtain⟨hp,g,d,tk,os⟩:=s;obtain⟨hl,h⟩:=h;have hz':(items.size:Int) * x<=16777216:=by
   have:((items.size * x.toNat:Nat):Int)<=16777216:=by lia
   rwa[Int.natCast_mul,Int.toNat_of_nonneg h0]at this
  wp_walk
  refine jk (by simp;lia) ?_
  wp_walk
  have he:items.isEmpty=false:=by
   cases q:items.isEmpty with
   |false=>rfl
   |true=>rw[q]at h2;cases h2
  by_cases hx:x<=0
  ·have:x=0:=by lia
   subst this;refine wD rfl ?_
   wp_walk
   exact⟨_,rfl,h⟩
  ·refine jk (by rw[he,decide_eq_false hx];rfl) ?_
   wp_walk
   refine wpAny_ite_false (decide_eq_false (by lia)) ?_
   wp_walk
   refine jk (by simp[Builtin.Tuple.tupleTooMany,bf];exact hz') ?_
   wp_walk
   refine wpAny_ite_false (decide_eq_false (by rw[listMul_foldl,aO,Array.toList_empty,List.nil_append,lm_len_rep_flat,bf,aR,Nat.mul_comm];lia)) ?_
   wp_walk
   exact⟨_,rfl,h⟩
noncomputable def sd(K:aC):R2:=λx y H Q=>∃l xs j,x=.ref l/\y=.int j/\SqT K H l xs/\0<=j/\xs.length * j.toNat<=16777216/\j<=1000000/\((xs=[]\/j=1)->Q (.ref l) H)/\∀p,H p=none->Q (.ref p) (upd H p (.tup (aX j.toNat xs).flatten))
theorem mZ{xs:List V}{its:List ae}(r:Vals xs its):∀n,Vals (aX n xs).flatten (aX n its).flatten
 | 0=>.nil
 |n+1=>by rw[dZ,dZ];exact r.append (mZ r n)
section
variable{X:Cx}
theorem tZ:OpR X (bD .Mult) (sd X.K):=by
 intro pins s σ H x y v u Q I rx ry h;obtain⟨l,xs,j,rfl,rfl,hH,h0,hz,hj,q0,q1⟩:=h;cases rx;obtain⟨t,rfl⟩:=ry;obtain⟨its,r,p1,_⟩:=I.tuple hH;have l1:=r.length;obtain⟨⟨cls,dd,data,sl⟩,ho,hc,n,hd⟩:=id p1;simp only at hc hd;subst hc hd;refine wpAny_binaryOp_repeat_ref (T:="tuple") (U:="int") (by decide) ⟨_,ho,rfl⟩ (λs'=>typeIs_int s' j t) AN PySem.F.fills_int_mul PySem.F.slot_int_rmul Bf PySem.F.slot_int_index.lookup
  (call_meets PySem.F.slot_int_rmul (typeIs_int s j t) PySem.F.entry_int_rmul (PySem.F.args_int_rmul_2 _ _) (uM j t l its.toArray n dd sl) ⟨ho,rfl,⟨_,ho,rfl⟩,?_⟩)
 cases e:(its.toArray.isEmpty||j==1)with
 |true=>
  refine call_meets PySem.F.slot_tuple_mul ⟨_,ho,rfl⟩ PySem.F.entry_tuple_mul (PySem.F.args_tuple_mul_2 _ _) (AW l its.toArray n dd sl j t h0 (by lia) e) ⟨ho,.ref l,H,I,rfl,q0 ?_⟩;rw[bL]at e;rcases e with e|e
  ·refine .inl (List.length_eq_zero_iff.mp ?_);rw[l1];simpa using e
  ·exact .inr (by simpa using e)
 |false=>
  refine call_meets PySem.F.slot_tuple_mul ⟨_,ho,rfl⟩ PySem.F.entry_tuple_mul (PySem.F.args_tuple_mul_2 _ _) (uj l its.toArray n dd sl j t h0 hj (by rw[aO,<-l1];exact hz) e) ⟨ho,?_⟩;rw[listMul_foldl];rw[Array.toList_empty,List.nil_append];refine⟨.ref s.heap.objs.size,_,I.laid (t':=s.toks) (o:=.tup (aX j.toNat xs).flatten) (λb ob q=>Heap.get?_push_of_some _ q) (aD _) ?_,rfl,q1 _ (I.hok.fresh (aD _))⟩;exact⟨by rw[lm_len_rep_flat,bf,Nat.mul_comm];exact hz,_,mZ r j.toNat,IsTup.new _ _⟩
end
end L2
namespace EV
open PySem PySem.Spec PySem.P PyProof.Rows L2
mutual
noncomputable def D.py:D->PyData
 | .non=>.none
 | .bl b=>.bool b
 | .int i=>.int i
 | .str x=>.str x
 | .tup xs=>.tuple (pys xs)
 | .lst xs=>.list (pys xs)
 | .fn _=>.none
 | .exn _=>.none
 | .dic _=>.none
noncomputable def pys:List D->List PyData
 | []=>[]
 |x::xs=>x.py::pys xs
end
mutual
theorem nG:∀{d:D},d.plain=true->d.py.canLay0=true
 | .non,_ | .bl _,_ | .int _,_=>by simp[D.py,PyData.canLay0]
 | .str x,h=>by simpa[D.py,PyData.canLay0,D.plain]using h
 | .tup xs,h=>by simp only[D.py,PyData.canLay0];exact jO (by simpa[D.plain]using h)
 | .lst xs,h=>by simp only[D.py,PyData.canLay0];exact jO (by simpa[D.plain]using h)
 | .fn _,h | .exn _,h | .dic _,h=>by simp[D.plain]at h
theorem jO:∀{ds:List D},plainAll ds=true->PyData.canLayAll0 (pys ds)=true
 | [],_=>by simp[pys,PyData.canLayAll0]
 |x::xs,h=>by
  simp only[plainAll,aM]at h;simp only[pys,PyData.canLayAll0,aM];exact⟨nG h.1,jO h.2⟩
end
mutual
theorem nJ:∀(d:D),d.py.depth=d.deep
 | .non | .bl _ | .int _ | .str _ | .fn _ | .exn _ | .dic _=>by simp[D.py,PyData.depth,D.deep]
 | .tup xs=>by simp only[D.py,PyData.depth,D.deep];rw[kj xs]
 | .lst xs=>by simp only[D.py,PyData.depth,D.deep];rw[kj xs]
theorem kj:∀(ds:List D),PyData.depthAll (pys ds)=dO ds
 | []=>by simp[pys,PyData.depthAll,dO]
 |x::xs=>by simp only[pys,PyData.depthAll,dO];rw[nJ x,kj xs]
end
mutual
theorem jL:∀(a b:D),a.plain=true->b.plain=true->PyData.eqv a.py b.py=a.eqv b
 | .tup xs,.tup ys,h,h'=>by simp only[D.py,PyData.eqv,D.eqv];exact kY xs ys (by simpa[D.plain]using h) (by simpa[D.plain]using h')
 | .lst xs,.lst ys,h,h'=>by simp only[D.py,PyData.eqv,D.eqv];exact kY xs ys (by simpa[D.plain]using h) (by simpa[D.plain]using h')
 | .fn _,_,h,_=>by simp[D.plain]at h
 | .exn _,_,h,_=>by simp[D.plain]at h
 | .dic _,_,h,_=>by simp[D.plain]at h
 | .non,b,_,h' | .bl _,b,_,h' | .int _,b,_,h' | .str _,b,_,h'=>by cases b<;>simp[D.py,PyData.eqv,D.eqv,D.plain]at h' ⊢
 | .tup _,.non,_,_ | .tup _,.bl _,_,_ | .tup _,.int _,_,_ | .tup _,.str _,_,_ | .tup _,.lst _,_,_=>by simp[D.py,PyData.eqv,D.eqv]
 | .lst _,.non,_,_ | .lst _,.bl _,_,_ | .lst _,.int _,_,_ | .lst _,.str _,_,_ | .lst _,.tup _,_,_=>by simp[D.py,PyData.eqv,D.eqv]
 | .tup _,.fn _,_,h' | .tup _,.exn _,_,h' | .lst _,.fn _,_,h' | .lst _,.exn _,_,h' | .tup _,.dic _,_,h' | .lst _,.dic _,_,h'=>by simp[D.plain]at h'
theorem kY:∀(xs ys:List D),plainAll xs=true->plainAll ys=true->PyData.eqvAll (pys xs) (pys ys)=eqvAll xs ys
 | [],[],_,_=>by simp[pys,PyData.eqvAll,eqvAll]
 |x::xs,y::ys,h,h'=>by
  simp only[plainAll,aM]at h h';simp only[pys,PyData.eqvAll,eqvAll];rw[jL x y h.1 h'.1,kY xs ys h.2 h'.2]
 | [],_::_,_,_=>by simp[pys,PyData.eqvAll,eqvAll]
 |_::_,[],_,_=>by simp[pys,PyData.eqvAll,eqvAll]
end
theorem Rep.data{g:Gc}{H:Hp}{d:D}{v:V}(h:Rep g H d v):d.plain=true->ef g.K H v d.py:=
 h.rec (motive_1:=λd v _=>d.plain=true->ef g.K H v d.py) (motive_2:=λds vs _=>plainAll ds=true->gw g.K H vs (pys ds)) (λ_=>.non) (λb _=>.bl b) (λb _=>.int b) (λb _=>.str b) (λq _ r p=>.tup q (r p)) (λq _ r p=>.lst q (r p)) (λ_ p=>nomatch p) (λ_ _ p=>nomatch p) (λ_ p=>nomatch p) (λ_=>.nil) (λ_ _ a b p=>.cons (a (jw p).1) (b (jw p).2))
theorem gR{d:D}:d.asks=true↔d.plain=true/\d.deep<=20:=by simp[D.asks]
section
variable{X:Cx}{g:Gc}
theorem OpR.imp{f:ae->ae->Sem ae}{r r':R2}(h:OpR X f r)(i:∀x y H Q,r' x y H Q->r x y H Q):OpR X f r':=
 λpins s σ H x y v u Q I rx ry q=>h pins s σ H x y v u Q I rx ry (i _ _ _ _ q)
noncomputable def Ar(K:aC):R2:=λx y H Q=>∃l b xs zs,x=.ref l/\y=.ref b/\SqL K H l xs/\SqL K H b zs/\xs.length+zs.length<=aL/\∀p,H p=none->Q (.ref p) (upd H p (.lst (xs++zs)))
theorem w6:OpR X (bD .Add) (Ar X.K):=by
 intro pins s σ H x y v u Q I rx ry h;obtain⟨l,b,xs,zs,rfl,rfl,hH,hB,hz,q⟩:=h;cases rx;cases ry;obtain⟨its,r,pl,z⟩:=I.list hH;obtain⟨its2,r2,pl2,z2⟩:=I.list hB;have l1:=r.length;have l2:=r2.length;obtain⟨⟨cls,dd,data,sl⟩,ho,hc,n,hd⟩:=pl.isList;obtain⟨⟨cls2,dd2,data2,sl2⟩,ho2,hc2,n2,hd2⟩:=pl2.isList;simp only at hc hd hc2 hd2;subst hc hd hc2 hd2;refine concat_meets ⟨_,ho,rfl⟩ ⟨_,ho2,rfl⟩ noFill_list_add seq_list_add PySem.F.slot_list_add PySem.F.entry_list_add (PySem.F.args_list_add_2 _ _) (list_addW l b its.toArray its2.toArray n n2 dd dd2 sl sl2 (by rw[aO,aO];lia)) ⟨ho,ho2,?_⟩;have ea:its.toArray++its2.toArray=(its++its2).toArray:=by simp
 rw[ea];exact⟨.ref _,_,I.lnew (t':=s.toks) (r.append r2) (by rw[cy];lia),rfl,q _ I.fresh⟩
noncomputable def sG(K:aC):R2:=λx y H Q=>∃l xs j,x=.ref l/\y=.int j/\SqL K H l xs/\0<=j/\xs.length * j.toNat<=16777216/\j<=1000000/\∀p,H p=none->Q (.ref p) (upd H p (.lst (aX j.toNat xs).flatten))
theorem oQ{xs:List V}{its:List ae}(r:Vals xs its):∀n,Vals (aX n xs).flatten (aX n its).flatten
 | 0=>.nil
 |n+1=>by rw[dZ,dZ];exact r.append (oQ r n)
theorem uK:OpR X (bD .Mult) (sG X.K):=by
 intro pins s σ H x y v u Q I rx ry h;obtain⟨l,xs,j,rfl,rfl,hH,h0,hz,hj,q⟩:=h;cases rx;obtain⟨t,rfl⟩:=ry;obtain⟨its,r,pl,z⟩:=I.list hH;have l1:=r.length;obtain⟨⟨cls,dd,data,sl⟩,ho,hc,n,hd⟩:=pl.isList;simp only at hc hd;subst hc hd;have hz':its.toArray.size * j.toNat<=16777216:=by rw[aO,<-l1];exact hz
 refine wpAny_binaryOp_repeat_ref (T:="list") (U:="int") (by decide) ⟨_,ho,rfl⟩ (λs'=>typeIs_int s' j t) noFill_list_mul PySem.F.fills_int_mul PySem.F.slot_int_rmul repeat_list PySem.F.slot_int_index.lookup
  (call_meets PySem.F.slot_int_rmul (typeIs_int s j t) PySem.F.entry_int_rmul (PySem.F.args_int_rmul_2 _ _) (lm_int_rmul_list_any j t l its.toArray n dd sl) ⟨ho,rfl,⟨_,ho,rfl⟩,call_meets PySem.F.slot_list_mul ⟨_,ho,rfl⟩ PySem.F.entry_list_mul (PySem.F.args_list_mul_2 _ _) (lm_list_mul_any l its.toArray n dd sl j t (by simp[Builtin.List.listFitsIndex];lia) (by lia) (by simp[Builtin.List.listTooLong,aL];lia)) ⟨ho,?_⟩⟩)
 rw[listMul_foldl_if];exact⟨.ref _,_,I.lnew (t':=s.toks) (oQ r j.toNat) (by rw[lm_len_rep_flat,bf,Nat.mul_comm];exact hz),rfl,q _ I.fresh⟩
theorem qV.rep{H:Hp}{ds:List D}{vs:List V}(r:qV g H ds vs):∀n,qV g H (aX n ds).flatten (aX n vs).flatten
 | 0=>.nil
 |n+1=>by rw[dZ,dZ];exact r.append (qV.rep r n)
noncomputable def rOp(g:Gc)(o:O2):R2:=λx y H Q=>∃S da db,Sub S H/\zw g H S da x/\zw g H S db y /\
 match op2 o da db with
 | .ok d=>∀v H',qa H H'->Rep g (hid H' S) d v->(kP da=true->Fr g H S H' d v)->Q v H'
 |_=>False
theorem eO{o:O2}(ho:o≠.add)(hm:o≠.mul){da db d:D}(h:op2 o da db=.ok d):∃i j,da=.int i/\db=.int j/\opI o i j=.ok d:=by
 unfold op2 at h;split at h
 ·exact⟨_,_,rfl,rfl,h⟩
 ·rw[if_neg (λz=>ho z.1)]at h;cases h
 ·rw[if_neg (λz=>ho z.1)]at h;cases h
 ·rw[if_neg (λz=>hm z.1)]at h;cases h
 ·rw[if_neg (λz=>hm z.1)]at h;cases h
 ·cases h
theorem ni{j:Int}(h:small j=true):-(2^64)<j/\j<2^64:=by simpa[small]using h
theorem pN{n:Nat}(h:n<=SZ):n<=sizeLine:=bB h (by rw[bf];decide)
theorem log2_small{j:Int}(h1:0<j)(h2:j<1000000000000000000000000000000):j.natAbs.log2<9000:=by
 have h3:j.natAbs<2^100:=by
  have:(2:Nat)^100=1267650600228229401496703205376:=by decide +kernel
  rw[this];lia
 have:=(Nat.log2_lt (n:=j.natAbs) (k:=100) (by lia)).mpr h3;lia
theorem BY:OpR X (bD .FloorDiv) (rI (λ_ j=>0<j/\j<1000000000000000000000000000000) λi j=>.int (i/j)):=L2.opI λi j _ _ _ _ _ hc q=>by
 have h1:(0:Int)<j:=hc.1;exact floordiv_int (by lia) (by rw[Int.fdiv_eq_ediv_of_nonneg i (by lia)];exact q) (.inl (PyProof.noPylong_of_log2 (log2_small hc.1 hc.2)))
theorem Ai(hK:X.K=g.K){op:Operator}{o:O2}(h:o2 op=some o):OpR X (bD op) (rOp g o):=by
 have two:∀{f:ae->ae->Sem ae}{C:Int->Int->Prop}{q:Int->Int->Int} (o:O2),OpR X f (rI C λi j=>.int (q i j))->(∀da db d,op2 o da db=.ok d->∃i j,da=.int i/\db=.int j/\C i j/\d=.int (q i j))->OpR X f (rOp g o):=λo k e=>by
  refine OpR.imp k λx y H Q ⟨S,da,db,hs,ra,rb,m⟩=>?_
  cases e1:op2 o da db with
  |ok d=>
   rw[e1]at m;obtain⟨i,j,rfl,rfl,c,rfl⟩:=e da db d e1;exact⟨i,j,ra.int,rb.int,c,m _ _ (qa.refl _) (.int _) (λz=>nomatch z)⟩
  |ex c=>rw[e1]at m;exact m.elim
  |no=>rw[e1]at m;exact m.elim
 have two0:∀{f:ae->ae->Sem ae}{q:Int->Int->Int} (o:O2),OpR X f (rI0 λi j=>.int (q i j))->(∀da db d,op2 o da db=.ok d->∃i j,da=.int i/\db=.int j/\d=.int (q i j))->OpR X f (rOp g o):=λ{f q} o k e=>
  two (C:=λ_ _=>True) (q:=q) o (OpR.imp k λx y H Q ⟨i,j,h1,h2,_,h3⟩=>⟨i,j,h1,h2,h3⟩) λda db d h=>by
   obtain⟨i,j,h1,h2,h3⟩:=e da db d h;exact⟨i,j,h1,h2,trivial,h3⟩
 cases op<;>simp only[o2,b8]at h<;>first|subst h|cases h
 ·-- Add
  refine OpR.imp (BZ.or (yT.or w6)) λx y H Q ⟨S,da,db,hs,ra,rb,m⟩=>?_
  cases da with
  |int i=>
   cases db with
   |int j=>exact .inl ⟨i,j,ra.int,rb.int,m _ _ (qa.refl _) (.int _) (λz=>nomatch z)⟩
   |_=>exact m.elim
  |tup xs=>
   cases db with
   |tup ys=>
    simp only[op2,true_and]at m;split at m
    ·rename_i e
     split at e<;>cases e
     rename_i hz
     obtain⟨a,vs,rfl,h1,r1⟩:=ra.tup;obtain⟨b,us,rfl,h2,r2⟩:=rb.tup;refine .inr (.inl ⟨a,b,vs,us,rfl,rfl,by rw[hK];exact h1,by rw[hK];exact h2,by rw[<-r1.length,<-r2.length];exact pN hz,λe=>?_,λ_ e=>?_,λ_ _ p hp=>?_⟩)
     ·subst e;cases r1;exact m _ _ (qa.refl _) (rb.strong (by intro _ z;cases z)) (λz=>nomatch z)
     ·subst e;cases r2;rw[dk]at m;exact m _ _ (qa.refl _) (ra.strong (by intro _ z;cases z)) (λz=>nomatch z)
     ·exact m _ _ (qU hp) (fF hs hp (r1.append r2)) (λz=>nomatch z)
    ·exact m.elim
   |_=>exact m.elim
  |lst xs=>
   cases db with
   |lst ys=>
    simp only[op2,true_and]at m;split at m
    ·rename_i e
     split at e<;>cases e
     rename_i hz
     obtain⟨a,vs,rfl,h1,r1⟩:=ra.lst;obtain⟨b,us,rfl,h2,r2⟩:=rb.lst;refine .inr (.inr ⟨a,b,vs,us,rfl,rfl,by rw[hK];exact h1,by rw[hK];exact h2,by rw[<-r1.length,<-r2.length];exact pN hz,λp hp=>?_⟩);exact m _ _ (qU hp) (zN hs hp (r1.append r2)) (λ_=>dW (qa.refl _) hp (r1.append r2))
    ·exact m.elim
   |_=>exact m.elim
  |_=>exact m.elim
 ·exact two0 .sub BO λda db d h=>by obtain⟨i,j,rfl,rfl,h'⟩:=eO (by decide) (by decide) h;clear h;rename _=>h;cases h;exact⟨_,_,rfl,rfl,rfl⟩
 ·refine OpR.imp (yc.or (uK.or tZ)) λx y H Q ⟨S,da,db,hs,ra,rb,m⟩=>?_
  cases e1:op2 .mul da db with
  |ok d=>
   rw[e1]at m;unfold op2 at e1;split at e1
   ·simp only[opI]at e1;split at e1
    ·rename_i i j hc
     cases e1;refine .inl ⟨i,j,ra.int,rb.int,?_,m _ _ (qa.refl _) (.int _) (λz=>nomatch z)⟩;rcases(by simpa using hc)with z|z
     ·exact .inl (ni z)
     ·exact .inr (ni z)
    ·cases e1
   ·rw[if_neg (λz=>nomatch z.1)]at e1;cases e1
   ·rw[if_neg (λz=>nomatch z.1)]at e1;cases e1
   ·split at e1
    ·rename_i xs j hc
     cases e1;obtain⟨a,vs,rfl,h1,r1⟩:=ra.lst;refine .inr (.inl ⟨a,vs,j,rfl,rb.int,by rw[hK];exact h1,hc.2.1,by rw[<-r1.length];exact bB hc.2.2.1 (by decide),hc.2.2.2,λp hp=>m _ _ (qU hp) (zN hs hp (r1.rep _)) (λ_=>dW (qa.refl _) hp (r1.rep _))⟩)
    ·cases e1
   ·split at e1
    ·rename_i xs j hc
     cases e1;obtain⟨a,vs,rfl,h1,r1⟩:=ra.tup;refine .inr (.inr ⟨a,vs,j,rfl,rb.int,by rw[hK];exact h1,hc.2.1,by rw[<-r1.length];exact bB hc.2.2.1 (by decide),hc.2.2.2,λz=>?_,λp hp=>m _ _ (qU hp) (fF hs hp (r1.rep _)) (λz=>nomatch z)⟩);have e:(aX j.toNat xs).flatten=xs:=by
      rcases z with z|z
      ·have:xs=[]:=by
        subst z;cases r1;rfl
       subst this;exact lm_rep_nil _
      ·subst z;simp
     rw[e]at m;exact m _ _ (qa.refl _) (ra.strong (by intro _ z;cases z)) (λz=>nomatch z)
    ·cases e1
   ·cases e1
  |ex c=>rw[e1]at m;exact m.elim
  |no=>rw[e1]at m;exact m.elim
 ·exact two .mod Cy λda db d h=>by obtain⟨i,j,rfl,rfl,h'⟩:=eO (by decide) (by decide) h;clear h;rename _=>h;simp only[opI]at h;split at h<;>cases h;rename_i hc;exact⟨_,_,rfl,rfl,hc,rfl⟩
 ·exact two .pow yy λda db d h=>by obtain⟨i,j,rfl,rfl,h'⟩:=eO (by decide) (by decide) h;clear h;rename _=>h;simp only[opI]at h;split at h<;>cases h;rename_i hc;exact⟨_,_,rfl,rfl,hc,rfl⟩
 ·exact two .shl yf λda db d h=>by obtain⟨i,j,rfl,rfl,h'⟩:=eO (by decide) (by decide) h;clear h;rename _=>h;simp only[opI]at h;split at h<;>cases h;rename_i hc;exact⟨_,_,rfl,rfl,hc,rfl⟩
 ·exact two .shr BK λda db d h=>by obtain⟨i,j,rfl,rfl,h'⟩:=eO (by decide) (by decide) h;clear h;rename _=>h;simp only[opI]at h;split at h<;>cases h;rename_i hc;exact⟨_,_,rfl,rfl,hc,rfl⟩
 ·exact two0 .bor AV λda db d h=>by obtain⟨i,j,rfl,rfl,h'⟩:=eO (by decide) (by decide) h;clear h;rename _=>h;cases h;exact⟨_,_,rfl,rfl,rfl⟩
 ·exact two0 .bxor AS λda db d h=>by obtain⟨i,j,rfl,rfl,h'⟩:=eO (by decide) (by decide) h;clear h;rename _=>h;cases h;exact⟨_,_,rfl,rfl,rfl⟩
 ·exact two0 .band xG λda db d h=>by obtain⟨i,j,rfl,rfl,h'⟩:=eO (by decide) (by decide) h;clear h;rename _=>h;cases h;exact⟨_,_,rfl,rfl,rfl⟩
 ·exact two .fdiv BY λda db d h=>by obtain⟨i,j,rfl,rfl,h'⟩:=eO (by decide) (by decide) h;clear h;rename _=>h;simp only[opI]at h;split at h<;>cases h;rename_i hc;exact⟨_,_,rfl,rfl,hc,rfl⟩
theorem iM(hK:X.K=g.K){pins:List (Addr×Obj)}{σ:L2.St}{H:Hp}{s:af}(I:Inv X pins σ H s){d:D}{v:V}{u:ae}(r:Rep g H d v)(a:d.asks=true)(ru:RelV v u):∃as,Reads s.heap u d.py as/\d.py.canLay0=true/\d.py.depth<=20:=by
 obtain⟨h1,h2⟩:=gR.mp a;have h:=r.data h1;rw[<-hK]at h;obtain⟨as,q⟩:=I.reads h ru;exact⟨as,q,nG h1,by rw[nJ];exact h2⟩
theorem p9:∀(a b:List Int),du a b=HT.lexLt a b
 | [],[]=>by simp[du,HT.lexLt]
 | [],_::_=>by simp[du,HT.lexLt]
 |_::_,[]=>by simp[du,HT.lexLt]
 |a::r,b::t=>by
  simp only[du,HT.lexLt];rw[p9 r t]
  try (by_cases h:a=b<;>simp[h])
noncomputable def rCm(g:Gc)(c:C2):R2:=λx y H Q=>∃S da db,zw g H S da x/\zw g H S db y /\
 match qE c da db with
 | .ok b=>Q (.bl b) H
 |_=>False
open Classical in
noncomputable def eN(h:Heap)(q:PyData)(u:ae):Bool:=if e:∃d as,Reads h u d as then PyData.eqv e.choose q else false
theorem lU{h:Heap}{q d:PyData}{u:ae}{as:List Addr}(r:Reads h u d as):eN h q u=PyData.eqv d q:=by
 have e:∃d as,Reads h u d as:=⟨d,as,r⟩
 unfold eN;rw[dif_pos e];obtain⟨bs,r'⟩:=e.choose_spec;rw[(PySem.Reads.unique r' d as r).1]
theorem any_eq(hK:X.K=g.K){pins:List (Addr×Obj)}{σ:L2.St}{H:Hp}{s:af}(I:Inv X pins σ H s){da:D}(ha:da.asks=true){ds:List D}:∀{vs:List V}{us:List ae},qV g H ds vs->Vals vs us->ds.all D.asks=true ->
  us.any (eN s.heap da.py)=inD da ds/\∀u∈us,∃d as,Reads s.heap u d as/\d.canLay0=true/\d.depth<=20:=by
 induction ds with
 |nil=>intro vs us h r _;cases h;cases r;exact⟨rfl,λu h=>nomatch h⟩
 |cons d ds ih=>
  intro vs us h q e;cases h with
  |cons h r=>cases q with
   |cons q t=>
    rw[List.all_cons,aM]at e;obtain⟨as,h1,h2,h3⟩:=iM hK I h e.1 q;obtain⟨i1,i2⟩:=ih r t e.2;refine⟨?_,λu hu=>?_⟩
    ·rw[List.any_cons,i1,lU h1,jL _ _ (gR.mp e.1).1 (gR.mp ha).1]
     rfl
    ·rcases aN.mp hu with rfl|hu
     ·exact⟨_,as,h1,h2,h3⟩
     ·exact i2 u hu
theorem wC{A:az}{s:af}{u v:ae}{d:PyData}{as:List Addr}{q:PyData}{bs:List Addr}(hu:A.units+60<cLine)(r:Reads s.heap u d as)(r':Reads s.heap v q bs)(h1:d.canLay0=true)(h2:q.canLay0=true)(h3:d.depth<=20):SeqAt.EqAt A.in1 s u v (eN s.heap q u):=by
 rw[lU r];refine SeqAt.eqAt_reads d q A.in1 s u v as bs r r' h1 h2 ?_;have:min d.depth q.depth<=d.depth:=Nat.min_le_left _ _;show A.units+1+_<_;lia
theorem oX(hK:X.K=g.K)(hu:X.A.units+64<cLine)(neg:Bool):OpR X (bg (if neg then .NotIn else .In)) (λx y H Q=>∃S da db ds,zw g H S da x/\zw g H S db y/\seq? db=some ds/\da.asks=true/\ds.all D.asks=true/\Q (.bl (if neg then !inD da ds else inD da ds)) H):=by
 intro pins s σ H x y v u Q I rx ry h;obtain⟨S,da,db,ds,ra,rb,es,aa,ad,q⟩:=h;obtain⟨as,h1,h2,h3⟩:=iM hK I ra.rep aa rx;obtain⟨a,vs,rfl,hsq,rr⟩:=rb.seq es;cases ry;have go:∀{its:List ae},Vals vs its->(∀w∈its.toArray,SeqAt.EqAt X.A.in1 s w v (eN s.heap da.py w))/\its.toArray.any (eN s.heap da.py)=inD da ds:=λ{its} rv=>by
  obtain⟨i1,i2⟩:=any_eq hK I aa (rr.mono dv) rv ad;refine⟨λw hw=>?_,by simpa using i1⟩;obtain⟨d,bs,r1,r2,r3⟩:=i2 w (by simpa using hw);exact wC (Nat.lt_of_le_of_lt (Nat.add_le_add_left (by decide) _) hu) r1 h1 r2 h2 r3
 rcases hsq with hsq|hsq
 ·obtain⟨its,rv,pl,_⟩:=I.list (by rw[hK];exact hsq);obtain⟨g1,g2⟩:=go rv;cases neg with
  |false=>exact SeqAt.in_listAt (eN s.heap da.py) pl.isList g1 ⟨.bl _,H,I,rfl,by rw[g2];exact q⟩
  |true=>exact SeqAt.notIn_listAt (eN s.heap da.py) pl.isList g1 ⟨.bl _,H,I,rfl,by rw[g2];exact q⟩
 ·obtain⟨its,rv,pl,_⟩:=I.tuple (by rw[hK];exact hsq);obtain⟨g1,g2⟩:=go rv;cases neg with
  |false=>exact SeqAt.in_tupleAt (eN s.heap da.py) pl g1 ⟨.bl _,H,I,rfl,by rw[g2];exact q⟩
  |true=>exact SeqAt.notIn_tupleAt (eN s.heap da.py) pl g1 ⟨.bl _,H,I,rfl,by rw[g2];exact q⟩
theorem p7(hK:X.K=g.K)(hu:X.A.units+64<cLine)(neg:Bool):OpR X (bg (if neg then .NotEq else .Eq)) (λx y H Q=>∃S da db,zw g H S da x/\zw g H S db y/\da.asks=true/\db.asks=true/\Q (.bl (if neg then !da.eqv db else da.eqv db)) H):=by
 intro pins s σ H x y v u Q I rx ry h;obtain⟨S,da,db,ra,rb,aa,ab,q⟩:=h;obtain⟨as,h1,h2,h3⟩:=iM hK I ra.rep aa rx;obtain⟨bs,k1,k2,k3⟩:=iM hK I rb.rep ab ry;have e:=jL da db (gR.mp aa).1 (gR.mp ab).1;have room:X.A.units+min da.py.depth db.py.depth<cLine:=by
  have:min da.py.depth db.py.depth<=da.py.depth:=Nat.min_le_left _ _;lia
 cases neg with
 |false=>exact SeqAt.compareEq_reads h1 k1 h2 k2 room ⟨.bl _,H,I,by rw[e];rfl,q⟩
 |true=>exact SeqAt.compareNe_reads h1 k1 h2 k2 room ⟨.bl _,H,I,by rw[e];rfl,q⟩
theorem zw.non_iff{S:Sh}{H:Hp}{d:D}{v:V}(r:zw g H S d v):decide (v=.non)=hU d:=by
 cases r.rep<;>rfl
theorem eF{op:CmpOp}{c:C2}{r:R2}(h:OpR X (bg op) r)(k:∀S da db b x y H Q,zw g H S da x->zw g H S db y->qE c da db=.ok b->Q (.bl b) H->r x y H Q):OpR X (bg op) (rCm g c):=by
 refine OpR.imp h λx y H Q ⟨S,da,db,ra,rb,m⟩=>?_
 cases e:qE c da db with
 |ok b=>rw[e]at m;exact k S da db b x y H Q ra rb e m
 |ex c'=>rw[e]at m;exact m.elim
 |no=>rw[e]at m;exact m.elim
theorem uo:OpR X (bg .Is) (λx y H Q=>∃a b,x=.bl a/\y=.bl b/\Q (.bl (a==b)) H):=by
 intro pins s σ H x y v u Q I rx ry h;obtain⟨a,b,rfl,rfl,q⟩:=h;cases rx;cases ry;exact is_bool (iN I q rfl)
theorem yw:OpR X (bg .IsNot) (λx y H Q=>∃a b,x=.bl a/\y=.bl b/\Q (.bl (!(a==b))) H):=by
 intro pins s σ H x y v u Q I rx ry h;obtain⟨a,b,rfl,rfl,q⟩:=h;cases rx;cases ry;exact isnot_bool (iN I q rfl)
theorem oA{n:Bool}{a b:EV.D}{c:Bool}(h:isB n a b=.ok c):∃x y,a=.bl x/\b=.bl y/\c=(n != (x==y)):=by
 unfold isB at h;split at h
 ·cases h;exact⟨_,_,rfl,rfl,rfl⟩
 ·cases h
theorem l8{da db:D}{b:Bool}(h:eY da db=.ok b):∃kvs i,db=.dic kvs/\da=.int i/\b=kvs.any λp=>decide (p.1=i):=by
 unfold eY at h;split at h
 ·split at h
  ·cases h;exact⟨_,_,rfl,rfl,rfl⟩
  ·cases h
 ·cases h
theorem dF(hK:X.K=g.K)(hu:X.A.units+64<cLine)(op:CmpOp):OpR X (bg op) (rCm g (c2 op)):=by
 cases op
 ·exact eF (p7 hK hu false) λS da db b x y H Q ra rb e q=>by
   simp only[c2,qE]at e;split at e<;>cases e
   rename_i a
   simp only[aM]at a;exact⟨S,da,db,ra,rb,a.1,a.2,q⟩
 ·exact eF (p7 hK hu true) λS da db b x y H Q ra rb e q=>by
   simp only[c2,qE]at e;split at e<;>cases e
   rename_i a
   simp only[aM]at a;exact⟨S,da,db,ra,rb,a.1,a.2,q⟩
 ·exact eF (Bb.or (um (by lia))) λS da db b x y H Q ra rb e q=>by
   simp only[c2]at e;cases da with
   |int i=>
    cases db with
    |int j=>cases e;exact .inl ⟨i,j,ra.int,rb.int,q⟩
    |_=>cases e
   |tup xs=>
    cases db with
    |tup ys=>
     simp only[qE]at e;split at e
     ·rename_i ns ms e1 e2
      cases e;obtain⟨a,vs,rfl,h1,r1⟩:=ra.tup;obtain⟨b,us,rfl,h2,r2⟩:=rb.tup;obtain⟨rfl,_⟩:=r1.ints e1;obtain⟨rfl,_⟩:=r2.ints e2;exact .inr ⟨a,b,ns,ms,rfl,rfl,by rw[hK];exact h1,by rw[hK];exact h2,p9 ns ms▸q⟩
     ·cases e
    |_=>cases e
   |_=>cases db<;>cases e
 ·exact eF vm λS da db b x y H Q ra rb e q=>by
   cases da with
   |int i=>
    cases db with
    |int j=>cases e;exact⟨_,_,ra.int,rb.int,q⟩
    |_=>cases e
   |_=>cases e
 ·exact eF xq λS da db b x y H Q ra rb e q=>by
   cases da with
   |int i=>
    cases db with
    |int j=>cases e;exact⟨_,_,ra.int,rb.int,q⟩
    |_=>cases e
   |_=>cases e
 ·exact eF rG λS da db b x y H Q ra rb e q=>by
   cases da with
   |int i=>
    cases db with
    |int j=>cases e;exact⟨_,_,ra.int,rb.int,q⟩
    |_=>cases e
   |_=>cases e
 ·exact eF (uO.or uo) λS da db b x y H Q ra rb e q=>by
   simp only[c2,qE]at e;split at e
   ·rename_i hd
    cases e;have hd:db=.non:=by cases db<;>first|rfl|cases hd
    subst hd;cases rb.rep;exact .inl ⟨rfl,by rw[ra.non_iff];exact q⟩
   ·obtain⟨a,c,rfl,rfl,rfl⟩:=oA e;cases ra.rep;cases rb.rep;exact .inr ⟨a,c,rfl,rfl,by cases a<;>cases c<;>exact q⟩
 ·exact eF (vX.or yw) λS da db b x y H Q ra rb e q=>by
   simp only[c2,qE]at e;split at e
   ·rename_i hd
    cases e;have hd:db=.non:=by cases db<;>first|rfl|cases hd
    subst hd;cases rb.rep;exact .inl ⟨rfl,by rw[ra.non_iff];exact q⟩
   ·obtain⟨a,c,rfl,rfl,rfl⟩:=oA e;cases ra.rep;cases rb.rep;exact .inr ⟨a,c,rfl,rfl,by cases a<;>cases c<;>exact q⟩
 ·exact eF ((oX hK hu false).or (wU hu)) λS da db b x y H Q ra rb e q=>by
   simp only[c2,qE]at e;split at e
   ·rename_i xs es
    split at e<;>cases e
    rename_i a
    simp only[aM]at a;exact .inl ⟨S,da,db,xs,ra,rb,es,a.1,a.2,q⟩
   ·obtain⟨kvs,i,rfl,rfl,rfl⟩:=l8 e;obtain⟨l,rfl,hl⟩:=rb.dic;exact .inr ⟨l,kvs,i,rfl,ra.int,hl,q⟩
 ·exact eF ((oX hK hu true).or (tj hu)) λS da db b x y H Q ra rb e q=>by
   simp only[c2,qE]at e;split at e
   ·rename_i xs es
    split at e<;>cases e
    rename_i a
    simp only[aM]at a;exact .inl ⟨S,da,db,xs,ra,rb,es,a.1,a.2,q⟩
   ·cases ed:eY da db with
    |ok r=>
     rw[ed]at e;obtain⟨kvs,i,rfl,rfl,rfl⟩:=l8 ed;obtain⟨l,rfl,hl⟩:=rb.dic;cases e;exact .inr ⟨l,kvs,i,rfl,ra.int,hl,q⟩
    |ex z=>rw[ed]at e;cases e
    |no=>rw[ed]at e;cases e
end
abbrev fA(g:Gc)(H:Hp)(S:Sh):List D->List V->Prop:=Paired (zw g H S)
section
variable{X:Cx}{g:Gc}
theorem rp{H:Hp}{ds:List D}{vs:List V}{i:Int}{d:D}(r:qV g H ds vs)(e:atI ds i=some d):∃v,atI vs i=some v/\Rep g H d v:=by
 unfold atI at e ⊢;rw[<-r.length];cases q:ixN ds.length i with
 |none=>rw[q]at e;cases e
 |some j=>rw[q]at e;exact r.get e
noncomputable def sk(g:Gc):R2:=λx y H Q=>∃S da db,zw g H S da x/\zw g H S db y /\
 match ixD da db with
 | .ok d=>∀v,Rep g (hid H S) d v->Q v H
 |_=>False
theorem xR(hK:X.K=g.K)(hu:X.A.units+64<cLine):IxR X (sk g):=by
 have k:IxR X (λx y H Q=>(mE X.K x y H Q\/lC X.K x y H Q)\/lG x y H Q):=(Bj.or B4).or (vw hu);intro value slice pins s σ H x y v u Q I rx ry h hs;refine k value slice pins s σ H x y v u Q I rx ry ?_ hs;obtain⟨S,da,db,ra,rb,m⟩:=h;cases da with
 |tup xs=>
  cases db with
  |int i=>
   simp only[ixD]at m;cases e:atI xs i with
   |none=>rw[e]at m;exact m.elim
   |some d=>
    rw[e]at m;obtain⟨a,vs,rfl,h1,r1⟩:=ra.tup;obtain⟨w,h2,h3⟩:=rp r1 e;exact .inl (.inr ⟨a,vs,i,w,rfl,rb.int,by rw[hK];exact h1,h2,m w h3⟩)
  |_=>exact m.elim
 |lst xs=>
  cases db with
  |int i=>
   simp only[ixD]at m;cases e:atI xs i with
   |none=>rw[e]at m;exact m.elim
   |some d=>
    rw[e]at m;obtain⟨a,vs,rfl,h1,r1⟩:=ra.lst;obtain⟨w,h2,h3⟩:=rp r1 e;exact .inl (.inl ⟨a,vs,i,w,rfl,rb.int,by rw[hK];exact h1,h2,m w h3⟩)
  |_=>exact m.elim
 |dic kvs=>
  cases db with
  |int i=>
   simp only[ixD]at m;cases e:atK kvs i with
   |none=>rw[e]at m;exact m.elim
   |some v=>
    rw[e]at m;obtain⟨a,rfl,h1⟩:=ra.dic;exact .inr ⟨a,kvs,i,v,rfl,rb.int,h1,e,m _ (.int v)⟩
  |_=>exact m.elim
 |_=>exact m.elim
noncomputable def Bs(g:Gc):V->Option Int->Option Int->Hp->VK->Prop:=λx lo hi H Q=>∃S da,Sub S H/\zw g H S da x /\
 match slD da lo hi with
 | .ok d=>∀v H',qa H H'->Rep g (hid H' S) d v->Q v H'
 |_=>False
theorem rE{H:Hp}{ds:List D}{vs:List V}(r:qV g H ds vs)(lo hi:Option Int):qV g H (cutD ds lo hi) (gp vs lo hi):=by
 unfold cutD gp;rw[r.length];exact(r.drop _).take _
theorem CJ(hK:X.K=g.K):SlR X (Bs g):=by
 intro pins s σ H x v vl vu lo hi sl Q I rx hs pl pu h;obtain⟨S,da,hS,ra,m⟩:=h;cases da with
 |lst xs=>
  obtain⟨a,vs,rfl,h1,r1⟩:=ra.lst;exact vv pins s σ H _ v vl vu lo hi sl Q I rx hs pl pu ⟨a,vs,rfl,by rw[hK];exact h1,λp hp=>m _ _ (qU hp) (zN hS hp (rE r1 lo hi))⟩
 |_=>exact m.elim
noncomputable def b1V:B1->ae
 | .len=>.builtin "len"
 | .tuple=>.type "tuple"
 | .list=>.type "list"
 | .sorted=>.builtin "sorted"
 | .all=>.builtin "all"
 | .any=>.builtin "any"
 | .sum=>.builtin "sum"
 | .min=>.builtin "min"
 | .max=>.builtin "max"
 | .abs=>.builtin "abs"
 | .int=>.type "int"
 | .bool=>.type "bool"
noncomputable def rB1(g:Gc)(b:B1):List V->Hp->VK->Prop:=λvs H Q=>∃S ds,Sub S H/\fA g H S ds vs /\
 match b1 b ds with
 | .ok d=>∀v H',qa H H'->Rep g (hid H' S) d v->(b=.list\/b=.sorted->Fr g H S H' d v)->Q v H'
 |_=>False
theorem qY.imp{f:ae}{r r':List V->Hp->VK->Prop}(h:qY X f r)(i:∀xs H Q,r' xs H Q->r xs H Q):qY X f r':=
 λpins s σ H xs us Q I rv q=>h pins s σ H xs us Q I rv (i _ _ _ q)
theorem fB{f:ae}{b:B1}{r:List V->Hp->VK->Prop}(h:qY X f r)
  (k:∀S ds d vs H Q,Sub S H->fA g H S ds vs->b1 b ds=.ok d->(∀v H',qa H H'->Rep g (hid H' S) d v->(b=.list\/b=.sorted->Fr g H S H' d v)->Q v H')->r vs H Q):qY X f (rB1 g b):=by
 refine qY.imp h λvs H Q ⟨S,ds,hs,rs,m⟩=>?_
 cases e:b1 b ds with
 |ok d=>rw[e]at m;exact k S ds d vs H Q hs rs e m
 |ex c=>rw[e]at m;exact m.elim
 |no=>rw[e]at m;exact m.elim
theorem kZ{f:ae}{b:B1}(h1:∀d,b11 b d=.no)(h2:∀d e,b12 b d e=.no):qY X f (rB1 g b):=λpins s σ H xs us Q I rv ⟨S,ds,hs,rs,m⟩=>by
 have e:b1 b ds=.no:=by
  unfold b1;split
  ·exact h1 _
  ·exact h2 _ _
  ·rfl
 rw[e]at m;exact m.elim
theorem iJ{b:B1}(hb:∀x y,b12 b x y=.no){ds:List D}{d:D}(h:b1 b ds=.ok d):∃x,ds=[x]/\b11 b x=.ok d:=by
 match ds,h with
 | [x],h=>exact⟨x,rfl,h⟩
 | [x,y],h=>have h:b12 b x y=.ok d:=h;rw[hb]at h;cases h
 | [],h=>cases h
 |_::_::_::_,h=>cases h
theorem jS{x r:D}{k:List D->R D}(h:ez x k=.ok r):∃xs,x=.lst xs/\k xs=.ok r:=by
 cases x with
 |lst xs=>exact⟨xs,rfl,h⟩
 |_=>cases h
theorem y8{x r:D}{f:Int->R D}{q:Bool->R D}(h:ibR x f q=.ok r):(∃i,x=.int i/\f i=.ok r)\/(∃b,x=.bl b/\q b=.ok r):=by
 cases x with
 |int i=>exact .inl ⟨i,rfl,h⟩
 |bl i=>exact .inr ⟨i,rfl,h⟩
 |_=>cases h
theorem l5{x y r:D}{k:Int->Int->R D}(h:iiR x y k=.ok r):∃i j,x=.int i/\y=.int j/\k i j=.ok r:=by
 cases x with
 |int i=>
  cases y with
  |int j=>exact⟨i,j,rfl,rfl,h⟩
  |_=>cases h
 |_=>cases h
theorem ja{α β:Type}{o:Option α}{k:α->R β}{r:β}(h:cg o k=.ok r):∃a,o=some a/\k a=.ok r:=by
 cases o with
 |some a=>exact⟨a,rfl,h⟩
 |none=>cases h
theorem kT{b:B1}{ds:List D}{d:D}{q:List D->R D}(h:b1 b ds=.ok d)(e:∀x,b1 b [x]=cg (seq? x) q)(n:ds.length≠1->b1 b ds=.no):∃x xs,ds=[x]/\seq? x=some xs/\q xs=.ok d:=by
 match ds with
 | []=>rw[n (by simp)]at h;cases h
 | [x]=>
  rw[e]at h;cases z:seq? x with
  |none=>rw[z]at h;cases h
  |some xs=>rw[z]at h;exact⟨x,xs,rfl,z,h⟩
 |x::y::r=>rw[n (by simp)]at h;cases h
theorem sR(hK:X.K=g.K):qY X (.builtin "len") (rB1 g .len):=fB Aj λS ds d vs H Q hs rs h q=>by
 obtain⟨x,xs,rfl,e,h⟩:=kT (q:=λxs=>.ok (.int xs.length)) h (λ_=>rfl) (λn=>by match ds,n with | [],_=>rfl | [_,_],_=>rfl|_::_::_::_,_=>rfl);cases h;cases rs with
 |cons r rs=>
  cases rs;obtain⟨a,us,rfl,h1,r1⟩:=r.seq e;exact⟨a,us,rfl,by rw[hK];exact h1,by rw[<-r1.length];exact q _ _ (qa.refl _) (.int _) (by simp)⟩
theorem Dr(hK:X.K=g.K):qY X (.type "tuple") (rB1 g .tuple):=fB Cb λS ds d vs H Q hs rs h q=>by
 obtain⟨x,xs,rfl,e,h⟩:=kT (q:=λxs=>.ok (.tup xs)) h (λ_=>rfl) (λn=>by match ds,n with | [],_=>rfl | [_,_],_=>rfl|_::_::_::_,_=>rfl);cases h;cases rs with
 |cons r rs=>
  cases rs;cases x with
  |lst ys=>
   cases e;obtain⟨a,us,rfl,h1,r1⟩:=r.lst;exact⟨a,us,rfl,.inl ⟨by rw[hK];exact h1,λp hp=>q _ _ (qU hp) (fF hs hp r1) (by simp)⟩⟩
  |tup ys=>
   cases e;have z:=r.strong (by intro _ z;cases z);obtain⟨a,us,rfl,h1,r1⟩:=r.tup;exact⟨a,us,rfl,.inr ⟨by rw[hK];exact h1,q _ _ (qa.refl _) z (by simp)⟩⟩
  |_=>cases e
theorem De(hK:X.K=g.K):qY X (.type "list") (rB1 g .list):=fB uA λS ds d vs H Q hs rs h q=>by
 obtain⟨x,xs,rfl,e,h⟩:=kT (q:=λxs=>.ok (.lst xs)) h (λ_=>rfl) (λn=>by match ds,n with | [],_=>rfl | [_,_],_=>rfl|_::_::_::_,_=>rfl);cases h;cases rs with
 |cons r rs=>
  cases rs;obtain⟨a,us,rfl,h1,r1⟩:=r.seq e;exact⟨a,us,rfl,by rw[hK];exact h1,λp hp=>q _ _ (qU hp) (zN hs hp r1) λ_=>dW (qa.refl _) hp r1⟩
theorem vV(hc:X.calm=true)(al:Bool):qY X (.builtin (if al then "all" else "any")) (λxs H Q=>∃(l:Addr) (bs:List Bool),xs=[.ref l]/\SqL X.K H l (bs.map V.bl)/\Q (.bl (if al then bs.all id else bs.any id)) H):=by
 intro pins s σ H xs us Q I r h;obtain⟨l,bs,rfl,hl,q⟩:=h;obtain⟨u,rfl,ru⟩:=r.one;cases ru;obtain⟨its,rv,pl,hz⟩:=I.list hl;have e:=uG (A:=X.A) rv;subst e;have hlt:l<s.heap.objs.size:=by obtain⟨_,e,_⟩:=pl.isList;exact aK e
 have tr:TruthOf X.prog X.w X.A.in1 (λi v=>(bs.map ae.bool).toArray[i]? = some v) (λi=>(bs[i]?).getD al):=λi v s' Q' E' hP hQ=>by
  have hv:(bs.map ae.bool)[i]? = some v:=by simpa using hP
  rw[List.getElem?_map]at hv;cases e:bs[i]? with
  |none=>rw[e]at hv;cases hv
  |some b=>
   rw[e]at hv;cases hv;simp only[e,Option.getD_some]at hQ;exact bI hQ
 have wk:=Walks.list (prog:=X.prog) (w:=X.w) (A:=X.A.in1) (I.ok.hd hc) s.heap.objs.size l (a6 hlt) (bs.map ae.bool).toArray;cases al with
 |true=>
  refine call_all_walk (wpAny_pyIter_list pl.isList ?_);refine⟨s.heap.objs.size,[s.heap.objs.size,l],[s.heap.objs.size],_,_,_,_,rfl,wk,⟨⟨_,Heap.get?_push_size _ rfl,rfl,rfl⟩,pl.isList.push _⟩,tr,λh' tk hk=>?_⟩;have e:((a_ (bs.map ae.bool).toArray.size).all λi=>(bs[i]?).getD true)=bs.all id:=by
   rw[aO,aP];exact LSm.range_all bs
  rw[e];exact⟨.bl _,H,I.kept (LSm.kept_iter hk),rfl,q⟩
 |false=>
  refine call_any_walk (wpAny_pyIter_list pl.isList ?_);refine⟨s.heap.objs.size,[s.heap.objs.size,l],[s.heap.objs.size],_,_,_,_,rfl,wk,⟨⟨_,Heap.get?_push_size _ rfl,rfl,rfl⟩,pl.isList.push _⟩,tr,λh' tk hk=>?_⟩;have e:((a_ (bs.map ae.bool).toArray.size).any λi=>(bs[i]?).getD false)=bs.any id:=by
   rw[aO,aP,Bool.eq_iff_iff];simp only[List.any_eq_true,List.mem_range,id];constructor
   ·rintro⟨i,hi,e⟩;rw[List.getElem?_eq_getElem hi]at e;exact⟨_,cz hi,e⟩
   ·rintro⟨b,hb,e⟩;obtain⟨i,hi,rfl⟩:=List.getElem_of_mem hb;exact⟨i,hi,by rw[List.getElem?_eq_getElem hi];exact e⟩
  rw[e];exact⟨.bl _,H,I.kept (LSm.kept_iter hk),rfl,q⟩
theorem mK(hK:X.K=g.K)(hc:X.calm=true)(al:Bool):qY X (.builtin (if al then "all" else "any")) (rB1 g (if al then .all else .any)):=fB (vV hc al) λS ds d vs H Q hs rs h q=>by
 obtain⟨xs,bs,rfl,e,rfl⟩:∃xs bs,ds=[.lst xs]/\bools? xs=some bs/\d=.bl (if al then bs.all id else bs.any id):=by
  cases al
  ·obtain⟨x,rfl,h'⟩:=iJ (λ_ _=>rfl) h;obtain⟨xs,rfl,h'⟩:=jS h';obtain⟨bs,e,h'⟩:=ja h';cases h';exact⟨xs,bs,rfl,e,rfl⟩
  ·obtain⟨x,rfl,h'⟩:=iJ (λ_ _=>rfl) h;obtain⟨xs,rfl,h'⟩:=jS h';obtain⟨bs,e,h'⟩:=ja h';cases h';exact⟨xs,bs,rfl,e,rfl⟩
 cases rs with
 |cons r rs=>
  cases rs;obtain⟨a,us,rfl,h1,r1⟩:=r.lst;have e2:=r1.bools e;subst e2;exact⟨a,bs,rfl,by rw[hK];exact h1,q _ _ (qa.refl _) (.bl _) (by cases al<;>simp)⟩
end
end EV
namespace TS
open PySem PyProof.Rows
noncomputable def pH:Bool->ak->Array ak->Nat->Nat->Nat->StateT aF Sem (Option Nat):=sortPriv% PySem.Builtin.gallop
noncomputable def lx:Array ak->Array ak->StateT aF Sem (Array ak):=sortPriv% PySem.Builtin.mergeLo
noncomputable def lu:Array ak->Array ak->StateT aF Sem (Array ak):=sortPriv% PySem.Builtin.mergeHi
theorem pr5{A1 A2 A3 A4 A5:Type}{F:A1×A2×A3×A4×A5->Prop}(h:∀x1 x2 x3 x4 x5,F (x1,x2,x3,x4,x5)):∀c,F c:=λ⟨x1,x2,x3,x4,x5⟩=>h x1 x2 x3 x4 x5
theorem pr6{A1 A2 A3 A4 A5 A6:Type}{F:A1×A2×A3×A4×A5×A6->Prop}(h:∀x1 x2 x3 x4 x5 x6,F (x1,x2,x3,x4,x5,x6)):∀c,F c:=λ⟨x1,x2,x3,x4,x5,x6⟩=>h x1 x2 x3 x4 x5 x6
theorem pr7{A1 A2 A3 A4 A5 A6 A7:Type}{F:A1×A2×A3×A4×A5×A6×A7->Prop}(h:∀x1 x2 x3 x4 x5 x6 x7,F (x1,x2,x3,x4,x5,x6,x7)):∀c,F c:=λ⟨x1,x2,x3,x4,x5,x6,x7⟩=>h x1 x2 x3 x4 x5 x6 x7
theorem exE{α:Type}{P:α->Prop}{C:Prop}(h:∀a,P a->C)(x:∃a,P a):C:=h _ x.choose_spec
theorem wpI{M:Model}{A:az}{E:ae->af->Prop}{s:af}{α σ:Type}{c:Prop}{i:Decidable c}{x y:StateT σ Sem α}{Q:α->σ->Prop}{st:σ}(h:c->wpS M A E s x Q st)(k:¬ c->wpS M A E s y Q st):wpS M A E s (if c then x else y) Q st:=by
 split
 ·exact h ‹_›
 ·exact k ‹_›
theorem stE{M:Model}{A:az}{E:ae->af->Prop}{s:af}{α σ:Type}{m:StateT σ Sem α}{Q:α->σ->Prop}{st st':σ}(h:st'=st)(k:wpS M A E s m Q st):wpS M A E s m Q st':=h▸k
structure Cmp(prog:aA)(w:av)(A:az)(s:af)(κ:SortKind)(D:ak->Prop)(LT:ak->ak->Bool):Prop where
 lt:∀x y,D x->D y->∀Q:Bool->af->Prop,Q (LT x y) s->ao (aq prog w) A (keyLt' κ x.1 y.1) Q (λ_ _=>False) s
 asym:∀x y,LT x y=true->LT y x=false
 neg:∀x y z,LT y x=false->LT z y=false->LT z x=false
section
variable{prog:aA}{w:av}{A:az}{E:ae->af->Prop}{s:af}{κ:SortKind}{D:ak->Prop}{LT:ak->ak->Bool}
theorem zk{arr:Array ak}{i:Nat}{x:ak}{Q:ak->aF->Prop}{st:aF}(hx:arr[i]? = some x)(h:Q x st):wpS (aq prog w) A E s (elem' arr i) Q st:=by
 rw[elem'_eq,hx];exact au h
theorem gQ(C:Cmp prog w A s κ D LT){x y:ak}(hx:D x)(hy:D y){Q:Option Bool->aF->Prop}{st:aF}(hk:kindOf st=κ)(h:Q (some (LT x y)) st):wpS (aq prog w) A E s (lt' x y) Q st:=by
 rw[lt'_eq];refine ar (wpS_get ?_);rw[hk];refine ar (wpS_lift (wpAny_attempt (bK (C.lt x y hx hy (λb s'=>s'=s/\b=LT x y) ⟨rfl,rfl⟩) (λb s' hb=>?_) λ_ _ z=>z.elim)));obtain⟨rfl,rfl⟩:=hb;exact⟨rfl,au h⟩
noncomputable def bey(LT:ak->ak->Bool)(left:Bool)(key:ak)(x:ak):Bool:=if left then LT x key else !LT key x
theorem gn(C:Cmp prog w A s κ D LT){left:Bool}{key:ak}{arr:Array ak}{base n hint:Nat}{Q:Option Nat->aF->Prop}{st:aF}(hk:kindOf st=κ)(hkey:D key)(it:Nat->ak)(ha:∀i,i<n->arr[base+i]? = some (it i)/\D (it i))(hh:hint<n)
  (mono:∀i j,i<=j->j<n->bey LT left key (it j)=true->bey LT left key (it i)=true)
  (h:∀k,k<=n->(∀i,i<k->bey LT left key (it i)=true)->(∀i,k<=i->i<n->bey LT left key (it i)=false)->Q (some k) st):wpS (aq prog w) A E s (pH left key arr base n hint) Q st:=by
 have ask:∀(i:Nat) (R:Option Bool->aF->Prop),i<n->R (some (bey LT left key (it i))) st->wpS (aq prog w) A E s (do
   let x <-elem' arr (base+i)
   if left=true then lt' x key else do
    let r <-lt' key x
    pure (r.map (!·))) R st:=λi R hi hR=>by
  obtain⟨h1,h2⟩:=ha i hi;refine ar (zk h1 ?_);cases left with
  |true=>rw[if_pos rfl];exact gQ C h2 hkey hk hR
  |false=>rw[if_neg (by decide)];exact ar (gQ C hkey h2 hk (au hR))
 have mono':∀i j,i<=j->j<n->bey LT left key (it i)=false->bey LT left key (it j)=false:=λi j hij hj hf=>by
  cases q:bey LT left key (it j)with
  |false=>rfl
  |true=>rw[mono i j hij hj q]at hf;cases hf
 -- the last loop
 have fin:∀(lo hi:Nat) (f:Nat->Option (Option Nat)×Nat×Nat->StateT aF Sem (ForInStep (Option (Option Nat)×Nat×Nat))) (g:Option (Option Nat)×Nat×Nat->StateT aF Sem (Option Nat)),lo<=hi->hi<=n ->
   (∀i,i<lo->bey LT left key (it i)=true)->(∀i,hi<=i->i<n->bey LT left key (it i)=false) ->
   (∀i lo hi R,lo >= hi->R (.done (none,lo,hi)) st->wpS (aq prog w) A E s (f i (none,lo,hi)) R st) ->
   (∀i lo hi R,¬ lo >= hi->hi<=n->R (if bey LT left key (it (lo+(hi-lo)/2))=true then .yield (none,lo+(hi-lo)/2+1,hi)else .yield (none,lo,lo+(hi-lo)/2)) st->wpS (aq prog w) A E s (f i (none,lo,hi)) R st) ->
   (∀lo hi,Q (some hi) st->wpS (aq prog w) A E s (g (none,lo,hi)) Q st) ->
   wpS (aq prog w) A E s (forIn [:n] (none,lo,hi) f>>=g) Q st:=by
  intro lo hi f g h1 h2 hlo hhi hf1 hf2 hg;refine ar (wpS_forRange (λi c st'=>st'=st/\c.1=none/\c.2.1<=c.2.2/\c.2.2<=n/\c.2.2-c.2.1<=n-i/\(∀i,i<c.2.1->bey LT left key (it i)=true)/\(∀i,c.2.2<=i->i<n->bey LT left key (it i)=false)) ?_ ?_ ⟨rfl,rfl,h1,h2,by show hi-lo<=n-0;lia,hlo,hhi⟩)
  ·rintro i ⟨c0,lo,hi⟩ st' _ hi' ⟨rfl,rfl,g1,g2,g3,g4,g5⟩;dsimp only at g1 g2 g3 g4 g5 ⊢;by_cases hge:lo >= hi
   ·have:lo=hi:=by lia
    subst this;exact hf1 _ _ _ _ hge (hg _ _ (h lo g2 g4 g5))
   ·refine hf2 _ _ _ _ hge g2 ?_;cases q:bey LT left key (it (lo+(hi-lo)/2))with
    |true=>
     rw[if_pos rfl];refine⟨rfl,rfl,?_,g2,?_,λj hj=>?_,g5⟩
     ·show lo+(hi-lo)/2+1<=hi;lia
     ·show hi-(lo+(hi-lo)/2+1)<=n-(i+1);lia
     ·exact mono j _ (by have:j<lo+(hi-lo)/2+1:=hj;lia) (by lia) q
    |false=>
     rw[if_neg (by decide)];refine⟨rfl,rfl,?_,?_,?_,g4,λj hj hjn=>?_⟩
     ·show lo<=lo+(hi-lo)/2;lia
     ·show lo+(hi-lo)/2<=n;lia
     ·show lo+(hi-lo)/2-lo<=n-(i+1);lia
     ·exact mono' _ j hj hjn q
  ·rintro⟨c0,lo,hi⟩ st' ⟨rfl,rfl,g1,g2,g3,g4,g5⟩;dsimp only at g1 g2 g3 g4 g5;have:lo=hi:=by lia
   subst this;exact hg _ _ (h lo g2 g4 g5)
 unfold pH;refine ar (ask hint _ hh ?_);cases q:bey LT left key (it hint)with
 |true=>
  dsimp only;rw[if_pos rfl];refine ar (wpS_forRange (λi c st'=>st'=st/\c.1=none/\c.2.1<c.2.2/\i+1<=c.2.2/\hint+c.2.1<n/\bey LT left key (it (hint+c.2.1))=true) ?_ ?_ ⟨rfl,rfl,by show 0<1;lia,by show 0+1<=1;lia,by show hint+0<n;lia,by show bey LT left key (it (hint+0))=true;exact q⟩)
  ·rintro i ⟨c0,la,ofs⟩ st' _ hi' ⟨rfl,rfl,g1,g2,g3,g4⟩;dsimp only at g1 g2 g3 g4 ⊢;by_cases hge:ofs >= n-hint
   ·rw[if_pos hge];refine au ?_;refine fin (hint+la+1) (hint+min ofs (n-hint)) _ _ (by lia) (by lia) (λj hj=>mono j _ (by lia) g3 g4) (λj hj hjn=>by lia) ?_ ?_ ?_
    ·intro i lo hi R hge hR;dsimp only;rw[if_pos hge];exact au hR
    ·intro i lo hi R hge hn hR;dsimp only;rw[if_neg hge];refine ar (ask _ _ (by lia) ?_);cases q9:bey LT left key (it (lo+(hi-lo)/2))with
     |true=>rw[q9]at hR;exact au hR
     |false=>rw[q9]at hR;exact au hR
    ·intro lo hi hQ;exact au hQ
   ·rw[if_neg hge];refine ar (ask _ _ (by lia) ?_);cases q2:bey LT left key (it (hint+ofs))with
    |false=>
     refine au ?_;refine fin (hint+la+1) (hint+min ofs (n-hint)) _ _ (by lia) (by lia) (λj hj=>mono j _ (by lia) g3 g4) (λj hj hjn=>mono' (hint+ofs) j (by lia) hjn q2) ?_ ?_ ?_
     ·intro i lo hi R hge hR;dsimp only;rw[if_pos hge];exact au hR
     ·intro i lo hi R hge hn hR;dsimp only;rw[if_neg hge];refine ar (ask _ _ (by lia) ?_);cases q9:bey LT left key (it (lo+(hi-lo)/2))with
      |true=>rw[q9]at hR;exact au hR
      |false=>rw[q9]at hR;exact au hR
     ·intro lo hi hQ;exact au hQ
    |true=>
     refine au ⟨rfl,rfl,?_,?_,?_,q2⟩
     ·show ofs<2 * ofs+1;lia
     ·show i+1+1<=2 * ofs+1;lia
     ·show hint+ofs<n;lia
  ·rintro⟨c0,la,ofs⟩ st' ⟨rfl,rfl,g1,g2,g3,g4⟩;dsimp only at g1 g2 g3 g4;refine fin (hint+la+1) (hint+min ofs (n-hint)) _ _ (by lia) (by lia) (λj hj=>mono j _ (by lia) g3 g4) (λj hj hjn=>by lia) ?_ ?_ ?_
   ·intro i lo hi R hge hR;dsimp only;rw[if_pos hge];exact au hR
   ·intro i lo hi R hge hn hR;dsimp only;rw[if_neg hge];refine ar (ask _ _ (by lia) ?_);cases q9:bey LT left key (it (lo+(hi-lo)/2))with
    |true=>rw[q9]at hR;exact au hR
    |false=>rw[q9]at hR;exact au hR
   ·intro lo hi hQ;exact au hQ
 |false=>
  dsimp only;rw[if_neg (by decide)];refine ar (wpS_forRange (λi c st'=>st'=st/\c.1=none/\c.2.1<c.2.2/\i+1<=c.2.2/\c.2.1<=hint/\bey LT left key (it (hint-c.2.1))=false) ?_ ?_ ⟨rfl,rfl,by show 0<1;lia,by show 0+1<=1;lia,by show 0<=hint;lia,by show bey LT left key (it (hint-0))=false;exact q⟩)
  ·rintro i ⟨c0,la,ofs⟩ st' _ hi' ⟨rfl,rfl,g1,g2,g3,g4⟩;dsimp only at g1 g2 g3 g4 ⊢;by_cases hge:ofs >= hint+1
   ·rw[if_pos hge];refine au ?_;refine fin (hint+1-min ofs (hint+1)) (hint-la) _ _ (by lia) (by lia) (λj hj=>by lia) (λj hj hjn=>mono' (hint-la) j (by lia) hjn g4) ?_ ?_ ?_
    ·intro i lo hi R hge hR;dsimp only;rw[if_pos hge];exact au hR
    ·intro i lo hi R hge hn hR;dsimp only;rw[if_neg hge];refine ar (ask _ _ (by lia) ?_);cases q9:bey LT left key (it (lo+(hi-lo)/2))with
     |true=>rw[q9]at hR;exact au hR
     |false=>rw[q9]at hR;exact au hR
    ·intro lo hi hQ;exact au hQ
   ·rw[if_neg hge];refine ar (ask _ _ (by lia) ?_);cases q2:bey LT left key (it (hint-ofs))with
    |true=>
     refine au ?_;refine fin (hint+1-min ofs (hint+1)) (hint-la) _ _ (by lia) (by lia) (λj hj=>mono j (hint-ofs) (by lia) (by lia) q2) (λj hj hjn=>mono' (hint-la) j (by lia) hjn g4) ?_ ?_ ?_
     ·intro i lo hi R hge hR;dsimp only;rw[if_pos hge];exact au hR
     ·intro i lo hi R hge hn hR;dsimp only;rw[if_neg hge];refine ar (ask _ _ (by lia) ?_);cases q9:bey LT left key (it (lo+(hi-lo)/2))with
      |true=>rw[q9]at hR;exact au hR
      |false=>rw[q9]at hR;exact au hR
     ·intro lo hi hQ;exact au hQ
    |false=>
     refine au ⟨rfl,rfl,?_,?_,?_,q2⟩
     ·show ofs<2 * ofs+1;lia
     ·show i+1+1<=2 * ofs+1;lia
     ·show ofs<=hint;lia
  ·rintro⟨c0,la,ofs⟩ st' ⟨rfl,rfl,g1,g2,g3,g4⟩;dsimp only at g1 g2 g3 g4;refine fin (hint+1-min ofs (hint+1)) (hint-la) _ _ (by lia) (by lia) (λj hj=>by lia) (λj hj hjn=>mono' (hint-la) j (by lia) hjn g4) ?_ ?_ ?_
   ·intro i lo hi R hge hR;dsimp only;rw[if_pos hge];exact au hR
   ·intro i lo hi R hge hn hR;dsimp only;rw[if_neg hge];refine ar (ask _ _ (by lia) ?_);cases q9:bey LT left key (it (lo+(hi-lo)/2))with
    |true=>rw[q9]at hR;exact au hR
    |false=>rw[q9]at hR;exact au hR
   ·intro lo hi hQ;exact au hQ
end
structure Wo(LT:ak->ak->Bool):Prop where
 asym:∀x y,LT x y=true->LT y x=false
 neg:∀x y z,LT y x=false->LT z y=false->LT z x=false
section
variable{LT:ak->ak->Bool}
theorem Wo.irr(W:Wo LT)(x:ak):LT x x=false:=by
 cases h:LT x x with
 |false=>rfl
 |true=>have:=W.asym x x h;rw[h]at this;cases this
theorem Wo.le_lt(W:Wo LT){x y z:ak}(h1:LT y x=false)(h2:LT y z=true):LT x z=true:=by
 cases h:LT x z with
 |true=>rfl
 |false=>have:=W.neg z x y h h1;rw[h2]at this;cases this
theorem Wo.lt_le(W:Wo LT){x y z:ak}(h1:LT x y=true)(h2:LT z y=false):LT x z=true:=by
 cases h:LT x z with
 |true=>rfl
 |false=>have:=W.neg y z x h2 h;rw[h1]at this;cases this
noncomputable def Srt(LT:ak->ak->Bool)(l:List ak):Prop:=l.Pairwise λx y=>LT y x=false
abbrev df:Keyed:=(ae.none,ae.none)
noncomputable def at'(a:Array ak)(i:Nat):Keyed:=a.getD i df
theorem qh{a:Array ak}{i:Nat}(h:i<a.size):a[i]? = some (at' a i):=by
 unfold at' Array.getD;rw[dif_pos h];exact Array.getElem?_eq_getElem h
theorem jg{a:Array ak}{i:Nat}(h:i<a.size):at' a i∈a.toList:=by
 have:=qh h;rw[<-Array.getElem?_toList]at this;exact List.mem_of_getElem? this
theorem zU(W:Wo LT){a:Array ak}(h:Srt LT a.toList){i j:Nat}(hij:i<=j)(hj:j<a.size):LT (at' a j) (at' a i)=false:=by
 by_cases e:i=j
 ·subst e;exact W.irr _
 ·have hi:i<a.toList.length:=by rw[aR];lia
  have hj':j<a.toList.length:=by rw[aR];lia
  have:=List.pairwise_iff_getElem.mp h i j hi hj' (by lia);have e1:=qh (a:=a) (i:=i) (by lia);have e2:=qh (a:=a) (i:=j) hj;rw[<-Array.getElem?_toList,List.getElem?_eq_getElem hi]at e1;rw[<-Array.getElem?_toList,List.getElem?_eq_getElem hj']at e2;injection e1 with e1
  injection e2 with e2
  rw[<-e1,<-e2];exact this
theorem qZ{a:Array ak}{i j:Nat}{x:ak}(h:x∈(a.extract i j).toList):∃k,i<=k/\k<j/\k<a.size/\x=at' a k:=by
 obtain⟨m,hm⟩:=List.mem_iff_getElem?.mp h;rw[Array.getElem?_toList,Array.getElem?_extract]at hm;split at hm
 ·rename_i hlt
  have hk:i+m<a.size:=(Array.getElem?_eq_some_iff.mp hm).1;rw[qh hk]at hm;injection hm with hm
  exact⟨i+m,by lia,by lia,hk,hm.symm⟩
 ·cases hm
theorem zG(a:Array ak)(i j:Nat):(a.extract i j).toList=(a.toList.drop i).take (j-i):=by
 simp[Array.toList_extract]
theorem dI{a:Array ak}(h:Srt LT a.toList)(i j:Nat):Srt LT (a.extract i j).toList:=by
 rw[zG];exact(h.sublist (List.drop_sublist _ _)).sublist (List.take_sublist _ _)
structure MI(LT:ak->ak->Bool)(a b out:Array ak)(ia ib:Nat):Prop where
 pm:out.toList.Perm (a.toList.take ia++b.toList.take ib)
 sr:Srt LT out.toList
 la:∀x∈out.toList,∀j,ia<=j->j<a.size->LT (at' a j) x=false
 lb:∀x∈out.toList,∀j,ib<=j->j<b.size->LT (at' b j) x=false
variable{a b out:Array ak}{ia ib:Nat}
theorem pj{l:List ak}{i k:Nat}:l.take (i+k)=l.take i++(l.drop i).take k:=List.take_add
theorem MI.takeA(W:Wo LT)(h:MI LT a b out ia ib)(Sa:Srt LT a.toList)(k:Nat)(hb:∀i,ia<=i->i<ia+k->i<a.size->∀j,ib<=j->j<b.size->LT (at' b j) (at' a i)=false):MI LT a b (out++a.extract ia (ia+k)) (ia+k) ib:=by
 refine⟨?_,?_,λx hx j h1 h2=>?_,λx hx j h1 h2=>?_⟩
 ·rw[bh,zG,pj,show ia+k-ia=k by lia];refine(h.pm.append_right _).trans ?_;rw[bx,bx];exact(List.perm_append_comm).append_left _
 ·rw[bh];refine List.pairwise_append.mpr ⟨h.sr,dI Sa _ _,λx hx y hy=>?_⟩;obtain⟨i,g1,g2,g3,rfl⟩:=qZ hy;exact h.la x hx i g1 g3
 ·rw[bh]at hx;rcases List.mem_append.mp hx with hx|hx
  ·exact h.la x hx j (by lia) h2
  ·obtain⟨i,g1,g2,g3,rfl⟩:=qZ hx;exact zU W Sa (by lia) h2
 ·rw[bh]at hx;rcases List.mem_append.mp hx with hx|hx
  ·exact h.lb x hx j h1 h2
  ·obtain⟨i,g1,g2,g3,rfl⟩:=qZ hx;exact hb i g1 g2 g3 j h1 h2
theorem MI.takeB(W:Wo LT)(h:MI LT a b out ia ib)(Sb:Srt LT b.toList)(k:Nat)(hb:∀i,ib<=i->i<ib+k->i<b.size->∀j,ia<=j->j<a.size->LT (at' a j) (at' b i)=false):MI LT a b (out++b.extract ib (ib+k)) ia (ib+k):=by
 refine⟨?_,?_,λx hx j h1 h2=>?_,λx hx j h1 h2=>?_⟩
 ·rw[bh,zG,pj,show ib+k-ib=k by lia,<-bx];exact h.pm.append_right _
 ·rw[bh];refine List.pairwise_append.mpr ⟨h.sr,dI Sb _ _,λx hx y hy=>?_⟩;obtain⟨i,g1,g2,g3,rfl⟩:=qZ hy;exact h.lb x hx i g1 g3
 ·rw[bh]at hx;rcases List.mem_append.mp hx with hx|hx
  ·exact h.la x hx j h1 h2
  ·obtain⟨i,g1,g2,g3,rfl⟩:=qZ hx;exact hb i g1 g2 g3 j h1 h2
 ·rw[bh]at hx;rcases List.mem_append.mp hx with hx|hx
  ·exact h.lb x hx j (by lia) h2
  ·obtain⟨i,g1,g2,g3,rfl⟩:=qZ hx;exact zU W Sb (by lia) h2
theorem jW{a out:Array ak}{i:Nat}(h:i<a.size):out.push (at' a i)=out++a.extract i (i+1):=by
 apply Array.toList_inj.mp;rw[Array.toList_push,bh,zG,show i+1-i=1 by lia]
 congr 1
 have hl:i<a.toList.length:=by rw[aR];exact h
 rw[e_ hl];have e1:=qh (a:=a) (i:=i) h;rw[<-Array.getElem?_toList,List.getElem?_eq_getElem hl]at e1;injection e1 with e1
 rw[e1];rfl
theorem MI.pushA(W:Wo LT)(h:MI LT a b out ia ib)(Sa:Srt LT a.toList)(Sb:Srt LT b.toList)(hi:ia<a.size)(hb:ib<b.size->LT (at' b ib) (at' a ia)=false):MI LT a b (out.push (at' a ia)) (ia+1) ib:=by
 rw[jW hi];refine h.takeA W Sa 1 λi h1 h2 _ j g1 g2=>?_
 have:i=ia:=by lia
 subst this;exact W.neg _ _ _ (hb (by lia)) (zU W Sb g1 g2)
theorem MI.pushB(W:Wo LT)(h:MI LT a b out ia ib)(Sa:Srt LT a.toList)(Sb:Srt LT b.toList)(hi:ib<b.size)(hb:ia<a.size->LT (at' b ib) (at' a ia)=true):MI LT a b (out.push (at' b ib)) ia (ib+1):=by
 rw[jW hi];refine h.takeB W Sb 1 λi h1 h2 _ j g1 g2=>?_
 have:i=ib:=by lia
 subst this;exact W.neg _ _ _ (W.asym _ _ (hb (by lia))) (zU W Sa g1 g2)
noncomputable def Mg(LT:ak->ak->Bool)(a b r:Array ak):Prop:=r.toList.Perm (a.toList++b.toList)/\Srt LT r.toList
theorem MI.done(W:Wo LT)(h:MI LT a b out ia ib)(Sa:Srt LT a.toList)(Sb:Srt LT b.toList)(he:ib=b.size\/ia=a.size):Mg LT a b (out++a.extract ia++b.extract ib):=by
 have ea:(a.extract ia).toList=a.toList.drop ia:=by
  rw[zG];exact List.take_of_length_le (by simp)
 have eb:(b.extract ib).toList=b.toList.drop ib:=by
  rw[zG];exact List.take_of_length_le (by simp)
 refine⟨?_,?_⟩
 ·rw[bh,bh,ea,eb];refine((h.pm.append_right _).append_right _).trans ?_;have e1:=bF ia a.toList;have e2:=bF ib b.toList;rcases he with he|he
  ·have z1:b.toList.drop ib=[]:=List.drop_eq_nil_of_le (by rw[aR];lia);have z2:b.toList.take ib=b.toList:=List.take_of_length_le (by rw[aR];lia);rw[z1,z2,dk,bx];refine(List.perm_append_comm.append_left _).trans ?_;rw[<-bx,e1]
  ·have z1:a.toList.drop ia=[]:=List.drop_eq_nil_of_le (by rw[aR];lia);have z2:a.toList.take ia=a.toList:=List.take_of_length_le (by rw[aR];lia);rw[z1,z2,dk,bx,e2]
 ·rw[bh,bh];refine List.pairwise_append.mpr ⟨List.pairwise_append.mpr ⟨h.sr,dI Sa _ _,λx hx y hy=>?_⟩,dI Sb _ _,λx hx y hy=>?_⟩
  ·obtain⟨i,g1,g2,g3,rfl⟩:=qZ hy;exact h.la x hx i g1 g3
  ·obtain⟨i,g1,g2,g3,rfl⟩:=qZ hy;rcases List.mem_append.mp hx with hx|hx
   ·exact h.lb x hx i g1 g3
   ·obtain⟨j,k1,k2,k3,rfl⟩:=qZ hx;lia
theorem MI.last(W:Wo LT)(h:MI LT a b out ia ib)(Sa:Srt LT a.toList)(Sb:Srt LT b.toList)(hl:ia+1=a.size)(hb:∀j,j<b.size->LT (at' b j) (at' a ia)=true):Mg LT a b (out++b.extract ib++a.extract ia):=by
 have ea:(a.extract ia).toList=a.toList.drop ia:=by
  rw[zG];exact List.take_of_length_le (by simp)
 have eb:(b.extract ib).toList=b.toList.drop ib:=by
  rw[zG];exact List.take_of_length_le (by simp)
 refine⟨?_,?_⟩
 ·rw[bh,bh,ea,eb];refine((h.pm.append_right _).append_right _).trans ?_;have e1:=bF ia a.toList;have e2:=bF ib b.toList;rw[bx (a.toList.take ia),e2];refine(List.perm_append_comm.append_right _).trans ?_;rw[bx,e1];exact List.perm_append_comm
 ·rw[bh,bh];refine List.pairwise_append.mpr ⟨List.pairwise_append.mpr ⟨h.sr,dI Sb _ _,λx hx y hy=>?_⟩,dI Sa _ _,λx hx y hy=>?_⟩
  ·obtain⟨i,g1,g2,g3,rfl⟩:=qZ hy;exact h.lb x hx i g1 g3
  ·obtain⟨i,g1,g2,g3,rfl⟩:=qZ hy;rcases List.mem_append.mp hx with hx|hx
   ·exact h.la x hx i g1 g3
   ·obtain⟨j,k1,k2,k3,rfl⟩:=qZ hx;have:i=ia:=by lia
    subst this;exact W.asym _ _ (hb j k3)
end
abbrev setG(st:aF)(g:Nat):SortSt:=aF.mk' (kindOf st) (ag st) (aY st) g (failedOf st)
section
variable{prog:aA}{w:av}{A:az}{E:ae->af->Prop}{s:af}{κ:SortKind}{D:ak->Prop}{LT:ak->ak->Bool}
theorem Cmp.wo(C:Cmp prog w A s κ D LT):Wo LT:=⟨C.asym,C.neg⟩
theorem kO(W:Wo LT){a:Array ak}(S:Srt LT a.toList){left:Bool}{key:ak}{base n:Nat}(hn:base+n<=a.size):∀i j,i<=j->j<n->bey LT left key (at' a (base+j))=true->bey LT left key (at' a (base+i))=true:=by
 intro i j hij hj h;have o:=zU W S (show base+i<=base+j by lia) (by lia);cases left with
 |true=>
  have h:LT (at' a (base+j)) key=true:=h;show LT (at' a (base+i)) key=true;exact W.le_lt o h
 |false=>
  have h:(!LT key (at' a (base+j)))=true:=h;show (!LT key (at' a (base+i)))=true;have h':LT key (at' a (base+j))=false:=by simpa using h
  rw[W.neg _ _ _ o h'];rfl
theorem share1{α γ:Type}{M:Model}{c:α->Prop} [∀u,Decidable (c u)]{X F:α->StateT aF Sem γ}{Q:γ->aF->Prop}{st:aF}(hG:(∀u,wpS M A E s (F u) Q st)->∀u,wpS M A E s (if c u then X u else F u) Q st)(H:∀u,wpS M A E s (F u) Q st):∀u,wpS M A E s (if c u then X u else F u) Q st:=hG H
theorem iK{α β γ:Type}{M:Model}{c:Prop} [Decidable c]{X F:α->β->StateT aF Sem γ}{x:α}{y:β}{Q:γ->aF->Prop}{st:aF}(C:α->β->Prop)(hG:(∀u v,C u v->wpS M A E s (F u v) Q st)->∀u,x=u->∀v,y=v->wpS M A E s (if c then X u v else F u v) Q st)(H:∀u v,C u v->wpS M A E s (F u v) Q st):∀u,x=u->∀v,y=v->wpS M A E s (if c then X u v else F u v) Q st:=hG H
theorem mi0{a b:Array ak}:MI LT a b #[] 0 0:=⟨by simp,by simp[Srt],by simp,by simp⟩
theorem yQ(C:Cmp prog w A s κ D LT){a b:Array ak}{st:aF}{Q:Array ak->aF->Prop}(hk:kindOf st=κ)(Da:∀i,i<a.size->D (at' a i))(Db:∀i,i<b.size->D (at' b i))(Sa:Srt LT a.toList)(Sb:Srt LT b.toList)
  (ha:0<a.size) (hb:0<b.size) (h0:LT (at' b 0) (at' a 0)=true) (hl:∀j,j<b.size->LT (at' b j) (at' a (a.size-1))=true) (h:∀r g,Mg LT a b r->Q r (setG st g)):wpS (aq prog w) A E s (lx a b) Q st:=by
 have W:=C.wo;have lastA:∀{ia:Nat},ia+1=a.size->∀j,j<b.size->LT (at' b j) (at' a ia)=true:=λ{ia} e j hj=>by
  have:ia=a.size-1:=by lia
  rw[this];exact hl j hj
 unfold lx;refine ar (wpS_lift (wpAny_rule ⟨rfl,?_⟩));refine ar (zk (qh hb) ?_);have M1:MI LT a b #[at' b 0] 0 1:=(mi0 (LT:=LT)).pushB W Sa Sb hb λ_=>h0
 dsimp only;refine wpI (λe1=>?_) λe1=>?_
 ·exact au (h _ (gallopOf st) (M1.done W Sa Sb (.inl (by simpa using e1))))
 refine wpI (λe2=>?_) λe2=>?_
 ·exact au (h _ (gallopOf st) (M1.last W Sa Sb (by simpa using e2) (lastA (by simpa using e2))))
 have e1':1≠b.size:=by simpa using e1
 have e2':1≠a.size:=by simpa using e2
 refine ar (wpS_get ?_);refine ar (wpS_mono (Q:=λc st'=>∃r g,c.1=some r/\Mg LT a b r/\st'=setG st g) ?_ ?_)
 ·refine wpS_forRange (λi c st'=>∃g,st'=setG st g/\c.1=none/\MI LT a b c.2.1 c.2.2.1 c.2.2.2.1/\c.2.2.1+1<a.size/\c.2.2.2.1<b.size/\i<=c.2.2.1+c.2.2.2.1) ?_ ?_ ⟨gallopOf st,rfl,rfl,M1,by show 0+1<a.size;lia,by show 1<b.size;lia,br _⟩
  ·refine λi=>pr5 λc0 out ia ib mg st' _ hi x=>exE (λg y=>stE y.1 ?_) x
   clear x;have M:=y.2.2.1;have h1:=y.2.2.2.1;have h2:=y.2.2.2.2.1;have h3:=y.2.2.2.2.2;clear y;dsimp only at M h1 h2 h3 ⊢;refine ar (wpS_mono (Q:=λc st'=>st'=setG st g/\((∃r,c.1=some r/\Mg LT a b r)\/(c.1=none/\MI LT a b c.2.1 c.2.2.1 c.2.2.2.1/\c.2.2.1+1<a.size/\c.2.2.2.1<b.size/\ia+ib+1<=c.2.2.1+c.2.2.2.1))) ?_ ?_)
   ·refine wpS_forRange (λj c st'=>st'=setG st g/\c.1=none/\MI LT a b c.2.1 c.2.2.1 c.2.2.2.1/\c.2.2.1+1<a.size/\c.2.2.2.1<b.size/\ia+ib+j<=c.2.2.1+c.2.2.2.1) ?_ ?_ ⟨rfl,rfl,M,h1,h2,aD _⟩
    ·refine λj=>pr6 λc0 out ia2 ib2 ac bc st' _ hj y=>stE y.1 ?_
     have M:=y.2.2.1;have h1:=y.2.2.2.1;have h2:=y.2.2.2.2.1;have h3:=y.2.2.2.2.2;clear y;dsimp only at M h1 h2 h3 ⊢;refine ar (zk (qh h2) ?_);refine ar (zk (qh (show ia2<a.size by lia)) ?_);refine ar (gQ C (Db _ h2) (Da _ (by lia)) hk ?_);dsimp only;refine wpI (λq=>?_) λq=>?_
     ·refine ar (zk (qh h2) ?_);have M2:=M.pushB W Sa Sb h2 λ_=>q
      refine wpI (λe3=>?_) λe3=>?_
      ·exact au ⟨rfl,.inl ⟨_,rfl,M2.done W Sa Sb (.inl (by simpa using e3))⟩⟩
      have e3':ib2+1≠b.size:=by simpa using e3
      refine wpI (λe4=>?_) λe4=>?_
      ·exact au ⟨rfl,.inr ⟨rfl,M2,h1,by show ib2+1<b.size;lia,by show ia+ib+1<=ia2+(ib2+1);lia⟩⟩
      ·exact au ⟨rfl,rfl,M2,h1,by show ib2+1<b.size;lia,by show ia+ib+(j+1)<=ia2+(ib2+1);lia⟩
     ·have q:=eq_false_of_ne_true q;refine ar (zk (qh (show ia2<a.size by lia)) ?_);have M2:=M.pushA W Sa Sb (by lia) λ_=>q
      refine wpI (λe3=>?_) λe3=>?_
      ·exact au ⟨rfl,.inl ⟨_,rfl,M2.last W Sa Sb (by simpa using e3) (lastA (by simpa using e3))⟩⟩
      have e3':ia2+1+1≠a.size:=by simpa using e3
      refine wpI (λe4=>?_) λe4=>?_
      ·exact au ⟨rfl,.inr ⟨rfl,M2,by show ia2+1+1<a.size;lia,h2,by show ia+ib+1<=ia2+1+ib2;lia⟩⟩
      ·exact au ⟨rfl,rfl,M2,by show ia2+1+1<a.size;lia,h2,by show ia+ib+(j+1)<=ia2+1+ib2;lia⟩
    ·rintro⟨c0,out,ia2,ib2,ac,bc⟩ st' ⟨rfl,rfl,M,h1,h2,h3⟩;dsimp only at M h1 h2 h3;exact absurd h3 (by lia)
   ·refine pr6 λc0 out ia2 ib2 ac bc st' y=>stE y.1 ?_
    have hc:=y.2;clear y;dsimp only at hc ⊢;rcases hc with ⟨r,rfl,hm⟩|⟨rfl,M,h1,h2,h3⟩
    ·exact au ⟨r,g,rfl,hm,rfl⟩
    dsimp only;refine ar (wpS_lift (wpAny_rule ⟨rfl,?_⟩));refine ar (wpS_mono (Q:=λc st'=>∃g,st'=setG st g/\((∃r,c.1=some r/\Mg LT a b r)\/(c.1=none/\MI LT a b c.2.1 c.2.2.1 c.2.2.2.1/\c.2.2.1+1<a.size/\c.2.2.2.1<b.size/\ia+ib+1<=c.2.2.1+c.2.2.2.1))) ?_ ?_)
    ·refine wpS_forRange (λj c st'=>∃g,st'=setG st g/\c.1=none/\MI LT a b c.2.1 c.2.2.1 c.2.2.2.1/\c.2.2.1+1<a.size/\c.2.2.2.1<b.size/\ia+ib+1+j<=c.2.2.1+c.2.2.2.1) ?_ ?_ ⟨g,rfl,rfl,M,h1,h2,h3⟩
     ·clear M h1 h2 h3;refine λj=>pr7 λc0 out ia2 ib2 mg2 ac bc st' _ hj x=>exE (λg y=>stE y.1 ?_) x
      clear x;have M:=y.2.2.1;have h1:=y.2.2.2.1;have h2:=y.2.2.2.2.1;have h3:=y.2.2.2.2.2;clear y;dsimp only at M h1 h2 h3 ⊢;revert mg2;refine share1 (λH mg2=>?_) ?_
      ·show wpS _ _ _ _ _ _ _;by_cases e0:¬ mg2>1
       ·rw[if_neg e0];exact H mg2
       ·rw[if_pos (Decidable.not_not.mp e0)];exact H (mg2-1)
      intro mg3;refine ar (wpS_modify ?_);refine ar (zk (qh h2) ?_);refine ar (gn C hk (Db _ h2) (λi=>at' a (ia2+i)) (λi hi=>⟨qh (by lia),Da _ (by lia)⟩) (by lia) (kO W Sa (by lia)) λk l1 l2 l3=>?_);dsimp only;have t2:∀i,ia2<=i->i<ia2+k->LT (at' b ib2) (at' a i)=false:=λi g1 g2=>by
       have:=l2 (i-ia2) (by lia);rw[show ia2+(i-ia2)=i by lia]at this;have this:(!LT (at' b ib2) (at' a i))=true:=this
       simpa using this
      have t3:ia2+k<a.size->LT (at' b ib2) (at' a (ia2+k))=true:=λz=>by
       have:=l3 k (aD _) (by lia);have this:(!LT (at' b ib2) (at' a (ia2+k)))=false:=this
       simpa using this
      generalize hu:out=u;generalize hv:ia2=v;revert u v;refine iK (λout' ia'=>MI LT a b out' ia' ib2/\ia'+1<a.size/\ia2<=ia'/\LT (at' b ib2) (at' a ia')=true) (λH u hu v hv=>?_) ?_
      ·subst hu;subst hv;by_cases e4:¬ k>0
       ·rw[if_neg e4];refine H out ia2 ⟨M,h1,aD _,?_⟩;have:=t3 (by lia);rw[show k=0 by lia]at this;exact this
       ·rw[if_pos (Decidable.not_not.mp e4)];have M2:=M.takeA W Sa k λi g1 g2 _ j' g3 g4=>W.neg _ _ _ (t2 i g1 g2) (zU W Sb g3 g4)
        refine wpI (λe3=>?_) λe3=>?_
        ·exact au ⟨_,rfl,.inl ⟨_,rfl,M2.last W Sa Sb (by simpa using e3) (lastA (by simpa using e3))⟩⟩
        have e3':ia2+k+1≠a.size:=by simpa using e3
        refine wpI (λe9=>?_) λe9=>?_
        ·exact au ⟨_,rfl,.inl ⟨_,rfl,M2.done W Sa Sb (.inr (by simpa using e9))⟩⟩
        have e9':ia2+k≠a.size:=by simpa using e9
        exact H _ _ ⟨M2,by lia,by lia,t3 (by lia)⟩
      rintro out3 ia3 ⟨M2,hia,hge,q2⟩
      try dsimp only
      refine ar (zk (qh h2) ?_);have M3:=M2.pushB W Sa Sb h2 λ_=>q2
      refine wpI (λe5=>?_) λe5=>?_
      ·exact au ⟨_,rfl,.inl ⟨_,rfl,M3.done W Sa Sb (.inl (by simpa using e5))⟩⟩
      have e5':ib2+1≠b.size:=by simpa using e5
      refine ar (zk (qh (show ia3<a.size by lia)) ?_);generalize out3.push (at' b ib2)=out5 at M3 ⊢;have hY:∃n,ib2+1=n:=⟨_,rfl⟩
      obtain⟨ib3,hY⟩:=hY;rw[hY]at M3 e5' ⊢;refine ar (gn C hk (Da _ (by lia)) (λi=>at' b (ib3+i)) (λi hi=>⟨qh (by lia),Db _ (by lia)⟩) (by lia) (kO W Sb (by lia)) λk' l1 l2 l3=>?_);dsimp only;have t2:∀i,ib3<=i->i<ib3+k'->LT (at' b i) (at' a ia3)=true:=λi g1 g2=>by
       have:=l2 (i-ib3) (by lia);rw[show ib3+(i-ib3)=i by lia]at this;exact this
      have t3:ib3+k'<b.size->LT (at' b (ib3+k')) (at' a ia3)=false:=λz=>l3 k' (aD _) (by lia)
      generalize hu:out5=u;generalize hv:ib3=v;revert u v;refine iK (λout' ib'=>MI LT a b out' ia3 ib'/\ib'<b.size/\ib3<=ib'/\LT (at' b ib') (at' a ia3)=false) (λH u hu v hv=>?_) ?_
      ·subst hu;subst hv;by_cases e6:¬ k'>0
       ·rw[if_neg e6];refine H out5 ib3 ⟨M3,by lia,aD _,?_⟩;have:=t3 (by lia);rw[show k'=0 by lia]at this;exact this
       ·rw[if_pos (Decidable.not_not.mp e6)];have M4:=M3.takeB W Sb k' λi g1 g2 _ j' g3 g4=>W.neg _ _ _ (W.asym _ _ (t2 i g1 g2)) (zU W Sa g3 g4)
        refine wpI (λe8=>?_) λe8=>?_
        ·exact au ⟨_,rfl,.inl ⟨_,rfl,M4.done W Sa Sb (.inl (by simpa using e8))⟩⟩
        have e8':ib3+k'≠b.size:=by simpa using e8
        exact H _ _ ⟨M4,by lia,by lia,t3 (by lia)⟩
      rintro out4 ib4 ⟨M4,hib,hgb,q5⟩
      try dsimp only
      refine ar (zk (qh (show ia3<a.size by lia)) ?_);have M5:=M4.pushA W Sa Sb (show ia3<a.size by lia) λ_=>q5
      refine wpI (λe7=>?_) λe7=>?_
      ·exact au ⟨_,rfl,.inl ⟨_,rfl,M5.last W Sa Sb (by simpa using e7) (lastA (by simpa using e7))⟩⟩
      have e7':ia3+1+1≠a.size:=by simpa using e7
      split
      ·exact au ⟨_,rfl,.inr ⟨rfl,M5,by show ia3+1+1<a.size;lia,by show ib4<b.size;lia,by show ia+ib+1<=ia3+1+ib4;lia⟩⟩
      ·exact au ⟨_,rfl,rfl,M5,by show ia3+1+1<a.size;lia,by show ib4<b.size;lia,by show ia+ib+1+(j+1)<=ia3+1+ib4;lia⟩
     ·clear M h1 h2 h3;rintro⟨c0,out,ia2,ib2,mg2,ac,bc⟩ st' ⟨g,rfl,rfl,M,h1,h2,h3⟩;dsimp only at M h1 h2 h3;exact absurd h3 (by lia)
    ·refine pr7 λc0 out ia2 ib2 mg2 ac bc st' x=>exE (λg y=>stE y.1 ?_) x
     clear x;have hc:=y.2;clear y;dsimp only at hc ⊢;rcases hc with ⟨r,rfl,hm⟩|⟨rfl,M,h1,h2,h3⟩
     ·exact au ⟨r,g,rfl,hm,rfl⟩
     dsimp only;refine ar (wpS_modify ?_);exact au ⟨mg2+1,rfl,rfl,M,h1,h2,by show i+1<=ia2+ib2;lia⟩
  ·rintro⟨c0,out,ia,ib,mg⟩ st' ⟨g,rfl,rfl,M,h1,h2,h3⟩;dsimp only at M h1 h2 h3;exact absurd h3 (by lia)
 ·rintro⟨c0,out,ia,ib,mg⟩ st' ⟨r,g,hr,hm,rfl⟩;dsimp only at hr ⊢;subst hr;exact au (h r g hm)
end
section
variable{LT:ak->ak->Bool}
structure MH(LT:ak->ak->Bool)(a b out:Array ak)(na nb:Nat):Prop where
 pm:out.toList.Perm (a.toList.drop na++b.toList.drop nb)
 sr:Srt LT out.toList.reverse
 la:∀x∈out.toList,∀j,j<na->LT x (at' a j)=false
 lb:∀x∈out.toList,∀j,j<nb->LT x (at' b j)=false
variable{a b out:Array ak}{na nb:Nat}
theorem nX{l:List ak}{m n:Nat}(h:m<=n):l.drop m=(l.drop m).take (n-m)++l.drop n:=by
 have:=(bF (n-m) (l.drop m)).symm;rw[List.drop_drop,show m+(n-m)=n by lia]at this;exact this
theorem MH.takeA(W:Wo LT)(h:MH LT a b out na nb)(Sa:Srt LT a.toList)(hna:na<=a.size)(m:Nat)(hm:m<=na)(hb:∀i,m<=i->i<na->∀j,j<nb->LT (at' a i) (at' b j)=false):MH LT a b (out++(a.extract m na).reverse) m nb:=by
 have mem:∀{x},x∈(out++(a.extract m na).reverse).toList->x∈out.toList\/x∈(a.extract m na).toList:=λ{x} hx=>by
  rw[bh,Array.toList_reverse]at hx;rcases List.mem_append.mp hx with hx|hx
  ·exact .inl hx
  ·exact .inr (List.mem_reverse.mp hx)
 refine⟨?_,?_,λx hx j h1=>?_,λx hx j h1=>?_⟩
 ·rw[bh,Array.toList_reverse,zG];have e:=nX (l:=a.toList) hm;generalize (a.toList.drop m).take (na-m)=T at e ⊢;rw[e];refine(h.pm.append (List.reverse_perm _)).trans ?_;refine List.perm_append_comm.trans ?_;rw[bx]
 ·rw[bh,Array.toList_reverse,List.reverse_append,List.reverse_reverse];refine List.pairwise_append.mpr ⟨dI Sa _ _,h.sr,λx hx y hy=>?_⟩;obtain⟨i,g1,g2,g3,rfl⟩:=qZ hx;exact h.la y (List.mem_reverse.mp hy) i g2
 ·rcases mem hx with hx|hx
  ·exact h.la x hx j (by lia)
  ·obtain⟨i,g1,g2,g3,rfl⟩:=qZ hx;exact zU W Sa (by lia) g3
 ·rcases mem hx with hx|hx
  ·exact h.lb x hx j h1
  ·obtain⟨i,g1,g2,g3,rfl⟩:=qZ hx;exact hb i g1 g2 j h1
theorem MH.takeB(W:Wo LT)(h:MH LT a b out na nb)(Sb:Srt LT b.toList)(hnb:nb<=b.size)(m:Nat)(hm:m<=nb)(hb:∀i,m<=i->i<nb->∀j,j<na->LT (at' b i) (at' a j)=false):MH LT a b (out++(b.extract m nb).reverse) na m:=by
 have mem:∀{x},x∈(out++(b.extract m nb).reverse).toList->x∈out.toList\/x∈(b.extract m nb).toList:=λ{x} hx=>by
  rw[bh,Array.toList_reverse]at hx;rcases List.mem_append.mp hx with hx|hx
  ·exact .inl hx
  ·exact .inr (List.mem_reverse.mp hx)
 refine⟨?_,?_,λx hx j h1=>?_,λx hx j h1=>?_⟩
 ·rw[bh,Array.toList_reverse,zG];have e:=nX (l:=b.toList) hm;generalize (b.toList.drop m).take (nb-m)=T at e ⊢;rw[e];refine(h.pm.append (List.reverse_perm _)).trans ?_;rw[bx];exact List.perm_append_comm.append_left _
 ·rw[bh,Array.toList_reverse,List.reverse_append,List.reverse_reverse];refine List.pairwise_append.mpr ⟨dI Sb _ _,h.sr,λx hx y hy=>?_⟩;obtain⟨i,g1,g2,g3,rfl⟩:=qZ hx;exact h.lb y (List.mem_reverse.mp hy) i g2
 ·rcases mem hx with hx|hx
  ·exact h.la x hx j h1
  ·obtain⟨i,g1,g2,g3,rfl⟩:=qZ hx;exact hb i g1 g2 j h1
 ·rcases mem hx with hx|hx
  ·exact h.lb x hx j (by lia)
  ·obtain⟨i,g1,g2,g3,rfl⟩:=qZ hx;exact zU W Sb (by lia) g3
theorem lD{a out:Array ak}{i:Nat}(h:i<a.size):out.push (at' a i)=out++(a.extract i (i+1)).reverse:=by
 have:=jW (out:=(#[]:Array ak)) h;have e:a.extract i (i+1) = #[at' a i]:=by
  have h2:(#[]:Array ak)++a.extract i (i+1)=a.extract i (i+1):=by simp
  rw[h2]at this;rw[<-this];rfl
 rw[e];simp
theorem MH.pushA(W:Wo LT)(h:MH LT a b out (na+1) nb)(Sa:Srt LT a.toList)(Sb:Srt LT b.toList)(hi:na<a.size)(hnb:nb<=b.size)(hb:0<nb->LT (at' b (nb-1)) (at' a na)=true):MH LT a b (out.push (at' a na)) na nb:=by
 rw[lD hi];refine h.takeA W Sa (by lia) na (by lia) λi h1 h2 j g1=>?_
 have:i=na:=by lia
 subst this;exact W.neg _ _ _ (zU W Sb (show j<=nb-1 by lia) (by lia)) (W.asym _ _ (hb (by lia)))
theorem MH.pushB(W:Wo LT)(h:MH LT a b out na (nb+1))(Sa:Srt LT a.toList)(Sb:Srt LT b.toList)(hi:nb<b.size)(hna:na<=a.size)(hb:0<na->LT (at' b nb) (at' a (na-1))=false):MH LT a b (out.push (at' b nb)) na nb:=by
 rw[lD hi];refine h.takeB W Sb (by lia) nb (by lia) λi h1 h2 j g1=>?_
 have:i=nb:=by lia
 subst this;exact W.neg _ _ _ (zU W Sa (show j<=na-1 by lia) (by lia)) (hb (by lia))
theorem i5(a:Array ak)(n:Nat):(a.extract 0 n).toList=a.toList.take n:=by
 rw[zG,List.drop_zero];rfl
theorem MH.done(W:Wo LT)(h:MH LT a b out na nb)(Sa:Srt LT a.toList)(Sb:Srt LT b.toList)(he:na=0\/nb=0):Mg LT a b (a.extract 0 na++b.extract 0 nb++out.reverse):=by
 refine⟨?_,?_⟩
 ·rw[bh,bh,Array.toList_reverse,i5,i5];refine((List.reverse_perm _).trans h.pm).append_left _ |>.trans ?_;have e1:=bF na a.toList;have e2:=bF nb b.toList;rcases he with he|he
  ·subst he;rw[List.take_zero,List.drop_zero,List.nil_append];refine List.perm_append_comm.trans ?_;rw[bx];refine(List.perm_append_comm.append_left _).trans ?_;rw[e2]
  ·subst he;rw[List.take_zero,List.drop_zero,dk,<-bx,e1]
 ·rw[bh,bh,Array.toList_reverse];refine List.pairwise_append.mpr ⟨List.pairwise_append.mpr ⟨dI Sa _ _,dI Sb _ _,λx hx y hy=>?_⟩,h.sr,λx hx y hy=>?_⟩
  ·obtain⟨i,g1,g2,g3,rfl⟩:=qZ hx;obtain⟨j,k1,k2,k3,rfl⟩:=qZ hy;lia
  ·have hy:=List.mem_reverse.mp hy;rcases List.mem_append.mp hx with hx|hx
   ·obtain⟨i,g1,g2,g3,rfl⟩:=qZ hx;exact h.la y hy i g2
   ·obtain⟨i,g1,g2,g3,rfl⟩:=qZ hx;exact h.lb y hy i g2
theorem MH.first(W:Wo LT)(h:MH LT a b out na nb)(Sa:Srt LT a.toList)(Sb:Srt LT b.toList)(hl:nb=1)(hb:∀j,j<a.size->LT (at' b 0) (at' a j)=true):Mg LT a b (b.extract 0 nb++a.extract 0 na++out.reverse):=by
 subst hl;refine⟨?_,?_⟩
 ·rw[bh,bh,Array.toList_reverse,i5,i5];refine((List.reverse_perm _).trans h.pm).append_left _ |>.trans ?_;have e1:=bF na a.toList;have e2:=bF 1 b.toList;rw[bx,<-bx (a.toList.take na),e1];refine List.perm_append_comm.trans ?_;rw[bx];refine(List.perm_append_comm.append_left _).trans ?_;rw[e2]
 ·rw[bh,bh,Array.toList_reverse];refine List.pairwise_append.mpr ⟨List.pairwise_append.mpr ⟨dI Sb _ _,dI Sa _ _,λx hx y hy=>?_⟩,h.sr,λx hx y hy=>?_⟩
  ·obtain⟨i,g1,g2,g3,rfl⟩:=qZ hx;obtain⟨j,k1,k2,k3,rfl⟩:=qZ hy;have:i=0:=by lia
   subst this;exact W.asym _ _ (hb j k3)
  ·have hy:=List.mem_reverse.mp hy;rcases List.mem_append.mp hx with hx|hx
   ·obtain⟨i,g1,g2,g3,rfl⟩:=qZ hx;exact h.lb y hy i g2
   ·obtain⟨i,g1,g2,g3,rfl⟩:=qZ hx;exact h.la y hy i g2
theorem mh0{a b:Array ak}:MH LT a b #[] a.size b.size:=⟨by
 rw[List.drop_eq_nil_of_le (by simp),List.drop_eq_nil_of_le (by simp)];simp,by simp[Srt],by simp,by simp⟩
end
section
variable{prog:aA}{w:av}{A:az}{E:ae->af->Prop}{s:af}{κ:SortKind}{D:ak->Prop}{LT:ak->ak->Bool}
theorem oB(W:Wo LT){a:Array ak}(S:Srt LT a.toList){left:Bool}{key:ak}{n:Nat}(hn:n<=a.size):∀i j,i<=j->j<n->bey LT left key (at' a j)=true->bey LT left key (at' a i)=true:=by
 intro i j h1 h2 h3;have:=kO W S (left:=left) (key:=key) (base:=0) (n:=n) (by lia) i j h1 h2;rw[Nat.zero_add,Nat.zero_add]at this;exact this h3
theorem xp(C:Cmp prog w A s κ D LT){a b:Array ak}{st:aF}{Q:Array ak->aF->Prop}(hk:kindOf st=κ)(Da:∀i,i<a.size->D (at' a i))(Db:∀i,i<b.size->D (at' b i))(Sa:Srt LT a.toList)(Sb:Srt LT b.toList)
  (ha:0<a.size) (hb:0<b.size) (h0:LT (at' b 0) (at' a 0)=true) (hl:∀j,j<b.size->LT (at' b j) (at' a (a.size-1))=true) (h:∀r g,Mg LT a b r->Q r (setG st g)):wpS (aq prog w) A E s (lu a b) Q st:=by
 have W:=C.wo;have fst:∀j,j<a.size->LT (at' b 0) (at' a j)=true:=λj hj=>W.lt_le h0 (zU W Sa (br j) hj)
 unfold lu;refine ar (wpS_lift (wpAny_rule ⟨rfl,?_⟩));refine ar (zk (qh (show a.size-1<a.size by lia)) ?_);have M1:MH LT a b #[at' a (a.size-1)] (a.size-1) b.size:=by
  have M0:MH LT a b #[] (a.size-1+1) b.size:=by rw[show a.size-1+1=a.size by lia];exact mh0
  exact M0.pushA W Sa Sb (by lia) (aD _) λ_=>hl _ (by lia)
 dsimp only;refine wpI (λe1=>?_) λe1=>?_
 ·exact au (h _ (gallopOf st) (M1.done W Sa Sb (.inl (by simpa using e1))))
 refine wpI (λe2=>?_) λe2=>?_
 ·exact au (h _ (gallopOf st) (M1.first W Sa Sb (by simpa using e2) fst))
 have e1':a.size-1≠0:=by simpa using e1
 have e2':b.size≠1:=by simpa using e2
 refine ar (wpS_get ?_);refine ar (wpS_mono (Q:=λc st'=>∃r g,c.1=some r/\Mg LT a b r/\st'=setG st g) ?_ ?_)
 ·refine wpS_forRange (λi c st'=>∃g,st'=setG st g/\c.1=none/\MH LT a b c.2.2.2.1 c.2.1 c.2.2.1/\(1<=c.2.1/\c.2.1<a.size)/\(2<=c.2.2.1/\c.2.2.1<=b.size)/\c.2.1+c.2.2.1+i<=a.size+b.size) ?_ ?_ ⟨gallopOf st,rfl,rfl,M1,by show 1<=a.size-1/\a.size-1<a.size;lia,by show 2<=b.size/\b.size<=b.size;lia,by show a.size-1+b.size+0<=_;lia⟩
  ·refine λi=>pr5 λc0 na nb out mg st' _ hi x=>exE (λg y=>stE y.1 ?_) x
   clear x;have M:=y.2.2.1;have h1:=y.2.2.2.1;have h2:=y.2.2.2.2.1;have h3:=y.2.2.2.2.2;clear y;dsimp only at M h1 h2 h3 ⊢;refine ar (wpS_mono (Q:=λc st'=>st'=setG st g/\((∃r,c.1=some r/\Mg LT a b r)\/(c.1=none/\MH LT a b c.2.2.2.1 c.2.1 c.2.2.1/\(1<=c.2.1/\c.2.1<a.size)/\(2<=c.2.2.1/\c.2.2.1<=b.size)/\c.2.1+c.2.2.1+1<=na+nb))) ?_ ?_)
   ·refine wpS_forRange (λj c st'=>st'=setG st g/\c.1=none/\MH LT a b c.2.2.2.1 c.2.1 c.2.2.1/\(1<=c.2.1/\c.2.1<a.size)/\(2<=c.2.2.1/\c.2.2.1<=b.size)/\c.2.1+c.2.2.1+j<=na+nb) ?_ ?_ ⟨rfl,rfl,M,h1,h2,aD _⟩
    ·clear M;refine λj=>pr6 λc0 na2 nb2 out ac bc st' _ hj y=>stE y.1 ?_
     have M:=y.2.2.1;have g1:=y.2.2.2.1;have g2:=y.2.2.2.2.1;have g3:=y.2.2.2.2.2;clear y;dsimp only at M g1 g2 g3 ⊢;refine ar (zk (qh (show nb2-1<b.size by lia)) ?_);refine ar (zk (qh (show na2-1<a.size by lia)) ?_);refine ar (gQ C (Db _ (by lia)) (Da _ (by lia)) hk ?_);obtain⟨na3,rfl⟩:∃n,na2=n+1:=⟨na2-1,by lia⟩
     obtain⟨nb3,rfl⟩:∃n,nb2=n+1:=⟨nb2-1,by lia⟩
     simp only[Nat.add_sub_cancel];refine wpI (λq=>?_) λq=>?_
     ·refine ar (zk (qh (show na3<a.size by lia)) ?_);have M2:=M.pushA W Sa Sb (by lia) (by lia) λ_=>q
      refine wpI (λe3=>?_) λe3=>?_
      ·exact au ⟨rfl,.inl ⟨_,rfl,M2.done W Sa Sb (.inl (by simpa using e3))⟩⟩
      have e3':na3≠0:=by simpa using e3
      refine wpI (λe4=>?_) λe4=>?_
      ·exact au ⟨rfl,.inr ⟨rfl,M2,by show 1<=na3/\na3<a.size;lia,g2,by show na3+(nb3+1)+1<=na+nb;lia⟩⟩
      ·exact au ⟨rfl,rfl,M2,by show 1<=na3/\na3<a.size;lia,g2,by show na3+(nb3+1)+(j+1)<=na+nb;lia⟩
     ·have q:=eq_false_of_ne_true q;refine ar (zk (qh (show nb3<b.size by lia)) ?_);have M2:=M.pushB W Sa Sb (by lia) (by lia) λ_=>q
      refine wpI (λe3=>?_) λe3=>?_
      ·exact au ⟨rfl,.inl ⟨_,rfl,M2.first W Sa Sb (by simpa using e3) fst⟩⟩
      have e3':nb3≠1:=by simpa using e3
      refine wpI (λe4=>?_) λe4=>?_
      ·exact au ⟨rfl,.inr ⟨rfl,M2,g1,by show 2<=nb3/\nb3<=b.size;lia,by show na3+1+nb3+1<=na+nb;lia⟩⟩
      ·exact au ⟨rfl,rfl,M2,g1,by show 2<=nb3/\nb3<=b.size;lia,by show na3+1+nb3+(j+1)<=na+nb;lia⟩
    ·clear M;rintro⟨c0,na2,nb2,out,ac,bc⟩ st' ⟨rfl,rfl,M,g1,g2,g3⟩;dsimp only at M g1 g2 g3;exact absurd g3 (by lia)
   ·refine pr6 λc0 na2 nb2 out ac bc st' y=>stE y.1 ?_
    have hc:=y.2;clear y;dsimp only at hc ⊢;rcases hc with ⟨r,rfl,hm⟩|⟨rfl,M,g1,g2,g3⟩
    ·exact au ⟨r,g,rfl,hm,rfl⟩
    dsimp only;refine ar (wpS_lift (wpAny_rule ⟨rfl,?_⟩));refine ar (wpS_mono (Q:=λc st'=>∃g,st'=setG st g/\((∃r,c.1=some r/\Mg LT a b r)\/(c.1=none/\MH LT a b c.2.2.2.1 c.2.1 c.2.2.1/\(1<=c.2.1/\c.2.1<a.size)/\(2<=c.2.2.1/\c.2.2.1<=b.size)/\c.2.1+c.2.2.1+1<=na+nb))) ?_ ?_)
    ·refine wpS_forRange (λj c st'=>∃g,st'=setG st g/\c.1=none/\MH LT a b c.2.2.2.1 c.2.1 c.2.2.1/\(1<=c.2.1/\c.2.1<a.size)/\(2<=c.2.2.1/\c.2.2.1<=b.size)/\c.2.1+c.2.2.1+1+j<=na+nb) ?_ ?_ ⟨g,rfl,rfl,M,g1,g2,g3⟩
     ·clear M g1 g2 g3;refine λj=>pr7 λc0 na2 nb2 out mg2 ac bc st' _ hj x=>exE (λg y=>stE y.1 ?_) x
      clear x;have M:=y.2.2.1;have g1:=y.2.2.2.1;have g2:=y.2.2.2.2.1;have g3:=y.2.2.2.2.2;clear y;dsimp only at M g1 g2 g3 ⊢;obtain⟨nb3,rfl⟩:∃n,nb2=n+1:=⟨nb2-1,by lia⟩
      revert mg2;refine share1 (λH mg2=>?_) ?_
      ·by_cases e0:¬ mg2>1
       ·rw[if_neg e0];exact H mg2
       ·rw[if_pos (Decidable.not_not.mp e0)];exact H (mg2-1)
      intro mg3;refine ar (wpS_modify ?_);refine ar (zk (qh (show nb3+1-1<b.size by lia)) ?_);refine ar (gn C hk (Db _ (by lia)) (λi=>at' a i) (λi hi=>⟨by rw[Nat.zero_add];exact qh (by lia),Da _ (by lia)⟩) (by lia) (oB W Sa (by lia)) λk l1 l2 l3=>?_);simp only[Nat.add_sub_cancel]at l2 l3;dsimp only;have t2:∀i,i<k->LT (at' b nb3) (at' a i)=false:=λi g1=>by
       have this:(!LT (at' b nb3) (at' a i))=true:=l2 i g1
       simpa using this
      have t3:∀i,k<=i->i<na2->LT (at' b nb3) (at' a i)=true:=λi z1 z2=>by
       have this:(!LT (at' b nb3) (at' a i))=false:=l3 i z1 z2
       simpa using this
      generalize hac:na2-k=ac2;generalize hu:out=u;generalize hv:na2=v;revert u v;refine iK (λout' na'=>MH LT a b out' na' (nb3+1)/\1<=na'/\na'<=na2/\LT (at' b nb3) (at' a (na'-1))=false) (λH u hu v hv=>?_) ?_
      ·subst hu;subst hv;by_cases e4:¬ ac2>0
       ·rw[if_neg e4];exact H out na2 ⟨M,by lia,aD _,t2 _ (by lia)⟩
       ·rw[if_pos (Decidable.not_not.mp e4)];have M2:=M.takeA W Sa (by lia) k (by lia) λi g1 g2 j' g3=>W.neg _ _ _ (zU W Sb (show j'<=nb3 by lia) (by lia)) (W.asym _ _ (t3 i g1 g2))
        refine wpI (λe3=>?_) λe3=>?_
        ·exact au ⟨_,rfl,.inl ⟨_,rfl,M2.done W Sa Sb (.inl (by simpa using e3))⟩⟩
        have e3':k≠0:=by simpa using e3
        exact H _ _ ⟨M2,by lia,by lia,t2 _ (by lia)⟩
      rintro out3 na3 ⟨M2,hn1,hn2,q2⟩;obtain⟨na9,rfl⟩:∃n,na3=n+1:=⟨na3-1,by lia⟩
      try dsimp only
      simp only[Nat.add_sub_cancel];refine ar (zk (qh (show nb3<b.size by lia)) ?_);have M3:=M2.pushB W Sa Sb (by lia) (by lia) λ_=>q2
      refine wpI (λe5=>?_) λe5=>?_
      ·exact au ⟨_,rfl,.inl ⟨_,rfl,M3.first W Sa Sb (by simpa using e5) fst⟩⟩
      have e5':nb3≠1:=by simpa using e5
      refine ar (zk (qh (show na9<a.size by lia)) ?_);generalize out3.push (at' b nb3)=out5 at M3 ⊢;refine ar (gn C hk (Da _ (by lia)) (λi=>at' b i) (λi hi=>⟨by rw[Nat.zero_add];exact qh (by lia),Db _ (by lia)⟩) (by lia) (oB W Sb (by lia)) λk' l1' l2' l3'=>?_);dsimp only;generalize hbc:nb3-k'=bc2;generalize hu:out5=u;generalize hv:nb3=v;revert u v;refine iK (λout' nb'=>MH LT a b out' (na9+1) nb'/\2<=nb'/\nb'<=nb3/\LT (at' b (nb'-1)) (at' a na9)=true) (λH u hu v hv=>?_) ?_
      ·subst hu;subst hv;by_cases e6:¬ bc2>0
       ·rw[if_neg e6];exact H out5 nb3 ⟨M3,by lia,aD _,l2' (nb3-1) (by lia)⟩
       ·rw[if_pos (Decidable.not_not.mp e6)];have M4:=M3.takeB W Sb (by lia) k' (by lia) λi g1 g2 j' g3=>by
         have z:LT (at' b i) (at' a na9)=false:=l3' i g1 g2;exact W.neg _ _ _ (zU W Sa (show j'<=na9 by lia) (by lia)) z
        refine wpI (λe8=>?_) λe8=>?_
        ·exact au ⟨_,rfl,.inl ⟨_,rfl,M4.first W Sa Sb (by simpa using e8) fst⟩⟩
        have e8':k'≠1:=by simpa using e8
        refine wpI (λe9=>?_) λe9=>?_
        ·exact au ⟨_,rfl,.inl ⟨_,rfl,M4.done W Sa Sb (.inr (by simpa using e9))⟩⟩
        have e9':k'≠0:=by simpa using e9
        exact H _ _ ⟨M4,by lia,by lia,l2' (k'-1) (by lia)⟩
      rintro out4 nb4 ⟨M4,hb2,hb3,q5⟩
      try dsimp only
      refine ar (zk (qh (show na9<a.size by lia)) ?_);have M5:=M4.pushA W Sa Sb (by lia) (by lia) λ_=>q5
      refine wpI (λe7=>?_) λe7=>?_
      ·exact au ⟨_,rfl,.inl ⟨_,rfl,M5.done W Sa Sb (.inl (by simpa using e7))⟩⟩
      have e7':na9≠0:=by simpa using e7
      split
      ·exact au ⟨_,rfl,.inr ⟨rfl,M5,by show 1<=na9/\na9<a.size;lia,by show 2<=nb4/\nb4<=b.size;lia,by show na9+nb4+1<=na+nb;lia⟩⟩
      ·exact au ⟨_,rfl,rfl,M5,by show 1<=na9/\na9<a.size;lia,by show 2<=nb4/\nb4<=b.size;lia,by show na9+nb4+1+(j+1)<=na+nb;lia⟩
     ·clear M g1 g2 g3;rintro⟨c0,na2,nb2,out,mg2,ac,bc⟩ st' ⟨g,rfl,rfl,M,g1,g2,g3⟩;dsimp only at M g1 g2 g3;exact absurd g3 (by lia)
    ·refine pr7 λc0 na2 nb2 out mg2 ac bc st' x=>exE (λg y=>stE y.1 ?_) x
     clear x;have hc:=y.2;clear y;dsimp only at hc ⊢;rcases hc with ⟨r,rfl,hm⟩|⟨rfl,M,g1,g2,g3⟩
     ·exact au ⟨r,g,rfl,hm,rfl⟩
     dsimp only;refine ar (wpS_modify ?_);exact au ⟨mg2+1,rfl,rfl,M,g1,g2,by show na2+nb2+(i+1)<=a.size+b.size;lia⟩
  ·rintro⟨c0,na,nb,out,mg⟩ st' ⟨g,rfl,rfl,M,h1,h2,h3⟩;dsimp only at M h1 h2 h3;exact absurd h3 (by lia)
 ·rintro⟨c0,na,nb,out,mg⟩ st' ⟨r,g,hr,hm,rfl⟩;dsimp only at hr ⊢;subst hr;exact au (h r g hm)
end
structure Rk(D:ak->Prop)(LT:ak->ak->Bool)(R:ak->Int):Prop where
 rk:∀x y,D x->D y->LT x y=decide (R x<R y)
structure SB(κ:SortKind)(p:Array (Nat×Nat×Nat))(a₁:Array ak)(lo:Nat)(st:aF):Prop where
 kd:kindOf st=κ
 fl:failedOf st=none
 pn:aY st=p
 pm:(ag st).Perm a₁
 lw:∀i,i<lo->at' (ag st) i=at' a₁ i
noncomputable def Kr(R:ak->Int)(xs:Array ak)(i:Nat):Int:=R (at' xs i)
noncomputable def Seg(R:ak->Int)(xs:Array ak)(lo n:Nat):Prop:=∀i j,i<=j->j<n->Kr R xs (lo+i)<=Kr R xs (lo+j)
noncomputable def Dsc(R:ak->Int)(xs:Array ak)(lo n:Nat):Prop:=∀i j,i<=j->j<n->Kr R xs (lo+j)<=Kr R xs (lo+i)
theorem f_{xs ys:Array ak}{i j:Nat}(h:xs[i]? = ys[j]?):at' xs i=at' ys j:=by
 unfold at';rw[Array.getD_eq_getD_getElem?,Array.getD_eq_getD_getElem?,h]
theorem pe{xs:Array ak}{src d:Nat}(hs:src<xs.size)(hd:d<=src)(k:Nat) :
  at' (bubble xs src d) k=if k=src-d then at' xs src else if src-d<k/\k<=src then at' xs (k-1)else at' xs k:=by
 have e:=getElem?_bubble hs d hd k;by_cases h1:k=src-d
 ·rw[if_pos h1]at e ⊢;exact f_ e
 ·rw[if_neg h1]at e ⊢;by_cases h2:src-d<k/\k<=src
  ·rw[if_pos h2]at e ⊢;exact f_ e
  ·rw[if_neg h2]at e ⊢;exact f_ e
theorem lY{xs:Array ak}{i j:Nat}(hj:j<=xs.size)(k:Nat) :
  at' (aQ xs i j ((j-i)/2)) k=if i<=k/\k<j then at' xs (i+j-1-k)else at' xs k:=by
 have e:=getElem?_mirror_all (i:=i) hj k;by_cases h1:i<=k/\k<j
 ·rw[if_pos h1]at e ⊢;exact f_ e
 ·rw[if_neg h1]at e ⊢;exact f_ e
section
variable{prog:aA}{w:av}{A:az}{E:ae->af->Prop}{s:af}{κ:SortKind}{D:ak->Prop}{LT:ak->ak->Bool}{R:ak->Int}{p:Array (Nat×Nat×Nat)}{a₁:Array ak}{lo:Nat}
theorem n_{xs:Array ak}{src d:Nat}(hs:src<xs.size)(hd:d<=src)(k:Nat) :
  Kr R (bubble xs src d) k=if k=src-d then Kr R xs src else if src-d<k/\k<=src then Kr R xs (k-1)else Kr R xs k:=by
 unfold Kr;rw[pe hs hd];repeat' split
 all_goals rfl
theorem kG{xs:Array ak}{i j:Nat}(hj:j<=xs.size)(k:Nat) :
  Kr R (aQ xs i j ((j-i)/2)) k=if i<=k/\k<j then Kr R xs (i+j-1-k)else Kr R xs k:=by
 unfold Kr;rw[lY hj];split
 all_goals rfl
theorem iP{xs:Array ak}{i j:Nat}(hj:j<=xs.size)(heq:∀k,i<=k->k<j->Kr R xs k=Kr R xs (j-1))(k:Nat) :
  Kr R (aQ xs i j ((j-i)/2)) k=Kr R xs k:=by
 rw[kG hj];split
 ·rw[heq _ (by lia) (by lia),heq k (by lia) (by lia)]
 ·rfl
theorem SB.size{st:aF}(h:SB κ p a₁ lo st):(ag st).size=a₁.size:=h.pm.size_eq
theorem SB.dom{st:aF}(h:SB κ p a₁ lo st)(Da:∀x∈a₁.toList,D x){i:Nat}(hi:i<a₁.size):D (at' (ag st) i):=
 Da _ ((Array.perm_iff_toList_perm.mp h.pm).mem_iff.mp (jg (by rw[h.size];exact hi)))
theorem SB.setArr{st:aF}(h:SB κ p a₁ lo st){xs:Array ak}(hp:xs.Perm (ag st))(hl:∀i,i<lo->at' xs i=at' (ag st) i):SB κ p a₁ lo (setArr st xs):=
 ⟨h.kd,h.fl,h.pn,hp.trans h.pm,λi hi=>(hl i hi).trans (h.lw i hi)⟩
theorem SB.mir{st:aF}(h:SB κ p a₁ lo st){i j:Nat}(hi:lo<=i)(hj:j<=a₁.size):SB κ p a₁ lo (PyProof.Rows.setArr st (aQ (ag st) i j ((j-i)/2))):=
 h.setArr (mirror_perm _ _ _ _) λk hk=>by
  rw[lY (by rw[h.size];exact hj),if_neg (by lia)]
theorem dR{st:aF}{i j:Nat}{Q:Option Bool->aF->Prop}(C:Cmp prog w A s κ D LT)(K:Rk D LT R)(Da:∀x∈a₁.toList,D x)(hB:SB κ p a₁ lo st)(hi:i<a₁.size)(hj:j<a₁.size)
  (h:Q (some (decide (Kr R (ag st) i<Kr R (ag st) j))) st):wpS (aq prog w) A E s (ltAt' i j) Q st:=by
 rw[ltAt'_eq];refine ar (wpS_get ?_);refine ar (zk (qh (by rw[hB.size];exact hi)) ?_);refine ar (zk (qh (by rw[hB.size];exact hj)) ?_);refine gQ C (hB.dom Da hi) (hB.dom Da hj) hB.kd ?_;rw[K.rk _ _ (hB.dom Da hi) (hB.dom Da hj)];exact h
structure Hf(R:ak->Int)(xs:Array ak)(lo k x l r:Nat):Prop where
 lr:l<=r
 rk:r<=k
 fu:r-l+x<=k
 low:∀i,lo<=i->i<lo+l->Kr R xs i<=Kr R xs (lo+k)
 upp:∀i,lo+r<=i->i<lo+k->Kr R xs (lo+k)<Kr R xs i
theorem Seg.at{xs:Array ak}{n:Nat}(S:Seg R xs lo n){i j:Nat}(a:lo<=i)(b:i<=j)(c:j<lo+n):Kr R xs i<=Kr R xs j:=by
 have z:=S (i-lo) (j-lo) (by lia) (by lia)
 rwa[Nat.add_sub_cancel' a,Nat.add_sub_cancel' (bB a b)]at z
theorem Hf.go{xs:Array ak}{k x l r:Nat}(h:Hf R xs lo k x l r)(S:Seg R xs lo k)(hl:l<r) :
  (Kr R xs (lo+k)<Kr R xs (lo+(l+r)/2)->Hf R xs lo k (x+1) l ((l+r)/2))/\(¬ Kr R xs (lo+k)<Kr R xs (lo+(l+r)/2)->Hf R xs lo k (x+1) ((l+r)/2+1) r):=by
 have:=h.rk;have:=h.fu;refine⟨λz=>⟨by lia,by lia,by lia,h.low,λi a b=>Int.lt_of_lt_of_le z (S.at (by lia) a (by lia))⟩,λz=>⟨by lia,h.rk,by lia,λi a b=>?_,h.upp⟩⟩;have:=S.at (i:=i) (j:=lo+(l+r)/2) a (by lia) (by lia);lia
theorem Hf.put{xs:Array ak}{k x l:Nat}(h:Hf R xs lo k x l l)(hk:lo+k<xs.size)(S:Seg R xs lo k) :
  Seg R (bubble xs (lo+k) (lo+k-(lo+l))) lo (k+1)/\∀i,i<lo->at' (bubble xs (lo+k) (lo+k-(lo+l))) i=at' xs i:=by
 have:=h.rk;have e:lo+k-(lo+k-(lo+l))=lo+l:=by lia
 refine⟨λi j hij hj=>?_,λi hi=>by rw[pe hk (by lia),if_neg (by lia),if_neg (by lia)]⟩;rw[n_ hk (by lia),n_ hk (by lia),e];by_cases ai:lo+i=lo+l<;>by_cases aj:lo+j=lo+l<;>by_cases bi:lo+l<lo+i/\lo+i<=lo+k<;>by_cases bj:lo+l<lo+j/\lo+j<=lo+k<;>simp only[ai,aj,bi,bj,if_true,if_false,and_self]<;>first
  | (exfalso;lia)
  |lia
  |exact h.low _ (by lia) (by lia)
  |exact Int.le_of_lt (h.upp _ (by lia) (by lia))
  |exact S.at (by lia) (by lia) (by lia)
theorem AR(C:Cmp prog w A s κ D LT)(K:Rk D LT R)(Da:∀x∈a₁.toList,D x){st:aF}{n ok:Nat}{Q:Bool->aF->Prop}(hn:lo+n<=a₁.size)(hok:ok<=n)(hB:SB κ p a₁ lo st)(hs:Seg R (ag st) lo ok)
  (h:∀st',SB κ p a₁ lo st'->Seg R (ag st') lo n->Q true st'):wpS (aq prog w) A E s (binarySort' lo n ok) Q st:=by
 rw[binarySort'_eq];have seg1:Seg R (ag st) lo (min (max ok 1) n):=λi j a b=>by
  by_cases z:ok=0
  ·rw[show i=j by lia];exact Int.le_refl _
  ·exact hs i j a (by lia)
 refine ar (wpS_mono (wpS_forRange (λk c t=>c=(none,())/\SB κ p a₁ lo t/\Seg R (ag t) lo (min k n)) (Q:=λc t=>c=(none,())/\SB κ p a₁ lo t/\Seg R (ag t) lo n) ?_ ?_ ⟨rfl,hB,seg1⟩) λc t ⟨e,b,z⟩=>by rw[e];exact au (h t b z))
 ·rintro k c t k1 k2 ⟨rfl,B,S⟩;rw[Nat.min_eq_left (Nat.le_of_lt k2)]at S;have kz:lo+k<a₁.size:=by lia
  have kz':lo+k<(ag t).size:=by rw[B.size];exact kz
  refine ar (wpS_mono (wpS_forRange (λx c u=>u=t/\∃l r,c=(none,l,r)/\Hf R (ag t) lo k x l r) (Q:=λc u=>u=t/\∃x l,c=(none,l,l)/\Hf R (ag t) lo k x l l) ?_ ?_ ⟨rfl,0,k,rfl,br _,aD _,by lia,λi a b=>by lia,λi a b=>by lia⟩) ?_)
  ·rintro x c u _ x2 ⟨rfl,l,r,rfl,f⟩;dsimp only;have:=f.lr;by_cases z:l >= r
   ·rw[if_pos z];obtain rfl:l=r:=by lia
    exact au ⟨rfl,x,l,rfl,f⟩
   rw[if_neg z];have:=f.rk;refine ar (dR C K Da B kz (by lia) ?_);obtain⟨g1,g2⟩:=f.go S (by lia);cases q:decide (Kr R (ag u) (lo+k)<Kr R (ag u) (lo+(l+r)/2))with
   |true=>exact au ⟨rfl,_,_,rfl,g1 (of_decide_eq_true q)⟩
   |false=>exact au ⟨rfl,_,_,rfl,g2 (of_decide_eq_false q)⟩
  ·rintro c u ⟨rfl,l,r,rfl,f⟩;have:=f.lr;have:=f.fu;obtain rfl:l=r:=by lia
   exact⟨rfl,_,l,rfl,f⟩
  ·rintro c u ⟨rfl,x,l,rfl,f⟩;obtain⟨g1,g2⟩:=f.put kz' S;dsimp only;rw[moveDown'_eq];refine ar (wpS_modify (au ⟨rfl,B.setArr (bubble_perm _ _ _) g2,?_⟩));rw[Nat.min_eq_left k2];exact g1
 ·rintro c t ⟨e,b,z⟩;rw[show min (max (max ok 1) n) n=n by lia]at z;exact⟨e,b,z⟩
end
section
variable{prog:aA}{w:av}{A:az}{E:ae->af->Prop}{s:af}{κ:SortKind}{D:ak->Prop}{LT:ak->ak->Bool}{R:ak->Int}{p:Array (Nat×Nat×Nat)}{a₁:Array ak}{lo:Nat}{xs:Array ak}
theorem Seg.one:Seg R xs lo 1:=λi j a b=>by rw[show i=j by lia];exact Int.le_refl _
theorem Seg.more{n:Nat}(S:Seg R xs lo n)(z:1<=n->Kr R xs (lo+n-1)<=Kr R xs (lo+n)):Seg R xs lo (n+1):=λi j a b=>by
 by_cases c:j=n
 ·subst c;by_cases d:i=j
  ·rw[d];exact Int.le_refl _
  ·have y:=S i (j-1) (by lia) (by lia);rw[show lo+(j-1)=lo+j-1 by lia]at y;exact Int.le_trans y (z (by lia))
 ·exact S i j a (by lia)
theorem Dsc.one:Dsc R xs lo 1:=λi j a b=>by rw[show i=j by lia];exact Int.le_refl _
theorem Dsc.more{n:Nat}(S:Dsc R xs lo n)(z:1<=n->Kr R xs (lo+n)<=Kr R xs (lo+n-1)):Dsc R xs lo (n+1):=λi j a b=>by
 by_cases c:j=n
 ·subst c;by_cases d:i=j
  ·rw[d];exact Int.le_refl _
  ·have y:=S i (j-1) (by lia) (by lia);rw[show lo+(j-1)=lo+j-1 by lia]at y;exact Int.le_trans (z (by lia)) y
 ·exact S i j a (by lia)
theorem Dsc.alike{ys:Array ak}{n:Nat}(S:Dsc R xs lo n)(e:∀k,Kr R ys k=Kr R xs k):Dsc R ys lo n:=λi j a b=>by rw[e,e];exact S i j a b
theorem gN{st:aF}{a nrem:Nat}{β:Type}{mk:Nat->β}{Q:β->aF->Prop}(hn:lo+nrem<=a₁.size)(ha:1<=a)(han:a<=nrem)(S0:Seg R (ag st) lo a)
  {body:Nat->β->StateT aF Sem (ForInStep β)}
  (hb:∀x n (Q':ForInStep β->aF->Prop),lo+n<a₁.size->1<=n->(Kr R (ag st) (lo+n)<Kr R (ag st) (lo+n-1)->Q' (.done (mk n)) st)->(¬ Kr R (ag st) (lo+n)<Kr R (ag st) (lo+n-1)->Q' (.yield (mk (n+1))) st)->wpS (aq prog w) A E s (body x (mk n)) Q' st)
  (h:∀n,a<=n->n<=nrem->Seg R (ag st) lo n->(n≠nrem->Kr R (ag st) (lo+n)<Kr R (ag st) (lo+n-1))->Q (mk n) st) :
  wpS (aq prog w) A E s (forIn [a:nrem] (mk a) body) Q st:=
 wpS_forRange (λx c t=>t=st/\c=mk x/\Seg R (ag st) lo x) (λx c t x1 x2 ⟨e1,e2,S⟩=>by
   subst e1 e2;exact hb x x _ (by lia) (by lia) (λz=>h x x1 (by lia) S λ_=>z) λz=>⟨rfl,rfl,S.more λ_=>by lia⟩)
  (λc t ⟨e1,e2,S⟩=>by
   subst e1 e2;rw[Nat.max_eq_right han]at S ⊢;exact h nrem han (aD _) S λz=>absurd rfl z) ⟨rfl,rfl,S0⟩
theorem Dsc.turn{n:Nat}(S:Dsc R xs lo n)(hz:lo+n<=xs.size):Seg R (aQ xs lo (lo+n) ((lo+n-lo)/2)) lo n:=λi j a b=>by
 have y:=S (n-1-j) (n-1-i) (by lia) (by lia);rw[show lo+(n-1-j)=lo+(lo+n)-1-(lo+j)by lia,show lo+(n-1-i)=lo+(lo+n)-1-(lo+i)by lia]at y
 rwa[kG hz,kG hz,if_pos ⟨by lia,by lia⟩,if_pos ⟨by lia,by lia⟩]
noncomputable def Flat(R:ak->Int)(xs:Array ak)(lo m neq:Nat):Prop:=∀i,lo+m-(neq+1)<=i->i<lo+m->Kr R xs i=Kr R xs (lo+m-1)
theorem Flat.zero{m:Nat}:Flat R xs lo m 0:=λi a b=>by rw[show i=lo+m-1 by lia]
theorem Flat.more{m neq:Nat}(f:Flat R xs lo m neq)(z:Kr R xs (lo+m)=Kr R xs (lo+m-1)):Flat R xs lo (m+1) (neq+1):=λi a b=>by
 rw[show lo+(m+1)-1=lo+m by lia];by_cases c:i=lo+m
 ·rw[c]
 ·rw[z];exact f i (by lia) (by lia)
theorem oV{st:aF}{n nrem:Nat}{β:Type}{mk:Nat->Nat->β}{Q:β->aF->Prop}(hn:lo+nrem<=a₁.size)(h1:1<=n)(hnn:n<=nrem)(B0:SB κ p a₁ lo st)(S0:Dsc R (ag st) lo n)
  {body:Nat->β->StateT aF Sem (ForInStep β)}
  (hb:∀x n neq t (Q':ForInStep β->aF->Prop),SB κ p a₁ lo t->lo+n<a₁.size->1<=n ->
   (Kr R (ag t) (lo+n)<Kr R (ag t) (lo+n-1)->neq>0->Q' (.yield (mk (n+1) 0)) (setArr t (aQ (ag t) (lo+n-(neq+1)) (lo+n) ((lo+n-(lo+n-(neq+1)))/2)))) ->
   (Kr R (ag t) (lo+n)<Kr R (ag t) (lo+n-1)->¬ neq>0->Q' (.yield (mk (n+1) 0)) t) ->
   (Kr R (ag t) (lo+n-1)<Kr R (ag t) (lo+n)->Q' (.done (mk n neq)) t) ->
   (Kr R (ag t) (lo+n)=Kr R (ag t) (lo+n-1)->Q' (.yield (mk (n+1) (neq+1))) t) ->
   wpS (aq prog w) A E s (body x (mk n neq)) Q' t)
  (h:∀m neq t,SB κ p a₁ lo t->n<=m->m<=nrem->Dsc R (ag t) lo m->neq+1<=m->Flat R (ag t) lo m neq->Q (mk m neq) t) :
  wpS (aq prog w) A E s (forIn [n:nrem] (mk n 0) body) Q st:=
 wpS_forRange (λx c t=>∃neq,c=mk x neq/\SB κ p a₁ lo t/\Dsc R (ag t) lo x/\neq+1<=x/\Flat R (ag t) lo x neq) (λx c t x1 x2 ⟨neq,e,B,S,q,f⟩=>by
   subst e;have hz:lo+x<=(ag t).size:=by rw[B.size];lia
   refine hb x x neq t _ B (by lia) (by lia) (λz _=>?_) (λz _=>?_) (λ_=>h x neq t B x1 (by lia) S q f) λz=>⟨neq+1,rfl,B,S.more λ_=>Int.le_of_eq z,by lia,f.more z⟩
   ·exact⟨0,rfl,B.mir (by lia) (by lia),(S.more λ_=>Int.le_of_lt z).alike (iP hz f),by lia,Flat.zero⟩
   ·exact⟨0,rfl,B,S.more λ_=>Int.le_of_lt z,by lia,Flat.zero⟩)
  (λc t ⟨neq,e,B,S,q,f⟩=>by
   subst e;rw[Nat.max_eq_right hnn]at S q f ⊢;exact h nrem neq t B hnn (aD _) S q f) ⟨0,rfl,B0,S0,by lia,Flat.zero⟩
theorem AH(C:Cmp prog w A s κ D LT)(K:Rk D LT R)(Da:∀x∈a₁.toList,D x){st:aF}{nrem:Nat}{Q:Option Nat->aF->Prop}(hn:lo+nrem<=a₁.size)(h1:1<=nrem)(hB:SB κ p a₁ lo st)
  (h:∀m st',SB κ p a₁ lo st'->1<=m->m<=nrem->Seg R (ag st') lo m->Q (some m) st') :
  wpS (aq prog w) A E s (countRun' lo nrem) Q st:=by
 rw[countRun'_eq];refine ar (gN (R:=R) (mk:=λn=>(none,n)) hn (aD 1) h1 Seg.one ?_ ?_)
 ·intro x n Q' hl n1 q1 q2;dsimp only;refine ar (dR C K Da (hB) hl (by lia) ?_);cases z:decide (Kr R (ag st) (lo+n)<Kr R (ag st) (lo+n-1))with
  |true=>exact au (q1 (of_decide_eq_true z))
  |false=>exact au (q2 (of_decide_eq_false z))
 intro n n1 n2 S z;dsimp only;by_cases e:(n==nrem)=true
 ·rw[if_pos e];exact au (h n st hB n1 n2 S)
 rw[if_neg e];have e':n≠nrem:=by simpa using e
 have lt:=z e';have hz:lo+n<=(ag st).size:=by rw[hB.size];lia
 by_cases g:n>1
 ·rw[if_pos g];refine ar (dR C K Da hB (by lia) (by lia) ?_);cases y:decide (Kr R (ag st) lo<Kr R (ag st) (lo+n-1))with
  |true=>exact au (h n st hB n1 n2 S)
  |false=>
   have y':=of_decide_eq_false y;have f:∀k,lo<=k->k<lo+n->Kr R (ag st) k=Kr R (ag st) (lo+n-1):=λk a b=>by
    have b1:=S.at (i:=lo) (j:=k) (aD _) a b;have b2:=S.at (i:=k) (j:=lo+n-1) a (by lia) (by lia);lia
   dsimp only;rw[if_neg dA];refine ar (wpS_reverse ?_);have dB:SB κ p a₁ lo (setArr st (aQ (ag st) lo (lo+n) ((lo+n-lo)/2))):=hB.mir (aD _) (by lia);have dS:Dsc R (ag (setArr st (aQ (ag st) lo (lo+n) ((lo+n-lo)/2)))) lo (n+1):=Dsc.alike (xs:=ag st) (Dsc.more (λi j a b=>by rw[f (lo+i) (by lia) (by lia),f (lo+j) (by lia) (by lia)];exact Int.le_refl _) λ_=>Int.le_of_lt lt) (iP hz f);refine ar (wpS_lift (wpAny_rule ⟨rfl,?_⟩));refine ar (oV (mk:=λn q=>(none,n,q)) hn (by lia) (by lia) (dB) dS ?_ ?_)
   ·intro x n neq t Q' tB hl n1 q1 q2 q3 q4;dsimp only;refine ar (dR C K Da tB hl (by lia) ?_);cases z:decide (Kr R (ag t) (lo+n)<Kr R (ag t) (lo+n-1))with
    |true=>
     by_cases y:neq>0
     ·dsimp only;rw[if_pos rfl,if_pos y];exact ar (wpS_reverse (au (q1 (of_decide_eq_true z) y)))
     ·dsimp only;rw[if_pos rfl,if_neg y];exact au (q2 (of_decide_eq_true z) y)
    |false=>
     have z':=of_decide_eq_false z;refine ar (dR C K Da tB (by lia) hl ?_);cases y:decide (Kr R (ag t) (lo+n-1)<Kr R (ag t) (lo+n))with
     |true=>exact au (q3 (of_decide_eq_true y))
     |false=>
      have y':=of_decide_eq_false y;exact au (q4 (by lia))
   ·intro m neq t tB m1 m2 tS nm f;have hz:lo+m<=(ag t).size:=by rw[tB.size];lia
    dsimp only;by_cases y:neq>0
    ·rw[if_pos y];refine ar (wpS_reverse ?_);have MB:SB κ p a₁ lo (setArr t (aQ (ag t) (lo+m-(neq+1)) (lo+m) ((lo+m-(lo+m-(neq+1)))/2))):=tB.mir (by lia) (by lia);have MS:Dsc R (ag (setArr t (aQ (ag t) (lo+m-(neq+1)) (lo+m) ((lo+m-(lo+m-(neq+1)))/2)))) lo m:=tS.alike (iP hz f);refine ar (wpS_reverse ?_);have TB:SB κ p a₁ lo (setArr (setArr t (aQ (ag t) (lo+m-(neq+1)) (lo+m) ((lo+m-(lo+m-(neq+1)))/2))) (aQ (ag (setArr t (aQ (ag t) (lo+m-(neq+1)) (lo+m) ((lo+m-(lo+m-(neq+1)))/2)))) lo (lo+m) ((lo+m-lo)/2))):=(MB).mir (aD _) (by lia);refine ar (gN (R:=R) (mk:=λn=>(none,n)) hn (by lia) m2 (Dsc.turn (MS) (by show lo+m<=(ag (setArr t (aQ (ag t) (lo+m-(neq+1)) (lo+m) ((lo+m-(lo+m-(neq+1)))/2)))).size;rw[(MB).size];lia)) ?_ ?_)
     ·intro x n Q' hl n1 q1 q2;dsimp only;refine ar (dR C K Da (TB) hl (by lia) ?_);cases z:decide (Kr R (ag (setArr (setArr t (aQ (ag t) (lo+m-(neq+1)) (lo+m) ((lo+m-(lo+m-(neq+1)))/2))) (aQ (ag (setArr t (aQ (ag t) (lo+m-(neq+1)) (lo+m) ((lo+m-(lo+m-(neq+1)))/2)))) lo (lo+m) ((lo+m-lo)/2)))) (lo+n)<Kr R (ag (setArr (setArr t (aQ (ag t) (lo+m-(neq+1)) (lo+m) ((lo+m-(lo+m-(neq+1)))/2))) (aQ (ag (setArr t (aQ (ag t) (lo+m-(neq+1)) (lo+m) ((lo+m-(lo+m-(neq+1)))/2)))) lo (lo+m) ((lo+m-lo)/2)))) (lo+n-1))with
      |true=>exact au (q1 (of_decide_eq_true z))
      |false=>exact au (q2 (of_decide_eq_false z))
     ·intro j j1 j2 j3 _;exact au (h j _ TB (by lia) j2 j3)
    ·rw[if_neg y];refine ar (wpS_reverse ?_);have TB:SB κ p a₁ lo (setArr t (aQ (ag t) lo (lo+m) ((lo+m-lo)/2))):=(tB).mir (aD _) (by lia);refine ar (gN (R:=R) (mk:=λn=>(none,n)) hn (by lia) m2 (Dsc.turn (tS) (by show lo+m<=(ag t).size;rw[(tB).size];lia)) ?_ ?_)
     ·intro x n Q' hl n1 q1 q2;dsimp only;refine ar (dR C K Da (TB) hl (by lia) ?_);cases z:decide (Kr R (ag (setArr t (aQ (ag t) lo (lo+m) ((lo+m-lo)/2)))) (lo+n)<Kr R (ag (setArr t (aQ (ag t) lo (lo+m) ((lo+m-lo)/2)))) (lo+n-1))with
      |true=>exact au (q1 (of_decide_eq_true z))
      |false=>exact au (q2 (of_decide_eq_false z))
     ·intro j j1 j2 j3 _;exact au (h j _ TB (by lia) j2 j3)
 ·rw[if_neg g];obtain rfl:n=1:=by lia
  have dS:Dsc R (ag st) lo (1+1):=Dsc.one.more λ_=>Int.le_of_lt lt
  refine ar (wpS_lift (wpAny_rule ⟨rfl,?_⟩));refine ar (oV (mk:=λn q=>(none,n,q)) hn (by lia) (by lia) (hB) dS ?_ ?_)
  ·intro x n neq t Q' tB hl n1 q1 q2 q3 q4;dsimp only;refine ar (dR C K Da tB hl (by lia) ?_);cases z:decide (Kr R (ag t) (lo+n)<Kr R (ag t) (lo+n-1))with
   |true=>
    by_cases y:neq>0
    ·dsimp only;rw[if_pos rfl,if_pos y];exact ar (wpS_reverse (au (q1 (of_decide_eq_true z) y)))
    ·dsimp only;rw[if_pos rfl,if_neg y];exact au (q2 (of_decide_eq_true z) y)
   |false=>
    have z':=of_decide_eq_false z;refine ar (dR C K Da tB (by lia) hl ?_);cases y:decide (Kr R (ag t) (lo+n-1)<Kr R (ag t) (lo+n))with
    |true=>exact au (q3 (of_decide_eq_true y))
    |false=>
     have y':=of_decide_eq_false y;exact au (q4 (by lia))
  ·intro m neq t tB m1 m2 tS nm f;have hz:lo+m<=(ag t).size:=by rw[tB.size];lia
   dsimp only;by_cases y:neq>0
   ·rw[if_pos y];refine ar (wpS_reverse ?_);have MB:SB κ p a₁ lo (setArr t (aQ (ag t) (lo+m-(neq+1)) (lo+m) ((lo+m-(lo+m-(neq+1)))/2))):=tB.mir (by lia) (by lia);have MS:Dsc R (ag (setArr t (aQ (ag t) (lo+m-(neq+1)) (lo+m) ((lo+m-(lo+m-(neq+1)))/2)))) lo m:=tS.alike (iP hz f);refine ar (wpS_reverse ?_);have TB:SB κ p a₁ lo (setArr (setArr t (aQ (ag t) (lo+m-(neq+1)) (lo+m) ((lo+m-(lo+m-(neq+1)))/2))) (aQ (ag (setArr t (aQ (ag t) (lo+m-(neq+1)) (lo+m) ((lo+m-(lo+m-(neq+1)))/2)))) lo (lo+m) ((lo+m-lo)/2))):=(MB).mir (aD _) (by lia);refine ar (gN (R:=R) (mk:=λn=>(none,n)) hn (by lia) m2 (Dsc.turn (MS) (by show lo+m<=(ag (setArr t (aQ (ag t) (lo+m-(neq+1)) (lo+m) ((lo+m-(lo+m-(neq+1)))/2)))).size;rw[(MB).size];lia)) ?_ ?_)
    ·intro x n Q' hl n1 q1 q2;dsimp only;refine ar (dR C K Da (TB) hl (by lia) ?_);cases z:decide (Kr R (ag (setArr (setArr t (aQ (ag t) (lo+m-(neq+1)) (lo+m) ((lo+m-(lo+m-(neq+1)))/2))) (aQ (ag (setArr t (aQ (ag t) (lo+m-(neq+1)) (lo+m) ((lo+m-(lo+m-(neq+1)))/2)))) lo (lo+m) ((lo+m-lo)/2)))) (lo+n)<Kr R (ag (setArr (setArr t (aQ (ag t) (lo+m-(neq+1)) (lo+m) ((lo+m-(lo+m-(neq+1)))/2))) (aQ (ag (setArr t (aQ (ag t) (lo+m-(neq+1)) (lo+m) ((lo+m-(lo+m-(neq+1)))/2)))) lo (lo+m) ((lo+m-lo)/2)))) (lo+n-1))with
     |true=>exact au (q1 (of_decide_eq_true z))
     |false=>exact au (q2 (of_decide_eq_false z))
    ·intro j j1 j2 j3 _;exact au (h j _ TB (by lia) j2 j3)
   ·rw[if_neg y];refine ar (wpS_reverse ?_);have TB:SB κ p a₁ lo (setArr t (aQ (ag t) lo (lo+m) ((lo+m-lo)/2))):=(tB).mir (aD _) (by lia);refine ar (gN (R:=R) (mk:=λn=>(none,n)) hn (by lia) m2 (Dsc.turn (tS) (by show lo+m<=(ag t).size;rw[(tB).size];lia)) ?_ ?_)
    ·intro x n Q' hl n1 q1 q2;dsimp only;refine ar (dR C K Da (TB) hl (by lia) ?_);cases z:decide (Kr R (ag (setArr t (aQ (ag t) lo (lo+m) ((lo+m-lo)/2)))) (lo+n)<Kr R (ag (setArr t (aQ (ag t) lo (lo+m) ((lo+m-lo)/2)))) (lo+n-1))with
     |true=>exact au (q1 (of_decide_eq_true z))
     |false=>exact au (q2 (of_decide_eq_false z))
    ·intro j j1 j2 j3 _;exact au (h j _ TB (by lia) j2 j3)
end
theorem iE(a:Array ak)(i:Nat):at' a i=(a.toList[i]?).getD df:=by
 unfold at';rw[Array.getD_eq_getD_getElem?,Array.getElem?_toList]
theorem nW{a:Array ak}{i j m:Nat}(hj:j<=a.size)(hm:i+m<j):at' (a.extract i j) m=at' a (i+m):=by
 refine f_ ?_;rw[Array.getElem?_extract,if_pos (by lia)]
noncomputable def putAll(s:Nat)(l:List ak)(n:Nat)(a:Array ak):Array Keyed:=(l.zipIdx n).foldl (λa (p:ak×Nat)=>a.setIfInBounds (s+p.2) p.1) a
theorem kB(s:Nat):∀(l:List ak) (n:Nat) (a:Array ak),s+n+l.length<=a.size->(putAll s l n a).toList=a.toList.take (s+n)++l++a.toList.drop (s+n+l.length)
 | [],n,a,_=>by
  show a.toList=_;simp
 |x::l,n,a,h=>by
  show (putAll s l (n+1) (a.setIfInBounds (s+n) x)).toList=_;rw[b4]at h;rw[kB s l (n+1) _ (by rw[Array.size_setIfInBounds];lia)];have hl:s+n<a.toList.length:=by rw[aR];lia
  rw[Array.toList_setIfInBounds,show s+(n+1)=s+n+1 by lia,List.take_set,List.drop_set,if_pos (by lia),b4,
   show s+n+1+l.length=s+n+(l.length+1)by lia]
  congr 1
  rw[show (x::l)=[x]++l from rfl,<-bx]
  congr 1
  rw[List.take_succ_eq_append_getElem hl,List.set_append_right _ _ (by rw[b_];lia),b_,Nat.min_eq_left (by lia),Nat.sub_self]
  rfl
theorem kN{s:Nat}{r a:Array ak}(h:s+r.size<=a.size)(t:Nat):at' (putAll s r.toList 0 a) t=if s<=t/\t<s+r.size then at' r (t-s)else at' a t:=by
 rw[iE,kB s _ _ _ (by rw[aR];lia),Nat.add_zero,aR];have h1:(a.toList.take s).length=s:=by rw[b_,aR];lia
 by_cases e1:t<s
 ·rw[if_neg (by lia),bx,List.getElem?_append_left (by lia),List.getElem?_take,if_pos e1,iE]
 ·rw[bx,List.getElem?_append_right (by lia),h1];by_cases e2:t<s+r.size
  ·rw[if_pos (by lia),List.getElem?_append_left (by rw[aR];lia),iE]
  ·rw[if_neg (by lia),List.getElem?_append_right (by rw[aR];lia),List.getElem?_drop,aR,iE]
   congr 2;lia
theorem pW{s e:Nat}{r x y a:Array ak}{m:Nat}(h1:s<=m)(h2:m<=e)(h3:e<=a.size)(hx:x=a.extract s m)(hy:y=a.extract m e)(hr:r.toList.Perm (x.toList++y.toList)):r.size=e-s/\(putAll s r.toList 0 a).Perm a:=by
 have hl:r.size=e-s:=by
  have:=hr.length_eq;rw[cy,aR,aR,aR,hx,hy,Array.size_extract,Array.size_extract]at this;lia
 refine⟨hl,Array.perm_iff_toList_perm.mpr ?_⟩;rw[kB s _ _ _ (by rw[aR];lia),Nat.add_zero,aR,hl];have hxy:x.toList++y.toList=(a.toList.drop s).take (e-s):=by
  rw[hx,hy,zG,zG,show e-s=(m-s)+(e-m)by lia,List.take_add,List.drop_drop,show s+(m-s)=m by lia]
 have e0:a.toList=a.toList.take s++(a.toList.drop s).take (e-s)++a.toList.drop (s+(e-s)):=by
  rw[bx,<-List.drop_drop,bF,bF]
 conv=>rhs;rw[e0]
 rw[hxy]at hr;exact(hr.append_left _).append_right _
section
variable{prog:aA}{w:av}{A:az}{E:ae->af->Prop}{s:af}{κ:SortKind}{D:ak->Prop}{LT:ak->ak->Bool}{R:ak->Int}
theorem vx{a r x y:Array ak}{sa s' sb e' en:Nat}(h1:sa<=s')(h2:s'<sb)(h3:sb<=e')(h4:e'<=en)(h5:en<=a.size)
  (SX:∀i j,sa<=i->i<=j->j<sb->Kr R a i<=Kr R a j) (SY:∀i j,sb<=i->i<=j->j<en->Kr R a i<=Kr R a j)
  (F1:∀i,sa<=i->i<s'->Kr R a i<=Kr R a sb) (hbn:sb<en) (F2:∀i,e'<=i->i<en->Kr R a (sb-1)<=Kr R a i)
  (hx:x=a.extract s' sb) (hy:y=a.extract sb e') (hr:r.toList.Perm (x.toList++y.toList)) (hs:∀i j,i<=j->j<r.size->Kr R r i<=Kr R r j) :
  ∀i j,sa<=i->i<=j->j<en->Kr R (putAll s' r.toList 0 a) i<=Kr R (putAll s' r.toList 0 a) j:=by
 have hp:=pW (by lia) h3 (by lia) hx hy hr;have mid:∀v,v<r.size->∃z,s'<=z/\z<e'/\at' r v=at' a z:=λv hv=>by
  have:=hr.mem_iff.mp (jg hv);rw[List.mem_append,hx,hy]at this;rcases this with q|q
  ·obtain⟨z,z1,z2,z3,z4⟩:=qZ q;exact⟨z,z1,by lia,z4⟩
  ·obtain⟨z,z1,z2,z3,z4⟩:=qZ q;exact⟨z,by lia,z2,z4⟩
 intro i j hi hij hj;unfold Kr;rw[kN (by lia),kN (by lia)];by_cases ci:s'<=i/\i<s'+r.size
 ·rw[if_pos ci];by_cases cj:s'<=j/\j<s'+r.size
  ·rw[if_pos cj];exact hs _ _ (by lia) (by lia)
  ·rw[if_neg cj];obtain⟨z,z1,z2,z3⟩:=mid (i-s') (by lia);rw[z3];by_cases hz:z<sb
   ·exact Int.le_trans (SX z (sb-1) (by lia) (by lia) (by lia)) (F2 j (by lia) hj)
   ·exact SY z j (by lia) (by lia) hj
 ·rw[if_neg ci];by_cases cj:s'<=j/\j<s'+r.size
  ·rw[if_pos cj];obtain⟨z,z1,z2,z3⟩:=mid (j-s') (by lia);rw[z3];by_cases hz:z<sb
   ·exact SX i z hi (by lia) hz
   ·exact Int.le_trans (F1 i hi (by lia)) (SY sb z (by lia) (by lia) (by lia))
  ·rw[if_neg cj];by_cases c1:i<s'
   ·by_cases c2:j<s'
    ·exact SX i j hi hij (by lia)
    ·exact Int.le_trans (F1 i hi c1) (SY sb j (by lia) (by lia) hj)
   ·exact SY i j (by lia) hij hj
end
theorem Ag{σ:Type}{M:Model}{A:az}{E:ae->af->Prop}{s:af}{x:σ}{Q:PUnit->σ->Prop}{st:σ}(h:Q ⟨⟩ x):wpS M A E s (set x:StateT σ Sem PUnit) Q st:=by
 unfold wpS;exact aB ⟨rfl,h⟩
section
variable{prog:aA}{w:av}{A:az}{E:ae->af->Prop}{s:af}{κ:SortKind}{D:ak->Prop}{LT:ak->ak->Bool}{R:ak->Int}
noncomputable def fW(p:Array (Nat×Nat×Nat))(i sa na nb pw:Nat):Array (Nat×Nat×Nat):=(p.setIfInBounds i (sa,na+nb,pw)).eraseIdxIfInBounds (i+1)
theorem CL(C:Cmp prog w A s κ D LT)(K:Rk D LT R){st:aF}{i sa na pw sb nb pw2:Nat}{Q:Bool->aF->Prop}(hk:kindOf st=κ)(hf:failedOf st=none)(Da:∀x∈(ag st).toList,D x)
  (h1:(aY st)[i]? = some (sa,na,pw)) (h2:(aY st)[i+1]? = some (sb,nb,pw2)) (hsb:sb=sa+na) (hna:1<=na) (hnb:1<=nb) (hen:sb+nb<=(ag st).size)
  (SX:Seg R (ag st) sa na) (SY:Seg R (ag st) sb nb)
  (h:∀st',kindOf st'=κ->failedOf st'=none->aY st'=fW (aY st) i sa na nb pw->(ag st').Perm (ag st)->(∀j,(j<sa\/sb+nb<=j)->at' (ag st') j=at' (ag st) j)->Seg R (ag st') sa (na+nb)->Q true st') :
  wpS (aq prog w) A E s (mergeAt' i) Q st:=by
 have dm:∀j,j<(ag st).size->D (at' (ag st) j):=λj hj=>Da _ (jg hj)
 have rk:∀x y,x<(ag st).size->y<(ag st).size->LT (at' (ag st) x) (at' (ag st) y)=decide (Kr R (ag st) x<Kr R (ag st) y):=λx y hx hy=>K.rk _ _ (dm x hx) (dm y hy)
 have SX':∀i j,sa<=i->i<=j->j<sb->Kr R (ag st) i<=Kr R (ag st) j:=λi j a b c=>by
  have:=SX (i-sa) (j-sa) (by lia) (by lia)
  rwa[show sa+(i-sa)=i by lia,show sa+(j-sa)=j by lia]at this
 have SY':∀i j,sb<=i->i<=j->j<sb+nb->Kr R (ag st) i<=Kr R (ag st) j:=λi j a b c=>by
  have:=SY (i-sb) (j-sb) (by lia) (by lia)
  rwa[show sb+(i-sb)=i by lia,show sb+(j-sb)=j by lia]at this
 have W:=C.wo;unfold mergeAt';refine ar (wpS_get ?_);rw[h1,h2];dsimp only;refine ar (Ag ?_);refine ar (zk (qh (show sb<(ag st).size by lia)) ?_);refine ar (gn C (by exact hk) (dm sb (by lia)) (λj=>at' (ag st) (sa+j)) (λj hj=>⟨qh (show sa+j<(ag st).size by lia),dm _ (by lia)⟩) (by lia) ?_ ?_)
 ·intro i j hij hj hb;unfold bey at hb ⊢;simp only[aW,if_false]at hb ⊢;rw[rk _ _ (by lia) (by lia)]at hb ⊢;have:=SX' (sa+i) (sa+j) (by lia) (by lia) (by lia);simp only[bG,decide_eq_false_iff_not]at hb ⊢;lia
 intro k hk1 hk2 hk3;dsimp only;have F1:∀j,sa<=j->j<sa+k->Kr R (ag st) j<=Kr R (ag st) sb:=λj a b=>by
  have:=hk2 (j-sa) (by lia);unfold bey at this;simp only[aW,if_false]at this;rw[show sa+(j-sa)=j by lia,rk _ _ (by lia) (by lia)]at this;simp only[bG,decide_eq_false_iff_not]at this;lia
 have F1':∀j,sa+k<=j->j<sb->Kr R (ag st) sb<Kr R (ag st) j:=λj a b=>by
  have:=hk3 (j-sa) (by lia) (by lia);unfold bey at this;simp only[aW,if_false]at this;rw[show sa+(j-sa)=j by lia,rk _ _ (by lia) (by lia)]at this;simp only[Bool.not_eq_false',decide_eq_true_eq]at this;lia
 by_cases e1:(na-k==0)=true
 ·rw[if_pos e1];have e1':na-k=0:=by simpa using e1
  refine au (h _ hk hf rfl (Array.Perm.refl _) (λ_ _=>rfl) ?_);intro x y hxy hy;show Kr R (ag st) (sa+x)<=Kr R (ag st) (sa+y);by_cases c:y<na
  ·exact SX x y hxy c
  ·by_cases c2:x<na
   ·exact Int.le_trans (F1 _ (by lia) (by lia)) (SY' sb _ (by lia) (by lia) (by lia))
   ·exact SY' _ _ (by lia) (by lia) (by lia)
 rw[if_neg e1];have e1':na-k≠0:=by simpa using e1
 rw[show sa+k+(na-k)-1=sb-1 by lia];refine ar (zk (qh (show sb-1<(ag st).size by lia)) ?_);refine ar (gn C (by exact hk) (dm (sb-1) (by lia)) (λj=>at' (ag st) (sb+j)) (λj hj=>⟨qh (show sb+j<(ag st).size by lia),dm _ (by lia)⟩) (by lia) ?_ ?_)
 ·intro i j hij hj hb;unfold bey at hb ⊢;simp only[if_true]at hb ⊢;rw[rk _ _ (by lia) (by lia)]at hb ⊢;have:=SY' (sb+i) (sb+j) (by lia) (by lia) (by lia);simp only[decide_eq_true_eq]at hb ⊢;lia
 intro m hm1 hm2 hm3;dsimp only;have F2:∀j,sb<=j->j<sb+m->Kr R (ag st) j<Kr R (ag st) (sb-1):=λj a b=>by
  have:=hm2 (j-sb) (by lia);unfold bey at this;simp only[if_true]at this;rw[show sb+(j-sb)=j by lia,rk _ _ (by lia) (by lia)]at this
  simpa using this
 have F2':∀j,sb+m<=j->j<sb+nb->Kr R (ag st) (sb-1)<=Kr R (ag st) j:=λj a b=>by
  have:=hm3 (j-sb) (by lia) (by lia);unfold bey at this;simp only[if_true]at this;rw[show sb+(j-sb)=j by lia,rk _ _ (by lia) (by lia)]at this;simp only[decide_eq_false_iff_not]at this;lia
 by_cases e2:(m==0)=true
 ·exfalso;have e2':m=0:=by simpa using e2
  have a1:=F1' (sb-1) (by lia) (by lia);have a2:=F2' sb (by lia) (by lia);lia
 rw[if_neg e2];have e2':m≠0:=by simpa using e2
 have sx:((ag st).extract (sa+k) sb).size=na-k:=by rw[Array.size_extract];lia
 have sy:((ag st).extract sb (sb+m)).size=m:=by rw[Array.size_extract];lia
 have ax:∀j,j<na-k->at' ((ag st).extract (sa+k) sb) j=at' (ag st) (sa+k+j):=λj hj=>nW (by lia) (by lia)
 have ay:∀j,j<m->at' ((ag st).extract sb (sb+m)) j=at' (ag st) (sb+j):=λj hj=>nW (by lia) (by lia)
 have srt:∀(z:Array ak) (o:Nat),(∀j,j<z.size->o+j<(ag st).size/\at' z j=at' (ag st) (o+j))->(∀i j,i<=j->j<z.size->Kr R (ag st) (o+i)<=Kr R (ag st) (o+j))->Srt LT z.toList:=λz o hz hs=>by
  unfold Srt;rw[List.pairwise_iff_getElem];intro i j hi hj hij;rw[aR]at hi hj;have b1:=qh hi;have b2:=qh hj;rw[Array.getElem?_eq_getElem hi]at b1;rw[Array.getElem?_eq_getElem hj]at b2;injection b1 with b1
  injection b2 with b2
  rw[Array.getElem_toList,Array.getElem_toList,b1,b2,(hz i hi).2,(hz j hj).2,rk _ _ (hz j hj).1 (hz i hi).1];have:=hs i j (by lia) hj;simp only[decide_eq_false_iff_not];lia
 have Sx:Srt LT ((ag st).extract (sa+k) sb).toList:=srt _ (sa+k) (λj hj=>⟨by lia,ax j (by lia)⟩) (λi j hij hj=>SX' _ _ (by lia) (by lia) (by lia));have Sy:Srt LT ((ag st).extract sb (sb+m)).toList:=srt _ sb (λj hj=>⟨by lia,ay j (by lia)⟩) (λi j hij hj=>SY' _ _ (by lia) (by lia) (by lia));have h0:LT (at' ((ag st).extract sb (sb+m)) 0) (at' ((ag st).extract (sa+k) sb) 0)=true:=by
  rw[ax 0 (by lia),ay 0 (by lia),rk _ _ (by lia) (by lia)];exact decide_eq_true (F1' _ (by lia) (by lia))
 have hl:∀j,j<((ag st).extract sb (sb+m)).size->LT (at' ((ag st).extract sb (sb+m)) j) (at' ((ag st).extract (sa+k) sb) (((ag st).extract (sa+k) sb).size-1))=true:=λj hj=>by
  rw[ax _ (by lia),ay j (by lia),sx,rk _ _ (by lia) (by lia),show sa+k+(na-k-1)=sb-1 by lia];exact decide_eq_true (F2 _ (by lia) (by lia))
 have Dx:∀j,j<((ag st).extract (sa+k) sb).size->D (at' ((ag st).extract (sa+k) sb) j):=λj hj=>by
  rw[ax j (by lia)];exact dm _ (by lia)
 have Dy:∀j,j<((ag st).extract sb (sb+m)).size->D (at' ((ag st).extract sb (sb+m)) j):=λj hj=>by
  rw[ay j (by lia)];exact dm _ (by lia)
 have fin:∀r g,Mg LT ((ag st).extract (sa+k) sb) ((ag st).extract sb (sb+m)) r->wpS (aq prog w) A E s (do
   modify λs=>setArr s (putAll (sa+k) r.toList 0 (ag s))
   return (failedOf (<-get)).isNone) Q (setG (setPending st (fW (aY st) i sa na nb pw)) g):=λr g M=>by
  refine ar (wpS_modify ?_);refine ar (wpS_get ?_);refine au ?_;have hp:=pW (by lia) (by lia) (by lia) rfl rfl M.1;have e3:(failedOf (setArr (setG (setPending st (fW (aY st) i sa na nb pw)) g) (putAll (sa+k) r.toList 0 (ag st)))).isNone=true:=by
   show (failedOf st).isNone=true;rw[hf];rfl
  show Q (failedOf (setArr (setG (setPending st (fW (aY st) i sa na nb pw)) g) (putAll (sa+k) r.toList 0 (ag st)))).isNone _;rw[e3];refine h _ hk hf rfl hp.2 (λj hj=>?_) ?_
  ·show at' (putAll (sa+k) r.toList 0 (ag st)) j=_;rw[kN (by lia),if_neg (by lia)]
  ·have dr:∀j,j<r.size->D (at' r j):=λj hj=>by
    have:=M.1.mem_iff.mp (jg hj);rw[List.mem_append]at this;rcases this with q|q
    ·obtain⟨z,z1,z2,z3,z4⟩:=qZ q;rw[z4];exact dm z z3
    ·obtain⟨z,z1,z2,z3,z4⟩:=qZ q;rw[z4];exact dm z z3
   have:=vx (R:=R) (a:=ag st) (sa:=sa) (s':=sa+k) (sb:=sb) (e':=sb+m) (en:=sb+nb) (by lia) (by lia) (by lia) (by lia) hen SX' SY' F1 (by lia) F2' rfl rfl M.1 (λx y hxy hy=>by
    have:=zU W M.2 hxy hy;rw[K.rk _ _ (dr _ hy) (dr _ (by lia))]at this;simp only[decide_eq_false_iff_not]at this;unfold Kr;lia)
   intro x y hxy hy;exact this _ _ (by lia) (by lia) (by lia)
 by_cases e4:na-k<=m
 ·rw[if_pos e4];exact ar (yQ C (by exact hk) Dx Dy Sx Sy (show 0<((ag st).extract (sa+k) sb).size by lia) (show 0<((ag st).extract sb (sb+m)).size by lia) h0 hl fin)
 ·rw[if_neg e4];exact ar (xp C (by exact hk) Dx Dy Sx Sy (show 0<((ag st).extract (sa+k) sb).size by lia) (show 0<((ag st).extract sb (sb+m)).size by lia) h0 hl fin)
end
noncomputable def pr(x:Nat×Nat×Nat):Nat×Nat:=(x.1,x.2.1)
noncomputable def Runs(R:ak->Int)(a:Array ak):Nat->List (Nat×Nat)->Nat->Prop
 |b,[],e=>b=e
 |b,x::l,e=>x.1=b/\1<=x.2/\Seg R a b x.2/\Runs R a (b+x.2) l e
section
variable{R:ak->Int}{a a':Array ak}
theorem Runs.le:∀{l:List (Nat×Nat)}{b e:Nat},Runs R a b l e->b+l.length<=e
 | [],b,e,h=>by simp only[List.length_nil];exact Nat.le_of_eq h
 |x::l,b,e,h=>by
  have:=h.2.2.2.le;have:=h.2.1;simp only[b4];lia
theorem Seg.congr{b n:Nat}(h:Seg R a b n)(hc:∀j,b<=j->j<b+n->at' a' j=at' a j):Seg R a' b n:=λi j hij hj=>by
 unfold Kr;rw[hc _ (by lia) (by lia),hc _ (by lia) (by lia)];exact h i j hij hj
theorem Runs.congr:∀{l:List (Nat×Nat)}{b e:Nat},Runs R a b l e->(∀j,b<=j->j<e->at' a' j=at' a j)->Runs R a' b l e
 | [],b,e,h,_=>h
 |x::l,b,e,h,hc=>by
  have:=h.2.2.2.le;exact⟨h.1,h.2.1,h.2.2.1.congr λj h1 h2=>hc j h1 (by lia),h.2.2.2.congr λj h1 h2=>hc j (by lia) h2⟩
theorem Runs.append:∀{l l':List (Nat×Nat)}{b e:Nat},Runs R a b (l++l') e↔∃m,Runs R a b l m/\Runs R a m l' e
 | [],l',b,e=>⟨λh=>⟨b,rfl,h⟩,λ⟨m,h1,h2⟩=>by cases h1;exact h2⟩
 |x::l,l',b,e=>by
  constructor
  ·rintro⟨h1,h2,h3,h4⟩;obtain⟨m,h5,h6⟩:=Runs.append.mp h4;exact⟨m,⟨h1,h2,h3,h5⟩,h6⟩
  ·rintro⟨m,⟨h1,h2,h3,h4⟩,h5⟩;exact⟨h1,h2,h3,Runs.append.mpr ⟨m,h4,h5⟩⟩
theorem B5{α:Type}{l:List α}{i:Nat}{x y:α}(h1:l[i]? = some x)(h2:l[i+1]? = some y):∃u v,l=u++x::y::v/\u.length=i:=by
 obtain⟨hl,e2⟩:=List.getElem?_eq_some_iff.mp h2;obtain⟨hl1,e1⟩:=List.getElem?_eq_some_iff.mp h1;refine⟨l.take i,l.drop (i+2),?_,by rw[b_];lia⟩
 conv=>lhs;rw[<-bF i l]
 rw[e_ hl1,e_ hl,e1,e2]
theorem C8{p:Array (Nat×Nat×Nat)}{u v:List (Nat×Nat×Nat)}{x y:Nat×Nat×Nat}{sa na nb pw:Nat}(h:p.toList=u++x::y::v):(fW p u.length sa na nb pw).toList=u++(sa,na+nb,pw)::v:=by
 unfold fW;have hs:p.size=u.length+v.length+2:=by rw[<-aR,h];simp;lia
 rw[Array.eraseIdxIfInBounds_eq,dif_pos (by rw[Array.size_setIfInBounds];lia),Array.toList_eraseIdx,Array.toList_setIfInBounds,h];rw[List.set_append_right _ _ (aD _),Nat.sub_self];rw[List.eraseIdx_append_of_length_le (by lia)];rw[show u.length+1-u.length=1 by lia]
 rfl
end
structure SR(κ:SortKind)(R:ak->Int)(a₁:Array ak)(lo:Nat)(st:aF):Prop where
 kd:kindOf st=κ
 fl:failedOf st=none
 pm:(ag st).Perm a₁
 rn:Runs R (ag st) 0 ((aY st).toList.map pr) lo
 le:lo<=a₁.size
section
variable{prog:aA}{w:av}{A:az}{E:ae->af->Prop}{s:af}{κ:SortKind}{D:ak->Prop}{LT:ak->ak->Bool}{R:ak->Int}{a₁:Array ak}{lo:Nat}
theorem SR.sz{st:aF}(h:SR κ R a₁ lo st):(ag st).size=a₁.size:=h.pm.size_eq
theorem SR.dom{st:aF}(h:SR κ R a₁ lo st)(Da:∀x∈a₁.toList,D x):∀x∈(ag st).toList,D x:=λx hx=>Da x ((Array.perm_iff_toList_perm.mp h.pm).mem_iff.mp hx)
theorem SR.merge(C:Cmp prog w A s κ D LT)(K:Rk D LT R)(Da:∀x∈a₁.toList,D x){st:aF}{i:Nat}{Q:Bool->aF->Prop}(H:SR κ R a₁ lo st)(hi:i+1<(aY st).size)
  (h:∀st',SR κ R a₁ lo st'->(∀j,lo<=j->at' (ag st') j=at' (ag st) j)->(aY st').size+1=(aY st).size->Q true st') :
  wpS (aq prog w) A E s (mergeAt' i) Q st:=by
 obtain⟨⟨sa,na,pw⟩,hx⟩:∃x,(aY st)[i]? = some x:=⟨_,Array.getElem?_eq_getElem (by lia)⟩
 obtain⟨⟨sb,nb,pw2⟩,hy⟩:∃x,(aY st)[i+1]? = some x:=⟨_,Array.getElem?_eq_getElem hi⟩
 obtain⟨u,v,hl,hu⟩:=B5 (l:=(aY st).toList) (by rw[Array.getElem?_toList];exact hx) (by rw[Array.getElem?_toList];exact hy);have rn:=H.rn;rw[hl,List.map_append]at rn;obtain⟨m,r1,r2⟩:=Runs.append.mp rn;obtain⟨q1,q2,q3,q4,q5,q6,q7⟩:=r2;have q1:sa=m:=q1;have q2:1<=na:=q2;have q3:Seg R (ag st) m na:=q3;have q4:sb=m+na:=q4;have q5:1<=nb:=q5;have q6:Seg R (ag st) (m+na) nb:=q6;have q7:Runs R (ag st) (m+na+nb) (v.map pr) lo:=q7;have hle:=q7.le;have hle2:=r1.le;have hlo:=H.le;have hz:=H.sz;subst q1;refine CL C K H.kd H.fl (H.dom Da) hx hy q4 q2 q5 (by lia) q3 (by rw[q4];exact q6) λst' k1 k2 k3 k4 k5 k6=>?_
 have hp:(aY st').toList=u++(sa,na+nb,pw)::v:=by rw[k3,<-hu];exact C8 hl
 refine h st' ⟨k1,k2,k4.trans H.pm,?_,H.le⟩ (λj hj=>k5 j (.inr (by lia))) ?_
 ·rw[hp,List.map_append];refine Runs.append.mpr ⟨sa,r1.congr λj _ hj=>k5 j (.inl hj),rfl,show 1<=na+nb by lia,k6,?_⟩;show Runs R (ag st') (sa+(na+nb)) (v.map pr) lo;rw[<-Nat.add_assoc];exact q7.congr λj hj _=>k5 j (.inr (by lia))
 ·rw[<-aR,hp,<-aR,hl];simp;lia
end
section
variable{prog:aA}{w:av}{A:az}{E:ae->af->Prop}{s:af}{κ:SortKind}{D:ak->Prop}{LT:ak->ak->Bool}{R:ak->Int}{a₁:Array ak}{lo:Nat}
theorem oa{p:Array (Nat×Nat×Nat)}{i pw:Nat}:(p.modify i λx=>(x.1,x.2.1,pw)).toList.map pr=p.toList.map pr:=by
 apply List.ext_getElem?;intro k;rw[List.getElem?_map,List.getElem?_map,Array.getElem?_toList,Array.getElem?_toList,Array.getElem?_modify];split
 ·rename_i e
  subst e;cases p[i]? <;> rfl
 ·rfl
theorem SR.pend{st:aF}{p:Array (Nat×Nat×Nat)}(H:SR κ R a₁ lo st)(hp:p.toList.map pr=(aY st).toList.map pr):SR κ R a₁ lo (setPending st p):=
 ⟨H.kd,H.fl,H.pm,by show Runs R (ag st) 0 (p.toList.map pr) lo;rw[hp];exact H.rn,H.le⟩
theorem SR.push{st:aF}{n:Nat}(H:SR κ R a₁ lo st)(h1:1<=n)(h2:lo+n<=a₁.size)(hs:Seg R (ag st) lo n):SR κ R a₁ (lo+n) (setPending st ((aY st).push (lo,n,0))):=
 ⟨H.kd,H.fl,H.pm,by
  show Runs R (ag st) 0 (((aY st).push (lo,n,0)).toList.map pr) (lo+n);rw[Array.toList_push,List.map_append];exact Runs.append.mpr ⟨lo,H.rn,rfl,h1,hs,rfl⟩,h2⟩
theorem SR.base{st:aF}(H:SR κ R a₁ lo st):SB κ (aY st) (ag st) lo st:=⟨H.kd,H.fl,rfl,Array.Perm.refl _,λ_ _=>rfl⟩
theorem SR.back{st st':aF}(H:SR κ R a₁ lo st)(B:SB κ (aY st) (ag st) lo st'):SR κ R a₁ lo st':=
 ⟨B.kd,B.fl,B.pm.trans H.pm,by rw[B.pn];exact H.rn.congr λj _ hj=>B.lw j hj,H.le⟩
theorem mf(C:Cmp prog w A s κ D LT)(K:Rk D LT R)(Da:∀x∈a₁.toList,D x){st:aF}{Q:Unit->aF->Prop}(hk:kindOf st=κ)(hf:failedOf st=none)(hp:aY st = #[])(ha:ag st=a₁)(h2:2<=a₁.size)
  (h:∀st',(ag st').Perm a₁->failedOf st'=none->Seg R (ag st') 0 a₁.size->Q () st'):wpS (aq prog w) A E s sortRuns' Q st:=by
 have H0:SR κ R a₁ 0 st:=⟨hk,hf,by rw[ha],by rw[hp];rfl,by lia⟩
 rw[sortRuns'_eq];refine ar (wpS_get ?_);dsimp only;rw[ha];generalize minRun' a₁.size a₁.size 0=mr;refine ar (wpS_mono (wpS_forRange
  (I:=λx c st'=>∃lo,c=(none,lo)/\SR κ R a₁ lo st'/\x<=lo)
  (Q:=λc st'=>c=(none,a₁.size)/\SR κ R a₁ a₁.size st') ?step ?fin ⟨0,rfl,H0,aD _⟩) ?post)
 case fin=>
  rintro c st' ⟨lo,rfl,H,hx⟩;have:=H.le;have:lo=a₁.size:=by lia
  subst this;exact⟨rfl,H⟩
 case step=>
  rintro x c st' _ hx ⟨lo,rfl,H,hxl⟩;dsimp only;have hle:=H.le;by_cases e:lo >= a₁.size
  ·rw[if_pos e];have:lo=a₁.size:=by lia
   subst this;exact au ⟨rfl,H⟩
  rw[if_neg e];have hz:=H.sz;refine ar (AH C K (H.dom Da) (by lia) (by lia) H.base λm st2 B2 m1 m2 S2=>?_);dsimp only;by_cases e3:m<mr
  ·rw[if_pos e3];refine ar (wpS_lift (wpAny_rule ⟨rfl,?_⟩));by_cases e4:m<=min (a₁.size-lo) mr
   ·refine ar (AR C K (H.dom Da) (by lia) e4 B2 S2 λst3 B3 S3=>?_);simp only[cC,aW,if_false];have Hn:=H.back B3;refine ar (wpS_get ?_);cases hb:(aY st3).back? with
    |none=>
     dsimp only;exact ar (wpS_modify (au ⟨_,rfl,Hn.push (by lia) (by lia) S3,by lia⟩))
    |some q=>
     obtain⟨s1,k1,w1⟩:=q;dsimp only;generalize power' _ _ _ _=pw;refine ar (wpS_mono (wpS_forRange (I:=λ_ c st'=>c=(none,())/\SR κ R a₁ lo st'/\∀j,lo<=j->at' (ag st') j=at' (ag st3) j)
      (Q:=λc st'=>c=(none,())/\SR κ R a₁ lo st'/\∀j,lo<=j->at' (ag st') j=at' (ag st3) j) ?_ (λ_ _ h=>h) ⟨rfl,Hn,λ_ _=>rfl⟩) ?_)
     ·rintro y c st8 _ _ ⟨rfl,H8,c8⟩;refine ar (wpS_get ?_);by_cases e1:(aY st8).size>1
      ·rw[if_pos e1];obtain⟨⟨u1,u2,older⟩,hy⟩:∃x,(aY st8)[(aY st8).size-2]? = some x:=⟨_,Array.getElem?_eq_getElem (by lia)⟩
       rw[hy];dsimp only;by_cases e2:older<=pw
       ·rw[if_pos e2];exact au ⟨rfl,H8,c8⟩
       ·rw[if_neg e2];refine ar (H8.merge C K Da (by lia) λst9 H9 c9 _=>?_);exact au ⟨rfl,H9,λj hj=>(c9 j hj).trans (c8 j hj)⟩
      ·rw[if_neg e1];exact au ⟨rfl,H8,c8⟩
     ·rintro c st8 ⟨rfl,H8,c8⟩;dsimp only;refine ar (wpS_modify ?_);exact ar (wpS_modify (au ⟨_,rfl,(H8.pend oa).push (by lia) (by lia) (S3.congr λj hj _=>c8 j hj),by lia⟩))
   ·exfalso;lia
  ·rw[if_neg e3];have Hn:=H.back B2;refine ar (wpS_get ?_);cases hb:(aY st2).back? with
   |none=>
    dsimp only;exact ar (wpS_modify (au ⟨_,rfl,Hn.push (m1) (by lia) S2,by lia⟩))
   |some q=>
    obtain⟨s1,k1,w1⟩:=q;dsimp only;generalize power' _ _ _ _=pw;refine ar (wpS_mono (wpS_forRange (I:=λ_ c st'=>c=(none,())/\SR κ R a₁ lo st'/\∀j,lo<=j->at' (ag st') j=at' (ag st2) j)
     (Q:=λc st'=>c=(none,())/\SR κ R a₁ lo st'/\∀j,lo<=j->at' (ag st') j=at' (ag st2) j) ?_ (λ_ _ h=>h) ⟨rfl,Hn,λ_ _=>rfl⟩) ?_)
    ·rintro y c st8 _ _ ⟨rfl,H8,c8⟩;refine ar (wpS_get ?_);by_cases e1:(aY st8).size>1
     ·rw[if_pos e1];obtain⟨⟨u1,u2,older⟩,hy⟩:∃x,(aY st8)[(aY st8).size-2]? = some x:=⟨_,Array.getElem?_eq_getElem (by lia)⟩
      rw[hy];dsimp only;by_cases e2:older<=pw
      ·rw[if_pos e2];exact au ⟨rfl,H8,c8⟩
      ·rw[if_neg e2];refine ar (H8.merge C K Da (by lia) λst9 H9 c9 _=>?_);exact au ⟨rfl,H9,λj hj=>(c9 j hj).trans (c8 j hj)⟩
     ·rw[if_neg e1];exact au ⟨rfl,H8,c8⟩
    ·rintro c st8 ⟨rfl,H8,c8⟩;dsimp only;refine ar (wpS_modify ?_);exact ar (wpS_modify (au ⟨_,rfl,(H8.pend oa).push (m1) (by lia) (S2.congr λj hj _=>c8 j hj),by lia⟩))
 case post=>
  rintro c st' ⟨rfl,H⟩;dsimp only;have hl:=H.rn.le;rw[aP,aR]at hl;refine ar (wpS_mono (wpS_forRange (I:=λx c st''=>c=(none,())/\SR κ R a₁ a₁.size st''/\((aY st'').size<=1\/(aY st'').size+x<=a₁.size))
   (Q:=λc st''=>c=(none,())/\SR κ R a₁ a₁.size st''/\(aY st'').size<=1) ?_ ?_ ⟨rfl,H,.inr (by lia)⟩) ?_)
  ·rintro x c st3 _ hx ⟨rfl,H3,c3⟩;refine ar (wpS_get ?_);by_cases e1:(aY st3).size<=1
   ·rw[if_pos e1];exact au ⟨rfl,H3,e1⟩
   rw[if_neg e1];refine ar (H3.merge C K Da ?_ λst4 H4 c4 z4=>?_)
   ·(repeat' split)<;>lia
   ·exact au ⟨rfl,H4,by lia⟩
  ·rintro c st3 ⟨rfl,H3,c3⟩;exact⟨rfl,H3,by lia⟩
  ·rintro c st3 ⟨rfl,H3,c3⟩;refine au (h st3 H3.pm H3.fl ?_);have rn:=H3.rn;generalize hq:(aY st3).toList.map pr=q at rn;have hql:q.length<=1:=by rw[<-hq,aP,aR];exact c3
   match q,rn,hql with
   | [],rn,_=>exact absurd rn (by show ¬ (0=a₁.size);lia)
   | [x],rn,_=>
    obtain⟨_,_,r3,r4⟩:=rn;have r4:0+x.2=a₁.size:=r4;rw[<-r4,Nat.zero_add];exact r3
end
theorem nu{α:Type}{p q:α->Bool}{a:α}:∀{l:List α},(∀x∈l,p x=true->q x=true)->a∈l->p a=false->q a=true->l.countP p<l.countP q
 | [],_,h,_,_=>nomatch h
 |x::l,hi,h,h1,h2=>by
  rw[List.countP_cons,List.countP_cons];have le:=List.countP_mono_left (l:=l) (p:=p) (q:=q) λy hy=>hi y (aV _ hy)
  rcases aN.mp h with e|h
  ·subst e;rw[h1,h2];simp only[aW,if_false,if_true];lia
  ·have:=nu (λy hy=>hi y (aV _ hy)) h h1 h2;have:=hi x a8;cases e:p x with
   |true=>rw[this e];simp only[if_true];lia
   |false=>simp only[aW,if_false];split<;>lia
noncomputable def i8(LT:ak->ak->Bool)(l:List ak)(x:ak):Int:=(l.countP λz=>LT z x:Nat)
theorem Wo.rank{LT:ak->ak->Bool}(W:Wo LT)(l:List ak):Rk (·∈l) LT (i8 LT l):=⟨λx y hx hy=>by
 unfold i8;cases e:LT x y with
 |true=>
  have:=nu (p:=λz=>LT z x) (q:=λz=>LT z y) (a:=x) (λz _ q=>W.lt_le (x:=z) (y:=x) (z:=y) q (W.asym x y e)) hx (W.irr x) e;exact(decide_eq_true (by lia)).symm
 |false=>
  have:=List.countP_mono_left (l:=l) (p:=λz=>LT z y) (q:=λz=>LT z x) λz _ q=>W.lt_le (x:=z) (y:=y) (z:=x) q e
  exact(decide_eq_false (by lia)).symm⟩
noncomputable def ltL:List Int->List Int->Bool
 | [],[]=>false
 | [],_::_=>true
 |_::_,[]=>false
 |a::x,b::y=>if a=b then ltL x y else decide (a<b)
theorem g8:∀{x y:List Int},ltL x y=true->ltL y x=false
 | [],[],h=>nomatch h
 | [],_::_,_=>rfl
 |_::_,[],h=>nomatch h
 |a::x,b::y,h=>by
  unfold ltL at h ⊢;by_cases e:a=b
  ·rw[if_pos e]at h;rw[if_pos e.symm];exact g8 h
  ·rw[if_neg e]at h;have:=of_decide_eq_true h;rw[if_neg (λz=>e z.symm)];exact decide_eq_false (by lia)
theorem gK:∀{x y z:List Int},ltL y x=false->ltL z y=false->ltL z x=false
 | [],_,[],_,_=>rfl
 |_::_,[],[],h,_=>nomatch h
 |_::_,_::_,[],_,h=>nomatch h
 | [],_,_::_,_,_=>rfl
 |_::_,[],_::_,h,_=>nomatch h
 |a::x,b::y,c::z,h1,h2=>by
  unfold ltL at h1 h2 ⊢;by_cases e1:b=a
  ·rw[if_pos e1]at h1;by_cases e2:c=b
   ·rw[if_pos e2]at h2;rw[if_pos (e2.trans e1)];exact gK h1 h2
   ·rw[if_neg e2]at h2;have:=of_decide_eq_false h2;rw[if_neg (λq=>e2 (q.trans e1.symm))];exact decide_eq_false (by lia)
  ·rw[if_neg e1]at h1;have q1:=of_decide_eq_false h1;by_cases e2:c=b
   ·rw[if_neg (λq=>e1 (e2.symm.trans q))];exact decide_eq_false (by lia)
   ·rw[if_neg e2]at h2;have q2:=of_decide_eq_false h2;rw[if_neg (by lia)];exact decide_eq_false (by lia)
theorem Df(f:ak->List Int):Wo λx y=>ltL (f x) (f y):=⟨λ_ _ h=>g8 h,λ_ _ _ h1 h2=>gK h1 h2⟩
theorem ph:∀{x y:List Int},ltL x y=false->ltL y x=false->x=y
 | [],[],_,_=>rfl
 | [],_::_,h,_=>nomatch h
 |_::_,[],_,h=>nomatch h
 |a::x,b::y,h1,h2=>by
  unfold ltL at h1 h2;by_cases e:a=b
  ·rw[if_pos e]at h1;rw[if_pos e.symm]at h2;rw[e,ph h1 h2]
  ·rw[if_neg e]at h1;rw[if_neg (λz=>e z.symm)]at h2;have:=of_decide_eq_false h1;have:=of_decide_eq_false h2;lia
theorem oI:∀x y:List Int,ltL x y=HT.lexLt x y
 | [],[]=>(HT.p6).symm
 | [],_::_=>(HT.nH ..).symm
 |_::_,[]=>(HT.l_ ..).symm
 |a::x,b::y=>by
  rw[HT.oC,<-oI x y]
  rfl
section
variable{prog:aA}{w:av}{A:az}{E:ae->af->Prop}{s:af}
theorem wL{l b:Addr}{items items2:Array ae}{ns ms:List Int}{Q:Bool->af->Prop}(hl:IsTup s.heap l items)(hb:IsTup s.heap b items2)(hi:a7 items.toList ns)(hj:a7 items2.toList ms)
  (hu:A.units<cLine) (h:Q (ltL ns ms) s):ao (aq prog w) A (oneLt' true (.ref l) (.ref b)) Q E s:=by
 obtain⟨⟨c1,d1,a1,s1⟩,ho,hc,n,hd⟩:=id hl;obtain⟨⟨c2,d2,a2,s2⟩,ho2,hc2,n2,hd2⟩:=id hb;simp only at hc hd hc2 hd2;subst hc hd hc2 hd2;rw[oI]at h;rw[oneLt'_eq];simp only[if_true];refine ah (wpAny_cRoomFor hu ?_);refine ah (wpAny_callSpecialIfBound?_slot ⟨_,ho,rfl⟩ PySem.F.slot_tuple_lt (call_meets PySem.F.slot_tuple_lt ⟨_,ho,rfl⟩ PySem.F.entry_tuple_lt (PySem.F.args_tuple_lt_2 _ _) (HT.lF l b items items2 n n2 d1 d2 s1 s2 ns ms hi hj) ⟨ho,ho2,?_⟩));exact bI h
end
end TS
namespace TS
open PySem PySem.W PyProof.Rows
noncomputable def TupAt(h:Heap)(v:ae)(ns:List Int):Prop:=∃a o items n,v=.ref a/\h.get? a=some o/\o.cls=.type "tuple"/\o.data=.seq items n/\a7 items.toList ns
inductive bX(h:Heap):List ae->List (List Int)->Prop
 |nil:bX h [] []
 |cons {v:ae}{vs:List ae}{k:List Int}{ks:List (List Int)}:TupAt h v k->bX h vs ks->bX h (v::vs) (k::ks)
theorem bX.mem{h:Heap}{vs:List ae}{ks:List (List Int)}(t:bX h vs ks):∀v∈vs,∃k,TupAt h v k:=by
 induction t with
 |nil=>intro v hv;cases hv
 |cons a t ih=>
  intro v hv;rcases aN.mp hv with e|hv
  ·subst e;exact⟨_,a⟩
  ·exact ih v hv
section
variable{M:Model}{A:az}{E:ae->af->Prop}{s:af}
theorem oH{h:Heap}{v:ae}{k:List Int}(t:TupAt h v k):Looks M h (typeOf v) (.type "tuple"):=by
 obtain⟨a,o,items,n,rfl,ho,hc,_⟩:=t;have:Looks M h (typeOf (.ref a)) o.cls:=(Looks.ld ho).andThen .now
 rwa[hc]at this
theorem u9{vs:List ae}{ks:List (List Int)}(t:bX s.heap vs ks):∀{Q:List (Option ae)->af->Prop},(∀os:List (Option ae),os.map Option.isSome=ks.map (λk=>!k.isEmpty)->Q os s)->ao M A (vs.mapM firstOfTuple') Q E s:=by
 induction t with
 |nil=>intro Q h;rw[List.mapM_nil];exact aB (h [] rfl)
 | @cons v vs k ks a t ih=>
  intro Q h;rw[List.mapM_cons];refine ah ?_;rw[kas_first_eq];refine ah ((oH a).here ?_);rw[if_neg (by first|decide|simp)];obtain⟨b,o,items,n,rfl,ho,hc,hd,hi⟩:=a;refine ah (listItems_at ho hd (aB (ah (ih λos e=>aB (h _ ?_)))));rw[a5,e,a5]
  congr 1
  obtain⟨l⟩:=items;cases hi with
  |nil=>rfl
  |cons _ _ _=>rfl
theorem vF{vs:List ae}{ks:List (List Int)}{Q:SortKind->af->Prop}(t:bX s.heap vs ([]::ks))(h:Q oneType' s):ao M A (keyKind' vs.toArray) Q E s:=by
 rw[keyKind'_eq,List.mapM_toArray,map_eq_pure_bind];refine ah (ah (u9 t λos e=>aB ?_));obtain⟨o,os',rfl,eo⟩:∃o os',os=o::os'/\o.isSome=false:=by
  cases os with
  |nil=>cases e
  |cons o os'=>rw[a5,a5]at e;exact⟨o,os',rfl,(List.cons.inj e).1⟩
 obtain rfl:o=none:=by cases o with
  |none=>rfl
  |some _=>cases eo
 rw[if_neg (by simp),if_neg (by simp),oneTypeOnly'_eq,List.mapM_toArray,map_eq_pure_bind];refine ah (ah (ah (kas_mapM (r:=bH "tuple") _ (λv hv Q' hq=>by obtain⟨k,a⟩:=t.mem v hv;exact(oH a).here hq) (aB ?_))));have e0:(List.map (λ_=>bH "tuple") vs).toArray[0]? = some (bH "tuple"):=by
  cases t with
  |cons a t=>simp
 have e1:((List.map (λ_=>bH "tuple") vs).toArray.all λx=>x==bH "tuple")=true:=by
  simp only[List.all_toArray,List.all_map,dC];intro _ _
  rfl
 rw[e0];simp only[e1,if_true];exact aB (aB h)
end
section
variable{M:Model}{A:az}{E:ae->af->Prop}{s:af}
theorem bX.firsts{h:Heap}{vs:List ae}{ks:List (List Int)}(t:bX h vs ks)(hne:∀k∈ks,k≠[]):∃fs,KatTups h vs fs/\fs.length=vs.length/\∀v∈fs,∃i t,v=ae.int i t:=by
 induction t with
 |nil=>exact⟨[],trivial,rfl,λ_ h=>nomatch h⟩
 | @cons v vs k ks a t ih=>
  obtain⟨fs,k1,k2,k3⟩:=ih λk hk=>hne k (aV _ hk)
  obtain⟨b,o,items,n,rfl,ho,hc,hd,hi⟩:=a;obtain⟨l⟩:=items;cases hi with
  |nil=>exact absurd rfl (hne [] a8)
  |cons i t _=>exact⟨.int i t::fs,KatTups.cons ho hc hd rfl k1,by simp[k2],λw hw=>(aN.mp hw).elim (λz=>⟨i,t,z⟩) (k3 w)⟩
theorem kind_all{vs:List ae}{ks:List (List Int)}{Q:SortKind->af->Prop}(t:bX s.heap vs ks)(h1:0<vs.length)(hne:∀k∈ks,k≠[])(h:Q (tuples' true) s):ao M A (keyKind' vs.toArray) Q E s:=by
 obtain⟨fs,k1,k2,k3⟩:=t.firsts hne;refine kat_kind (T:=.type "int") (fs:=fs) k1 (by lia) (λv hv=>?_) (by decide) ?_
 ·obtain⟨i,t,rfl⟩:=k3 v hv;exact Looks.of_pure rfl
 ·have hb:((bH "int") != bH "tuple")=true:=by decide
  rw[hb];exact h
theorem mS{prog:aA}{w:av}{Q:Bool->af->Prop}{fin:Bool}:∀{xs ys:List ae}{ns ms:List Int} (i:Nat),a7 xs ns->a7 ys ms->fin=decide (xs.length<ys.length)->Q (ltL ns ms) s->KatLex prog w A true fin Q (xs.zip ys) i s
 |_,_,_,_,i,.nil,.nil,hf,h=>kat_nil (by rw[hf];exact h)
 |_,_,_,_,i,.nil,.cons _ _ _,hf,h=>kat_nil (by rw[hf];exact h)
 |_,_,_,_,i,.cons _ _ _,.nil,hf,h=>kat_nil (by rw[hf];exact h)
 |_,_,_,_,i,.cons (vs:=xs) (ns:=ns) a t hx,.cons (vs:=ys) (ns:=ms) b u hy,hf,h=>by
  rw[List.zip_cons_cons];refine kat_cons (SeqAt.EqAt.int_int _ _ _ _ prog w _ _ ?_);unfold ltL at h;by_cases hc:a=b
  ·rw[if_pos hc]at h;rw[show (a==b)=true by simp[hc]];exact kat_yes (mS (i+1) hx hy (by rw[hf];simp) h)
  ·rw[if_neg hc]at h;rw[show (a==b)=false by simp[hc]];refine kat_no ?_;cases i with
   |zero=>exact oneLt_int h
   |succ i=>exact kat_one _ _ (lt_int h)
end
noncomputable def cL(h:Heap)(x:ak):List Int:=open Classical in if z:∃k,TupAt h x.1 k then z.choose else []
theorem TupAt.keep{h h':Heap}(k:∀b o,h.get? b=some o->h'.get? b=some o){v:ae}{ns:List Int}(t:TupAt h v ns):TupAt h' v ns:=by
 obtain⟨a,o,its,n,e1,e2,e3⟩:=t;exact⟨a,o,its,n,e1,k _ _ e2,e3⟩
theorem bX.keep{h h':Heap}(k:∀b o,h.get? b=some o->h'.get? b=some o){vs:List ae}{ks:List (List Int)}(t:bX h vs ks):bX h' vs ks:=by
 induction t with
 |nil=>exact .nil
 |cons a _ ih=>exact .cons (a.keep k) ih
theorem hW{h:Heap}{x:ak}(z:∃k,TupAt h x.1 k):TupAt h x.1 (cL h x):=by
 unfold cL;rw[dif_pos z];exact z.choose_spec
theorem Ac{prog:aA}{w:av}{A:az}{s:af}{h0:Heap}{l:List ak}(hk:∀b o,h0.get? b=some o->s.heap.get? b=some o)(hl:∀x∈l,∃k,TupAt h0 x.1 k)(hu:A.units<cLine):Cmp prog w A s oneType' (·∈l) (λx y=>ltL (cL h0 x) (cL h0 y)):=
 ⟨λx y hx hy Q h=>by
  obtain⟨a,o,its,n,e1,e2,e3,e4,e5⟩:=(hW (hl x hx)).keep hk;obtain⟨a',o',its',n',f1,f2,f3,f4,f5⟩:=(hW (hl y hy)).keep hk;rw[keyLt'_oneType,e1,f1];exact wL ⟨o,e2,e3,n,e4⟩ ⟨o',f2,f3,n',f4⟩ e5 f5 hu h,
  λ_ _ h=>g8 h,λ_ _ _ h1 h2=>gK h1 h2⟩
theorem Bd{prog:aA}{w:av}{A:az}{s:af}{h0:Heap}{l:List ak}(hk:∀b o,h0.get? b=some o->s.heap.get? b=some o)(hl:∀x∈l,∃k,TupAt h0 x.1 k):Cmp prog w A s (tuples' true) (·∈l) (λx y=>ltL (cL h0 x) (cL h0 y)):=
 ⟨λx y hx hy Q h=>by
  obtain⟨a,o,its,n,e1,e2,e3,e4,e5⟩:=(hW (hl x hx)).keep hk;obtain⟨a',o',its',n',f1,f2,f3,f4,f5⟩:=(hW (hl y hy)).keep hk;rw[e1,f1];refine kat_lt e2 e4 f2 f4 (mS 0 e5 f5 ?_ h);rw[aR,aR],
  λ_ _ h=>g8 h,λ_ _ _ h1 h2=>gK h1 h2⟩
theorem n8{h:Heap}:∀(l:List ak),(∀x∈l,x.1=x.2/\∃k,TupAt h x.1 k)->bX h (l.map (·.2)) (l.map (cL h))
 | [],_=>.nil
 |x::l,z=>.cons (by have:=z x a8;show TupAt h x.2 _;rw[<-this.1];exact hW this.2) (n8 l λy hy=>z y (aV _ hy))
theorem nV{LT:ak->ak->Bool}{R:ak->Int}{a:Array ak}(S:Seg R a 0 a.size)(K:∀x∈a.toList,∀y∈a.toList,LT x y=decide (R x<R y)):a.toList.Pairwise λx y=>LT y x=false:=by
 rw[List.pairwise_iff_getElem];intro i j hi hj hij;rw[K _ (cz hj) _ (cz hi)];rw[aR]at hi hj;have:=S i j (by lia) hj;unfold Kr at this;have e1:=qh hi;have e2:=qh hj;rw[Array.getElem?_eq_getElem hi]at e1;rw[Array.getElem?_eq_getElem hj]at e2;injection e1 with e1
 injection e2 with e2
 rw[Nat.zero_add,Nat.zero_add,<-e1,<-e2]at this;rw[Array.getElem_toList,Array.getElem_toList];exact decide_eq_false (by lia)
section
variable{prog:aA}{w:av}{A:az}{E:ae->af->Prop}{s:af}
theorem yI{h0:Heap}{a:Addr}{vs:List ae}{ks:List (List Int)}{P:Fin->af->Prop}(hoL:s.heap.get? a=some (aG "list" vs.toArray 0))(keep:∀b o,h0.get? b=some o->s.heap.get? b=some o)(hap:∀b o,h0.get? b=some o->b≠a)(h2:2<=vs.length)(hz:vs.length<=aL)(t:bX h0 vs ks)(hed:ks.head? = some []\/∀k∈ks,k≠[])(hu:A.units<cLine)
  (h:∀(out:List ae) (ks':List (List Int)),out.Perm vs->bX h0 out ks'->ks'.Pairwise (λa b=>ltL b a=false)->P (.done (.ret .none)) {s with heap:=sortedHeap s.heap a vs out.toArray}) :
  ao (aq prog w) A (Builtin.«list.sort» ⟨[.ref a],[]⟩) P E s:=by
 rw[list_sort_plain];refine ah (listItems_at  hoL rfl ?_);refine ah (listUpdate_at  hoL rfl ?_ (by rw[aO];exact hz) (br _));obtain⟨e1,ho1⟩:∃e1,(s.heap.update a (ba λ_=>#[])).get? a=some (aG "list" #[] e1):=⟨_,get?_update_seq hoL (λ_=>#[])⟩
 refine ah (seqEpoch_at ho1 rfl ?_);refine ah (wpAny_newTuple ?_ (by show vs.length<=_;exact hz));refine ah (wpAny_newList ?_ (br _));refine bJ ?_;have hlt:a<s.heap.objs.size:=aK hoL;have k6:∀b o,h0.get? b=some o->(((s.heap.update a (ba λ_=>#[])).push (aG "tuple" vs.toArray 0)).push (aG "list" #[] 0)).get? b=some o:=λb o q=>
  Heap.get?_push_of_some _ (Heap.get?_push_of_some _ (by rw[Heap.get?_update_ne _ _ _ _ (hap b o q)];exact keep b o q))
 have ho6:(((s.heap.update a (ba λ_=>#[])).push (aG "tuple" vs.toArray 0)).push (aG "list" #[] 0)).get? a=some (aG "list" #[] e1):=Heap.get?_push_of_some _ (Heap.get?_push_of_some _ ho1);show ao (aq prog w) _ _ _ _ {s with heap:=((s.heap.update a (ba λ_=>#[])).push (aG "tuple" vs.toArray 0)).push (aG "list" #[] 0)};dsimp only;have h2':¬ vs.toArray.size<2:=by rw[aO];lia
 rw[if_neg h2',if_neg h2'];have pz:(vs.toArray.zip vs.toArray)=pairsOf vs:=rfl;have hx:∀x∈(pairsOf vs).toList,x.1=x.2/\∃k,TupAt h0 x.1 k:=λx hx=>by
  rw[pairsOf_toList]at hx;obtain⟨b1,b2⟩:=mem_zip_self hx;exact⟨b1,t.mem _ b2⟩
 obtain⟨κ,kk,C⟩:∃κ,(∀Q:SortKind->af->Prop,Q κ {s with heap:=((s.heap.update a (ba λ_=>#[])).push (aG "tuple" vs.toArray 0)).push (aG "list" #[] 0)}->ao (aq prog w) A (keyKind' vs.toArray) Q E {s with heap:=((s.heap.update a (ba λ_=>#[])).push (aG "tuple" vs.toArray 0)).push (aG "list" #[] 0)})/\Cmp prog w A {s with heap:=((s.heap.update a (ba λ_=>#[])).push (aG "tuple" vs.toArray 0)).push (aG "list" #[] 0)} κ (·∈(pairsOf vs).toList) (λx y=>ltL (cL h0 x) (cL h0 y)):=by
  rcases hed with hh|hh
  ·refine⟨oneType',λQ q=>?_,Ac k6 (λx z=>(hx x z).2) hu⟩;cases ks with
   |nil=>cases hh
   |cons k ks=>
    cases hh;exact vF (t.keep k6) q
  ·exact⟨tuples' true,λQ q=>kind_all (t.keep k6) (by lia) hh q,Bd k6 λx z=>(hx x z).2⟩
 refine ah (kk _ ?_);have K:=(Df (cL h0)).rank (pairsOf vs).toList;refine ah (bK (mf (Q:=λ_ st'=>(ag st').Perm (pairsOf vs)/\failedOf st'=none/\Seg (i8 (λx y=>ltL (cL h0 x) (cL h0 y)) (pairsOf vs).toList) (ag st') 0 (pairsOf vs).size) C K (λ_ z=>z) rfl rfl rfl rfl (by rw[pairsOf_size];exact h2) λst' z1 z2 z3=>⟨z1,z2,z3⟩) ?_ λ_ _ e=>e);rintro⟨⟨⟩,st'⟩ s' ⟨rfl,pm,fl,sg⟩;dsimp only;have pl:=Array.perm_iff_toList_perm.mp pm;have om:((ag st').map (·.2))=((ag st').toList.map (·.2)).toArray:=by
  generalize ag st'=z;apply Array.toList_inj.mp;rw[Array.toList_map]
 have op:((ag st').toList.map (·.2)).Perm vs:=by
  have:=pl.map (·.2)
  rwa[pairsOf_toList,List.map_snd_zip (aD _)]at this
 have ht:=n8 (ag st').toList λx z=>hx x (pl.mem_iff.mp z)
 have hs:=nV (LT:=λx y=>ltL (cL h0 x) (cL h0 y)) (R:=i8 (λx y=>ltL (cL h0 x) (cL h0 y)) (pairsOf vs).toList) (a:=ag st') (by rw[pm.size_eq];exact sg) λx z1 y z2=>K.rk x y (pl.mem_iff.mp z1) (pl.mem_iff.mp z2)
 have fin:=h _ _ op ht (by rw[List.pairwise_map];exact hs);refine ah (seqEpoch_at ho6 rfl ?_);refine ah (listUpdate_at ho6 rfl ?_ (br _) (by rw[om,aO,op.length_eq];lia));rw[fl];simp only[bne_self_eq_false,aW,if_false];refine aB ?_;rw[om];exact fin
theorem vk{l:Addr}{vs:List ae}{ks:List (List Int)}{Q:ae->af->Prop}(hl:s.heap.IsList l vs.toArray)(h2:2<=vs.length)(hz:vs.length<=aL)(t:bX s.heap vs ks)(hed:ks.head? = some []\/∀k∈ks,k≠[])(hu:A.in1.in1.units<cLine)
  (h:∀(out:List ae) (ks':List (List Int)),out.Perm vs->bX s.heap out ks'->ks'.Pairwise (λa b=>ltL b a=false)->Q (.ref (s.heap.objs.size+1)) {s with heap:=sortedAll s.heap vs out.toArray}) :
  ao (aq prog w) A (call (.builtin "sorted") [.ref l]) Q E s:=by
 refine Calls.call_function_entry kind_sorted plain_sorted entry_sorted (args_sorted1 _) ?_;unfold Builtin.«sorted»;refine ah (m:=checkCount "sorted" 1 1 _) (aB ?_);refine ah (collect_list hl ?_ hz);refine ah (wpAny_newList ?_ hz);have hsz:((s.heap.push (aG "list" #[] 0)).update s.heap.objs.size (ba (· ++ vs.toArray))).objs.size=s.heap.objs.size+1:=by rw[Heap.size_update,size_push']
 have hoL:(((s.heap.push (aG "list" #[] 0)).update s.heap.objs.size (ba (· ++ vs.toArray))).push (aG "list" vs.toArray 0)).get? (s.heap.objs.size+1)=some (aG "list" vs.toArray 0):=by rw[<-hsz];exact Heap.get?_push_size _ rfl
 have keep:∀b o,s.heap.get? b=some o->(((s.heap.push (aG "list" #[] 0)).update s.heap.objs.size (ba (· ++ vs.toArray))).push (aG "list" vs.toArray 0)).get? b=some o:=λb o q=>by
  have hlt:b<s.heap.objs.size:=aK q;rw[Heap.get?_push_ne _ _ _ (by rw[hsz];exact a6 (bR hlt)),Heap.get?_update_ne _ _ _ _ (a6 hlt),Heap.get?_push_ne _ _ _ (a6 hlt)];exact q
 show ao _ _ _ _ _ {s with heap:=((s.heap.push (aG "list" #[] 0)).update s.heap.objs.size (ba (· ++ vs.toArray))).push (aG "list" vs.toArray 0)};rw[hsz];refine ah (bJ (cA slot_list_sort ⟨_,hoL,rfl⟩ entry_list_sort ?body (args_list_sort _)))
 case body=>
  have hap:∀b o,s.heap.get? b=some o->b≠s.heap.objs.size+1:=λb o q=>a6 (bR (aK q))
  refine yI (h0:=s.heap) hoL keep hap h2 hz t hed hu λout ks' a1 a2 a3=>⟨_,rfl,aB ⟨_,rfl,h out ks' a1 a2 a3⟩⟩
end
end TS
namespace L2
open PySem PySem.Spec PyProof.Rows TS
theorem oq:∀{vs:List ae}{a b:List Int},a7 vs a->a7 vs b->a=b
 |_,_,_,.nil,.nil=>rfl
 |_,_,_,.cons n t h,h'=>by
  cases h' with
  |cons n' t' h''=>rw[oq h h'']
theorem nB{h:Heap}{v:ae}{a b:List Int}(x:TupAt h v a)(y:TupAt h v b):a=b:=by
 obtain⟨p,o,its,n,rfl,e2,_,e4,e5⟩:=x;obtain⟨p',o',its',n',f1,f2,_,f4,f5⟩:=y;cases f1;rw[e2]at f2;cases f2;rw[e4]at f4;cases f4;exact oq e5 f5
theorem j_{h:Heap}{f:Addr->List Int}:∀(ps:List Addr),(∀p∈ps,TupAt h (.ref p) (f p))->bX h (ps.map bq) (ps.map f)
 | [],_=>.nil
 |p::ps,z=>.cons (z p a8) (j_ ps λq hq=>z q (aV _ hq))
theorem Bp{h:Heap}{vs:List ae}{a b:List (List Int)}(x:bX h vs a)(y:bX h vs b):a=b:=by
 induction x generalizing b with
 |nil=>cases y;rfl
 |cons t _ ih=>
  cases y with
  |cons t' y'=>rw[nB t t',ih y']
theorem AM{ps:List Addr}:∀{us:List ae},Vals (ps.map V.ref) us->us=ps.map ae.ref:=by
 induction ps with
 |nil=>intro us r;cases r;rfl
 |cons p ps ih=>
  intro us r;cases r with
  |cons h t=>rw[ih t,show _=bq p from h];rfl
theorem pJ:∀(ps:List Addr),Vals (ps.map V.ref) (ps.map bq)
 | []=>.nil
 |p::ps=>.cons rfl (pJ ps)
noncomputable def fI:ae->Addr
 | .ref a=>a
 |_=>0
noncomputable def yZ(K:aC):List V->Hp->VK->Prop:=λvs H Q=>∃(l:Addr) (p:Addr) (ps:List Addr) (f:Addr->List Int),vs=[.ref l]/\SqL K H l ((p::ps).map V.ref)/\ps≠[]/\(f p=[]\/∀q∈p::ps,f q≠[]) /\
 (∀q∈p::ps,SqT K H q ((f q).map V.int))/\∀(D:Addr) (qs:List Addr),H D=none->qs.Perm (p::ps)->(qs.map f).Pairwise (λa b=>ltL b a=false)->Q (.ref D) (upd H D (.lst (qs.map V.ref)))
theorem t4{X:Cx}(hu:X.A.in1.in1.units<cLine):qY X (.builtin "sorted") (yZ X.K):=by
 intro pins s σ H xs us Q I r h;obtain⟨l,p,ps,f,rfl,hl,hne,hf,hp,q⟩:=h;obtain⟨u,rfl,ru⟩:=r.one;cases ru;obtain⟨its,rv,pl,hz⟩:=I.list hl;have ei:=AM rv;subst ei;have tp:∀z∈p::ps,TupAt s.heap (.ref z) (f z):=λz hz=>by
  obtain⟨its,r2,⟨o,e1,e2,n,e3⟩,_⟩:=I.tuple (hp z hz);exact⟨z,o,its.toArray,n,rfl,e1,e2,e3,by simpa using intsAre_of r2⟩
 have t:=j_ (p::ps) tp;have hz':((p::ps).map bq).length<=sizeLine:=by simpa using hz
 refine vk pl.isList (by cases ps with
  |nil=>exact absurd rfl hne
  |cons _ _=>simp) hz' t (by
   rcases hf with hf|hf
   ·left;rw[a5,hf];rfl
   ·right;intro k hk;obtain⟨q,hq,rfl⟩:=bt.mp hk;exact hf q hq) hu λout ks' op ot os=>?_
 have eo:out=(out.map fI).map ae.ref:=by
  rw[bN]
  conv=>lhs;rw[<-List.map_id out]
  refine List.map_congr_left λv hv=>?_
  obtain⟨a,_,rfl⟩:=bt.mp (op.mem_iff.mp hv)
  rfl
 have qp:(out.map fI).Perm (p::ps):=by
  have:=op.map fI
  rwa[bN,show (fI∘bq)=id from rfl,List.map_id]at this
 have ek:ks'=(out.map fI).map f:=by
  rw[eo]at ot;exact Bp ot (j_ _ λz hz=>tp z (qp.mem_iff.mp hz))
 subst ek;obtain⟨c,hc⟩:=sortedAll_at s.heap ((p::ps).map bq) out.toArray;have hD0:s.heap.get? (s.heap.objs.size+1)=none:=Heap.get?_none_of_le (Nat.le_succ _);have q':=q (s.heap.objs.size+1) (out.map fI) (I.hok.free_of hD0) qp os;refine⟨.ref (s.heap.objs.size+1),_,I.newList (s':={s with heap:=sortedAll s.heap ((p::ps).map bq) out.toArray}) (c:=c) (its:=out) rfl rfl (λb o _ e=>sortedAll_old e) (λm hm=>hm.keeps λb o e=>sortedAll_old e) hD0 (Nat.ne_of_gt (bR I.lt)) hc (by have:=pJ (out.map fI);rwa[<-eo]at this) (by rw[aP,aP,op.length_eq];exact hz'),rfl,q'⟩
noncomputable def nY(K:aC):List V->Hp->VK->Prop:=λvs H Q=>∃(l:Addr) (as:List Addr) (ts:List (List Int)),vs=[.ref l]/\SqL K H l (as.map V.ref)/\as.length=ts.length/\2<=ts.length/\(ts[0]? = some []\/∀t∈ts,t≠[]) /\
 (∀(i:Nat) a t,as[i]? = some a->ts[i]? = some t->SqT K H a (t.map V.int)) /\
 ∀(D:Addr) (qs:List Addr) (f:Addr->List Int),H D=none->qs.Perm as->(∀(i:Nat) a t,as[i]? = some a->ts[i]? = some t->f a=t)->(qs.map f).Pairwise (λa b=>ltL b a=false)->Q (.ref D) (upd H D (.lst (qs.map V.ref)))
theorem uz{X:Cx}(hu:X.A.in1.in1.units<cLine):qY X (.builtin "sorted") (nY X.K):=by
 intro pins s σ H xs us Q I r h;obtain⟨l,as,ts,rfl,hl,hlen,h2,h0,ht,q⟩:=h;have tp:∀(i:Nat) a t,as[i]? = some a->ts[i]? = some t->TupAt s.heap (.ref a) t:=λi a t ha hb=>by
  obtain⟨its,r2,⟨o,e1,e2,n,e3⟩,_⟩:=I.tuple (ht i a t ha hb);exact⟨a,o,its.toArray,n,rfl,e1,e2,e3,by simpa using intsAre_of r2⟩
 let f:Addr->List Int:=λa=>ts.getD (as.idxOf a) []
 have hf:∀(i:Nat) a t,as[i]? = some a->ts[i]? = some t->f a=t:=λi a t ha hb=>by
  have hm:a∈as:=List.mem_of_getElem? ha;have hi:=List.idxOf_lt_length_of_mem hm;have e1:as[as.idxOf a]? = some a:=by rw[List.getElem?_eq_getElem hi];simp
  have e2:ts[as.idxOf a]? = some (f a):=by
   have:as.idxOf a<ts.length:=by lia
   simp[f,this]
  exact nB (tp _ _ _ e1 e2) (tp _ _ _ ha hb)
 match as,hlen with
 | [],hlen=>simp at hlen;lia
 |p::ps,hlen=>
  have hne:ps≠[]:=λz=>by subst z;simp at hlen;lia
  refine t4 hu pins s σ H _ us Q I r ⟨l,p,ps,f,rfl,hl,hne,?_,λa ha=>?_,λD qs hD hp hs=>q D qs f hD hp hf hs⟩
  ·rcases h0 with h0|h0
   ·exact .inl (hf 0 p [] (by simp) h0)
   ·refine .inr λa ha=>?_
    obtain⟨i,hi,rfl⟩:=List.getElem_of_mem ha;have hi':i<ts.length:=by lia
    rw[hf i (p::ps)[i] ts[i] (by simp) (by simp)];exact h0 _ (cz hi')
  obtain⟨i,hi,rfl⟩:=List.getElem_of_mem ha;have hi':i<ts.length:=by lia
  have e:=ht i (p::ps)[i] ts[i] (by simp) (by simp)
  rwa[<-hf i (p::ps)[i] ts[i] (by simp) (by simp)]at e
noncomputable def mv(K:aC):List V->Hp->VK->Prop:=λvs H Q=>∃(l:Addr) (xs:List V),vs=[.ref l]/\SqL K H l xs/\xs.length<2/\∀D,H D=none->Q (.ref D) (upd H D (.lst xs))
theorem pR{X:Cx}:qY X (.builtin "sorted") (mv X.K):=by
 intro pins s σ H xs us Q I r h;obtain⟨l,ys,rfl,hl,h2,q⟩:=h;obtain⟨u,rfl,ru⟩:=r.one;cases ru;obtain⟨its,rv,pl,hz⟩:=I.list hl;have hl':=rv.length;refine BM pl.isList (by lia) ?_;obtain⟨c,hc⟩:=sortedAll_at s.heap its its.toArray;have hD0:s.heap.get? (s.heap.objs.size+1)=none:=Heap.get?_none_of_le (Nat.le_succ _);exact⟨.ref (s.heap.objs.size+1),_,I.newList (s':={s with heap:=sortedAll s.heap its its.toArray}) (c:=c) rfl rfl (λb o _ e=>sortedAll_old e) (λm hm=>hm.keeps λb o e=>sortedAll_old e) hD0 (Nat.ne_of_gt (bR I.lt)) hc rv (by rw[bf];lia),rfl,q _ (I.hok.free_of hD0)⟩
end L2
namespace L2
open PySem PySem.Spec PyProof.Rows
section
variable{X:Cx}
end
section
variable{X:Cx}
end
end L2
namespace EV
open PySem PySem.Spec PySem.P PyProof.Rows L2
theorem insI_perm(i:Int):∀l,(insI i l).Perm (i::l)
 | []=>.refl _
 |j::r=>by
  unfold insI;split
  ·exact .refl _
  ·exact((insI_perm i r).cons j).trans (.swap ..)
theorem sortI_perm:∀l,(sortI l).Perm l
 | []=>.refl _
 |i::r=>(insI_perm i _).trans ((sortI_perm r).cons i)
theorem mN(i:Int):∀{l:List Int},l.Pairwise (·<=·)->(insI i l).Pairwise (·<=·)
 | [],_=>by simp[insI]
 |j::r,h=>by
  unfold insI;obtain⟨h1,h2⟩:=List.pairwise_cons.mp h;split
  ·rename_i hij
   refine List.pairwise_cons.mpr ⟨λx hx=>?_,h⟩;rcases aN.mp hx with rfl|hx
   ·exact hij
   ·exact Int.le_trans hij (h1 x hx)
  ·rename_i hij
   refine List.pairwise_cons.mpr ⟨λx hx=>?_,mN i h2⟩;rcases aN.mp ((insI_perm i r).mem_iff.mp hx)with rfl|hx
   ·lia
   ·exact h1 x hx
theorem oJ:∀l:List Int,(sortI l).Pairwise (·<=·)
 | []=>.nil
 |i::r=>mN i (oJ r)
theorem gU{l m:List Int}(h1:m.Perm l)(h2:m.Pairwise (·<=·)):m=sortI l:=PySem.W.ksm_same (h1.trans (sortI_perm l).symm) h2 (oJ l)
theorem pd:∀(a b:List Int),du a b=TS.ltL a b
 | [],[]=>rfl
 | [],_::_=>rfl
 |_::_,[]=>rfl
 |a::r,b::t=>by
  unfold du TS.ltL;rw[pd r t]
theorem kh(p:List Int):∀l,(eU p l).Perm (p::l)
 | []=>.refl _
 |j::r=>by
  unfold eU;split
  ·exact((kh p r).cons j).trans (.swap ..)
  ·exact .refl _
theorem kH:∀l,(zA l).Perm l
 | []=>.refl _
 |i::r=>(kh i _).trans ((kH r).cons i)
theorem pv(p:List Int):∀{l:List (List Int)},l.Pairwise (λa b=>TS.ltL b a=false)->(eU p l).Pairwise (λa b=>TS.ltL b a=false)
 | [],_=>by simp[eU]
 |j::r,h=>by
  unfold eU;obtain⟨h1,h2⟩:=List.pairwise_cons.mp h;rw[pd];split
  ·rename_i hij
   refine List.pairwise_cons.mpr ⟨λx hx=>?_,pv p h2⟩;rcases aN.mp ((kh p r).mem_iff.mp hx)with rfl|hx
   ·exact TS.g8 hij
   ·exact h1 x hx
  ·rename_i hij
   have hij':TS.ltL j p=false:=by simpa using hij
   refine List.pairwise_cons.mpr ⟨λx hx=>?_,h⟩;rcases aN.mp hx with rfl|hx
   ·exact hij'
   ·exact TS.gK hij' (h1 x hx)
theorem nt:∀l:List (List Int),(zA l).Pairwise (λa b=>TS.ltL b a=false)
 | []=>.nil
 |i::r=>pv i (nt r)
theorem lT{l m:List (List Int)}(h1:m.Perm l)(h2:m.Pairwise (λa b=>TS.ltL b a=false)):m=zA l:=
 (h1.trans (kH l).symm).eq_of_pairwise (λa b _ _ z1 z2=>TS.ph z2 z1) h2 (nt l)
section
variable{X:Cx}{g:Gc}
theorem qV.tups{H:Hp}{ds:List D}:∀{vs:List V}{ts:List (List Int)},qV g H ds vs->tups? ds=some ts->ds=ts.map fQ/\∃as:List Addr,vs=as.map V.ref/\as.length=ts.length/\∀(i:Nat) a t,as[i]? = some a->ts[i]? = some t->SqT g.K H a (t.map V.int)/\Rep g H (fQ t) (.ref a):=by
 induction ds with
 |nil=>intro vs ts h e;cases h;cases e;exact⟨rfl,[],rfl,rfl,λi a p h=>by cases h⟩
 |cons d ds ih=>
  intro vs ts h e;cases h with
  |cons h t=>cases d with
   |tup xs=>
    obtain⟨n,e0,e⟩:=aH.mp (show (ints? xs).bind (λn=>(tups? ds).map (n :: ·))=some ts from e);obtain⟨ms,e1,rfl⟩:=bA.mp e;obtain⟨h1,as,h2,h3,h4⟩:=ih t e1;have hh:=h;cases h with
    | @tup a _ _ q r=>
     obtain⟨rfl,e2⟩:=r.ints e0;refine⟨by rw[h1,e2];rfl,a::as,by rw[h2];rfl,congrArg (· + 1) h3,λi b p hb hp=>?_⟩;cases i with
     |zero=>cases hb;cases hp;exact⟨q,by rw[e2]at hh;exact hh⟩
     |succ i=>exact h4 i b p hb hp
   |_=>cases (show none=some ts from e)
theorem qV.pairs{H:Hp}{ds:List D}:∀{vs:List V}{ps:List (Int×Int)},qV g H ds vs->pairs? ds=some ps->ds=ps.map pairD/\∃as:List Addr,vs=as.map V.ref/\as.length=ps.length/\∀(i:Nat) a p,as[i]? = some a->ps[i]? = some p->SqT g.K H a [.int p.1,.int p.2]:=by
 induction ds with
 |nil=>intro vs ps h e;cases h;cases e;exact⟨rfl,[],rfl,rfl,λi a p h=>by cases h⟩
 |cons d ds ih=>
  intro vs ps h e;have no:∀{P:Prop},pairs? (d::ds)=none->P:=λz=>by rw[z]at e;cases e
  cases h with
  |cons h t=>cases d with
   |tup xs=>cases xs with
    |nil=>exact no rfl
    |cons a xs=>cases a with
     |int x=>cases xs with
      |nil=>exact no rfl
      |cons b xs=>cases b with
       |int y=>cases xs with
        |cons _ _=>exact no rfl
        |nil=>
         obtain⟨ms,e1,rfl⟩:=bA.mp (show (pairs? ds).map ((x,y) :: ·)=some ps from e);obtain⟨h1,as,h2,h3,h4⟩:=ih t e1;cases h with
         | @tup a xs _ q r=>
          obtain⟨rfl,_⟩:=r.ints (ns:=[x,y]) rfl;refine⟨by rw[h1];rfl,a::as,by rw[h2];rfl,congrArg (· + 1) h3,λi b p hb hp=>?_⟩;cases i with
          |zero=>cases hb;cases hp;exact q
          |succ i=>exact h4 i b p hb hp
       |_=>exact no rfl
     |_=>exact no rfl
   |_=>exact no rfl
theorem nq{H:Hp}:∀{ts:List (List Int)}{as:List Addr},as.length=ts.length->(∀(i:Nat) a t,as[i]? = some a->ts[i]? = some t->Rep g H (fQ t) (.ref a))->qV g H (ts.map fQ) (as.map V.ref)
 | [],[],_,_=>.nil
 |t::ts,a::as,e,h=>.cons (h 0 a t rfl rfl) (nq (by simpa using e) λi b u hb hu=>h (i+1) b u (by simpa using hb) (by simpa using hu))
theorem jT:∀{xs:List D}{ps:List (Int×Int)},pairs? xs=some ps->tups? xs=some (ps.map λp=>[p.1,p.2])
 | [],_,h=>by cases h;rfl
 | .tup [.int i,.int j]::r,ps,h=>by
  simp only[pairs?,bA]at h;obtain⟨qs,h1,rfl⟩:=h;show (some [i,j]).bind (λn=>(tups? r).map (n :: ·))=_;rw[jT h1];rfl
theorem o5(p:Int×Int):∀qs:List (Int×Int),eU [p.1,p.2] (qs.map λp=>[p.1,p.2])=(jq p qs).map λp=>[p.1,p.2]
 | []=>rfl
 |q::r=>by
  have e:du [q.1,q.2] [p.1,p.2]=ltP q p:=by
   simp only[du,ltP];by_cases h:q.1=p.1
   ·rw[if_pos h,if_pos h];by_cases h':q.2=p.2
    ·rw[if_pos h',h'];simp
    ·rw[if_neg h']
   ·rw[if_neg h,if_neg h]
  rw[a5,eU,jq,e,o5 p r];cases ltP q p<;>rfl
theorem k_:∀qs:List (Int×Int),zA (qs.map λp=>[p.1,p.2])=(ee qs).map λp=>[p.1,p.2]
 | []=>rfl
 |q::r=>by rw[a5,zA,ee,k_ r,o5]
theorem sZ{xs:List D}{ps:List (Int×Int)}(h:pairs? xs=some ps)(h2:2<=ps.length):cR xs=.ok (.lst ((ee ps).map pairD)):=by
 rw[cR,jT h];have e:eB (ps.map λp=>[p.1,p.2])=true:=by
  match ps,h2 with
  |p::q::r,_=>simp[eB]
 show (if eB _=true then _ else _)=_;rw[e,if_pos rfl,k_,bN]
 rfl
theorem vM(hK:X.K=g.K)(hu:X.A.units+64<cLine)(hc:X.calm=true):qY X (.builtin "sorted") (rB1 g .sorted):=fB (((Ce.or (pR.or (pR.or (uz (show X.A.units+1+1<cLine by lia))))).or v_).or (BW hc)) λS ds d vs H Q hs rs h q=>by
 obtain⟨x,rfl,h'⟩:=iJ (λ_ _=>rfl) h;by_cases htu:∃xs,x=.tup xs
 ·obtain⟨xs,rfl⟩:=htu;have h':(if xs.length<64 then cg (ints? xs) λns=>.ok (.lst ((sortI ns).map D.int))else .no)=R.ok d:=h';split at h'
  ·rename_i hz
   obtain⟨ns,e,h2⟩:=ja h';cases h2;cases rs with
   |cons r rs=>
    cases rs;obtain⟨a,us,rfl,h1,r1⟩:=r.tup;obtain⟨rfl,rfl⟩:=r1.ints e;refine .inl (.inr ⟨a,ns,rfl,by rw[hK];exact h1,by simpa using hz,λp ms hp pm pw=>?_⟩);rw[gU pm pw];exact q _ _ (qU hp) (zN hs hp (qV.ofInts _)) λ_=>dW (qa.refl _) hp (qV.ofInts _)
  ·cases h'
 by_cases hdi:∃kvs,x=.dic kvs
 ·obtain⟨kvs,rfl⟩:=hdi;have h':(if kvs.length<64 then R.ok (D.lst ((sortI (kvs.map (·.1))).map D.int))else .no)=R.ok d:=h';split at h'
  ·rename_i hz
   cases h';cases rs with
   |cons r rs=>
    cases rs;obtain⟨a,rfl,h1⟩:=r.dic;refine .inr ⟨a,kvs,rfl,h1,hz,λp ms hp pm pw=>?_⟩;rw[gU pm pw];exact q _ _ (qU hp) (zN hs hp (qV.ofInts _)) λ_=>dW (qa.refl _) hp (qV.ofInts _)
  ·cases h'
 refine .inl (.inl ?_);have h':(ez x λxs=>if xs.length<64 then (match ints? xs with
   |some ns=>.ok (.lst ((sortI ns).map D.int))
   |none=>match pairs? xs with
    |some ps=>.ok (.lst ((ee ps).map pairD))
    |none=>cR xs)else cR xs)=.ok d:=by cases x<;>first|exact absurd ⟨_,rfl⟩ htu|exact absurd ⟨_,rfl⟩ hdi|exact h'
 obtain⟨xs,rfl,h2⟩:=jS h'
 replace h:=h2
 cases rs with
 |cons r rs=>
  cases rs;obtain⟨a,us,rfl,h1,r1⟩:=r.lst;have big:cR xs=.ok d->mv X.K [.ref a] H Q\/nY X.K [.ref a] H Q:=λh=>by
   obtain⟨ts,e,h⟩:=ja h;split at h
   ·rename_i hh
    cases h;by_cases h1t:∃t,ts=[t]
    ·obtain⟨t,rfl⟩:=h1t;have hxs:xs=[fQ t]:=(r1.tups e).1;subst hxs;refine .inl ⟨a,us,rfl,by rw[hK];exact h1,?_,λp hn=>?_⟩
     ·have:=r1.length;simp at this;lia
     ·exact q _ _ (qU hn) (zN hs hn r1) λ_=>dW (qa.refl _) hn r1
    refine .inr ?_;obtain⟨rfl,as,rfl,hl,hp⟩:=r1.tups e;have hh':2<=ts.length/\(ts[0]? = some []\/∀t∈ts,t≠[]):=by
     match ts,hh,h1t with
     | [t],_,z=>exact absurd ⟨t,rfl⟩ z
     |p::q::r,hh,_=>
      refine⟨by simp,?_⟩;rw[eB,bL]at hh;rcases hh with hh|hh
      ·exact .inl (by simpa using hh)
      ·exact .inr λt ht=>by simpa using dC.mp hh t ht
    refine⟨a,as,ts,rfl,by rw[hK];exact h1,hl,hh'.1,hh'.2,λi b t hb ht=>by rw[hK];exact eW dv (hp i b t hb ht).1,λD qs f hn pm hf ps=>?_⟩;have e1:as.map f=ts:=by
     refine List.ext_getElem (by simp[hl]) λi h1 h2=>?_
     rw[dj];have:i<as.length:=by simpa using h1
     exact hf i as[i] ts[i] (by simp[this]) (by simp[h2])
    have e2:qs.map f=zA ts:=lT (by have:=pm.map f;rwa[e1]at this) ps;have hR:qV g (hid H S) ((zA ts).map fQ) (qs.map V.ref):=by
     rw[<-e2];refine nq (by simp) λi b t hb ht=>?_
     have hm:b∈as:=pm.mem_iff.mp (List.mem_of_getElem? hb);obtain⟨j,hj,rfl⟩:=List.getElem_of_mem hm;have hj':j<ts.length:=by lia
     have e3:t=ts[j]:=by
      have e4:=hf j as[j] ts[j] (by simp[hj]) (by simp[hj']);rw[List.getElem?_map,hb]at ht;simp at ht;rw[<-ht,e4]
     rw[e3];exact(hp j as[j] ts[j] (by simp[hj]) (by simp[hj'])).2
    exact q _ _ (qU hn) (zN hs hn hR) λ_=>dW (qa.refl _) hn hR
   ·cases h
  by_cases hz:xs.length<64
  ·rw[if_pos hz]at h;cases e:ints? xs with
   |some ns=>
    rw[e]at h;cases h;obtain⟨rfl,rfl⟩:=r1.ints e;refine .inl ⟨a,ns,rfl,by rw[hK];exact h1,by simpa using hz,λp ms hp pm pw=>?_⟩;rw[gU pm pw];exact q _ _ (qU hp) (zN hs hp (qV.ofInts _)) λ_=>dW (qa.refl _) hp (qV.ofInts _)
   |none=>
    rw[e]at h;cases e2:pairs? xs with
    |none=>rw[e2]at h;exact .inr (.inr (big h))
    |some ps=>
     rw[e2]at h;cases h;obtain⟨rfl,as,rfl,hl,hp⟩:=r1.pairs e2;by_cases h2:2<=ps.length
     ·exact .inr (.inr (big (sZ e2 h2)))
     ·have e3:ee ps=ps:=by
       match ps,h2 with
       | [],_=>rfl
       | [_],_=>rfl
       |_::_::r,h=>exact absurd (show 2<=r.length+1+1 by lia) h
      refine .inr (.inl ⟨a,as.map V.ref,rfl,by rw[hK];exact h1,by rw[aP];lia,λp hn=>?_⟩);rw[e3]at q;exact q _ _ (qU hn) (zN hs hn r1) λ_=>dW (qa.refl _) hn r1
  ·rw[if_neg hz]at h;exact .inr (.inr (big h))
theorem lW(hK:X.K=g.K)(hc:X.calm=true)(mx:Bool):qY X (.builtin (if mx then "max" else "min")) (rB1 g (if mx then .max else .min)):=by
 have two:∀{S:Sh}{H:Hp}{x y:D}{vs:List V}{i j:Int},x=.int i->y=.int j->fA g H S [x,y] vs->vs=[.int i,.int j]:=by
  intro S H x y vs i j hx hy rs;subst hx hy;cases rs with
  |cons r1 rs=>
   cases rs with
   |cons r2 rs=>cases rs;rw[r1.int,r2.int]
 have inv:∀{b:B1}{ds:List D}{d:D},b1 b ds=.ok d->(∃x,ds=[x]/\b11 b x=.ok d)\/∃x y,ds=[x,y]/\b12 b x y=.ok d:=by
  intro b ds d h
  match ds,h with
  | [x],h=>exact .inl ⟨x,rfl,h⟩
  | [x,y],h=>exact .inr ⟨x,y,rfl,h⟩
  | [],h=>cases h
  |_::_::_::_,h=>cases h
 cases mx
 ·exact fB (wK hc) λS ds d vs H Q hs rs h q=>by
   rcases inv h with ⟨x,rfl,h'⟩|⟨x,y,rfl,h'⟩
   ·cases h'
   ·obtain⟨i,j,hx,hy,h'⟩:=l5 h';cases h';exact⟨i,j,two hx hy rs,q _ _ (qa.refl _) (.int _) (by simp)⟩
 ·exact fB (AF hc) λS ds d vs H Q hs rs h q=>by
   rcases inv h with ⟨x,rfl,h'⟩|⟨x,y,rfl,h'⟩
   ·cases h'
   ·obtain⟨i,j,hx,hy,h'⟩:=l5 h';cases h';exact⟨i,j,two hx hy rs,q _ _ (qa.refl _) (.int _) (by simp)⟩
theorem sN{S:Sh}{H:Hp}{vs:List V}{i:Int}(rs:fA g H S [.int i] vs):vs=[.int i]:=by
 cases rs with
 |cons r1 rs=>cases rs;rw[r1.int]
theorem xB{S:Sh}{H:Hp}{vs:List V}{i:Bool}(rs:fA g H S [.bl i] vs):vs=[.bl i]:=by
 cases rs with
 |cons r1 rs=>cases rs;rw[r1.bl]
theorem rY:qY X (.builtin "abs") (rB1 g .abs):=kZ (λ_=>rfl) λ_ _=>rfl
theorem wO:qY X (.type "int") (rB1 g .int):=fB tW λS ds d vs H Q hs rs h q=>by
 obtain⟨x,rfl,h'⟩:=iJ (λ_ _=>rfl) h;rcases y8 h' with ⟨i,rfl,h'⟩|⟨i,rfl,h'⟩
 ·cases h';exact .inl ⟨i,sN rs,q _ _ (qa.refl _) (.int _) (by simp)⟩
 ·cases h';exact .inr ⟨i,xB rs,q _ _ (qa.refl _) (.int _) (by simp)⟩
theorem CC:qY X (.type "bool") (rB1 g .bool):=kZ (λ_=>rfl) λ_ _=>rfl
theorem A'(hK:X.K=g.K)(hc:X.calm=true):qY X (.builtin "sum") (rB1 g .sum):=kZ (λ_=>rfl) λ_ _=>rfl
theorem l4(hK:X.K=g.K)(hu:X.A.units+64<cLine):∀b,(X.calm=true\/b=.len\/b=.abs\/b=.tuple\/b=.list\/b=.int\/b=.bool)->qY X (b1V b) (rB1 g b)
 | .len,_=>sR hK
 | .tuple,_=>Dr hK
 | .list,_=>De hK
 | .sorted,h=>vM hK hu (by simpa using h)
 | .all,h=>mK hK (by simpa using h) true
 | .any,h=>mK hK (by simpa using h) false
 | .sum,h=>A' hK (by simpa using h)
 | .min,h=>lW hK (by simpa using h) false
 | .max,h=>lW hK (by simpa using h) true
 | .abs,_=>rY
 | .int,_=>wO
 | .bool,_=>CC
theorem mJ{H:Hp}{ds:List D}{vs:List V}(r:qV g H ds vs):ds.isEmpty=vs.isEmpty:=by cases r<;>rfl
theorem tD(hK:X.K=g.K){S:Sh}{H:Hp}{d:D}{v:V}{b:Bool}(r:zw g H S d v)(e:truth d=.ok b):k8 X.K v H b:=by
 cases d with
 |non=>cases r.rep;cases e;exact rfl
 |bl c=>cases r.rep;cases e;exact rfl
 |int i=>cases r.rep;cases e;exact rfl
 |tup xs=>
  cases e;obtain⟨a,vs,rfl,h1,r1⟩:=r.tup;exact .inr (.inl ⟨vs,by rw[hK];exact h1,by rw[mJ r1]⟩)
 |lst xs=>
  cases e;obtain⟨a,vs,rfl,h1,r1⟩:=r.lst;exact .inl ⟨vs,by rw[hK];exact h1,by rw[mJ r1]⟩
 |_=>cases e
theorem uu(hK:X.K=g.K):qY X (.builtin "isinstance") (λxs H Q=>∃S d v n t,xs=[v,.ty n]/\zw g H S d v/\tyD d=some t/\n∈["int","bool","str","list","tuple"]/\Q (.bl (fU t n)) H):=by
 intro pins s σ H xs us Q I r h;obtain⟨S,d,v,n,t,rfl,rd,ht,hn,q⟩:=h;obtain⟨u,cu,rfl,rx,rc⟩:=r.two;cases rc;have fin:∀tk,EP X pins σ Q (.bool (fU t n)) {s with toks:=tk}:=λtk=>⟨.bl _,H,I.tok tk,rfl,q⟩
 have kb:t∈["NoneType","bool","int","str","list","tuple","dict"]->cb X.K (.type t) (.type n)=some (fU t n):=λh=>wW h hn
 cases d with
 |non=>cases ht;cases rd.rep;exact iy I rx .non (kb (by simp)) fin
 |bl c=>cases ht;cases rd.rep;exact iy I rx (.bl c) (kb (by simp)) fin
 |int i=>cases ht;cases rd.rep;exact iy I rx (.int i) (kb (by simp)) fin
 |str i=>cases ht;cases rd.rep;exact iy I rx (.str i) (kb (by simp)) fin
 |tup xs=>
  cases ht;obtain⟨a,vs,rfl,h1,_⟩:=rd.tup;cases rx;obtain⟨its,_,⟨o,e1,e2,_⟩,_⟩:=I.tuple (by rw[hK];exact h1);exact bQ PySem.W.kitx_tuple I.kIn ⟨o,e1,e2⟩ (kb (by simp)) (λz=>nomatch z) fin
 |lst xs=>
  cases ht;obtain⟨a,vs,rfl,h1,_⟩:=rd.lst;cases rx;obtain⟨its,_,pl,_⟩:=I.list (by rw[hK];exact h1);obtain⟨o,e1,e2,_⟩:=pl.isList;exact bQ PySem.W.kitx_list I.kIn ⟨o,e1,e2⟩ (kb (by simp)) (λz=>nomatch z) fin
 |dic=>
  cases ht;cases rd.rep with
  |dic h1=>exact iy I rx (.dK h1) (kb (by simp)) fin
 |_=>cases ht
end
theorem BX{o:O2}{a b:Int}{c:Str}:opI o a b≠.ex c:=by
 cases o<;>simp only[opI]<;>(try split)<;>intro h<;>cases h
theorem yW{o:O2}{a b:D}{c:Str}:op2 o a b≠.ex c:=by
 unfold op2;split
 ·exact BX
 all_goals ((try split)<;>intro h<;>cases h)
theorem Cm{n:Bool}{a b:D}{c:Str}:isB n a b≠.ex c:=by
 unfold isB;split<;>intro h<;>cases h
theorem nv{a b:D}{c:Str}:eY a b≠.ex c:=by
 unfold eY;split<;>(try split)<;>intro h<;>cases h
theorem CS{a b:D}{c:Str}:((eY a b).bind λr=>R.ok !r)≠.ex c:=by
 intro h;cases e:eY a b with
 |ok r=>rw[e]at h;cases h
 |ex z=>exact nv e
 |no=>rw[e]at h;cases h
theorem AB{o:C2}{a b:D}{c:Str}:qE o a b≠.ex c:=by
 unfold qE;split<;>(try split)<;>(try split)<;>intro h<;>first|(cases h;done)|exact Cm h|exact nv h|exact CS h
theorem yN{a:D}{c:Str}:truth a≠.ex c:=by
 unfold truth;split<;>intro h<;>cases h
theorem AY{a b:D}{c:Str}:ixD a b≠.ex c:=by
 unfold ixD;split<;>(try split)<;>intro h<;>cases h
theorem B6{a:D}{l h:Option Int}{c:Str}:slD a l h≠.ex c:=by
 unfold slD;split<;>(try split)<;>intro h<;>cases h
theorem j6{x:D}{k:List D->R D}{c:Str}(h:∀xs,k xs≠.ex c):ez x k≠.ex c:=by
 cases x with
 |lst xs=>exact h xs
 |_=>intro z;cases z
theorem DA{x:D}{f:Int->R D}{q:Bool->R D}{c:Str}(h:∀i,f i≠.ex c)(h':∀i,q i≠.ex c):ibR x f q≠.ex c:=by
 cases x with
 |int i=>exact h i
 |bl i=>exact h' i
 |_=>intro z;cases z
theorem ng{x y:D}{k:Int->Int->R D}{c:Str}(h:∀i j,k i j≠.ex c):iiR x y k≠.ex c:=by
 cases x with
 |int i=>
  cases y with
  |int j=>exact h i j
  |_=>intro z;cases z
 |_=>intro z;cases z
theorem fM{α β:Type}{o:Option α}{k:α->R β}{c:Str}(h:∀a,k a≠.ex c):cg o k≠.ex c:=by
 cases o with
 |some a=>exact h a
 |none=>intro z;cases z
theorem dt{α:Type}{a:α}{c:Str}:R.ok a≠.ex c:=by intro z;cases z
theorem dP{α:Type}{c:Str}:(R.no:R α)≠.ex c:=by intro z;cases z
theorem oR{xs:List D}{c:Str}:cR xs≠.ex c:=fM λ_=>by
 split
 ·exact dt
 ·exact dP
theorem v8{b:B1}{d:D}{c:Str}:b11 b d≠.ex c:=by
 cases b with
 |len=>exact fM λ_=>dt
 |tuple=>exact fM λ_=>dt
 |list=>exact fM λ_=>dt
 |all=>exact j6 λ_=>fM λ_=>dt
 |any=>exact j6 λ_=>fM λ_=>dt
 |sorted=>
  by_cases h:∃xs,d=.tup xs
  ·obtain⟨xs,rfl⟩:=h;show (if xs.length<64 then cg (ints? xs) λns=>R.ok (D.lst ((sortI ns).map D.int))else R.no)≠R.ex c;split
   ·exact fM λ_=>dt
   ·exact dP
  by_cases h':∃kvs,d=.dic kvs
  ·obtain⟨kvs,rfl⟩:=h';show (if kvs.length<64 then R.ok (D.lst ((sortI (kvs.map (·.1))).map D.int))else R.no)≠R.ex c;split
   ·exact dt
   ·exact dP
  have e:b11 .sorted d=ez d λxs=>if xs.length<64 then (match ints? xs with
    |some ns=>.ok (.lst ((sortI ns).map D.int))
    |none=>match pairs? xs with
     |some ps=>.ok (.lst ((ee ps).map pairD))
     |none=>cR xs)else cR xs:=by cases d<;>first|exact absurd ⟨_,rfl⟩ h|exact absurd ⟨_,rfl⟩ h'|rfl
  rw[e];refine j6 λ_=>?_
  split
  ·split
   ·exact dt
   ·split
    ·exact dt
    ·exact oR
  ·exact oR
 |abs=>exact dP
 |int=>exact DA (λ_=>dt) λ_=>dt
 |bool=>exact dP
 |sum=>exact dP
 |min=>exact dP
 |max=>exact dP
theorem CK{b:B1}{ds:List D}{c:Str}:b1 b ds≠.ex c:=by
 match ds with
 | []=>exact dP
 | [_]=>exact v8
 | [x,y]=>
  cases b with
  |min=>exact ng λ_ _=>dt
  |max=>exact ng λ_ _=>dt
  |_=>exact dP
 |_::_::_::_=>exact dP
structure bz(g:Gc)(c:Cc)(e:E)(S:Sh)(H:Hp)(d:D)(v:V)(H':Hp):Prop where
 same:qa H H'
 rb:zw g H' S d v
 st:esc e=true->Rep g (hid H' S) d v
 fr:fresh c e=true->Fr g H S H' d v
 frc:zL c e=true->zu d=true->Fr g H S H' d v
structure SE(g:Gc)(c:Cc)(τ:Env)(σ:L2.St)(H:Hp)(S:Sh):Prop where
 len:τ.length=σ.length
 val:∀(i:Nat) (d:D),τ[i]? = some (some d)->∃v,σ[i]? = some (some v)/\zw g H S d v/\∀x,c.N[i]? = some x->c.own.contains x=false->Rep g (hid H S) d v
 sub:Sub S H
theorem SE.up{g:Gc}{c:Cc}{τ:Env}{σ:L2.St}{H H':Hp}{S:Sh}(s:SE g c τ σ H S)(e:qa H H'):SE g c τ σ H' S:=
 ⟨s.len,λi d h=>let ⟨v,h1,h2,h3⟩:=s.val i d h;⟨v,h1,h2.mono e,λx a b=>(h3 x a b).mono (qX e)⟩,s.sub.same e⟩
noncomputable def tR{α:Type}(g:Gc)(E:XK)(H:Hp)(r:R α)(k:α->Prop):Prop:=match r with
 | .ok a=>k a
 | .ex c=>∀H' C,qa H H'->g.clA c=some C->E (.ref C) none H'
 | .no=>False
theorem tR.up{α:Type}{g:Gc}{E:XK}{H H':Hp}{r:R α}{k:α->Prop}(h:tR g E H r k)(e:qa H H'):tR g E H' r k:=by
 cases r with
 |ok a=>exact h
 |ex c=>exact λH2 C e2 hc=>h H2 C (e.trans e2) hc
 |no=>exact h
theorem tR.imp{α:Type}{g:Gc}{E:XK}{H:Hp}{r:R α}{k k':α->Prop}(h:tR g E H r k)(i:∀a,k a->k' a):tR g E H r k':=by
 cases r with
 |ok a=>exact i a h
 |ex c=>exact h
 |no=>exact h
section
variable(w:W)(g:Gc)(c:Cc)(E:XK)
noncomputable def tE(e:EV.E):TE:=λσ H Q=>∃τ S,SE g c τ σ H S/\tR g E H (evE w e τ) λd=>∀v H',bz g c e S H d v H'->Q v H'
noncomputable def tT(t:T):TT:=λσ H Q=>∃τ S,SE g c τ σ H S/\tR g E H (evT w t τ) λb=>∀H',qa H H'->Q b H'
noncomputable def tA(es:Es):TA:=λσ H Q=>∃τ S,SE g c τ σ H S/\tR g E H (zB w es τ) λds=>∀vs H',qa H H'->fA g H' S ds vs->(d_ es=true->qV g (hid H' S) ds vs)->Q vs H'
noncomputable def tOe(o:OE):TO:=λσ H Q=>∃τ S,SE g c τ σ H S/\tR g E H (evO w o τ) λi=>∀H',qa H H'->Q i H'
noncomputable def Goes(g:Gc)(J:L2.It)(ds:List D)(H:Hp)(S:Sh):Prop:=
 (∀i,ds.length<=i->J.stop i H)/\∀i d,ds[i]? = some d->J.go i H/\∀x H',J.yld i H x H'->qa H H'/\Rep g (hid H' S) d x
noncomputable def tIt(it:It):TI:=λσ H R=>∃τ S,SE g c τ σ H S/\tR g E H (evI w it τ) λds=>∀J H',qa H H' ->
 (∀H2 S2,qa H' H2->qa (hid H' S) (hid H2 S2)->Sub S2 H2->Goes g J ds H2 S2)->(owned it=false->∀H2 S2,qa (hid H' S) (hid H2 S2)->Sub S2 H2->Goes g J ds H2 S2)->R J H'
end
theorem PE.imp{X:Cx}{e:Expr}{t t':TE}(h:PE X e t)(i:∀σ H Q,t' σ H Q->t σ H Q):PE X e t':=λpins s σ H Q I q=>h pins s σ H Q I (i _ _ _ q)
theorem PT.imp{X:Cx}{e:Expr}{t t':TT}(h:PT X e t)(i:∀σ H Q,t' σ H Q->t σ H Q):PT X e t':=λpins s σ H Q I q=>h pins s σ H Q I (i _ _ _ q)
theorem PW.imp{X:Cx}{e:Expr}{t t':TT}(h:PW X e t)(i:∀σ H Q,t' σ H Q->t σ H Q):PW X e t':=λwh pins s σ H Q I q=>h wh pins s σ H Q I (i _ _ _ q)
theorem PA.imp{X:Cx}{e:List Expr}{t t':TA}(h:PA X e t)(i:∀σ H Q,t' σ H Q->t σ H Q):PA X e t':=λpos pins s σ H Q I q=>h pos pins s σ H Q I (i _ _ _ q)
theorem PO.imp{X:Cx}{e:Option Expr}{t t':TO}(h:PO X e t)(i:∀σ H Q,t' σ H Q->t σ H Q):PO X e t':=λpins s σ H Q I q=>h pins s σ H Q I (i _ _ _ q)
theorem PI.imp{X:Cx}{tg e:Expr}{t t':TI}(h:PI X tg e t)(i:∀σ H Q,t' σ H Q->t σ H Q):PI X tg e t':=λpins s σ H Q I q=>h pins s σ H Q I (i _ _ _ q)
theorem PS.imp{X:Cx}{e:Stmt}{t t':TS}(h:PS X e t)(i:∀D σ H,t' D σ H->t D σ H):PS X e t':=λpins s σ H Q I q=>h pins s σ H Q I (i _ _ _ q)
theorem PSs.imp{X:Cx}{e:List Stmt}{t t':TS}(h:PSs X e t)(i:∀D σ H,t' D σ H->t D σ H):PSs X e t':=λpins s σ H Q I q=>h pins s σ H Q I (i _ _ _ q)
section
variable{w:W}{g:Gc}{c:Cc}{E:XK}{τ:Env}{σ:L2.St}{H H0:Hp}{S:Sh}
theorem zm{α:Type}{e:EV.E}{f:D->R α}{P:α->Prop}{Q:VK}(se:SE g c τ σ H S)(h:tR g E H ((evE w e τ).bind f) P)(k:∀d v H',evE w e τ=.ok d->bz g c e S H d v H'->tR g E H' (f d) P->Q v H'):tE w g c E e σ H Q:=by
 refine⟨τ,S,se,?_⟩;cases q:evE w e τ with
 |ok d=>rw[q]at h;exact λv H' p=>k d v H' q p (tR.up h p.same)
 |ex x=>rw[q]at h;exact h
 |no=>rw[q]at h;exact h
theorem i7{α:Type}{t:T}{f:Bool->R α}{P:α->Prop}{Q:Bool->Hp->Prop}(se:SE g c τ σ H S)(h:tR g E H ((evT w t τ).bind f) P)(k:∀b H',evT w t τ=.ok b->qa H H'->tR g E H' (f b) P->Q b H'):tT w g c E t σ H Q:=by
 refine⟨τ,S,se,?_⟩;cases q:evT w t τ with
 |ok d=>rw[q]at h;exact λH' p=>k d H' q p (tR.up h p)
 |ex x=>rw[q]at h;exact h
 |no=>rw[q]at h;exact h
theorem gy{α:Type}{es:Es}{f:List D->R α}{P:α->Prop}{Q:List V->Hp->Prop}(se:SE g c τ σ H S)(h:tR g E H ((zB w es τ).bind f) P)
  (k:∀ds vs H',zB w es τ=.ok ds->qa H H'->fA g H' S ds vs->(d_ es=true->qV g (hid H' S) ds vs)->tR g E H' (f ds) P->Q vs H'):tA w g c E es σ H Q:=by
 refine⟨τ,S,se,?_⟩;cases q:zB w es τ with
 |ok d=>rw[q]at h;exact λvs H' p r r'=>k d vs H' q p r r' (tR.up h p)
 |ex x=>rw[q]at h;exact h
 |no=>rw[q]at h;exact h
theorem mz{α:Type}{o:OE}{f:Option Int->R α}{P:α->Prop}{Q:Option Int->Hp->Prop}(se:SE g c τ σ H S)(h:tR g E H ((evO w o τ).bind f) P)(k:∀b H',evO w o τ=.ok b->qa H H'->tR g E H' (f b) P->Q b H'):tOe w g c E o σ H Q:=by
 refine⟨τ,S,se,?_⟩;cases q:evO w o τ with
 |ok d=>rw[q]at h;exact λH' p=>k d H' q p (tR.up h p)
 |ex x=>rw[q]at h;exact h
 |no=>rw[q]at h;exact h
theorem mW{e:EV.E}(h:fresh c e=true):zL c e=true:=by
 cases e<;>first|exact h|cases h
theorem bz.of{e:EV.E}{d:D}{v:V}{H':Hp}(s:qa H H')(r:Rep g (hid H' S) d v)(f:zL c e=false):bz g c e S H d v H':=⟨s,.inl r,λ_=>r,(λz=>by rw[mW z]at f;cases f),λz=>by rw[f]at z;cases z⟩
theorem bz.new{e:EV.E}{d:D}{v:V}{H':Hp}(s:qa H H')(r:Rep g (hid H' S) d v)(f:Fr g H S H' d v):bz g c e S H d v H':=⟨s,.inl r,λ_=>r,λ_=>f,λ_ _=>f⟩
theorem Fr.low{d:D}{v:V}{H1 H':Hp}(f:Fr g H1 S H' d v)(e:qa H H1):Fr g H S H' d v:=by
 obtain⟨a,o,h1,h3,h4,h5⟩:=f;exact⟨a,o,h1,e.free h3,h4,h5⟩
end
noncomputable def b1N:B1->Str
 | .len=>"len"
 | .tuple=>"tuple"
 | .list=>"list"
 | .sorted=>"sorted"
 | .all=>"all"
 | .any=>"any"
 | .sum=>"sum"
 | .min=>"min"
 | .max=>"max"
 | .abs=>"abs"
 | .int=>"int"
 | .bool=>"bool"
theorem oK:∀b,bO (b1N b)=some (b1V b)
 | .len | .tuple | .list | .sorted | .all | .any | .sum | .min | .max | .abs | .int | .bool=>by decide +kernel
noncomputable def spF(w:W)(g:Gc)(x:Str)(fr:Bool):Sp:=λvs H Q E=>∃S ds,Sub S H/\qV g (hid H S) ds vs /\
 tR g E H (w.call x ds) λd=>∀v H',qa H H'->Rep g (hid H' S) d v->(fr=true->zu d=true->Fr g H S H' d v)->Q v H'
structure iF(w:W)(g:Gc)(P:aA)(wl:av)(mg:Str->Option ae)(base:Heap)(A:az)(calm:Bool)(x:Str)(f:Addr)(fr:Bool):Prop where
 at_:mg x=some (.ref f)
 kp:cB g.K (.ref f)=true
 fn:∃k fd ps,Binds g.K fd ps []/\((calm=true/\fm P wl g.K mg base (CX1 P wl) k f fd ps (spF w g x fr)/\ck k A)\/(calm=false/\jz P wl g.K mg base (CX1 P wl) k f fd ps (spF w g x fr)/\g6 k A))
noncomputable def GM(w:W)(g:Gc)(P:aA)(wl:av)(mg:Str->Option ae)(base:Heap)(A:az)(calm:Bool)(x:Str):GK->Prop
 | .fn fr=>∃f,g.fnA x=some f/\iF w g P wl mg base A calm x f fr
 | .val=>∃u v d,mg x=some u/\RelV v u/\w.glb x=some d/\∀H,Rep g H d v
 | .bi b=>mg x=none/\x=b1N b/\∃id,b1V b=.builtin id
 | .rng=>mg x=none/\x = "range"
 | .enum=>mg x=none/\x = "enumerate"
 | .zip=>mg x=none/\x = "zip"
 | .isi=>mg x=none/\x = "isinstance"
 | .ty n b=>mg x=none/\bO x=some (.type n)/\(n∈["int","bool","str","list","tuple"]\/n = "ValueError")/\∀b',b=some b'->x=b1N b'/\b1V b'=.type n
 | .exc=>∃C,mg x=some (.ref C)/\g.clA x=some C
 | .exk=>∃C,mg x=some (.ref C)/\g.clA x=some C
 | .set=>mg x=none/\bO x=some (.type "set")
 | .rvd=>mg x=none/\x = "reversed"
structure XO(w:W)(g:Gc)(c:Cc)(E:XK)(X:Cx):Prop where
 K:X.K=g.K
 nm:X.env.scope.names=c.nm
 N:X.N=c.N
 nd:c.N.Nodup
 calm:c.calm=true->X.calm=true
 units:X.A.units+64<cLine
 fn:∀x,(c.fnc=true\/c.oc.contains x=true)->X.fn x=true
 kind:X.env.scope.kind=.function
 pass:Passes (CX1 X.prog X.w) X E
 gok:∀x k,c.G.lookup x=some k->GM w g X.prog X.w X.mg X.base X.A X.calm x k
 fns:X.calm=true->∀x f,g.fnA x=some f->∃fr,iF w g X.prog X.w X.mg X.base X.A X.calm x f fr
 -- what isinstance says of a caught error
 sub:∀k cl b,w.sub k cl=some b->∃C cv,g.clA k=some C/\kn g.K C/\cb g.K (.ref C) cv=some b/\match cl with
  | .ty n=>n = "ValueError"/\cv=.type n
  | .ex x=>∃D,g.clA x=some D/\cv=.ref D
section
variable{w:W}{g:Gc}{c:Cc}{E:XK}{X:Cx}
theorem fk{x:Str}{i:Nat}(h:loc c x=some i):c.N[i]? = some x/\(c.nm.lookup x=some .local\/c.nm.lookup x=some .cell\/c.nm.lookup x=some .free)/\(x==("__debug__" : Str))=false/\(x==("__classdict__" : Str))=false:=by
 unfold loc at h;split at h
 ·cases h
 ·rename_i hd
  have hd':(x==("__debug__" : Str))=false/\(x==("__classdict__" : Str))=false:=by simpa using hd
  have fin:∀{j},(if c.N[j]? = some x then some j else none)=some i->c.N[i]? = some x:=λ{j} z=>by
   split at z
   ·cases z;assumption
   ·cases z
  split at h
  ·rename_i q;exact⟨fin h,.inl q,hd'⟩
  ·rename_i q;exact⟨fin h,.inr (.inl q),hd'⟩
  ·rename_i q;exact⟨fin h,.inr (.inr q),hd'⟩
  ·cases h
theorem qW{x:Str}{k:GK}(h:glob c x=some k):c.nm.lookup x=some .globalImplicit/\c.G.lookup x=some k/\(x==("__debug__" : Str))=false/\x≠"__name__":=by
 unfold glob at h;split at h
 ·cases h
 ·rename_i hd
  have hd':(x==("__debug__" : Str))=false/\(x==("__name__" : Str))=false:=by simpa using hd
  split at h
  ·rename_i q;exact⟨q,h,hd'.1,by simpa using hd'.2⟩
  ·cases h
theorem XO.gl(O:XO w g c E X){x:Str}{k:GK}(h:glob c x=some k):Gl X x:=by
 show X.env.scope.names.lookup x=_;rw[O.nm];exact(qW h).1
theorem XO.gm(O:XO w g c E X){x:Str}{k:GK}(h:glob c x=some k):GM w g X.prog X.w X.mg X.base X.A X.calm x k:=O.gok x k (qW h).2.1
theorem qc{e:Expr}{es:List Expr}{env:PySem.Env}(h:isStar e=false):aZ (e::es) env=(false,eval e env)::aZ es env:=by
 cases e<;>first|rfl|(simp[isStar]at h)
theorem iB{es:List Expr}{env:PySem.Env}{pos:Pos}:(∀e∈es,isStar e=false)->(backTo pos (aZ es env)).any (·.1)=false:=by
 induction es with
 |nil=>intro _;rfl
 |cons e es ih=>
  intro h;rw[qc (h e a8)];show (false||(backTo pos (aZ es env)).any (·.1))=false;rw[ih λe he=>h e (aV _ he)]
  rfl
theorem fJ:∀{n:Nat}{es:List Expr}{ir:Es},cEs n c es=some ir->∀e∈es,isStar e=false
 | 0,_,_,h=>by simp[cEs]at h
 |n+1,[],_,_=>by simp
 |n+1,e::es,ir,h=>by
  simp only[cEs]at h;cases hs:isStar e with
  |true=>simp[hs]at h
  |false=>
   simp only[hs,aW,if_false,aI,aH]at h;obtain⟨_,_,r,hr,_⟩:=h;intro x hx;rcases aN.mp hx with rfl|hx
   ·exact hs
   ·exact fJ hr x hx
theorem xV{x:Str}{f:Addr}{fr:Bool}{e:Expr}{es:List Expr}{p pos:Pos}{t:TA}(O:XO w g c E X)(C:iF w g X.prog X.w X.mg X.base X.A X.calm x f fr)(hg:Gl X x)(hd:(x==("__debug__" : Str))=false)(ha:PA X (e::es) t)
  (hs:∀z∈e::es,isStar z=false):PE X (.Call (.Name x p) (e::es) [] pos) (j5 (spF w g x fr) [] E t):=by
 obtain⟨k,fd,ps,hb,h⟩:=C.fn;have he:=qc (es:=es) (env:=X.env) (hs e a8);have hp:=iB (env:=X.env) (pos:=pos) λz hz=>hs z (aV _ hz)
 rw[<-O.K]at hb h;rcases h with ⟨_,F,r⟩|⟨_,F,r⟩
 ·exact Dz F r hg C.at_ (by rw[O.K];exact C.kp) hb .nil O.pass ha hd he hp
 ·exact CB F r hg C.at_ (by rw[O.K];exact C.kp) hb .nil O.pass ha hd he hp
end
end EV
namespace L2
open PySem PySem.Spec PyProof.Rows
section
variable{X:Cx}
end
end L2
namespace EV
open PySem PySem.Spec PySem.P PyProof.Rows L2
section
variable{w:W}{g:Gc}{c:Cc}{E:XK}{X:Cx}{a b d f:Expr}{ia ib id' if':EV.E}{pos p2:Pos}{ta tb:T}
theorem ju{e:Expr}{v:V}{dd:D}(h:PE X e (tC v))(r:∀H,Rep g H dd v):PE X e (tE w g c E (.con dd)):=PE.imp h λσ H Q ⟨τ,S,se,k⟩=>k v H (bz.of (qa.refl _) (r _) rfl)
theorem sj{x:Str}{i:Nat}(O:XO w g c E X)(h:loc c x=some i):PE X (.Name x pos) (tE w g c E (if c.own.contains x then .own i else .var i)):=by
 obtain⟨h1,h2,h3,h4⟩:=fk h;refine PE.imp (iG (i:=i) (by rw[O.N];exact h1) (by unfold gx;rw[O.nm];exact h2) h3 h4) λσ H Q ⟨τ,S,se,k⟩=>?_
 have key:∀e,evE w e τ=b6 τ i->zL c e=false->(esc e=true->c.own.contains x=false)->tR g E H (evE w e τ) (λd=>∀v H',bz g c e S H d v H'->Q v H')->gD i σ H Q:=λe e1 e2 e3 k=>by
  rw[e1]at k;unfold b6 at k;cases q:τ[i]? with
  |none=>rw[q]at k;exact k.elim
  |some o=>
   cases o with
   |none=>rw[q]at k;exact k.elim
   |some d=>
    rw[q]at k;obtain⟨v,z1,z2,z3⟩:=se.val i d q;exact⟨v,z1,k v H ⟨qa.refl _,z2,λz=>z3 x h1 (e3 z),(λz=>by rw[mW z]at e2;cases e2),λz=>by rw[e2]at z;cases z⟩⟩
 cases ho:c.own.contains x with
 |true=>rw[ho]at k;exact key (.own i) (by simp[zb,zf,ze,zd,zc,za,zi,zh,zg,qy,qB,qr,qC,qD,qe,qw,qt,qq,qx,qA,qR,qk,ql,qI,qz,qo,qN,qG,qJ,qS,qH,qO,qP,qu,qF,qM,qT,qK,qQ,qL]) rfl (by intro z;cases z) k
 |false=>rw[ho]at k;exact key (.var i) (by simp[zb,zf,ze,zd,zc,za,zi,zh,zg,qy,qB,qr,qC,qD,qe,qw,qt,qq,qx,qA,qR,qk,ql,qI,qz,qo,qN,qG,qJ,qS,qH,qO,qP,qu,qF,qM,qT,qK,qQ,qL]) rfl (λ_=>ho) k
theorem B'{x:Str}(O:XO w g c E X)(h:glob c x=some .val):PE X (.Name x pos) (tE w g c E (.glb x)):=by
 obtain⟨u,v,d,h1,h2,h3,h4⟩:=O.gm h;refine PE.imp (jX (O.gl h) h1 h2 (qW h).2.2.1) λσ H Q ⟨τ,S,se,k⟩=>?_
 simp only[zb,zf,ze,zd,zc,za,zi,zh,zg,qy,qB,qr,qC,qD,qe,qw,qt,qq,qx,qA,qR,qk,ql,qI,qz,qo,qN,qG,qJ,qS,qH,qO,qP,qu,qF,qM,qT,qK,qQ,qL,h3]at k;exact k v H (bz.of (qa.refl _) (h4 _) rfl)
theorem Dw{x:Str}{fr:Bool}(O:XO w g c E X)(h:glob c x=some (.fn fr)):PE X (.Name x pos) (tE w g c E (.fnv x)):=λpins s σ H Q I ⟨τ,S,se,kk⟩=>by
 simp only[zb,zf,ze,zd,zc,za,zi,zh,zg,qy,qB,qr,qC,qD,qe,qw,qt,qq,qx,qA,qR,qk,ql,qI,qz,qo,qN,qG,qJ,qS,qH,qO,qP,qu,qF,qM,qT,qK,qQ,qL]at kk;exact bp kk
theorem o3{τ:EV.Env}{e:EV.E}{d:D}(h:isL e=true)(he:evE w e τ=.ok d):kP d=true:=by
 cases e<;>first|(cases h;done)|skip
 ·simp only[zb,zf,ze,zd,zc,za,zi,zh,zg,qy,qB,qr,qC,qD,qe,qw,qt,qq,qx,qA,qR,qk,ql,qI,qz,qo,qN,qG,qJ,qS,qH,qO,qP,qu,qF,qM,qT,qK,qQ,qL]at he;cases q:zB w ‹_› τ with
  |ok ds=>rw[q]at he;cases he;rfl
  |ex z=>rw[q]at he;cases he
  |no=>rw[q]at he;cases he
 ·simp only[zb,zf,ze,zd,zc,za,zi,zh,zg,qy,qB,qr,qC,qD,qe,qw,qt,qq,qx,qA,qR,qk,ql,qI,qz,qo,qN,qG,qJ,qS,qH,qO,qP,qu,qF,qM,qT,qK,qQ,qL]at he;cases q:evI w ‹_› τ with
  |ok ds=>rw[q]at he;cases he;rfl
  |ex z=>rw[q]at he;cases he
  |no=>rw[q]at he;cases he
 ·simp only[zb,zf,ze,zd,zc,za,zi,zh,zg,qy,qB,qr,qC,qD,qe,qw,qt,qq,qx,qA,qR,qk,ql,qI,qz,qo,qN,qG,qJ,qS,qH,qO,qP,qu,qF,qM,qT,qK,qQ,qL]at he;cases q:evI w ‹_› τ with
  |ok ds=>
   rw[q]at he;simp only[R.bind_ok]at he;split at he
   ·cases he
   ·generalize cn _ _ _ _=r at he;cases r with
    |ok o=>cases he;rfl
    |ex z=>cases he
    |no=>cases he
  |ex z=>rw[q]at he;cases he
  |no=>rw[q]at he;cases he
theorem Bg(O:XO w g c E X){op:Operator}{o:O2}(ho:o2 op=some o)(ha:PE X a (tE w g c E ia))(hb:PE X b (tE w g c E ib)):PE X (.BinOp a op b pos) (tE w g c E (.op o ia ib)):=
 PE.imp (yg (Ai O.K ho) ha hb) λσ H Q ⟨τ,S,se,k⟩=>by
  simp only[zb,zf,ze,zd,zc,za,zi,zh,zg,qy,qB,qr,qC,qD,qe,qw,qt,qq,qx,qA,qR,qk,ql,qI,qz,qo,qN,qG,qJ,qS,qH,qO,qP,qu,qF,qM,qT,qK,qQ,qL]at k;refine zm se k λda va H1 e1 p1 k1=>zm (se.up p1.same) k1 λdb vb H2 e2 p2 k2=>⟨S,da,db,(se.up (p1.same.trans p2.same)).sub,p1.rb.mono p2.same,p2.rb,?_⟩
  cases q:op2 o da db with
  |ok r=>
   rw[q]at k2;have fw:fresh c (.op o ia ib)=true->∀{v H'},(kP da=true->Fr g H2 S H' r v)->Fr g H S H' r v:=λz {v H'} f=>by
    simp only[fresh,bL,aM,beq_iff_eq]at z;refine(f ?_).low (p1.same.trans p2.same);rcases z with z|⟨rfl,z⟩
    ·exact o3 z.2 e1
    ·have:=o3 z e2;cases db<;>first|(cases this;done)|skip
     cases da<;>first|rfl|(cases q;done)
   exact λv H' s r f=>k2 v H' ⟨(p1.same.trans p2.same).trans s,.inl r,λ_=>r,λz=>fw z f,λz _=>fw z f⟩
  |ex z=>exact yW q
  |no=>rw[q]at k2;exact k2
theorem BI(ha:PE X a (tE w g c E ia)):PE X (.UnaryOp .USub a pos) (tE w g c E (.neg ia)):=λpins s σ H Q I ⟨τ,S,se,kk⟩=>by
 simp only[zb,zf,ze,zd,zc,za,zi,zh,zg,qy,qB,qr,qC,qD,qe,qw,qt,qq,qx,qA,qR,qk,ql,qI,qz,qo,qN,qG,qJ,qS,qH,qO,qP,qu,qF,qM,qT,qK,qQ,qL]at kk;exact bp kk
theorem xP(O:XO w g c E X){o:Expr}{m:Str}{ap cp:Pos}{as:List Expr}{e:EV.E}(h:cMt c o m ap as cp=some e):PE X (.Call (.Attribute o m ap) as [] cp) (tE w g c E e):=by cases h
theorem BG(O:XO w g c E X){o:Expr}{ap cp:Pos}(hb:baseOk o=true)(ho:PE X o (tE w g c E ia))(ha:PE X a (tE w g c E ib))(hs:isStar a=false)(hl:(ap.endLine==cp.line)=true) :
  PE X (.Call (.Attribute o "count" ap) [a] [] cp) (tE w g c E (.cnt ia ib)):=λpins s σ H Q I ⟨τ,S,se,kk⟩=>by
 simp only[zb,zf,ze,zd,zc,za,zi,zh,zg,qy,qB,qr,qC,qD,qe,qw,qt,qq,qx,qA,qR,qk,ql,qI,qz,qo,qN,qG,qJ,qS,qH,qO,qP,qu,qF,qM,qT,qK,qQ,qL]at kk;exact bp kk
theorem ve(ha:PE X a (tE w g c E ia)):PE X (.UnaryOp .Invert a pos) (tE w g c E (.inv ia)):=λpins s σ H Q I ⟨τ,S,se,kk⟩=>by
 simp only[zb,zf,ze,zd,zc,za,zi,zh,zg,qy,qB,qr,qC,qD,qe,qw,qt,qq,qx,qA,qR,qk,ql,qI,qz,qo,qN,qG,qJ,qS,qH,qO,qP,qu,qF,qM,qT,qK,qQ,qL]at kk;exact bp kk
theorem vI(ha:PE X a (tE w g c E ia)):PE X (.UnaryOp .Not a pos) (tE w g c E (.not ia)):=
 PE.imp (Dt ha) λσ H Q ⟨τ,S,se,k⟩=>by
  simp only[zb,zf,ze,zd,zc,za,zi,zh,zg,qy,qB,qr,qC,qD,qe,qw,qt,qq,qx,qA,qR,qk,ql,qI,qz,qo,qN,qG,qJ,qS,qH,qO,qP,qu,qF,qM,qT,qK,qQ,qL]at k;refine zm se k λda va H1 e1 p1 k1=>?_
  cases da with
  |bl i=>exact⟨i,p1.rb.bl,k1 _ _ (bz.of p1.same (.bl _) rfl)⟩
  |_=>exact k1.elim
theorem bz.pass{e e':EV.E}{S:Sh}{H H1 H':Hp}{dd:D}{v:V}(s:qa H H1)(p:bz g c e S H1 dd v H')(h:esc e=true)(f:zL c e'=false):bz g c e' S H dd v H':=bz.of (s.trans p.same) (p.st h) f
theorem bz.passC{e e':EV.E}{S:Sh}{H H1 H':Hp}{dd:D}{v:V}(s:qa H H1)(p:bz g c e S H1 dd v H')(h:esc e=true)(f:fresh c e'=false)(fc:zL c e'=true->zL c e=true):bz g c e' S H dd v H':=⟨s.trans p.same,.inl (p.st h),λ_=>p.st h,(λz=>by rw[f]at z;cases z),λz l=>(p.frc (fc z) l).low s⟩
theorem C7{rest:List Expr}{ir:EV.E}(ha:PE X a (tE w g c E ia))(hb:PE X (.BoolOp .And (b::rest) pos) (tE w g c E ir))(he:esc ir=true):PE X (.BoolOp .And (a::b::rest) pos) (tE w g c E (.and ia ir)):=
 PE.imp (rR ha hb) λσ H Q ⟨τ,S,se,k⟩=>by
  simp only[zb,zf,ze,zd,zc,za,zi,zh,zg,qy,qB,qr,qC,qD,qe,qw,qt,qq,qx,qA,qR,qk,ql,qI,qz,qo,qN,qG,qJ,qS,qH,qO,qP,qu,qF,qM,qT,qK,qQ,qL]at k;refine zm se k λda va H1 e1 p1 k1=>?_
  cases da with
  |bl i=>
   refine⟨i,p1.rb.bl,?_⟩;cases i with
   |true=>
    refine⟨τ,S,se.up p1.same,tR.imp k1 λd hk v H' p=>hk v H' (p.pass p1.same he rfl)⟩
   |false=>exact k1 _ _ (bz.of p1.same (.bl _) rfl)
  |_=>exact k1.elim
theorem xW{rest:List Expr}{ir:EV.E}(ha:PE X a (tE w g c E ia))(hb:PE X (.BoolOp .Or (b::rest) pos) (tE w g c E ir))(he:esc ir=true):PE X (.BoolOp .Or (a::b::rest) pos) (tE w g c E (.or ia ir)):=
 PE.imp (Ba ha hb) λσ H Q ⟨τ,S,se,k⟩=>by
  simp only[zb,zf,ze,zd,zc,za,zi,zh,zg,qy,qB,qr,qC,qD,qe,qw,qt,qq,qx,qA,qR,qk,ql,qI,qz,qo,qN,qG,qJ,qS,qH,qO,qP,qu,qF,qM,qT,qK,qQ,qL]at k;refine zm se k λda va H1 e1 p1 k1=>?_
  cases da with
  |bl i=>
   refine⟨i,p1.rb.bl,?_⟩;cases i with
   |false=>
    refine⟨τ,S,se.up p1.same,tR.imp k1 λd hk v H' p=>hk v H' (p.pass p1.same he rfl)⟩
   |true=>exact k1 _ _ (bz.of p1.same (.bl _) rfl)
  |_=>exact k1.elim
theorem gf{op:CmpOp}{b:Expr}(h:zt b=true):behindInMarks op b=false:=by cases b<;>first|rfl|(simp[zt]at h)
theorem dG{o:C2}{S:Sh}{H:Hp}{da db:D}{va vb:V}{r:R Bool}{P:Bool->Prop}{Q:VK}(ra:zw g H S da va)(rb:zw g H S db vb)(q:tR g E H (qE o da db) P)(k:∀z,qE o da db=.ok z->P z->Q (.bl z) H):rCm g o va vb H Q:=by
 refine⟨S,da,db,ra,rb,?_⟩;cases e:qE o da db with
 |ok z=>rw[e]at q;exact k z e q
 |ex z=>exact AB e
 |no=>rw[e]at q;exact q
theorem tR.bnd{α β:Type}{H:Hp}{r:R α}{f:α->R β}{P:β->Prop}(h:tR g E H (r.bind f) P):tR g E H r λa=>tR g E H (f a) P:=by
 cases r with
 |ok a=>exact h
 |ex z=>exact h
 |no=>exact h
theorem vz(O:XO w g c E X){op:CmpOp}(ha:PE X a (tE w g c E ia))(hb:PE X b (tE w g c E ib))(hs:zt b=true):PE X (.Compare a [op] [b] pos) (tE w g c E (.cmp (c2 op) ia ib)):=
 PE.imp (vA (dF O.K O.units op) ha hb (gf hs)) λσ H Q ⟨τ,S,se,k⟩=>by
  simp only[zb,zf,ze,zd,zc,za,zi,zh,zg,qy,qB,qr,qC,qD,qe,qw,qt,qq,qx,qA,qR,qk,ql,qI,qz,qo,qN,qG,qJ,qS,qH,qO,qP,qu,qF,qM,qT,qK,qQ,qL]at k;refine zm se k λda va H1 e1 p1 k1=>zm (se.up p1.same) k1 λdb vb H2 e2 p2 k2=>?_
  exact dG (r:=.no) (p1.rb.mono p2.same) p2.rb (tR.bnd k2) λz _ q=>q _ _ (bz.of (p1.same.trans p2.same) (.bl _) rfl)
theorem sY(O:XO w g c E X){op:CmpOp}(ha:PE X a (tE w g c E ia))(hb:PE X b (tE w g c E ib))(hs:zt b=true):PT X (.Compare a [op] [b] pos) (tT w g c E (.cmp (c2 op) ia ib)):=
 PT.imp (sM (dF O.K O.units op) ha hb (gf hs)) λσ H Q ⟨τ,S,se,k⟩=>by
  simp only[fj,fq,fb,fv,fg,fE,fz]at k;refine zm se k λda va H1 e1 p1 k1=>zm (se.up p1.same) k1 λdb vb H2 e2 p2 k2=>?_
  exact dG (r:=.no) (p1.rb.mono p2.same) p2.rb k2 λz _ q=>⟨z,rfl,q _ (p1.same.trans p2.same)⟩
theorem rK(O:XO w g c E X){op op':CmpOp}(ha:PE X a (tE w g c E ia))(hb:PE X b (tE w g c E ib))(hd:PE X d (tE w g c E id'))(hs':zt d=true):PE X (.Compare a [op,op'] [b,d] pos) (tE w g c E (.cmp2 (c2 op) (c2 op') ia ib id')):=
 PE.imp (xu (dF O.K O.units op) (dF O.K O.units op') ha hb hd (gf hs')) λσ H Q ⟨τ,S,se,k⟩=>by
  simp only[zb,zf,ze,zd,zc,za,zi,zh,zg,qy,qB,qr,qC,qD,qe,qw,qt,qq,qx,qA,qR,qk,ql,qI,qz,qo,qN,qG,qJ,qS,qH,qO,qP,qu,qF,qM,qT,qK,qQ,qL]at k;refine zm se k λda va H1 e1 p1 k1=>zm (se.up p1.same) k1 λdb vb H2 e2 p2 k2=>?_
  have s2:=p1.same.trans p2.same;refine dG (r:=.no) (p1.rb.mono p2.same) p2.rb (tR.bnd k2) λz _ q=>⟨z,rfl,?_⟩
  cases z with
  |true=>
   exact zm (se.up s2) q λdd vd H3 e3 p3 k3=>dG (r:=.no) (p2.rb.mono p3.same) p3.rb (tR.bnd k3) λz _ q=>q _ _ (bz.of (s2.trans p3.same) (.bl _) rfl)
  |false=>exact q _ _ (bz.of s2 (.bl _) rfl)
theorem xc(O:XO w g c E X){op op':CmpOp}(ha:PE X a (tE w g c E ia))(hb:PE X b (tE w g c E ib))(hd:PE X d (tE w g c E id'))(hs':zt d=true):PT X (.Compare a [op,op'] [b,d] pos) (tT w g c E (.cmp2 (c2 op) (c2 op') ia ib id')):=
 PT.imp (uQ (dF O.K O.units op) (dF O.K O.units op') ha hb hd (gf hs')) λσ H Q ⟨τ,S,se,k⟩=>by
  simp only[fj,fq,fb,fv,fg,fE,fz]at k;refine zm se k λda va H1 e1 p1 k1=>zm (se.up p1.same) k1 λdb vb H2 e2 p2 k2=>?_
  have s2:=p1.same.trans p2.same;refine dG (r:=.no) (p1.rb.mono p2.same) p2.rb (tR.bnd k2) λz _ q=>⟨z,rfl,?_⟩
  cases z with
  |true=>
   exact zm (se.up s2) q λdd vd H3 e3 p3 k3=>dG (r:=.no) (p2.rb.mono p3.same) p3.rb k3 λz _ q=>⟨z,rfl,q _ (s2.trans p3.same)⟩
  |false=>exact⟨false,rfl,q _ s2⟩
theorem ug(O:XO w g c E X){op op' op'':CmpOp}(ha:PE X a (tE w g c E ia))(hb:PE X b (tE w g c E ib))(hd:PE X d (tE w g c E id'))(hf:PE X f (tE w g c E if'))(hs':zt f=true):PE X (.Compare a [op,op',op''] [b,d,f] pos) (tE w g c E (.cmp3 (c2 op) (c2 op') (c2 op'') ia ib id' if')):=
 PE.imp (CQ (dF O.K O.units op) (dF O.K O.units op') (dF O.K O.units op'') ha hb hd hf (gf hs')) λσ H Q ⟨τ,S,se,k⟩=>by
  simp only[zb,zf,ze,zd,zc,za,zi,zh,zg,qy,qB,qr,qC,qD,qe,qw,qt,qq,qx,qA,qR,qk,ql,qI,qz,qo,qN,qG,qJ,qS,qH,qO,qP,qu,qF,qM,qT,qK,qQ,qL]at k;refine zm se k λda va H1 e1 p1 k1=>zm (se.up p1.same) k1 λdb vb H2 e2 p2 k2=>?_
  have s2:=p1.same.trans p2.same;refine dG (r:=.no) (p1.rb.mono p2.same) p2.rb (tR.bnd k2) λz _ q=>⟨z,rfl,?_⟩
  cases z with
  |true=>
   refine zm (se.up s2) q λdd vd H3 e3 p3 k3=>dG (r:=.no) (p2.rb.mono p3.same) p3.rb (tR.bnd k3) λz _ q=>⟨z,rfl,?_⟩
   have s3:=s2.trans p3.same;cases z with
   |true=>exact zm (se.up s3) q λdf vf H4 e4 p4 k4=>dG (r:=.no) (p3.rb.mono p4.same) p4.rb (tR.bnd k4) λz _ q=>q _ _ (bz.of (s3.trans p4.same) (.bl _) rfl)
   |false=>exact q _ _ (bz.of s3 (.bl _) rfl)
  |false=>exact q _ _ (bz.of s2 (.bl _) rfl)
theorem vC{a b c d:Expr}{ta tb tc td:TE}{pos:Pos}{op op' op'':CmpOp}{r r' r'':R2}(ho:OpR X (bg op) r)(ho':OpR X (bg op') r')(ho'':OpR X (bg op'') r'')(ha:PE X a ta)(hb:PE X b tb)(hc:PE X c tc)(hd:PE X d td)
  (hm:lastMarks [op,op',op''] [b,c,d]=false):PT X (.Compare a [op,op',op''] [b,c,d] pos) (ku (lM r r' r'' ta tb tc td)):=by
 intro pins s σ H Q I h;refine isTrue_chain (thn (ha pins s σ H _ I h) λv s1 ⟨x,H1,I1,r1,q1⟩=>test_link (thn (hb pins s1 σ H1 _ I1 q1) λu s2 ⟨y,H2,I2,r2,q2⟩=>
  thn (ho pins s2 σ H2 x y v u _ I2 r1 r2 q2) λd s3 ⟨z,H3,I3,r3,k,e,q3⟩=>?_)) hm
 subst e;cases r3;refine bI ?_;cases k with
 |false=>
  obtain⟨k',e',q'⟩:=q3;cases e';exact ite_ff ⟨H3,I3,q'⟩
 |true=>
  refine ite_tt (test_link (thn (hc pins s3 σ H3 _ I3 q3) λw' s4 ⟨z',H4,I4,r4,q4⟩=>thn (ho' pins s4 σ H4 y z' u w' _ I4 r2 r4 q4) λd' s5 ⟨z2,H5,I5,r5,k2,e2,q5⟩=>?_));subst e2;cases r5;refine bI ?_;cases k2 with
  |false=>
   obtain⟨k',e',q'⟩:=q5;cases e';exact ite_ff ⟨H5,I5,q'⟩
  |true=>
   refine ite_tt (test_last (thn (hd pins s5 σ H5 _ I5 q5) λw'' s6 ⟨z3,H6,I6,r6,q6⟩=>thn (ho'' pins s6 σ H6 z' z3 w' w'' _ I6 r4 r6 q6) λd'' s7 ⟨z4,H7,I7,r7,k4,e4,q7⟩=>?_));subst e4;cases r7;exact bI ⟨H7,I7,q7⟩
theorem R.bind_assoc{α β γ:Type}(r:R α)(f:α->R β)(h:β->R γ):(r.bind f).bind h=r.bind λa=>(f a).bind h:=by cases r<;>rfl
theorem yo(O:XO w g c E X){op op' op'':CmpOp}(ha:PE X a (tE w g c E ia))(hb:PE X b (tE w g c E ib))(hd:PE X d (tE w g c E id'))(hf:PE X f (tE w g c E if'))(hs':zt f=true):PT X (.Compare a [op,op',op''] [b,d,f] pos) (tT w g c E (.val (.cmp3 (c2 op) (c2 op') (c2 op'') ia ib id' if'))):=
 PT.imp (vC (dF O.K O.units op) (dF O.K O.units op') (dF O.K O.units op'') ha hb hd hf (gf hs')) λσ H Q ⟨τ,S,se,k⟩=>by
  simp only[fj,fq,fb,fv,fg,fE,fz,zb,zf,ze,zd,zc,za,zi,zh,zg,qy,qB,qr,qC,qD,qe,qw,qt,qq,qx,qA,qR,qk,ql,qI,qz,qo,qN,qG,qJ,qS,qH,qO,qP,qu,qF,qM,qT,qK,qQ,qL,R.bind_assoc]at k;refine zm se k λda va H1 e1 p1 k1=>zm (se.up p1.same) k1 λdb vb H2 e2 p2 k2=>?_
  have s2:=p1.same.trans p2.same;refine dG (r:=.no) (p1.rb.mono p2.same) p2.rb (tR.bnd k2) λz _ q=>⟨z,rfl,?_⟩
  cases z with
  |true=>
   simp only[if_true,R.bind_assoc]at q;refine zm (se.up s2) q λdd vd H3 e3 p3 k3=>dG (r:=.no) (p2.rb.mono p3.same) p3.rb (tR.bnd k3) λz _ q=>⟨z,rfl,?_⟩
   have s3:=s2.trans p3.same;cases z with
   |true=>
    simp only[if_true,R.bind_assoc]at q;exact zm (se.up s3) q λdf vf H4 e4 p4 k4=>dG (r:=.no) (p3.rb.mono p4.same) p4.rb (tR.bnd k4) λz _ q=>⟨z,rfl,q _ (s3.trans p4.same)⟩
   |false=>exact⟨false,rfl,q _ s3⟩
  |false=>exact⟨false,rfl,q _ s2⟩
theorem yk(ht:PT X d (tT w g c E ta))(ha:PE X a (tE w g c E ia))(hb:PE X b (tE w g c E ib))(h1:esc ia=true)(h2:esc ib=true):PE X (.IfExp d a b pos) (tE w g c E (.ite ta ia ib)):=
 PE.imp (wM ht ha hb) λσ H Q ⟨τ,S,se,k⟩=>by
  simp only[zb,zf,ze,zd,zc,za,zi,zh,zg,qy,qB,qr,qC,qD,qe,qw,qt,qq,qx,qA,qR,qk,ql,qI,qz,qo,qN,qG,qJ,qS,qH,qO,qP,qu,qF,qM,qT,qK,qQ,qL]at k;refine i7 se k λz H1 e1 s1 k1=>?_
  cases z with
  |true=>exact⟨τ,S,se.up s1,tR.imp k1 λdd hk v H' p=>hk v H' (p.passC s1 h1 rfl λz=>(jw z).1)⟩
  |false=>exact⟨τ,S,se.up s1,tR.imp k1 λdd hk v H' p=>hk v H' (p.passC s1 h2 rfl λz=>(jw z).2)⟩
theorem rF{e:Expr}{ie:EV.E}(h:PE X e (tE w g c E ie)):PE X e (tE w g c E (iI c ie)):=by
 unfold iI;split
 ·rename_i f es
  split
  ·rename_i hg
   refine PE.imp h λσ H Q ⟨τ,S,se,k⟩=>⟨τ,S,se,?_⟩
   have e1:evE w (.lstc f es) τ=(evE w (.call f es) τ).bind λd=>if zu d then .ok d else .no:=by
    simp only[zb,zf,ze,zd,zc,za,zi,zh,zg,qy,qB,qr,qC,qD,qe,qw,qt,qq,qx,qA,qR,qk,ql,qI,qz,qo,qN,qG,qJ,qS,qH,qO,qP,qu,qF,qM,qT,qK,qQ,qL];cases zB w es τ<;>rfl
   rw[e1]at k;cases q:evE w (.call f es) τ with
   |ok d=>
    rw[q]at k;simp only[R.bind_ok]at k;cases hl:zu d with
    |true=>
     rw[hl,if_pos rfl]at k;exact λv H' p=>k v H' ⟨p.same,p.rb,λ_=>p.st rfl,λz=>p.frc z hl,λz _=>p.frc z hl⟩
    |false=>rw[hl]at k;exact k.elim
   |ex z=>rw[q]at k;exact k
   |no=>rw[q]at k;exact k
  ·exact h
 ·exact h
theorem wy:PA X [] (tA w g c E .nil):=PA.imp zX λσ H Q ⟨τ,S,se,k⟩=>k [] H (qa.refl _) .nil λ_=>.nil
theorem rP{es:List Expr}{ies:Es}(ha:PE X a (tE w g c E ia))(hr:PA X es (tA w g c E ies))(hs:isStar a=false):PA X (a::es) (tA w g c E (.cons ia ies)):=
 PA.imp (zq ha hr (qc hs)) λσ H Q ⟨τ,S,se,k⟩=>by
  simp only[zB]at k;refine zm se k λda va H1 e1 p1 k1=>gy (se.up p1.same) k1 λds vs H2 e2 s2 r2 r2' k2=>k2 _ _ (p1.same.trans s2) (.cons (p1.rb.mono s2) r2) λz=>?_
  simp only[d_,aM]at z;exact .cons ((p1.st z.1).mono (qX s2)) (r2' z.2)
theorem jD:∀{es:Es}{τ:Env}{ds:List D}{l:List Expr}{n:Nat},cEs n c l=some es->zB w es τ=.ok ds->ds.length=l.length
 |_,_,_,l,0,h,_=>by simp[cEs]at h
 |es,τ,ds,[],n+1,h,e=>by
  simp only[cEs,b8]at h;subst h;simp only[zB,R.ok.injEq]at e;subst e;rfl
 |es,τ,ds,x::l,n+1,h,e=>by
  simp only[cEs]at h;cases hs:isStar x with
  |true=>simp[hs]at h
  |false=>
   simp only[hs,aW,if_false,aI,aH]at h;obtain⟨i1,_,r,hr,h⟩:=h;cases h;simp only[zB]at e;cases q:evE w i1 τ with
   |ok z=>
    rw[q]at e;simp only[R.bind_ok]at e;cases q2:zB w r τ with
    |ok zs=>
     rw[q2]at e;cases e;simp[jD hr q2]
    |ex z=>rw[q2]at e;cases e
    |no=>rw[q2]at e;cases e
   |ex z=>rw[q]at e;cases e
   |no=>rw[q]at e;cases e
theorem l7{n:Nat}(h:n<=100000):n<=sizeLine:=bB h (by rw[bf];decide)
theorem tV{es:List Expr}{ies:Es}{k:Nat}(ha:PA X es (tA w g c E ies))(he:d_ ies=true)(hl:∀τ ds,zB w ies τ=.ok ds->ds.length<=100000):PE X (.Tuple es k pos) (tE w g c E (.tup ies)):=
 PE.imp (s9 ha) λσ H Q ⟨τ,S,se,k⟩=>by
  simp only[zb,zf,ze,zd,zc,za,zi,zh,zg,qy,qB,qr,qC,qD,qe,qw,qt,qq,qx,qA,qR,qk,ql,qI,qz,qo,qN,qG,qJ,qS,qH,qO,qP,qu,qF,qM,qT,qK,qQ,qL]at k;refine gy se k λds vs H1 e1 s1 r1 r1' k1=>?_
  have r:=r1' he;exact⟨by rw[<-r.length];exact l7 (hl _ _ e1),λp hp=>k1 _ _ (bz.of (s1.trans (qU hp)) (fF (se.sub.same s1) hp r) rfl)⟩
theorem t8{es:List Expr}{ies:Es}(ha:PA X es (tA w g c E ies))(he:d_ ies=true)(hl:∀τ ds,zB w ies τ=.ok ds->ds.length<=100000):PE X (.List es pos) (tE w g c E (.lst ies)):=
 PE.imp (tK ha) λσ H Q ⟨τ,S,se,k⟩=>by
  simp only[zb,zf,ze,zd,zc,za,zi,zh,zg,qy,qB,qr,qC,qD,qe,qw,qt,qq,qx,qA,qR,qk,ql,qI,qz,qo,qN,qG,qJ,qS,qH,qO,qP,qu,qF,qM,qT,qK,qQ,qL]at k;refine gy se k λds vs H1 e1 s1 r1 r1' k1=>?_
  have r:=r1' he;exact⟨by rw[<-r.length];exact l7 (hl _ _ e1),λp hp=>k1 _ _ (bz.new (s1.trans (qU hp)) (zN (se.sub.same s1) hp r) (dW s1 hp r))⟩
theorem yx{b:Expr}(h:isSlice b=false):lS b:=λo i=>by cases b<;>first|rfl|(simp[isSlice]at h)
theorem yl(O:XO w g c E X)(ha:PE X a (tE w g c E ia))(hb:PE X b (tE w g c E ib))(hs:isSlice b=false):PE X (.Subscript a b pos) (tE w g c E (.ix ia ib)):=
 PE.imp (sD (xR O.K O.units) ha hb (yx hs)) λσ H Q ⟨τ,S,se,k⟩=>by
  simp only[zb,zf,ze,zd,zc,za,zi,zh,zg,qy,qB,qr,qC,qD,qe,qw,qt,qq,qx,qA,qR,qk,ql,qI,qz,qo,qN,qG,qJ,qS,qH,qO,qP,qu,qF,qM,qT,qK,qQ,qL]at k;refine zm se k λda va H1 e1 p1 k1=>zm (se.up p1.same) k1 λdb vb H2 e2 p2 k2=>⟨S,da,db,p1.rb.mono p2.same,p2.rb,?_⟩
  cases q:ixD da db with
  |ok r=>rw[q]at k2;exact λv r=>k2 v H2 (bz.of (p1.same.trans p2.same) r rfl)
  |ex z=>exact AY q
  |no=>rw[q]at k2;exact k2
theorem xE(O:XO w g c E X){lo hi:Option Expr}{il ih:OE}(ha:PE X a (tE w g c E ia))(hl:PO X lo (tOe w g c E il))(hh:PO X hi (tOe w g c E ih)):PE X (.Subscript a (.Slice lo hi none p2) pos) (tE w g c E (.sl ia il ih)):=
 PE.imp (Az (CJ O.K) ha hl hh) λσ H Q ⟨τ,S,se,k⟩=>by
  simp only[zb,zf,ze,zd,zc,za,zi,zh,zg,qy,qB,qr,qC,qD,qe,qw,qt,qq,qx,qA,qR,qk,ql,qI,qz,qo,qN,qG,qJ,qS,qH,qO,qP,qu,qF,qM,qT,qK,qQ,qL]at k;refine zm se k λda va H1 e1 p1 k1=>mz (se.up p1.same) k1 λl H2 e2 s2 k2=>mz (se.up (p1.same.trans s2)) k2 λh H3 e3 s3 k3=>?_
  have s:=(p1.same.trans s2).trans s3;refine⟨S,da,se.sub.same s,p1.rb.mono (s2.trans s3),?_⟩;cases q:slD da l h with
  |ok r=>rw[q]at k3;exact λv H' s' r=>k3 v H' (bz.of (s.trans s') r rfl)
  |ex z=>exact B6 q
  |no=>rw[q]at k3;exact k3
theorem wX:PO X none (tOe w g c E .none):=PO.imp wJ λσ H Q ⟨τ,S,se,k⟩=>k H (qa.refl _)
theorem Du(ha:PE X a (tE w g c E ia)):PO X (some a) (tOe w g c E (.some ia)):=PO.imp (yO ha) λσ H Q ⟨τ,S,se,k⟩=>by
 simp only[evO]at k;refine zm se k λda va H1 e1 p1 k1=>?_
 cases da with
 |int i=>exact⟨i,p1.rb.int,k1 _ p1.same⟩
 |_=>exact k1.elim
theorem rC(O:XO w g c E X){x:Str}{fr:Bool}{e:Expr}{es:List Expr}{ies:Es}(h:glob c x=some (.fn fr))(ha:PA X (e::es) (tA w g c E ies))(he:d_ ies=true)(hs:∀z∈e::es,isStar z=false):PE X (.Call (.Name x p2) (e::es) [] pos) (tE w g c E (.call x ies)):=by
 obtain⟨f,h1,h2⟩:=O.gm h;refine PE.imp (xV O h2 (O.gl h) (qW h).2.2.1 ha hs) λσ H Q ⟨τ,S,se,k⟩=>?_
 simp only[zb,zf,ze,zd,zc,za,zi,zh,zg,qy,qB,qr,qC,qD,qe,qw,qt,qq,qx,qA,qR,qk,ql,qI,qz,qo,qN,qG,qJ,qS,qH,qO,qP,qu,qF,qM,qT,qK,qQ,qL]at k;refine gy se k λds vs H1 e1 s1 r1 r1' k1=>⟨S,ds,se.sub.same s1,by rw[dk];exact r1' he,tR.imp k1 λdd hk v H' s' r f=>hk v H' ⟨s1.trans s',.inl r,λ_=>r,(λz=>by cases z),λz l=>?_⟩⟩
 simp only[zL,(qW h).2.1,beq_iff_eq,b8,GK.fn.injEq]at z;exact(f z l).low s1
theorem CF(O:XO w g c E X){x:Str}{fr:Bool}{e:Expr}{es:List Expr}{ies:Es}(h:glob c x=some (.fn fr))(ha:PA X (e::es) (tA w g c E ies))(hs:∀z∈e::es,isStar z=false):PE X (.Call (.Name x p2) (e::es) [] pos) (tE w g c E (.callo x ies)):=λpins s σ H Q I ⟨τ,S,se,kk⟩=>by
 simp only[zb,zf,ze,zd,zc,za,zi,zh,zg,qy,qB,qr,qC,qD,qe,qw,qt,qq,qx,qA,qR,qk,ql,qI,qz,qo,qN,qG,qJ,qS,qH,qO,qP,qu,qF,qM,qT,qK,qQ,qL]at kk;exact bp kk
theorem BV(ha:PE X a (tE w g c E ia))(hb:PE X b (tE w g c E ib)):PE X (.Dict [some a] [b] pos) (tE w g c E (.dic1 ia ib)):=λpins s σ H Q I ⟨τ,S,se,kk⟩=>by
 simp only[zb,zf,ze,zd,zc,za,zi,zh,zg,qy,qB,qr,qC,qD,qe,qw,qt,qq,qx,qA,qR,qk,ql,qI,qz,qo,qN,qG,qJ,qS,qH,qO,qP,qu,qF,qM,qT,qK,qQ,qL]at kk;exact bp kk
theorem yP(O:XO w g c E X){o:Expr}{ap cp:Pos}(hb:baseOk o=true)(ho:PE X o (tE w g c E ia))(ha:PE X a (tE w g c E ib))(hs:isStar a=false)(hl:(ap.endLine==cp.line)=true) :
  PE X (.Call (.Attribute o "get" ap) [a] [] cp) (tE w g c E (.dget ia ib)):=λpins s σ H Q I ⟨τ,S,se,kk⟩=>by
 simp only[zb,zf,ze,zd,zc,za,zi,zh,zg,qy,qB,qr,qC,qD,qe,qw,qt,qq,qx,qA,qR,qk,ql,qI,qz,qo,qN,qG,qJ,qS,qH,qO,qP,qu,qF,qM,qT,qK,qQ,qL]at kk;exact bp kk
theorem yv(O:XO w g c E X){o d:Expr}{id:EV.E}{ap cp:Pos}(hb:baseOk o=true)(ho:PE X o (tE w g c E ia))(ha:PE X a (tE w g c E ib))(hd:PE X d (tE w g c E id))(hs:isStar a=false)(hsd:isStar d=false)(hes:esc id=true)(hl:(ap.endLine==cp.line)=true) :
  PE X (.Call (.Attribute o "get" ap) [a,d] [] cp) (tE w g c E (.dget2 ia ib id)):=λpins s σ H Q I ⟨τ,S,se,kk⟩=>by
 simp only[zb,zf,ze,zd,zc,za,zi,zh,zg,qy,qB,qr,qC,qD,qe,qw,qt,qq,qx,qA,qR,qk,ql,qI,qz,qo,qN,qG,qJ,qS,qH,qO,qP,qu,qF,qM,qT,qK,qQ,qL]at kk;exact bp kk
theorem tQ(O:XO w g c E X)(hc:X.calm=true){x:Str}{bb:Option B1}(h:glob c x=some (.ty "list" bb))(ha:PE X a (tE w g c E ia))(hs:isStar a=false):PE X (.Call (.Name x p2) [a] [] pos) (tE w g c E (.lsd ia)):=λpins s σ H Q I ⟨τ,S,se,kk⟩=>by
 simp only[zb,zf,ze,zd,zc,za,zi,zh,zg,qy,qB,qr,qC,qD,qe,qw,qt,qq,qx,qA,qR,qk,ql,qI,qz,qo,qN,qG,qJ,qS,qH,qO,qP,qu,qF,qM,qT,qK,qQ,qL]at kk;exact bp kk
theorem yh:PE X (.Dict [] [] pos) (tE w g c E .dic):=PE.imp yS λσ H Q ⟨τ,S,se,k⟩ p hp=>by
 simp only[zb,zf,ze,zd,zc,za,zi,zh,zg,qy,qB,qr,qC,qD,qe,qw,qt,qq,qx,qA,qR,qk,ql,qI,qz,qo,qN,qG,qJ,qS,qH,qO,qP,qu,qF,qM,qT,qK,qQ,qL]at k;exact k _ _ (bz.new (qU hp) (wx (kvs:=[]) se.sub hp) (CD (kvs:=[]) (qa.refl _) hp))
theorem mM{b:B1}{S:Sh}{H0 H:Hp}{ds:List D}{vs:List V}{Q:VK}{ies:Es}(s:qa H0 H)(hS:Sub S H)(r:fA g H S ds vs)(k:tR g E H (b1 b ds) λd=>∀v H',bz g c (.bi b ies) S H0 d v H'->Q v H'):rB1 g b vs H Q:=by
 refine⟨S,ds,hS,r,?_⟩;cases q:b1 b ds with
 |ok d=>
  rw[q]at k;have fw:fresh c (.bi b ies)=true->b=.list\/b=.sorted:=λz=>by cases b<;>simp[fresh]at z ⊢
  exact λv H' s' r' f=>k v H' ⟨s.trans s',.inl r',λ_=>r',λz=>(f (fw z)).low s,λz _=>(f (fw z)).low s⟩
 |ex z=>exact CK q
 |no=>rw[q]at k;exact k
theorem Ct(O:XO w g c E X){x:Str}{b:B1}{e:Expr}{es:List Expr}{ies:Es}(h:glob c x=some (.bi b))(hc:X.calm=true\/b=.len\/b=.abs)(ha:PA X (e::es) (tA w g c E ies))(hs:∀z∈e::es,isStar z=false):PE X (.Call (.Name x p2) (e::es) [] pos) (tE w g c E (.bi b ies)):=by
 obtain⟨h1,h2,id,h3⟩:=O.gm h;have hb:=oK b;rw[<-h2,h3]at hb;have hcall:=l4 (X:=X) (g:=g) O.K O.units b (by rcases hc with z|z|z;exact .inl z;exact .inr (.inl z);exact .inr (.inr (.inl z)));rw[h3]at hcall;refine PE.imp (jN hcall (O.gl h) h1 hb ha (qW h).2.2.2 (qW h).2.2.1 (qc (hs e a8)) (iB λz hz=>hs z (aV _ hz))) λσ H Q ⟨τ,S,se,k⟩=>?_
 simp only[zb,zf,ze,zd,zc,za,zi,zh,zg,qy,qB,qr,qC,qD,qe,qw,qt,qq,qx,qA,qR,qk,ql,qI,qz,qo,qN,qG,qJ,qS,qH,qO,qP,qu,qF,qM,qT,qK,qQ,qL]at k;exact gy se k λds vs H1 e1 s1 r1 r1' k1=>mM (ies:=ies) s1 (se.sub.same s1) r1 k1
theorem yX(O:XO w g c E X){x:Str}{n:String}{b:B1}{e:Expr}{es:List Expr}{ies:Es}(h:glob c x=some (.ty n (some b)))(ha:PA X (e::es) (tA w g c E ies))(hs:∀z∈e::es,isStar z=false):PE X (.Call (.Name x p2) (e::es) [] pos) (tE w g c E (.bi b ies)):=by
 obtain⟨h1,h2,_,h3⟩:=O.gm h;obtain⟨_,h4⟩:=h3 b rfl;have hcall:=l4 (X:=X) (g:=g) O.K O.units b (by cases b<;>simp[b1V]at h4 ⊢);rw[h4]at hcall;refine PE.imp (fH hcall (O.gl h) h1 h2 ha (qW h).2.2.2 (qW h).2.2.1 (qc (hs e a8)) (iB λz hz=>hs z (aV _ hz))) λσ H Q ⟨τ,S,se,k⟩=>?_
 simp only[zb,zf,ze,zd,zc,za,zi,zh,zg,qy,qB,qr,qC,qD,qe,qw,qt,qq,qx,qA,qR,qk,ql,qI,qz,qo,qN,qG,qJ,qS,qH,qO,qP,qu,qF,qM,qT,qK,qQ,qL]at k;exact gy se k λds vs H1 e1 s1 r1 r1' k1=>mM (ies:=ies) s1 (se.sub.same s1) r1 k1
end
section
variable{w:W}{g:Gc}{c:Cc}{E:XK}{X:Cx}{a b d f:Expr}{ia ib id' if':EV.E}{pos p2:Pos}{ta tb:T}
noncomputable def clV(g:Gc)(vc:V):Cl->Prop
 | .ty n=>vc=.ty n/\(n∈["int","bool","str","list","tuple"]\/n = "ValueError")
 | .ex x=>∃D,g.clA x=some D/\vc=.ref D
theorem tI{x:D}{cl:Cl}:(∃t n,tyD x=some t/\cl=.ty n/\n≠"ValueError"/\cW w x cl=.ok (.bl (fU t n)))\/cW w x cl=.no:=by
 unfold cW;cases e:tyD x with
 |some t=>
  cases cl with
  |ty n=>
   by_cases hn:n = "ValueError"
   ·exact .inr (by simp[hn])
   ·exact .inl ⟨t,n,rfl,rfl,hn,by simp[hn]⟩
  |ex y=>exact .inr rfl
 |none=>exact .inr (by cases cl<;>rfl)
theorem t_(O:XO w g c E X){x:Str}{k:Expr}{cl:Cl}(h:glob c x=some .isi)(ha:PE X a (tE w g c E ia))(hk:i0 c k=some cl)(hs:isStar a=false):PE X (.Call (.Name x p2) [a,k] [] pos) (tE w g c E (.isi ia cl)):=by
 obtain⟨h1,rfl⟩:=O.gm h;obtain⟨y,q,rfl⟩:∃y q,k=.Name y q:=by
  cases k<;>first|exact⟨_,_,rfl⟩|(simp[i0]at hk)
 obtain⟨vc,hv,hc⟩:∃vc,PE X (.Name y q) (tC vc)/\clV g vc cl:=by
  simp only[i0]at hk;split at hk
  ·rename_i n b e
   cases hk;obtain⟨z1,z2,z3,_⟩:=O.gm e;exact⟨.ty n,u6 (O.gl e) z1 z2 rfl (qW e).2.2.2 (qW e).2.2.1,rfl,z3⟩
  ·rename_i e
   cases hk;obtain⟨C,z1,z2⟩:=O.gm e;exact⟨.ref C,jX (O.gl e) z1 rfl (qW e).2.2.1,C,z2,rfl⟩
  ·rename_i e
   cases hk;obtain⟨C,z1,z2⟩:=O.gm e;exact⟨.ref C,jX (O.gl e) z1 rfl (qW e).2.2.1,C,z2,rfl⟩
  ·cases hk
 refine PE.imp (jN (uu O.K) (O.gl h) h1 (by decide +kernel) (zq ha (zq hv zX) (qc hs)) (by decide) (by decide) (qc hs) rfl) λσ H Q ⟨τ,S,se,k⟩=>?_
 simp only[zb,zf,ze,zd,zc,za,zi,zh,zg,qy,qB,qr,qC,qD,qe,qw,qt,qq,qx,qA,qR,qk,ql,qI,qz,qo,qN,qG,qJ,qS,qH,qO,qP,qu,qF,qM,qT,qK,qQ,qL]at k;refine zm se k λda va H1 e1 p1 k1=>?_
 rcases tI (w:=w) (x:=da) (cl:=cl)with ⟨t,n,z1,rfl,z2,z3⟩|z3
 ·rw[z3]at k1;obtain⟨rfl,hc|hc⟩:=hc
  ·exact⟨S,da,va,n,t,rfl,p1.rb,z1,hc,k1 _ _ (bz.of p1.same (.bl _) rfl)⟩
  ·exact absurd hc z2
 ·rw[z3]at k1;exact k1.elim
theorem uf(O:XO w g c E X)(ha:PE X a (tE w g c E ia))(he:∀whole,isTrue a X.env whole=(do let v <-whole;standAt a.pos;holding [v] (truthy v))):PT X a (tT w g c E (.val ia)):=
 PT.imp (Dj ha he) λσ H Q ⟨τ,S,se,k⟩=>by
  simp only[fj,fq,fb,fv,fg,fE,fz]at k;refine zm se k λda va H1 e1 p1 k1=>?_
  cases q:truth da with
  |ok z=>rw[q]at k1;exact⟨z,tD O.K p1.rb q,k1 _ p1.same⟩
  |ex z=>exact absurd q yN
  |no=>rw[q]at k1;exact k1.elim
theorem wd(ha:PT X a (tT w g c E ta)):PT X (.UnaryOp .Not a pos) (tT w g c E (.not ta)):=
 PT.imp (t6 ha) λσ H Q ⟨τ,S,se,k⟩=>by
  simp only[fj,fq,fb,fv,fg,fE,fz]at k;exact i7 se k λz H1 e1 s1 k1=>k1 _ s1
theorem Cj{rest:List Expr}(ha:PT X a (tT w g c E ta))(hb:PW X (.BoolOp .And (b::rest) pos) (tT w g c E tb)):PW X (.BoolOp .And (a::b::rest) pos) (tT w g c E (.and ta tb)):=
 PW.imp (Cf ha hb) λσ H Q ⟨τ,S,se,k⟩=>by
  simp only[fj,fq,fb,fv,fg,fE,fz]at k;refine i7 se k λz H1 e1 s1 k1=>?_
  cases z with
  |true=>exact⟨τ,S,se.up s1,tR.imp k1 λb hk H' s=>hk H' (s1.trans s)⟩
  |false=>exact k1 _ s1
theorem sh{rest:List Expr}(ha:PT X a (tT w g c E ta))(hb:PW X (.BoolOp .Or (b::rest) pos) (tT w g c E tb)):PW X (.BoolOp .Or (a::b::rest) pos) (tT w g c E (.or ta tb)):=
 PW.imp (Di ha hb) λσ H Q ⟨τ,S,se,k⟩=>by
  simp only[fj,fq,fb,fv,fg,fE,fz]at k;refine i7 se k λz H1 e1 s1 k1=>?_
  cases z with
  |false=>exact⟨τ,S,se.up s1,tR.imp k1 λb hk H' s=>hk H' (s1.trans s)⟩
  |true=>exact k1 _ s1
theorem PI.or{tg e:Expr}{t t':TI}(h:PI X tg e t)(h':PI X tg e t'):PI X tg e (λσ H R=>t σ H R\/t' σ H R):=λpins s σ H R I q=>by
 rcases q with q|q
 ·exact h pins s σ H R I q
 ·exact h' pins s σ H R I q
theorem pY{K:aC}{a:Addr}{vs:List V}{ds:List D}{H:Hp}{S:Sh}(hl:SqL K H a vs)(r:qV g (hid H S) ds vs):Goes g (Itl K a) ds H S:=by
 refine⟨λi hi=>⟨vs,hl,by rw[<-r.length];exact hi⟩,λi d hd=>?_⟩;obtain⟨v,h1,h2⟩:=r.get hd;refine⟨⟨vs,v,hl,h1⟩,λx H' ⟨e,hx⟩=>?_⟩;subst e;have:=hx vs hl;rw[h1]at this;cases this;exact⟨qa.refl _,h2⟩
theorem pO{K:aC}{a:Addr}{vs:List V}{ds:List D}{H:Hp}{S:Sh}(hl:SqT K H a vs)(r:qV g (hid H S) ds vs):Goes g (Itt K a) ds H S:=by
 refine⟨λi hi=>⟨vs,hl,by rw[<-r.length];exact hi⟩,λi d hd=>?_⟩;obtain⟨v,h1,h2⟩:=r.get hd;refine⟨⟨vs,v,hl,h1⟩,λx H' ⟨e,hx⟩=>?_⟩;subst e;have:=hx vs hl;rw[h1]at this;cases this;exact⟨qa.refl _,h2⟩
theorem p5:∀{xs:List D}{k i:Nat}{d:D},(dN k xs)[i]? = some d->∃x,xs[i]? = some x/\d=.tup [.int ((k+i:Nat):Int),x]
 | [],_,_,_,h=>by simp[dN]at h
 |x::r,k,0,d,h=>by simp[dN]at h;exact⟨x,rfl,by rw[<-h];rfl⟩
 |x::r,k,i+1,d,h=>by
  simp only[dN,List.getElem?_cons_succ]at h;obtain⟨y,h1,h2⟩:=p5 h;exact⟨y,by simpa using h1,by rw[h2,show k+1+i=k+(i+1)by lia]⟩
theorem lB:∀(xs:List D) (k:Nat),(dN k xs).length=xs.length
 | [],_=>rfl
 |x::r,k=>by simp[dN,lB r]
theorem q_{K:aC}{a:Addr}{vs:List V}{ds:List D}{H:Hp}{S:Sh}(hl:SqL K H a vs)(r:qV g (hid H S) ds vs)(hS:Sub S H):Goes g (Ite K a) (dN 0 ds) H S:=by
 refine⟨λi hi=>⟨vs,hl,by rw[<-r.length,<-lB ds 0];exact hi⟩,λi d hd=>?_⟩;obtain⟨y,h0,rfl⟩:=p5 hd;obtain⟨v,h1,h2⟩:=r.get h0;refine⟨⟨vs,v,hl,h1⟩,λx H' ⟨p,z,hp,e1,e2,hx⟩=>?_⟩;subst e1 e2;have:=hx vs hl;rw[h1]at this;cases this;refine⟨qU hp,?_⟩;rw[Nat.zero_add];exact fF hS hp (.cons (.int _) (.cons h2 .nil))
theorem je{lo:Int}{n:Nat}{H:Hp}{S:Sh}:Goes g (Itr lo n) (zE lo n) H S:=by
 refine⟨λi hi=>by show n<=i;simpa[zE]using hi,λi d hd=>?_⟩;unfold zE at hd;rw[List.getElem?_map]at hd;cases q:(a_ n)[i]? with
 |none=>rw[q]at hd;cases hd
 |some j=>
  rw[q]at hd;cases hd;have hi:=(List.getElem?_eq_some_iff.mp q)
  obtain⟨h1,h2⟩:=hi;simp at h1 h2;subst h2;exact⟨h1,λx H' ⟨e1,e2⟩=>by subst e1 e2;exact⟨qa.refl _,.int _⟩⟩
theorem pK{lo st:Int}{n:Nat}{H:Hp}{S:Sh}:Goes g (ItS lo st n) (fC lo st n) H S:=by
 refine⟨λi hi=>by show n<=i;simpa[fC]using hi,λi d hd=>?_⟩;unfold fC at hd;rw[List.getElem?_map]at hd;cases q:(a_ n)[i]? with
 |none=>rw[q]at hd;cases hd
 |some j=>
  rw[q]at hd;cases hd;have hi:=(List.getElem?_eq_some_iff.mp q)
  obtain⟨h1,h2⟩:=hi;simp at h1 h2;subst h2;exact⟨h1,λx H' ⟨e1,e2⟩=>by subst e1 e2;exact⟨qa.refl _,.int _⟩⟩
theorem Bq(O:XO w g c E X){tg:Expr}(ha:PE X a (tE w g c E ia)):PI X tg a (tIt w g c E (.seq ia)):=
 PI.imp (PI.or (AE ha) (xZ ha)) λσ H R ⟨τ,S,se,k⟩=>by
  have k0:=k;simp only[evI]at k;cases q:evE w ia τ with
  |ex z=>exact .inl ⟨τ,S,se,by rw[q]at k ⊢;exact k⟩
  |no=>rw[q]at k;exact k.elim
  |ok dd=>
   cases dd with
   |lst ds=>
    refine .inl (zm se k λda va H1 e1 p1 k1=>?_);rw[q]at e1;cases e1;obtain⟨ad,vs,rfl,h1,r1⟩:=p1.rb.lst;rw[<-O.K]at h1;refine⟨ad,rfl,⟨vs,h1⟩,k1 _ H1 p1.same (λH2 S2 s1 s2 _=>pY (s1.seq h1) (r1.mono s2)) λho H2 S2 s2 _=>?_⟩;have he:esc ia=true:=by
     cases ia<;>first|rfl|(simp[owned]at ho)
    cases p1.st he with
    |lst h2 r2=>exact pY (by rw[O.K];exact(s2.trans dv).seq h2) (r2.mono s2)
   |tup ds=>
    refine .inr (zm se k λda va H1 e1 p1 k1=>?_);rw[q]at e1;cases e1;cases p1.rb.strong (by intro _ z;cases z)with
    |tup h2 r2=>
     refine⟨_,rfl,⟨_,by rw[O.K];exact eW dv h2⟩,k1 _ H1 p1.same (λH2 S2 s1 s2 _=>pO (by rw[O.K];exact eW (s2.trans dv) h2) (r2.mono s2)) λho H2 S2 s2 _=>pO (by rw[O.K];exact eW (s2.trans dv) h2) (r2.mono s2)⟩
   |_=>rw[q]at k;exact k.elim
theorem zy{j:Int}(h:qg j=true):-1000000<=j/\j<=1000000:=by simpa[qg]using h
theorem vR(O:XO w g c E X){x:Str}{tg:Expr}(h:glob c x=some .rng)(ha:PE X a (tE w g c E ia))(hs:isStar a=false):PI X tg (.Call (.Name x p2) [a] [] pos) (tIt w g c E (.rng ia)):=by
 obtain⟨h1,rfl⟩:=O.gm h;refine PI.imp (tO (O.gl h) h1 (zq ha zX (qc hs)) (qc hs)) λσ H R ⟨τ,S,se,k⟩=>?_
 simp only[evI]at k;refine zm se k λda va H1 e1 p1 k1=>?_
 cases da with
 |int j=>
  simp only at k1;cases q:qg j with
  |true=>
   rw[q,if_pos rfl]at k1;obtain⟨z1,z2⟩:=zy q;exact⟨j,by rw[p1.rb.int],by lia,by lia,k1 _ H1 p1.same (λ_ _ _ _ _=>je) λ_ _ _ _ _=>je⟩
  |false=>rw[q]at k1;exact k1.elim
 |_=>exact k1.elim
theorem Al(O:XO w g c E X){x:Str}{tg:Expr}(h:glob c x=some .rng)(ha:PE X a (tE w g c E ia))(hb:PE X b (tE w g c E ib))(hs:isStar a=false)(hs':isStar b=false):PI X tg (.Call (.Name x p2) [a,b] [] pos) (tIt w g c E (.rng2 ia ib)):=by
 obtain⟨h1,rfl⟩:=O.gm h;refine PI.imp (w_ (O.gl h) h1 (zq ha (zq hb zX (qc hs')) (qc hs)) (by rw[qc hs,qc hs'];rfl) (qc hs')) λσ H R ⟨τ,S,se,k⟩=>?_
 simp only[evI]at k;refine zm se k λda va H1 e1 p1 k1=>zm (se.up p1.same) k1 λdb vb H2 e2 p2 k2=>?_
 cases da with
 |int i=>
  cases db with
  |int j=>
   simp only at k2;cases q:qg i&&qg j with
   |true=>
    rw[q,if_pos rfl]at k2;simp only[aM]at q;obtain⟨z1,z2⟩:=zy q.1;obtain⟨z3,z4⟩:=zy q.2;exact⟨i,j,by rw[p1.rb.int,p2.rb.int],⟨by lia,by lia,by lia,by lia⟩,k2 _ H2 (p1.same.trans p2.same) (λ_ _ _ _ _=>je) λ_ _ _ _ _=>je⟩
   |false=>rw[q]at k2;exact k2.elim
  |_=>exact k2.elim
 |_=>exact k2.elim
theorem CW(O:XO w g c E X){x:Str}{tg d:Expr}{id:EV.E}(h:glob c x=some .rng)(ha:PE X a (tE w g c E ia))(hb:PE X b (tE w g c E ib))(hd:PE X d (tE w g c E id))(hs:isStar a=false)(hs':isStar b=false)(hs'':isStar d=false):PI X tg (.Call (.Name x p2) [a,b,d] [] pos) (tIt w g c E (.rng3 ia ib id)):=by
 obtain⟨h1,rfl⟩:=O.gm h;refine PI.imp (xk (O.gl h) h1 (zq ha (zq hb (zq hd zX (qc hs'')) (qc hs')) (qc hs)) (qc hs) (by rw[qc hs',qc hs''];rfl)) λσ H R ⟨τ,S,se,k⟩=>?_
 simp only[evI]at k;refine zm se k λda va H1 e1 p1 k1=>zm (se.up p1.same) k1 λdb vb H2 e2 p2 k2=>zm ((se.up p1.same).up p2.same) k2 λdd vd H3 e3 p3 k3=>?_
 cases da with
 |int i=>
  cases db with
  |int j=>
   cases dd with
   |int l=>
    simp only at k3;cases q:qg i&&qg j&&(decide (0<l)&&qg l)with
    |true=>
     rw[q,if_pos rfl]at k3;simp only[aM,decide_eq_true_eq]at q;obtain⟨z1,z2⟩:=zy q.1.1;obtain⟨z3,z4⟩:=zy q.1.2;obtain⟨z5,z6⟩:=zy q.2.2;exact⟨i,j,l,by rw[p1.rb.int,p2.rb.int,p3.rb.int],⟨z1,z2,z3,z4,q.2.1,z6⟩,k3 _ H3 ((p1.same.trans p2.same).trans p3.same) (λ_ _ _ _ _=>pK) λ_ _ _ _ _=>pK⟩
    |false=>rw[q]at k3;exact k3.elim
   |_=>exact k3.elim
  |_=>exact k3.elim
 |_=>exact k3.elim
theorem wj(O:XO w g c E X){x:Str}{es:List Expr}{ek:Nat}{epos:Pos}(h:glob c x=some .enum)(ha:PE X a (tE w g c E ia))(hs:isStar a=false):PI X (.Tuple es ek epos) (.Call (.Name x p2) [a] [] pos) (tIt w g c E (.enum ia)):=by
 obtain⟨h1,rfl⟩:=O.gm h;refine PI.imp (CI (O.gl h) h1 (by decide +kernel) (zq ha zX (qc hs)) (qc hs)) λσ H R ⟨τ,S,se,k⟩=>?_
 simp only[evI]at k;refine zm se k λda va H1 e1 p1 k1=>?_
 cases da with
 |lst ds=>
  obtain⟨ad,vs,rfl,h1,r1⟩:=p1.rb.lst;rw[<-O.K]at h1;refine⟨ad,rfl,⟨vs,h1⟩,k1 _ H1 p1.same (λH2 S2 s1 s2 s3=>q_ (s1.seq h1) (r1.mono s2) s3) λho H2 S2 s2 s3=>?_⟩;have he:esc ia=true:=by
   cases ia<;>first|rfl|(simp[owned]at ho)
  cases p1.st he with
  |lst h2 r2=>exact q_ (by rw[O.K];exact(s2.trans dv).seq h2) (r2.mono s2) s3
 |_=>exact k1.elim
theorem AU(O:XO w g c E X){x:Str}{es:List Expr}{ek:Nat}{epos:Pos}(h:glob c x=some .zip)(ha:PE X a (tE w g c E ia))(hb:PE X b (tE w g c E ib))(hs:isStar a=false)(hs':isStar b=false):PI X (.Tuple es ek epos) (.Call (.Name x p2) [a,b] [] pos) (tIt w g c E (.zip ia ib)):=λpins s σ H R I ⟨τ,S,se,kk⟩=>by
 simp only[evI]at kk;exact bp kk
end
noncomputable def hZ:List Nat->TGs
 | []=>mq
 |i::is=>pA (fh i) (hZ is)
noncomputable def gT(K:aC):Tg->TG
 | .nm i=>fh i
 | .tp is=>oM K is.length (hZ is)
section
variable{w:W}{g:Gc}{c:Cc}{E:XK}{X:Cx}
theorem eS{x:Str}{i:Nat}(h:dw c x=some i):loc c x=some i/\(c.nm.lookup x=some .local\/(c.nm.lookup x=some .cell/\(c.fnc=true\/c.oc.contains x=true))):=by
 unfold dw at h;split at h
 ·rename_i q;exact⟨h,.inl q⟩
 ·rename_i q
  split at h
  ·rename_i z;exact⟨h,.inr ⟨q,by simpa using z⟩⟩
  ·cases h
 ·cases h
theorem pk(O:XO w g c E X){x:Str}{i:Nat}{pos:Pos}(h:dw c x=some i):PG X (.Name x pos) (fh i):=by
 obtain⟨h1,h2⟩:=eS h;obtain⟨h3,_⟩:=fk h1;refine wm (by rw[O.N];exact O.nd) (by rw[O.N];exact h3) (by unfold L2.Loc;rw[O.nm];rcases h2 with z|z;exact .inl z;exact .inr z.1) ?_;rcases h2 with z|z
 ·exact .inr (by rw[O.nm];exact z)
 ·exact .inl (O.fn x z.2)
theorem pV:∀{es:List Expr}{xs:List Str},fX es=some xs->∃ps:List Pos,es=(xs.zip ps).map (λp=>Expr.Name p.1 p.2)/\ps.length=xs.length
 | [],xs,h=>by simp[fX]at h;subst h;exact⟨[],rfl,rfl⟩
 |e::es,xs,h=>by
  cases e with
  |Name y p=>
   simp only[fX,bA]at h;obtain⟨ys,h1,rfl⟩:=h;obtain⟨ps,h2,h3⟩:=pV h1;exact⟨p::ps,by rw[h2];rfl,by simp[h3]⟩
  |_=>simp[fX]at h
theorem mV(O:XO w g c E X):∀{xs:List Str}{ps:List Pos}{is:List Nat},ps.length=xs.length->xs.mapM (dw c)=some is ->
  PGs X ((xs.zip ps).map λp=>Expr.Name p.1 p.2) (hZ is)/\(assignEach ((xs.zip ps).map λp=>Expr.Name p.1 p.2) X.env).length=is.length/\(assignEach ((xs.zip ps).map λp=>Expr.Name p.1 p.2) X.env).findIdx? (·.1)=none
 | [],ps,is,_,h=>by
  simp at h;subst h;exact⟨Cp,rfl,rfl⟩
 |x::xs,[],_,h,_=>by simp at h
 |x::xs,p::ps,is,hl,h=>by
  simp only[List.mapM_cons,aI,aH]at h;obtain⟨i,h1,js,h2,h3⟩:=h;cases h3;obtain⟨r1,r2,r3⟩:=mV O (xs:=xs) (ps:=ps) (by simpa using hl) h2;refine⟨uv (pk O h1) r1 rfl,?_,?_⟩
  ·show (assignEach ((xs.zip ps).map λp=>Expr.Name p.1 p.2) X.env).length+1=js.length+1;rw[r2]
  ·show List.findIdx? (·.1) ((false,_)::assignEach ((xs.zip ps).map λp=>Expr.Name p.1 p.2) X.env)=none;rw[List.findIdx?_cons];simp only[aW,if_false];rw[r3];rfl
theorem jo(O:XO w g c E X){e:Expr}{tg:Tg}(h:cTg c e=some tg):PG X e (gT X.K tg):=by
 cases e with
 |Name x p=>
  simp only[cTg]at h;split at h
  ·cases h
  ·simp only[bA]at h;obtain⟨i,h1,rfl⟩:=h;exact pk O h1
 |Tuple es k p=>
  simp only[cTg]at h;split at h
  ·rename_i hc
   simp only[aI,aH]at h;obtain⟨xs,h1,h⟩:=h;split at h
   ·cases h
   ·simp only[aH]at h;obtain⟨is,h2,h⟩:=h;split at h
    ·cases h;obtain⟨ps,rfl,hl⟩:=pV h1;obtain⟨r1,r2,r3⟩:=mV O hl h2;exact vQ (O.calm hc) r1 r2 r3
    ·cases h
  ·cases h
 |_=>simp[cTg]at h
noncomputable def gL(c:Cc):Tg->Prop
 | .nm i=>∀x,c.N[i]? = some x->c.own.contains x=false
 | .tp is=>∀i∈is,∀x,c.N[i]? = some x->c.own.contains x=false
theorem oN{α β:Type}{f:α->Option β}:∀{xs:List α}{ys:List β},xs.mapM f=some ys->∀y∈ys,∃x∈xs,f x=some y
 | [],ys,h,y,hy=>by simp at h;subst h;simp at hy
 |x::xs,ys,h,y,hy=>by
  simp only[List.mapM_cons,aI,aH]at h;obtain⟨z,h1,zs,h2,h3⟩:=h;cases h3;rcases aN.mp hy with rfl|hy
  ·exact⟨x,a8,h1⟩
  ·obtain⟨x',h4,h5⟩:=oN h2 y hy;exact⟨x',aV _ h4,h5⟩
theorem rf{e:Expr}{tg:Tg}(h:cTg c e=some tg):gL c tg:=by
 have one:∀{x:Str}{i:Nat},c.own.contains x=false->dw c x=some i->∀y,c.N[i]? = some y->c.own.contains y=false:=λ{x i} ho hl y hy=>by
  obtain⟨h3,_⟩:=fk (eS hl).1;rw[h3]at hy;cases hy;exact ho
 cases e with
 |Name x p=>
  simp only[cTg]at h;split at h
  ·cases h
  ·rename_i ho
   simp only[bA]at h;obtain⟨i,h1,rfl⟩:=h;exact one (by simpa using ho) h1
 |Tuple es k p=>
  simp only[cTg]at h;split at h
  ·simp only[aI,aH]at h;obtain⟨xs,h1,h⟩:=h;split at h
   ·cases h
   ·rename_i ho
    simp only[aH]at h;obtain⟨is,h2,h⟩:=h;split at h
    ·cases h;intro i hi;obtain⟨x,hx,hl⟩:=oN h2 i hi;refine one ?_ hl;cases q:c.own.contains x with
     |false=>rfl
     |true=>exact absurd (List.any_eq_true.mpr ⟨x,hx,q⟩) ho
    ·cases h
  ·cases h
 |_=>simp[cTg]at h
section
variable{τ τ':Env}{σ:L2.St}{H:Hp}{S:Sh}
theorem SE.set{i:Nat}{d:D}{v:V}(se:SE g c τ σ H S)(r:Rep g (hid H S) d v):SE g c (τ.set i (some d)) (σ.set i (some v)) H S:=by
 refine⟨by simp[se.len],λj e h=>?_,se.sub⟩;by_cases hij:i=j
 ·subst hij;by_cases hi:i<τ.length
  ·simp[hi]at h;subst h;have hi':i<σ.length:=by rw[<-se.len];exact hi
   exact⟨v,by simp[hi'],.inl r,λ_ _ _=>r⟩
  ·rw[List.set_eq_of_length_le (by lia)]at h;rw[List.getElem?_eq_none (by lia)]at h;cases h
 ·rw[List.getElem?_set_ne hij]at h ⊢;exact se.val j e h
theorem SE.setAll{is:List Nat}:∀{ds:List D}{vs:List V}{τ:Env}{σ:L2.St}{Q:L2.St->Hp->Prop},SE g c τ σ H S->qV g (hid H S) ds vs->setAll is ds τ=.ok τ'->(∀σ',SE g c τ' σ' H S->Q σ' H)->hZ is vs σ H Q:=by
 induction is with
 |nil=>
  intro ds vs τ σ Q se r h k;cases r with
  |nil=>cases (show R.ok τ=R.ok τ' from h);exact⟨rfl,k σ se⟩
  |cons _ _=>cases (show R.no=R.ok τ' from h)
 |cons i is ih=>
  intro ds vs τ σ Q se r h k;cases r with
  |nil=>cases (show R.no=R.ok τ' from h)
  |cons r rs=>exact⟨_,_,rfl,ih (se.set r) rs h k⟩
theorem xi(O:X.K=g.K){tg:Tg}{d:D}{v:V}{Q:L2.St->Hp->Prop}(se:SE g c τ σ H S)(r:Rep g (hid H S) d v)(h:store tg d τ=.ok τ')(k:∀σ',SE g c τ' σ' H S->Q σ' H):gT X.K tg v σ H Q:=by
 cases tg with
 |nm i=>
  simp only[store,R.ok.injEq]at h;subst h;exact k _ (se.set r)
 |tp is=>
  cases d with
  |tup ds=>
   simp only[store]at h;split at h
   ·rename_i hl
    cases r with
    |tup h1 r1=>exact⟨_,_,rfl,by rw[O];exact eW dv h1,by rw[<-r1.length];exact hl,se.setAll r1 h k⟩
   ·cases h
  |_=>simp[store]at h
end
end
abbrev dz(c:Cc)(sc:a9):Cc:={c with nm:=i4 sc.names c.nm,N:=bY sc.names,fnc:=false,oc:=gC sc.names}
section
variable{w:W}{g:Gc}{c:Cc}{E:XK}{X:Cx}
theorem XO.comp(O:XO w g c E X){sc:a9}(hk:sc.kind=.function)(hnd:(bY sc.names).Nodup)(cl:List (Str×Addr))(C:Addr)(s₀:af)(H₀:Hp)(fp:List Addr):XO w g (dz c sc) E0 (zC X (bY sc.names) sc cl C s₀ H₀ fp) where
 K:=O.K
 nm:=by
  show (relabel sc X.env).names=i4 sc.names c.nm;unfold relabel i4;simp only
  congr 1
  funext p;have h1:(X.env.scope.kind==ScopeKind.function)=true:=by rw[O.kind];rfl
  have h2:X.env.kindOf p.1=c.nm.lookup p.1:=by show X.env.scope.names.lookup p.1=_;rw[O.nm]
  obtain⟨n,k⟩:=p;simp only at h2;simp only[h1,h2,Bool.and_true]
 N:=rfl
 nd:=hnd
 calm:=O.calm
 units:=O.units
 fn:=λx z=>z.elim (λz=>by cases z) λz=>z
 kind:=hk
 pass:=nI rfl rfl
 gok:=O.gok
 fns:=O.fns
 sub:=O.sub
theorem sL{α:Type}{τ:Env}{σ:L2.St}{H:Hp}{S:Sh}{it:It}{f:List D->R α}{P:α->Prop}{R':L2.It->Hp->Prop}(se:SE g c τ σ H S)(h:tR g E H ((evI w it τ).bind f) P)
  (k:∀ds J H',evI w it τ=.ok ds->qa H H'->(∀H2 S2,qa H' H2->qa (hid H' S) (hid H2 S2)->Sub S2 H2->Goes g J ds H2 S2)->(owned it=false->∀H2 S2,qa (hid H' S) (hid H2 S2)->Sub S2 H2->Goes g J ds H2 S2)->tR g E H' (f ds) P->R' J H'):tIt w g c E it σ H R':=by
 refine⟨τ,S,se,?_⟩;cases q:evI w it τ with
 |ok d=>rw[q]at h;exact λJ H' s k1 k2=>k d J H' q s k1 k2 (tR.up h s)
 |ex x=>rw[q]at h;exact h
 |no=>rw[q]at h;exact h
theorem Cq{α:Type}{r:R α}{x:Str}:noEx r≠.ex x:=by cases r<;>intro h<;>cases h
theorem v9{α:Type}{r:R α}{a:α}(h:noEx r=.ok a):r=.ok a:=by cases r<;>first|exact h|cases h
theorem m8{body:D->Env->R (Env×List D)}(hb:∀d τ x,body d τ≠.ex x):∀{ds:List D}{τ:Env}{acc:List D}{x:Str},cn body ds τ acc≠.ex x
 | [],_,_,_,h=>by cases h
 |d::r,τ,acc,x,h=>by
  simp only[cn]at h;cases q:body d τ with
  |ok p=>rw[q]at h;exact m8 hb h
  |ex y=>exact hb _ _ _ q
  |no=>rw[q]at h;cases h
theorem SE.caps{sc:a9}{cap:List (Option Nat)}{τ:Env}{σ:L2.St}{H:Hp}{S:Sh}(O:XO w g c E X)(hc:pX X (bY sc.names) cap sc)(se:SE g c τ σ H S):SE g (dz c sc) (eM cap τ) (L2.caps cap σ) H S:=by
 refine⟨by simp[eM,L2.caps],λi d h=>?_,se.sub⟩;unfold eM at h;rw[List.getElem?_map]at h;cases q:cap[i]? with
 |none=>rw[q]at h;cases h
 |some o=>
  cases o with
  |none=>rw[q]at h;cases h
  |some j=>
   rw[q]at h;simp only[Option.map_some,Option.bind_some,b8]at h;cases q2:τ[j]? with
   |none=>rw[q2]at h;cases h
   |some z=>
    rw[q2]at h;cases z with
    |none=>cases h
    |some d'=>
     have:d'=d:=by simpa using h
     subst this;obtain⟨v,h1,h2,h3⟩:=se.val j d' q2;refine⟨v,?_,h2,λx hx ho=>?_⟩
     ·unfold L2.caps;rw[List.getElem?_map,q];simp[h1]
     ·obtain⟨y,e1,e2,_⟩:=hc.2 i j q;have hx':(bY sc.names)[i]? = some x:=hx;rw[e1]at hx';cases hx';exact h3 _ (by rw[<-O.N];exact e2) ho
theorem iC{H:Hp}{S:Sh}{p:Addr}{o:HO}(h:S.h p=true):hid (upd H p o) S=hid H S:=by
 funext b;unfold hid;by_cases hb:b=p
 ·subst hb;rw[if_pos h,if_pos h]
 ·rw[qm hb]
theorem SE.grow{c:Cc}{τ:Env}{σ:L2.St}{H:Hp}{S:Sh}{p:Addr}{o:HO}(se:SE g c τ σ H S)(h:S.h p=true)(ho:S.o p=false):SE g c τ σ (upd H p o) S:=by
 refine⟨se.len,λi d e=>?_,λa ha n=>?_⟩
 ·obtain⟨v,h1,h2,h3⟩:=se.val i d e;refine⟨v,h1,?_,λx hx hy=>by rw[iC h];exact h3 x hx hy⟩;rcases h2 with h2|⟨a,o',z1,z2,z4,z5⟩
  ·exact .inl (by rw[iC h];exact h2)
  ·refine .inr ⟨a,o',z1,z2,?_,by rw[iC h];exact z5⟩;rw[qm (λz=>by rw[z,ho]at z1;cases z1)];exact z4
 ·by_cases hb:a=p
  ·subst hb;rw[zr]at n;cases n
  ·rw[qm hb]at n;exact se.sub a ha n
theorem SE.hide{c:Cc}{τ:Env}{σ:L2.St}{H:Hp}{S:Sh}{p:Addr}{vs:List V}(se:SE g c τ σ H S)(hp:H p=none):SE g c τ σ (upd H p (.lst vs)) (cw S p):=by
 refine⟨se.len,λi d e=>?_,λa ha n=>?_⟩
 ·obtain⟨v,h1,h2,h3⟩:=se.val i d e;refine⟨v,h1,?_,λx hx hy=>(h3 x hx hy).mono (i6 hp)⟩;rcases h2 with h2|⟨a,o',z1,z2,z4,z5⟩
  ·exact .inl (h2.mono (i6 hp))
  ·exact .inr ⟨a,o',z1,z2,qU hp _ _ z4,z5.mono (i6 hp)⟩
 ·by_cases hb:a=p
  ·subst hb;rw[zr]at n;cases n
  ·rw[qm hb]at n;refine se.sub a ?_ n;rcases ha with ha|ha
   ·refine .inl ?_;have ha:(S.h a||a==p)=true:=ha
    simpa[hb]using ha
   ·exact .inr ha
theorem rj(O:XO w g c E X){sc:a9}{cap:List (Option Nat)}{iit:It}{itg:Tg}{tt:T}{ielt:EV.E}(hS:dH X (bY sc.names) cap sc)(he:esc ielt=true){σ:L2.St}{H:Hp}{Q:VK}(hq:tE w g c E (.comp iit cap itg tt ielt) σ H Q) :
  kM cap (tIt w g c E iit) (gT X.K itg) (tT w g (dz c sc) E0 tt) (λacc=>jj acc (tE w g (dz c sc) E0 ielt)) σ H Q:=by
 obtain⟨τ,S,se,k⟩:=hq;simp only[zb,zf,ze,zd,zc,za,zi,zh,zg,qy,qB,qr,qC,qD,qe,qw,qt,qq,qx,qA,qR,qk,ql,qI,qz,qo,qN,qG,qJ,qS,qH,qO,qP,qu,qF,qM,qT,qK,qQ,qL]at k;refine sL se k λds J H1 e1 s1 kW _ k1 acc hacc=>?_
 by_cases hz:SZ<ds.length
 ·rw[if_pos hz]at k1;exact k1.elim
 rw[if_neg hz]at k1;generalize hbody:(λx σ=>noEx ((store itg x σ).bind λσ'=>(evT w tt σ').bind λr=>if r=true then (evE w ielt σ').bind λd=>R.ok (σ',[d])else R.ok (σ',[])))=body at k1;have bex:∀d τ x,body d τ≠.ex x:=λd τ x=>by rw[<-hbody];exact Cq
 cases hl:cn body ds (eM cap τ) []with
 |ex z=>exact absurd hl (m8 bex)
 |no=>rw[hl]at k1;exact k1.elim
 |ok out=>
  rw[hl]at k1;simp only[R.bind_ok]at k1;have k1:∀v H',bz g c (.comp iit cap itg tt ielt) S H (.lst out) v H'->Q v H':=k1;have sub1:=se.sub.same s1;have hoacc:S.o acc=false:=sub1.freeO hacc;have hhacc:(cw S acc).h acc=true:=by show (S.h acc||acc==acc)=true;simp
  -- what holds between two turns
  refine⟨λi m σ' H'=>m=ds.length-i/\i<=ds.length/\∃τ' o,cn body (ds.drop i) τ' o=.ok out/\SE g (dz c sc) τ' σ' H' (cw S acc)/\o.length<=i/\qa H1 H'/\∃vs,H' acc=some (.lst vs)/\qV g (hid H' (cw S acc)) o vs,
   ⟨ds.length,rfl,br _,eM cap τ,[],hl,(se.up s1).caps O hS.cap |>.hide hacc,aD _,qU hacc,[],zr,.nil⟩,?_⟩
  rintro i m σ' H' ⟨rfl,hi',τ',o,hlo,se',hol,s1',vs,hv,hr⟩;have keep:qa (hid H1 S) (hid H' (cw S acc)):=λb u hb=>by
   obtain⟨z1,z2⟩:=bW.mp hb;refine bW.mpr ⟨?_,s1' _ _ z2⟩;show (S.h b||b==acc)=false;rw[z1]
   simpa using λz:b=acc=>by rw[z,hacc]at z2;cases z2
  obtain⟨g1,g2⟩:=kW H' (cw S acc) s1' keep se'.sub;by_cases hlt:i<ds.length
  ·have hd:ds[i]? = some ds[i]:=List.getElem?_eq_getElem hlt;obtain⟨go1,go2⟩:=g2 i ds[i] hd;refine .inr ⟨go1,λσ'' H''=>∃τ' o,cn body (ds.drop (i+1)) τ' o=.ok out/\SE g (dz c sc) τ' σ'' H'' (cw S acc)/\o.length<=i+1/\qa H1 H''/\∃vs,H'' acc=some (.lst vs)/\qV g (hid H'' (cw S acc)) o vs,
    λσ'' H'' z=>⟨ds.length-(i+1),by lia,rfl,hlt,z⟩,λx H2 hy=>?_⟩
   obtain⟨s2,rx⟩:=go2 x H2 hy;rw[e_ hlt]at hlo;simp only[cn]at hlo;cases q:body ds[i] τ' with
   |ex z=>exact absurd q (bex _ _ _)
   |no=>rw[q]at hlo;cases hlo
   |ok p=>
    rw[q]at hlo;simp only[R.bind_ok]at hlo;rw[<-hbody]at q;have q:=v9 q;cases q1:store itg ds[i] τ' with
    |ex z=>rw[q1]at q;cases q
    |no=>rw[q1]at q;cases q
    |ok τ1=>
     rw[q1]at q;simp only[R.bind_ok]at q;refine xi O.K (se'.up s2) rx q1 λσ1 se1=>?_
     cases q2:evT w tt τ1 with
     |ex z=>rw[q2]at q;cases q
     |no=>rw[q2]at q;cases q
     |ok r=>
      rw[q2]at q;simp only[R.bind_ok]at q;refine⟨τ1,cw S acc,se1,?_⟩;rw[q2];intro H3 s3;have hv3:=s3 _ _ (s2 _ _ hv);have s13:=s1'.trans (s2.trans s3);cases r with
      |false=>
       simp only[aW,if_false,R.ok.injEq]at q;subst q;rw[if_neg dA];exact⟨τ1,o++[],hlo,se1.up s3,by simp;lia,s13,vs,hv3,by rw[dk];exact hr.mono (qX (s2.trans s3))⟩
      |true=>
       simp only[if_true]at q;rw[if_pos rfl];cases q3:evE w ielt τ1 with
       |ex z=>rw[q3]at q;cases q
       |no=>rw[q3]at q;cases q
       |ok dd=>
        rw[q3]at q;simp only[R.bind_ok,R.ok.injEq]at q;subst q;refine⟨τ1,cw S acc,se1.up s3,?_⟩;rw[q3];intro v H4 p4;have hv4:=p4.same _ _ hv3;have hr4:=hr.mono (qX ((s2.trans s3).trans p4.same));have hz':vs.length<sizeLine:=by
         rw[<-hr.length,bf];have:ds.length<=SZ:=dD hz;unfold SZ at this;lia
        refine⟨vs,hv4,hz',τ1,o++[dd],hlo,(se1.up (s3.trans p4.same)).grow hhacc hoacc,by simp;lia,λb u hb=>?_,vs++[v],zr,?_⟩
        ·rw[qm (λz=>by rw[z,hacc]at hb;cases hb)];exact p4.same _ _ (s13 _ _ hb)
        ·rw[iC hhacc];exact hr4.append (.cons (p4.st he) .nil)
  ·have e:i=ds.length:=by lia
   subst e;refine .inl ⟨g1 ds.length (aD _),?_⟩;rw[List.drop_length]at hlo;simp only[cn,R.ok.injEq]at hlo;subst hlo;have rep:Rep g (hid H' S) (.lst o) (.ref acc):=.lst (SqL.of (bW.mpr ⟨sub1.free hacc,hv⟩)) (hr.mono o7);exact k1 _ _ (bz.new (s1.trans s1') rep ⟨acc,_,rfl,s1.free hacc,hv,.lst hr⟩)
theorem uW(O:XO w g c E X)(hcalm:X.calm=true){sc:a9}{cap:List (Option Nat)}{tgt it elt:Expr}{ifs:List Expr}{pos:Pos}{iit:It}{itg:Tg}{tt:T}{ielt:EV.E}(hS:dH X (bY sc.names) cap sc)(hnd:(bY sc.names).Nodup)
  (hi:PI X tgt it (tIt w g c E iit)) (hb:∀cl C s₀ H₀ fp,PG (zC X (bY sc.names) sc cl C s₀ H₀ fp) tgt (gT X.K itg)/\PTs (zC X (bY sc.names) sc cl C s₀ H₀ fp) ifs (tT w g (dz c sc) E0 tt)/\PE (zC X (bY sc.names) sc cl C s₀ H₀ fp) elt (tE w g (dz c sc) E0 ielt))
  (he:esc ielt=true) (hs:zt it=true):PE X (.ListComp elt [⟨tgt,it,ifs,0⟩] sc pos) (tE w g c E (.comp iit cap itg tt ielt)):=by
 exact PE.imp (yp (tb:=λacc=>jj acc (tE w g (dz c sc) E0 ielt)) hcalm hS hi (λcl C s₀ H₀ fp=>⟨(hb cl C s₀ H₀ fp).1,(hb cl C s₀ H₀ fp).2.1,λacc=>nZ rfl (hb cl C s₀ H₀ fp).2.2⟩) (by simp) (λx=>by cases it<;>first|rfl|(simp[zt]at hs))) λσ H Q q=>rj O hS he q
end
end EV
namespace L2
open PySem PySem.Spec PyProof.Rows
section
variable{prog:aA}{w:av}{A:az}{E:ae->af->Prop}{s:af}
end
section
variable{X:Cx}{tg:Expr}
end
end L2
namespace EV
open PySem PySem.Spec PySem.P PyProof.Rows L2
section
variable{prog:aA}{w:av}{A:az}{E:ae->af->Prop}{s:af}
theorem BN{Q:List ae->af->Prop}{r:Addr}{a b c:Int}{t u v:Tok}{n:Nat}(hh:A.handled=none)(hr:IsRange s.heap r a b c t u v)(hsmall:Builtin.Range.small a b c=true)(hn:dg a b c=n)(hlen:n<=2^24)
  (hQ:∀h' tk acc,(∀b o',s.heap.get? b=some o'->h'.get? b=some o')->ItemsOf (λi v=>∃t,v=.int (a+i * c) t) acc n->Q acc.toList {s with heap:=h',toks:=tk}):ao (aq prog w) A (collect (.ref r)) Q E s:=by
 unfold collect;refine ah (wpAny_runValue (bT PySem.F.entry_proto_collect ?_));rw[cx PySem.F.plain_proto_collect _];show ao _ A.in1 (newList []>>=λl=>again (.builtin "list.__iadd__" ⟨[l,.ref r],[]⟩)) _ _ s;refine ah (di ?_);refine aB ⟨plainId_quiet PySem.F.plain_list_iadd _,bT PySem.F.entry_list_iadd ?_⟩;rw[cx PySem.F.plain_list_iadd _];show ao _ A.in1 (dY (.ref s.heap.objs.size) (.ref r) (.ref s.heap.objs.size)) _ _ _;have hS:(s.heap.push {cls:=.type "list",data:=.seq ([]:List ae).toArray}).get? s.heap.objs.size=some {cls:=.type "list",data:=.seq #[] 0}:=Heap.get?_push_size _ rfl;have fin':∀(h':Heap) (tk:Nat) (acc:Array ae) (c':Nat),(∀b o,b≠s.heap.objs.size->(s.heap.push {cls:=.type "list",data:=.seq ([]:List ae).toArray}).get? b=some o->h'.get? b=some o)->h'.get? s.heap.objs.size=some {cls:=.type "list",dict:=none,data:=.seq acc c',slots:=#[]} ->
   ItemsOf (λi v=>∃t,v=.int (a+i * c) t) acc n->ao (aq prog w) A (match bq s.heap.objs.size with
   |bq a=>do
    match (<-load a).data with
     |Data.seq xs _=>pure xs.toList
     |_=>unsupported "internal:collect"
   |_=>unsupported "internal:collect") Q E {s with heap:=h',toks:=tk}:=λh' tk acc c' hk hS' hacc=>by
  show ao _ A (load s.heap.objs.size>>=_) _ _ _;refine ah (wpAny_load hS' ?_);exact aB (hQ h' tk acc (λb o' hb=>hk b o' (a6 (aK hb)) (Heap.get?_push_of_some _ hb)) hacc)
 refine bK (wpAny_extend_range (A:=A) (R:=λr s'=>r=.ok (.ret (.ref s.heap.objs.size))/\∃h' tk acc c',s'={s with heap:=h',toks:=tk}/\(∀b o,b≠s.heap.objs.size->(s.heap.push {cls:=.type "list",data:=.seq ([]:List ae).toArray}).get? b=some o->h'.get? b=some o)/\h'.get? s.heap.objs.size=some {cls:=.type "list",dict:=none,data:=.seq acc c',slots:=#[]}/\ItemsOf (λi v=>∃t,v=.int (a+i * c) t) acc n)
  (s:={s with heap:=s.heap.push {cls:=.type "list",data:=.seq ([]:List ae).toArray}}) hh (Heap.get?_push_of_some _ hr) hsmall hn hlen _ _ 0 hS λh' tk acc c' hk hS' hacc=>⟨rfl,h',tk,acc,c',rfl,hk,hS',hacc⟩) (λfin s' h=>?_) (λe s' h=>?_)
 ·cases fin with
  |done f=>
   obtain⟨e,h',tk,acc,c',rfl,hk,hS',hacc⟩:=h;cases e;exact fin' h' tk acc c' hk hS' hacc
  |again c'=>exact⟨h.1,codeAny_mono h.2 λr s'' hr=>by obtain⟨rfl,h',tk,acc,c',rfl,hk,hS',hacc⟩:=hr;exact fin' h' tk acc c' hk hS' hacc⟩
 ·exact absurd h.1 (by simp)
theorem wH(r:Addr)(a b c:Int)(t u v:Tok)(n:Nat)(hsmall:Builtin.Range.small a b c=true)(hn:dg a b c=n)(hlen:n<=2^24) :
  PySem.Meets (Builtin.«tuple.__new__» ⟨[.type "tuple",.ref r],[]⟩)
   (λA R s=>A.handled=none/\IsRange s.heap r a b c t u v/\∀(h':Heap) (tk:Nat) (acc:Array ae),(∀b o',s.heap.get? b=some o'->h'.get? b=some o')->ItemsOf (λi v=>∃t,v=.int (a+i * c) t) acc n->R (.ok (.ret (.ref h'.objs.size))) {s with heap:=h'.push {cls:=.type "tuple",data:=.seq acc},toks:=tk}):=
 .of_wp λprog w A R s h=>by
  obtain⟨hh,ht,h⟩:=h;have hsub:=sub_tuple_self;have hinit:=init_tuple_lookup;have hmh:=madeHere_tuple;have hT:s.TypeIs (.ref r) "range":=⟨_,ht,rfl⟩
  have hh1:A.in1.handled=none:=hh
  wp_walk using wpAny_typeOf hT,BN (hsmall:=hsmall) (hn:=hn) (hlen:=hlen) hh1 ht
  intro h' tk acc hk hacc;show ao _ _ (Builtin.Tuple.tupleExact acc.toList.toArray>>=λv=>ret v) _ _ _;unfold Builtin.Tuple.tupleExact;refine ah (di ?_ (show acc.toList.toArray.size<=aL by simp only[Array.toArray_toList];rw[hacc.1,bf];lia));refine aB ⟨_,rfl,?_⟩;have e:acc.toList.toArray=acc:=by simp
  rw[e];exact h h' tk acc hk hacc
theorem n5{r:Addr}{a b c:Int}{t u v:Tok}{n:Nat}{Q:ae->af->Prop}(hh:A.handled=none)(hr:IsRange s.heap r a b c t u v)(hsmall:Builtin.Range.small a b c=true)(hn:dg a b c=n)(hlen:n<=2^24)
  (h:∀(h':Heap) (tk:Nat) (acc:Array ae),(∀b o',s.heap.get? b=some o'->h'.get? b=some o')->ItemsOf (λi v=>∃t,v=.int (a+i * c) t) acc n->Q (.ref h'.objs.size) {s with heap:=h'.push {cls:=.type "tuple",data:=.seq acc},toks:=tk}) :
  ao (aq prog w) A (call (.type "tuple") [.ref r]) Q E s:=
 callType_new PySem.F.called_tuple (by decide) (PySem.F.typeCall_tuple_1 _) (PySem.F.newCall_tuple_1 _) (λobj=>PySem.F.args_object_init_2 obj _) PySem.F.entry_tuple_new
  (wH r a b c t u v n hsmall hn hlen) ⟨hh,hr,λh' tk acc hk hacc=>⟨⟨_,Heap.get?_push_size _ rfl,rfl⟩,h h' tk acc hk hacc⟩⟩
end
theorem k9:∀{xs:List V}{us:List ae},xs.length=us.length->(∀(i:Nat) x u,xs[i]? = some x->us[i]? = some u->L2.RelV x u)->Vals xs us
 | [],[],_,_=>.nil
 |x::xs,u::us,h,k=>.cons (k 0 x u rfl rfl) (k9 (by simpa using h) λi y v h1 h2=>k (i+1) y v (by simpa using h1) (by simpa using h2))
 | [],_::_,h,_=>by simp at h
 |_::_,[],h,_=>by simp at h
noncomputable def dQ(lo:Int)(n:Nat):List V:=(a_ n).map λ(i:Nat)=>.int (lo+(i:Int))
theorem pB{lo:Int}{n:Nat}{acc:Array ae}(h:ItemsOf (λi v=>∃t,v=.int (lo+i * 1) t) acc n):Vals (dQ lo n) acc.toList:=by
 refine k9 (by simp[dQ,h.1]) λi x u hx hu=>?_
 unfold dQ at hx;rw[List.getElem?_map]at hx;cases q:(a_ n)[i]? with
 |none=>rw[q]at hx;cases hx
 |some j=>
  rw[q]at hx;cases hx;obtain⟨h1,h2⟩:=List.getElem?_eq_some_iff.mp q;simp at h2;subst h2;obtain⟨t,ht⟩:=h.2 i u (by simpa using hu);rw[ht];exact⟨t,by rw[Int.mul_one]⟩
theorem kq{g:Gc}{H:Hp}{lo:Int}{n:Nat}:qV g H (zE lo n) (dQ lo n):=by
 unfold zE dQ;generalize a_ n=l
 induction l with
 |nil=>exact .nil
 |cons i l ih=>exact .cons (.int _) ih
section
variable{X:Cx}
theorem Ay:qY X (.type "range") (λvs H Q=>∃lo hi,(vs=[.int hi]/\lo=0\/vs=[.int lo,.int hi])/\∀p,H p=none->Q (.ref p) (upd H p (.rng lo hi))):=by
 intro pins s σ H xs us Q I r h;obtain⟨lo,hi,h|h,q⟩:=h
 ·obtain⟨rfl,rfl⟩:=h;obtain⟨u,rfl,t,rfl⟩:=r.one;exact call_range_1 ⟨.ref _,_,I.laid (o:=.rng 0 hi) (λb o e=>Heap.get?_push_of_some _ e) (aD _) ⟨_,_,_,Heap.get?_push_size _ rfl⟩,rfl,q _ I.fresh⟩
 ·subst h;obtain⟨u,v,rfl,⟨t,rfl⟩,⟨t',rfl⟩⟩:=r.two;exact call_range_2 ⟨.ref _,_,I.laid (o:=.rng lo hi) (λb o e=>Heap.get?_push_of_some _ e) (aD _) ⟨_,_,_,Heap.get?_push_size _ rfl⟩,rfl,q _ I.fresh⟩
theorem mX{lo hi:Int}:dg lo hi 1=((hi-lo).toNat:Nat):=by
 rw[rangeSize_one];split<;>lia
theorem uC(hc:X.calm=true):qY X (.type "list") (λvs H Q=>∃p lo hi,vs=[.ref p]/\H p=some (.rng lo hi)/\qg lo=true/\qg hi=true/\∀q,H q=none->Q (.ref q) (upd H q (.lst (dQ lo (hi-lo).toNat)))):=by
 intro pins s σ H xs us Q I r h;obtain⟨p,lo,hi,rfl,hp,z1,z2,q⟩:=h;obtain⟨u,rfl,ru⟩:=r.one;cases ru;obtain⟨t,u,v,e⟩:=I.hok p _ hp;obtain⟨a1,a2⟩:=zy z1;obtain⟨b1,b2⟩:=zy z2;refine call_list_range (I.ok.hd hc) e (small_one (by lia) (by lia) (by lia) (by lia)) mX (by lia) λh' tk acc c' hk hS hacc=>?_
 refine⟨.ref _,_,I.laid (h':=h') (t':=tk) (o:=.lst (dQ lo (hi-lo).toNat)) hk (aD _) ⟨by simp[dQ,bf];lia,acc.toList,c',pB hacc,by simpa using hS⟩,rfl,q _ I.fresh⟩
theorem uS(hc:X.calm=true):qY X (.type "tuple") (λvs H Q=>∃p lo hi,vs=[.ref p]/\H p=some (.rng lo hi)/\qg lo=true/\qg hi=true/\∀q,H q=none->Q (.ref q) (upd H q (.tup (dQ lo (hi-lo).toNat)))):=by
 intro pins s σ H xs us Q I r h;obtain⟨p,lo,hi,rfl,hp,z1,z2,q⟩:=h;obtain⟨u,rfl,ru⟩:=r.one;cases ru;obtain⟨t,u,v,e⟩:=I.hok p _ hp;obtain⟨a1,a2⟩:=zy z1;obtain⟨b1,b2⟩:=zy z2;refine n5 (I.ok.hd hc) e (small_one (by lia) (by lia) (by lia) (by lia)) mX (by lia) λh' tk acc hk hacc=>?_
 have I1:Inv X pins σ H {s with heap:=h',toks:=tk}:=I.kept hk;refine⟨.ref _,_,I1.laid (t':=tk) (o:=.tup (dQ lo (hi-lo).toNat)) (λb o e=>Heap.get?_push_of_some _ e) (aD _) ⟨by simp[dQ,bf];lia,acc.toList,pB hacc,⟨_,Heap.get?_push_size _ rfl,rfl,0,by simp⟩⟩,rfl,q _ I1.fresh⟩
end
section
variable{w:W}{g:Gc}{c:Cc}{E:XK}{X:Cx}{a b:Expr}{ia ib:EV.E}{pos p2 p3 pos3:Pos}
theorem rJ(O:XO w g c E X){x:Str}{e:Expr}{es:List Expr}{t:TA}(h:glob c x=some .rng)(ha:PA X (e::es) t)(hs:∀z∈e::es,isStar z=false) :
  PE X (.Call (.Name x p3) (e::es) [] pos3) (tCB (λvs H Q=>∃lo hi,(vs=[.int hi]/\lo=0\/vs=[.int lo,.int hi])/\∀p,H p=none->Q (.ref p) (upd H p (.rng lo hi))) t):=by
 obtain⟨h1,rfl⟩:=O.gm h;exact fH Ay (O.gl h) h1 (by decide +kernel) ha (qW h).2.2.2 (qW h).2.2.1 (qc (hs e a8)) (iB λz hz=>hs z (aV _ hz))
theorem BE(O:XO w g c E X){x y:Str}{tg:Expr}(hx:glob c x=some .rvd)(hy:glob c y=some .rng)(ha:PE X a (tE w g c E ia))(hs:isStar a=false):PI X tg (.Call (.Name x p2) [.Call (.Name y p3) [a] [] pos3] [] pos) (tIt w g c E (.rrev ia)):=λpins s σ H R I ⟨τ,S,se,kk⟩=>by
 simp only[evI]at kk;exact bp kk
theorem lZ(O:XO w g c E X)(hc:X.calm=true){x y:Str}{n:String}{bb:Option B1}{e:Expr}{es:List Expr}{it:It}{t:TA}(hT:glob c x=some (.ty n bb))(h:glob c y=some .rng)(ha:PA X (e::es) t)(hs:∀z∈e::es,isStar z=false)
  (hn:n = "tuple"\/n = "list")
  (k:∀σ H (Q:List V->Hp->Prop) τ S (P:List D->Prop),SE g c τ σ H S->tR g E H (evI w it τ) P->(∀lo hi vs H',qa H H'->(vs=[.int hi]/\lo=0\/vs=[.int lo,.int hi])->qg lo=true->qg hi=true->P (zE lo (hi-lo).toNat)->Q vs H')->t σ H Q) :
  PE X (.Call (.Name x p2) [.Call (.Name y p3) (e::es) [] pos3] [] pos) (tE w g c E (if n = "tuple" then .rtup it else .rlst it)):=by
 obtain⟨h1,h2,_,_⟩:=O.gm hT;have hr:=rJ (p3:=p3) (pos3:=pos3) O h ha hs;rcases hn with rfl|rfl
 ·refine PE.imp (fH (uS hc) (O.gl hT) h1 h2 (zq hr zX) (qW hT).2.2.2 (qW hT).2.2.1) λσ H Q ⟨τ,S,se,q⟩=>?_
  rw[if_pos rfl]at q;simp only[zb,zf,ze,zd,zc,za,zi,zh,zg,qy,qB,qr,qC,qD,qe,qw,qt,qq,qx,qA,qR,qk,ql,qI,qz,qo,qN,qG,qJ,qS,qH,qO,qP,qu,qF,qM,qT,qK,qQ,qL]at q;refine k σ H _ τ S _ se (tR.bnd q) λlo hi vs H' s hv z1 z2 hP=>⟨lo,hi,hv,λp hp=>⟨p,lo,hi,rfl,zr,z1,z2,λr hr=>?_⟩⟩
  have s1:=qU (o:=.rng lo hi) hp;exact hP _ _ (bz.of ((s.trans s1).trans (qU hr)) (fF (se.sub.same (s.trans s1)) hr kq) rfl)
 ·refine PE.imp (fH (uC hc) (O.gl hT) h1 h2 (zq hr zX) (qW hT).2.2.2 (qW hT).2.2.1) λσ H Q ⟨τ,S,se,q⟩=>?_
  rw[if_neg (by decide)]at q;simp only[zb,zf,ze,zd,zc,za,zi,zh,zg,qy,qB,qr,qC,qD,qe,qw,qt,qq,qx,qA,qR,qk,ql,qI,qz,qo,qN,qG,qJ,qS,qH,qO,qP,qu,qF,qM,qT,qK,qQ,qL]at q;refine k σ H _ τ S _ se (tR.bnd q) λlo hi vs H' s hv z1 z2 hP=>⟨lo,hi,hv,λp hp=>⟨p,lo,hi,rfl,zr,z1,z2,λr hr=>?_⟩⟩
  have s1:=qU (o:=.rng lo hi) hp;exact hP _ _ (bz.new ((s.trans s1).trans (qU hr)) (zN (se.sub.same (s.trans s1)) hr kq) (dW (s.trans s1) hr kq))
noncomputable def rgS(p:Addr)(lo hi st:Int):Heap->Prop:=λh=>∃t u v,h.get? p=some {cls:=.type "range",data:=.fields #[.int lo t,.int hi u,.int st v]}
theorem uc{X:Cx}:qY X (.type "range") (λvs H Q=>∃lo hi st,vs=[.int lo,.int hi,.int st]/\(0<st/\st<=1000000)/\∀p,H p=none->Q (.ref p) (upd H p (.ext (rgS p lo hi st)))):=by
 intro pins s σ H xs us Q I r h;obtain⟨lo,hi,st,rfl,hst,q⟩:=h;obtain⟨u1,u2,u3,rfl,⟨t1,rfl⟩,⟨t2,rfl⟩,⟨t3,rfl⟩⟩:∃u1 u2 u3,us=[u1,u2,u3]/\RelV (.int lo) u1/\RelV (.int hi) u2/\RelV (.int st) u3:=by
  cases r with
  |cons p q=>
   cases q with
   |cons p' q'=>
    cases q' with
    |cons p'' q''=>
     cases q'';exact⟨_,_,_,rfl,p,p',p''⟩
 refine call_range_3 (by lia) ⟨.ref _,_,I.laid (o:=.ext (rgS _ lo hi st)) (λb o e=>Heap.get?_push_of_some _ e) (aD _) ⟨⟨_,_,_,Heap.get?_push_size _ rfl⟩,⟨_,Heap.get?_push_size _ rfl⟩,λh1 h2 ⟨a1,a2,a3,e⟩ k=>⟨a1,a2,a3,k _ e⟩⟩,rfl,q _ I.fresh⟩ (.inl (PyProof.noPylong_small (by lia)))
noncomputable def fo(lo st:Int)(n:Nat):List V:=(a_ n).map λ(i:Nat)=>.int (lo+(i:Int) * st)
theorem rZ{lo st:Int}{n:Nat}{acc:Array ae}(h:ItemsOf (λi v=>∃t,v=.int (lo+i * st) t) acc n):Vals (fo lo st n) acc.toList:=by
 refine k9 (by simp[fo,h.1]) λi x u hx hu=>?_
 unfold fo at hx;rw[List.getElem?_map]at hx;cases q:(a_ n)[i]? with
 |none=>rw[q]at hx;cases hx
 |some j=>
  rw[q]at hx;cases hx;obtain⟨h1,h2⟩:=List.getElem?_eq_some_iff.mp q;simp at h2;subst h2;obtain⟨t,ht⟩:=h.2 i u (by simpa using hu);rw[ht];exact⟨t,rfl⟩
theorem vL{g:Gc}{H:Hp}{lo st:Int}{n:Nat}:qV g H (fC lo st n) (fo lo st n):=by
 unfold fC fo;generalize a_ n=l
 induction l with
 |nil=>exact .nil
 |cons i l ih=>exact .cons (.int _) ih
theorem rS{X:Cx}(hc:X.calm=true):qY X (.type "tuple") (λvs H Q=>∃p lo hi st,vs=[.ref p]/\H p=some (.ext (rgS p lo hi st))/\qg lo=true/\qg hi=true/\0<st/\st<=1000000/\∀q,H q=none->Q (.ref q) (upd H q (.tup (fo lo st (bV lo hi st))))):=by
 intro pins s σ H xs us Q I r h;obtain⟨p,lo,hi,st,rfl,hp,z1,z2,z3,z4,q⟩:=h;obtain⟨u,rfl,ru⟩:=r.one;cases ru;obtain⟨⟨t,u,v,e⟩,_⟩:=I.hok p _ hp;obtain⟨a1,a2⟩:=zy z1;obtain⟨b1,b2⟩:=zy z2;have hle:=nL (lo:=lo) (hi:=hi) z3 a1 b2;refine n5 (I.ok.hd hc) e (nR z3 z4 a1 a2 b1 b2) (j4 z3) (by lia) λh' tk acc hk hacc=>?_
 have I1:Inv X pins σ H {s with heap:=h',toks:=tk}:=I.kept hk;refine⟨.ref _,_,I1.laid (t':=tk) (o:=.tup (fo lo st (bV lo hi st))) (λb o e=>Heap.get?_push_of_some _ e) (aD _) ⟨by simp[fo,bf];lia,acc.toList,rZ hacc,⟨_,Heap.get?_push_size _ rfl,rfl,0,by simp⟩⟩,rfl,q _ I1.fresh⟩
theorem t9(O:XO w g c E X)(hc:X.calm=true){x y:Str}{bb:Option B1}{d:Expr}{id:EV.E}(hT:glob c x=some (.ty "tuple" bb))(h:glob c y=some .rng)(ha:PE X a (tE w g c E ia))(hb:PE X b (tE w g c E ib))(hd:PE X d (tE w g c E id))(hs:isStar a=false)(hs':isStar b=false)(hs'':isStar d=false) :
  PE X (.Call (.Name x p2) [.Call (.Name y p3) [a,b,d] [] pos3] [] pos) (tE w g c E (.rtup (.rng3 ia ib id))):=by
 obtain⟨h1,h2,_,_⟩:=O.gm hT;obtain⟨r1,rfl⟩:=O.gm h;have hr:=fH (p:=p3) (pos:=pos3) uc (O.gl h) r1 (by decide +kernel) (zq ha (zq hb (zq hd zX (qc hs'')) (qc hs')) (qc hs)) (qW h).2.2.2 (qW h).2.2.1 (qc hs) (iB λz hz=>by simp at hz;rcases hz with rfl|rfl;exact hs';exact hs'');refine PE.imp (fH (rS hc) (O.gl hT) h1 h2 (zq hr zX) (qW hT).2.2.2 (qW hT).2.2.1) λσ H Q ⟨τ,S,se,q⟩=>?_
 simp only[zb,zf,ze,zd,zc,za,zi,zh,zg,qy,qB,qr,qC,qD,qe,qw,qt,qq,qx,qA,qR,qk,ql,qI,qz,qo,qN,qG,qJ,qS,qH,qO,qP,qu,qF,qM,qT,qK,qQ,qL]at q;have q:=tR.bnd q;simp only[evI]at q;refine zm se q λda va H1 e1 p1 k1=>zm (se.up p1.same) k1 λdb vb H2 e2 p2 k2=>zm ((se.up p1.same).up p2.same) k2 λdd vd H3 e3 p3 k3=>?_
 cases da with
 |int i=>
  cases db with
  |int j=>
   cases dd with
   |int l=>
    simp only at k3;cases q:qg i&&qg j&&(decide (0<l)&&qg l)with
    |true=>
     rw[q,if_pos rfl]at k3;simp only[aM,decide_eq_true_eq]at q;have s:=(p1.same.trans p2.same).trans p3.same;refine⟨i,j,l,by rw[p1.rb.int,p2.rb.int,p3.rb.int],⟨q.2.1,(zy q.2.2).2⟩,λp hp=>⟨p,i,j,l,rfl,zr,q.1.1,q.1.2,q.2.1,(zy q.2.2).2,λr hr=>?_⟩⟩;have s1:=qU (o:=.ext (rgS p i j l)) hp;exact k3 _ _ (bz.of ((s.trans s1).trans (qU hr)) (fF (se.sub.same (s.trans s1)) hr vL) rfl)
    |false=>rw[q]at k3;exact k3.elim
   |_=>exact k3.elim
  |_=>exact k3.elim
 |_=>exact k3.elim
theorem Af(ha:PE X a (tE w g c E ia))(hs:isStar a=false):PA X [a] (fR (tE w g c E ia) gb):=zq ha zX (qc hs)
theorem yr:∀σ H (Q:List V->Hp->Prop) τ S (P:List D->Prop),SE g c τ σ H S->tR g E H (evI w (.rng ia) τ) P->(∀lo hi vs H',qa H H'->(vs=[.int hi]/\lo=0\/vs=[.int lo,.int hi])->qg lo=true->qg hi=true->P (zE lo (hi-lo).toNat)->Q vs H')->fR (tE w g c E ia) gb σ H Q:=by
 intro σ H Q τ S P se q k;simp only[evI]at q;refine zm se q λda va H1 e1 p1 k1=>?_
 cases da with
 |int j=>
  simp only at k1;cases z:qg j with
  |true=>rw[z,if_pos rfl]at k1;exact k 0 j _ H1 p1.same (.inl ⟨by rw[p1.rb.int],rfl⟩) (by decide) z (by rw[Int.sub_zero];exact k1)
  |false=>rw[z]at k1;exact k1.elim
 |_=>exact k1.elim
theorem xO:∀σ H (Q:List V->Hp->Prop) τ S (P:List D->Prop),SE g c τ σ H S->tR g E H (evI w (.rng2 ia ib) τ) P->(∀lo hi vs H',qa H H'->(vs=[.int hi]/\lo=0\/vs=[.int lo,.int hi])->qg lo=true->qg hi=true->P (zE lo (hi-lo).toNat)->Q vs H')->fR (tE w g c E ia) (fR (tE w g c E ib) gb) σ H Q:=by
 intro σ H Q τ S P se q k;simp only[evI]at q;refine zm se q λda va H1 e1 p1 k1=>zm (se.up p1.same) k1 λdb vb H2 e2 p2 k2=>?_
 cases da with
 |int i=>
  cases db with
  |int j=>
   simp only at k2;cases z:qg i&&qg j with
   |true=>
    rw[z,if_pos rfl]at k2;simp only[aM]at z;exact k i j _ H2 (p1.same.trans p2.same) (.inr (by rw[p1.rb.int,p2.rb.int])) z.1 z.2 k2
   |false=>rw[z]at k2;exact k2.elim
  |_=>exact k2.elim
 |_=>exact k2.elim
end
structure Snd(w:W)(g:Gc)(n:Nat):Prop where
 e:∀{c:Cc}{E:XK}{X:Cx} (O:XO w g c E X) {x:Expr}{ir:EV.E},cE n c x=some ir->PE X x (tE w g c E ir)
 bo:∀{c:Cc}{E:XK}{X:Cx} (O:XO w g c E X) {op:PySem.BoolOp}{vs:List Expr}{pos:Pos}{ir:EV.E},cBo n c op vs=some ir->PE X (.BoolOp op vs pos) (tE w g c E ir)/\esc ir=true
 o:∀{c:Cc}{E:XK}{X:Cx} (O:XO w g c E X) {x:Option Expr}{ir:OE},cO n c x=some ir->PO X x (tOe w g c E ir)
 es:∀{c:Cc}{E:XK}{X:Cx} (O:XO w g c E X) {x:List Expr}{ir:Es},cEs n c x=some ir->PA X x (tA w g c E ir)
 i:∀{c:Cc}{E:XK}{X:Cx} (O:XO w g c E X) {tg x:Expr}{ir:It},cI n c x=some ir->gk ir tg=true->PI X tg x (tIt w g c E ir)
 t:∀{c:Cc}{E:XK}{X:Cx} (O:XO w g c E X) {x:Expr}{ir:T},cT n c x=some ir->PT X x (tT w g c E ir)
 ts:∀{c:Cc}{E:XK}{X:Cx} (O:XO w g c E X) {op:PySem.BoolOp}{vs:List Expr}{pos:Pos}{ir:T},cTs n c op vs=some ir->PW X (.BoolOp op vs pos) (tT w g c E ir)
 ifs:∀{c:Cc}{E:XK}{X:Cx} (O:XO w g c E X) {x:List Expr}{ir:T},fD n c x=some ir->PTs X x (tT w g c E ir)
section
variable{w:W}{g:Gc}{n:Nat}
theorem Snd.ifs_succ(ih:Snd w g n){c:Cc}{E:XK}{X:Cx}(O:XO w g c E X){x:List Expr}{ir:T}(h:fD (n+1) c x=some ir):PTs X x (tT w g c E ir):=by
 match x with
 | []=>
  simp only[fD,b8]at h;subst h;intro pins s σ H Q I ⟨τ,S,se,q⟩;exact CM pins s σ H Q I (q H (qa.refl _))
 | [t]=>simp only[fD]at h;exact yd (ih.t O h)
 |_::_::_=>simp[fD]at h
theorem Snd.bo_succ(ih:Snd w g n){c:Cc}{E:XK}{X:Cx}(O:XO w g c E X){op:PySem.BoolOp}{vs:List Expr}{pos:Pos}{ir:EV.E}(h:cBo (n+1) c op vs=some ir):PE X (.BoolOp op vs pos) (tE w g c E ir)/\esc ir=true:=by
 match vs with
 | []=>simp[cBo]at h
 | [a]=>
  simp only[cBo,aI,aH]at h;obtain⟨ia,h1,h⟩:=h;split at h
  ·rename_i he
   cases h;exact⟨xo (ih.e O h1),he⟩
  ·cases h
 |a::b::r=>
  simp only[cBo,aI,aH]at h;obtain⟨ia,h1,ir',h2,h⟩:=h;obtain⟨r1,r2⟩:=ih.bo O (pos:=pos) h2;cases op with
  |And=>cases h;exact⟨C7 (ih.e O h1) r1 r2,rfl⟩
  |Or=>cases h;exact⟨xW (ih.e O h1) r1 r2,rfl⟩
theorem Snd.o_succ(ih:Snd w g n){c:Cc}{E:XK}{X:Cx}(O:XO w g c E X){x:Option Expr}{ir:OE}(h:cO (n+1) c x=some ir):PO X x (tOe w g c E ir):=by
 cases x with
 |none=>simp only[cO,b8]at h;subst h;exact wX
 |some e=>
  simp only[cO,bA]at h;obtain⟨ie,h1,rfl⟩:=h;exact Du (ih.e O h1)
theorem Snd.es_succ(ih:Snd w g n){c:Cc}{E:XK}{X:Cx}(O:XO w g c E X){x:List Expr}{ir:Es}(h:cEs (n+1) c x=some ir):PA X x (tA w g c E ir):=by
 match x with
 | []=>simp only[cEs,b8]at h;subst h;exact wy
 |e::r=>
  have hs:=fJ h e a8;simp only[cEs,hs,aW,if_false,aI,aH]at h;obtain⟨ie,h1,ir',h2,h⟩:=h;cases h;exact rP (ih.e O h1) (ih.es O h2) hs
theorem Snd.ts_succ(ih:Snd w g n){c:Cc}{E:XK}{X:Cx}(O:XO w g c E X){op:PySem.BoolOp}{vs:List Expr}{pos:Pos}{ir:T}(h:cTs (n+1) c op vs=some ir):PW X (.BoolOp op vs pos) (tT w g c E ir):=by
 match vs with
 | []=>simp[cTs]at h
 | [a]=>
  simp only[cTs]at h;cases op with
  |And=>exact yq (ih.t O h)
  |Or=>exact C_ (ih.t O h)
 |a::b::r=>
  simp only[cTs,aI,aH]at h;obtain⟨ia,h1,ir',h2,h⟩:=h;cases op with
  |And=>cases h;exact Cj (ih.t O h1) (ih.ts O h2)
  |Or=>cases h;exact sh (ih.t O h1) (ih.ts O h2)
theorem Snd.t_succ(ih:Snd w g n){c:Cc}{E:XK}{X:Cx}(O:XO w g c E X){x:Expr}{ir:T}(h:cT (n+1) c x=some ir):PT X x (tT w g c E ir):=by
 unfold cT at h;split at h
 ·simp only[bA]at h;obtain⟨ia,h1,rfl⟩:=h;exact wd (ih.t O h1)
 ·exact(ih.ts O h).pt
 ·cases h
 ·split at h
  ·simp only[aI,aH]at h;obtain⟨ia,h1,ib,h2,h⟩:=h;split at h
   ·rename_i hs;cases h;exact sY O (ih.e O h1) (ih.e O h2) hs
   ·cases h
  ·simp only[aI,aH]at h;obtain⟨ia,h1,ib,h2,id',h3,h⟩:=h;split at h
   ·rename_i hs
    simp only[aM]at hs;cases h;exact xc O (ih.e O h1) (ih.e O h2) (ih.e O h3) hs.2
   ·cases h
  ·simp only[aI,aH]at h;obtain⟨ia,h1,ib,h2,id',h3,if',h4,h⟩:=h;split at h
   ·rename_i hs
    simp only[aM]at hs;cases h;exact yo O (ih.e O h1) (ih.e O h2) (ih.e O h3) (ih.e O h4) hs.2
   ·cases h
  ·cases h
 ·rename_i n1 n2 n3 n4
  simp only[bA]at h;obtain⟨ia,h1,rfl⟩:=h;refine uf O (ih.e O h1) λwhole=>?_
  cases x with
  |UnaryOp op a p=>cases op<;>first|rfl|exact(n1 _ _ rfl).elim
  |BoolOp op vs p=>exact(n2 _ _ _ rfl).elim
  |IfExp a b d p=>exact(n3 _ _ _ _ rfl).elim
  |Compare a ops bs p=>exact(n4 _ _ _ _ rfl).elim
  |_=>rfl
theorem Snd.i_succ(ih:Snd w g n){c:Cc}{E:XK}{X:Cx}(O:XO w g c E X){tg x:Expr}{ir:It}(h:cI (n+1) c x=some ir)(ht:gk ir tg=true):PI X tg x (tIt w g c E ir):=by
 have sq:∀{x:Expr}{ir:It},(cE n c x).map It.seq=some ir->PI X tg x (tIt w g c E ir):=λ{x ir} h=>by
  simp only[bA]at h;obtain⟨ia,h1,rfl⟩:=h;exact Bq O (ih.e O h1)
 have tup:isTup tg=true->∃es k p,tg=.Tuple es k p:=λh=>by cases tg<;>first|exact⟨_,_,_,rfl⟩|(simp[isTup]at h)
 unfold cI at h;split at h
 ·rename_i f p as q
  split at h
  ·exact sq h
  ·split at h
   ·rename_i hg
    split at h
    ·rename_i a
     split at h
     ·cases h
     ·rename_i hs
      simp only[bA]at h;obtain⟨ia,h1,rfl⟩:=h;exact vR O hg (ih.e O h1) (by simpa using hs)
    ·rename_i a b
     split at h
     ·cases h
     ·rename_i hs
      have hs:isStar a=false/\isStar b=false:=by simpa using hs
      simp only[aI,aH]at h;obtain⟨ia,h1,ib,h2,h⟩:=h;cases h;exact Al O hg (ih.e O h1) (ih.e O h2) hs.1 hs.2
    ·rename_i a b d
     split at h
     ·cases h
     ·rename_i hs
      have hs:(isStar a=false/\isStar b=false)/\isStar d=false:=by simpa[and_assoc]using hs
      simp only[aI,aH]at h;obtain⟨ia,h1,ib,h2,id,h3,h⟩:=h;cases h;exact CW O hg (ih.e O h1) (ih.e O h2) (ih.e O h3) hs.1.1 hs.1.2 hs.2
    ·cases h
   ·rename_i hg
    split at h
    ·rename_i a
     split at h
     ·cases h
     ·rename_i hs
      simp only[bA]at h;obtain⟨ia,h1,rfl⟩:=h;obtain⟨es,k,p',rfl⟩:=tup ht;exact wj O hg (ih.e O h1) (by simpa using hs)
    ·cases h
   ·rename_i hg
    split at h
    ·rename_i a b
     split at h
     ·cases h
     ·rename_i hs
      have hs:isStar a=false/\isStar b=false:=by simpa using hs
      simp only[aI,aH]at h;obtain⟨ia,h1,ib,h2,h⟩:=h;cases h;obtain⟨es,k,p',rfl⟩:=tup ht;exact AU O hg (ih.e O h1) (ih.e O h2) hs.1 hs.2
    ·cases h
   ·rename_i hg
    split at h
    ·split at h
     ·rename_i hs
      simp only[aM,beq_iff_eq,bG]at hs;simp only[bA]at h;obtain⟨ia,h1,rfl⟩:=h;exact BE O hg hs.1.2 (ih.e O h1) hs.2
     ·cases h
    ·cases h
   ·exact sq h
 ·exact sq h
end
end EV
namespace ST
open PySem PySem.SetTable
noncomputable def adv(mask:Nat)(p:Probe):Probe:=
 if p.more>0 then {p with j:=p.j+1,more:=p.more-1}else
 {p with j:=(leap mask p.i p.perturb).1,more:=runEnd mask (leap mask p.i p.perturb).1-(leap mask p.i p.perturb).1,i:=(leap mask p.i p.perturb).1,perturb:=(leap mask p.i p.perturb).2}
theorem oZ(t:aU)(p:Probe):t.advance p=adv t.mask p:=rfl
noncomputable def RS(mask:Nat)(x:Nat×Nat):Probe:=⟨x.1,runEnd mask x.1-x.1,x.1,x.2,none⟩
noncomputable def pr(mask:Nat)(h:Int):Nat->Probe
 | 0=>RS mask (bits h%(mask+1),bits h)
 |n+1=>adv mask (pr mask h n)
theorem vj(t:aU)(h:Int):t.probeStart h=pr t.mask h 0:=rfl
noncomputable def it(mask:Nat):Nat->Probe->Probe
 | 0,p=>p
 |d+1,p=>it mask d (adv mask p)
theorem iX(mask:Nat)(h:Int):∀d n,pr mask h (n+d)=it mask d (pr mask h n)
 | 0,n=>rfl
 |d+1,n=>by rw[it,show n+(d+1)=n+1+d by lia,iX mask h d (n+1)];rfl
theorem jB(mask:Nat):∀d e p,it mask (d+e) p=it mask e (it mask d p)
 | 0,e,p=>by rw[Nat.zero_add];rfl
 |d+1,e,p=>by rw[show d+1+e=d+e+1 by lia,it,it,jB mask d e]
noncomputable def lp(mask:Nat):Nat->Nat×Nat->Nat×Nat
 | 0,x=>x
 |k+1,x=>lp mask k (leap mask x.1 x.2)
theorem gj(mask:Nat):∀d e x,lp mask (d+e) x=lp mask e (lp mask d x)
 | 0,e,x=>by rw[Nat.zero_add];rfl
 |d+1,e,x=>by rw[show d+1+e=d+e+1 by lia,lp,lp,gj mask d e]
structure Ok(mask:Nat)(p:Probe):Prop where
 more:p.more<=9
 le:p.j+p.more<=mask
 pt:p.perturb<2^64
 dm:p.dummy=none
theorem gz{mask i:Nat}(h:i<=mask):runEnd mask i-i<=9/\i+(runEnd mask i-i)<=mask/\i<=runEnd mask i:=by
 unfold runEnd;split<;>lia
theorem CO{mask:Nat}{x:Nat×Nat}(h:x.1<=mask)(hp:x.2<2^64):Ok mask (RS mask x):=⟨(gz h).1,(gz h).2.1,hp,rfl⟩
theorem gi(mask i p:Nat):(leap mask i p).1<=mask:=Nat.le_of_lt_succ (Nat.mod_lt _ (Nat.succ_pos _))
theorem uU{mask:Nat}{p:Probe}(h:Ok mask p):Ok mask (adv mask p):=by
 have a:=h.more;have b:=h.le;have c:=h.pt;have d:=h.dm;unfold adv;split
 ·exact⟨by show p.more-1<=9;lia,by show p.j+1+(p.more-1)<=mask;lia,c,d⟩
 ·have:=gz (gi mask p.i p.perturb);exact⟨this.1,this.2.1,by show p.perturb/32<_;lia,d⟩
theorem ij(mask:Nat)(h:Int):∀n,Ok mask (pr mask h n)
 | 0=>CO (Nat.le_of_lt_succ (Nat.mod_lt _ (Nat.succ_pos _))) (by
   show bits h<2^64;unfold bits;have:=Int.emod_lt_of_pos h (show (0:Int)<2^64 by decide);have:=Int.emod_nonneg h (show (2^64:Int)≠0 by decide);lia)
 |n+1=>uU (ij mask h n)
theorem ke(mask:Nat)(h:Int)(n:Nat):(pr mask h n).j<=mask:=by have:=(ij mask h n).le;lia
theorem iU(mask:Nat):∀(r:Nat) (p:Probe),p.more=r->p.dummy=none->it mask (r+1) p=RS mask (leap mask p.i p.perturb)/\∀c,c<=r->(it mask c p).j=p.j+c
 | 0,p,h,hd=>by
  refine⟨?_,λc hc=>by rw[Nat.le_zero.mp hc];rfl⟩;rw[it,it,adv,if_neg (by lia)];obtain⟨j,m,i,q,d⟩:=p;cases hd
  rfl
 |r+1,p,h,hd=>by
  have e:adv mask p={p with j:=p.j+1,more:=p.more-1}:=by rw[adv,if_pos (by lia)]
  have g:=iU mask r (adv mask p) (by rw[e];show p.more-1=r;lia) (by rw[e];exact hd);refine⟨?_,λc hc=>?_⟩
  ·rw[it,g.1,e]
  ·cases c with
   |zero=>rfl
   |succ c=>rw[it,g.2 c (by lia),e];show p.j+1+c=_;lia
theorem nN(mask:Nat):∀(k:Nat) (x:Nat×Nat),x.1<=mask->∃d,d<=10 * k/\it mask d (RS mask x)=RS mask (lp mask k x)
 | 0,x,_=>⟨0,by lia,rfl⟩
 |k+1,x,hx=>by
  obtain⟨d,h1,h2⟩:=nN mask k (leap mask x.1 x.2) (gi ..);have r:=(iU mask _ (RS mask x) rfl rfl).1;have:=(gz hx).1;refine⟨(RS mask x).more+1+d,by show runEnd mask x.1-x.1+1+d<=_;lia,?_⟩;rw[jB,r];exact h2
theorem nS(mask:Nat):∀(k:Nat) (x:Nat×Nat),(lp mask k x).2=x.2/32^k
 | 0,x=>by simp[lp]
 |k+1,x=>by rw[lp,nS mask k];show x.2/32/32^k=_;rw[Nat.div_div_eq_div_mul,Nat.pow_succ,Nat.mul_comm]
theorem pS(mask:Nat):∀(k:Nat) (x:Nat×Nat),x.1<=mask->(lp mask k x).1<=mask
 | 0,_,h=>h
 |k+1,_,_=>pS mask k _ (gi ..)
noncomputable def om(mask:Nat):Nat->Nat->Nat
 | 0,_=>0
 |n+1,i=>2^i |||om mask n ((i * 5+1)%(mask+1))
theorem nE(mask:Nat){j:Nat}:∀(n i:Nat),(om mask n i).testBit j=true->∃k,k<n/\lp mask k (i,0)=(j,0)
 | 0,i,h=>by simp[om]at h
 |n+1,i,h=>by
  rw[om,Nat.testBit_or,Nat.testBit_two_pow,bL,decide_eq_true_eq]at h;rcases h with rfl|h
  ·exact⟨0,by lia,rfl⟩
  ·obtain⟨k,h1,h2⟩:=nE mask n _ h;refine⟨k+1,by lia,?_⟩;rw[lp,<-h2];show lp mask k ((i * 5+1+0/32)%(mask+1),0/32)=_;rw[Nat.zero_div,Nat.add_zero]
noncomputable def Mk(mask:Nat):Prop:=mask=7\/mask=31\/mask=127\/mask=511\/mask=2047
theorem Bc{mask:Nat}(h:Mk mask):om mask (mask+1) 0=2^(mask+1)-1/\lp mask (mask+1) (0,0)=(0,0):=by
 rcases h with rfl|rfl|rfl|rfl|rfl
 ·exact⟨by decide +kernel,by decide +kernel⟩
 ·exact⟨by decide +kernel,by decide +kernel⟩
 ·exact⟨by decide +kernel,by decide +kernel⟩
 ·exact⟨by decide +kernel,by decide +kernel⟩
 ·exact⟨by decide +kernel,by decide +kernel⟩
theorem o4{mask:Nat}(hM:Mk mask){x:Nat×Nat}(hp:x.2<2^64)(hx:x.1<=mask){j:Nat}(hj:j<=mask):∃k,k<=mask+13/\(lp mask k x).1=j:=by
 obtain⟨o1,o2⟩:=Bc hM;have at0:∀i,i<=mask->∃k,k<mask+1/\lp mask k (0,0)=(i,0):=λi hi=>nE mask _ _ (by
  rw[o1,Nat.testBit_two_pow_sub_one,decide_eq_true_eq];lia)
 have c:lp mask 13 x=((lp mask 13 x).1,0):=by
  refine Prod.ext rfl ?_;rw[nS];exact Nat.div_eq_of_lt (bE hp (by decide))
 obtain⟨a,a1,a2⟩:=at0 (lp mask 13 x).1 (pS mask 13 x hx);obtain⟨b,b1,b2⟩:=at0 j hj;rw[<-c]at a2;by_cases q:a<=b
 ·refine⟨13+(b-a),by lia,?_⟩;rw[gj,<-a2,<-gj,show a+(b-a)=b by lia,b2]
 ·refine⟨13+(mask+1-a+b),by lia,?_⟩;rw[gj,<-a2,<-gj,show a+(mask+1-a+b)=mask+1+b by lia,gj,o2,b2]
theorem cover{mask:Nat}(hM:Mk mask)(h:Int)(n:Nat){j:Nat}(hj:j<=mask):∃m,n<=m/\m<n+10 * turns mask/\(pr mask h m).j=j:=by
 have o:=ij mask h n;obtain⟨k,h1,h2⟩:=o4 hM (x:=leap mask (pr mask h n).i (pr mask h n).perturb) (by have:=o.pt;show _/32<_;lia) (gi ..) hj;obtain⟨d,h3,h4⟩:=nN mask k (leap mask (pr mask h n).i (pr mask h n).perturb) (gi ..);have r:=(iU mask _ (pr mask h n) rfl o.dm).1;have:=o.more;refine⟨n+((pr mask h n).more+1+d),by lia,by unfold turns;lia,?_⟩;rw[iX,jB,r,h4];exact h2
noncomputable def Ri(xs:Array Nat):Prop:=∀i k x y:Nat,i<k->xs[i]? = some x->xs[k]? = some y->x<y
theorem Ri.of{xs:Array Nat}(h:xs.toList.Pairwise (· < ·)):Ri xs:=by
 intro i k x y hik hx hy;rw[List.pairwise_iff_getElem]at h;obtain⟨a,rfl⟩:=Array.getElem?_eq_some_iff.mp hx;obtain⟨b,rfl⟩:=Array.getElem?_eq_some_iff.mp hy;exact h i k a b hik
theorem ki{xs:Array Nat}(hr:Ri xs)(j:Nat):∀(fuel lo hi:Nat),hi-lo<=fuel->lo<=hi->hi<=xs.size->(∀i x,i<lo->xs[i]? = some x->x<j)->(∀i x,hi<=i->xs[i]? = some x->j<=x) ->
  below.go xs j fuel lo hi<=xs.size/\(∀i x,xs[i]? = some x->(i<below.go xs j fuel lo hi↔x<j))
 | 0,lo,hi,h1,h2,h3,h4,h5=>by
  rw[below.go];refine⟨by lia,λi x e=>⟨λh=>h4 i x h e,λh=>?_⟩⟩;refine Nat.lt_of_not_le λg=>?_
  have:=h5 i x (by lia) e;lia
 |fuel+1,lo,hi,h1,h2,h3,h4,h5=>by
  rw[below.go];split
  ·rename_i hl
   have hm:(lo+hi)/2<xs.size:=by lia
   have e:xs[(lo+hi)/2]? = some xs[(lo+hi)/2]:=Array.getElem?_eq_getElem hm;have g:xs.getD ((lo+hi)/2) j=xs[(lo+hi)/2]:=by rw[Array.getD_eq_getD_getElem?,e];rfl
   dsimp only;rw[g];split
   ·rename_i hq
    refine ki hr j fuel _ hi (by lia) (by lia) h3 (λi x hi' e'=>?_) h5;rcases Nat.lt_trichotomy i ((lo+hi)/2)with q|q|q
    ·exact Nat.lt_trans (hr i _ x _ q e' e) hq
    ·subst q;rw[e]at e';cases e';exact hq
    ·lia
   ·rename_i hq
    refine ki hr j fuel lo _ (by lia) (by lia) (by lia) h4 λi x hi' e'=>?_
    rcases Nat.lt_trichotomy i ((lo+hi)/2)with q|q|q
    ·lia
    ·subst q;rw[e]at e';cases e';lia
    ·have:=hr _ i _ x q e e';lia
  ·refine⟨by lia,λi x e=>⟨λh=>h4 i x h e,λh=>?_⟩⟩;refine Nat.lt_of_not_le λg=>?_
   have:=h5 i x (by lia) e;lia
theorem iW{xs:Array Nat}(hr:Ri xs)(j:Nat):below xs j<=xs.size/\(∀i x,xs[i]? = some x->(i<below xs j↔x<j)):=
 ki hr j xs.size 0 xs.size (by lia) (by lia) (aD _) (λ_ _ h=>absurd h (Nat.not_lt_zero _)) λi x h e=>by
  have:=(Array.getElem?_eq_some_iff.mp e).1;lia
theorem below_at{xs:Array Nat}(hr:Ri xs){i j:Nat}(h:xs[i]? = some j):below xs j=i:=by
 obtain⟨a,b⟩:=iW hr j;have c:=(b i j h)
 rcases Nat.lt_trichotomy (below xs j) i with q|q|q
 ·have hs:i<xs.size:=(Array.getElem?_eq_some_iff.mp h).1;have e:xs[below xs j]? = some xs[below xs j]:=Array.getElem?_eq_getElem (by lia);have:=(b _ _ e).mpr (hr _ _ _ _ q e h);lia
 ·exact q
 ·have:=c.mp q;lia
theorem rU{t:aU}(hr:Ri t.place){i j:Nat}(h:t.place[i]? = some j):t.slot j=.live i:=by
 unfold slot;dsimp only;rw[below_at hr h,h];simp
theorem mP(j:Nat):has #[] j=false:=by simp[has]
theorem BA{t:aU}(hd:t.dummies = #[]){j:Nat}(h:∀i:Nat,t.place[i]?≠some j):t.slot j=.empty:=by
 unfold slot;dsimp only;rw[if_neg (by simpa using h _),hd,mP];simp
noncomputable def Reach(mask:Nat)(P:Nat->Prop)(h:Int)(j:Nat):Prop:=∃n,(pr mask h n).j=j/\∀m,m<n->P (pr mask h m).j
theorem Reach.mono{mask:Nat}{P Q:Nat->Prop}{h:Int}{j:Nat}(r:Reach mask P h j)(s:∀j,P j->Q j):Reach mask Q h j:=
 let ⟨n,a,b⟩:=r;⟨n,a,λm hm=>s _ (b m hm)⟩
structure Good(t:aU)(hs:List Int):Prop where
 ma:Mk t.mask
 dum:t.dummies = #[]
 len:t.place.size=hs.length
 ri:t.place.toList.Pairwise (· < ·)
 le:∀j∈t.place.toList,j<=t.mask
 re:∀jh∈t.place.toList.zip hs,Reach t.mask (·∈t.place.toList) jh.2 jh.1
theorem long:∀(n:Nat) (l:List Nat),(∀j,j<n->j∈l)->n<=l.length
 | 0,_,_=>br _
 |n+1,l,h=>by
  have a:=long n (l.erase n) λj hj=>(List.mem_erase_of_ne (by lia)).mpr (h j (by lia))
  have b:=List.length_erase_of_mem (h n (by lia));have c:=List.length_pos_of_mem (h n (by lia));lia
section
variable{t:aU}{hs:List Int}(G:Good t hs)
include G
theorem Good.free(hf:hs.length<=t.mask)(h:Int)(n:Nat):∃m,n<=m/\m<n+10 * turns t.mask/\(pr t.mask h m).j∉t.place.toList:=by
 have:∃j,j<=t.mask/\j∉t.place.toList:=Classical.byContradiction λg=>by
  have:=long (t.mask+1) t.place.toList λj hj=>Classical.byContradiction λq=>g ⟨j,by lia,q⟩
  rw[aR,G.len]at this;lia
 obtain⟨j,h1,h2⟩:=this;obtain⟨m,a,b,c⟩:=cover G.ma h n h1;exact⟨m,a,b,by rw[c];exact h2⟩
theorem Good.go(hashAt:Nat->Int)(h:Int):∀(fuel n:Nat),(∃m,n<=m/\m<n+fuel/\(pr t.mask h m).j∉t.place.toList) ->
  ∃m,n<=m/\(∀k,n<=k->k<m->∃i,t.place[i]? = some (pr t.mask h k).j/\hashAt i≠h) /\
   (((pr t.mask h m).j∉t.place.toList/\probe.go t hashAt h fuel (pr t.mask h n)=some (.empty (pr t.mask h m).j none)) \/
    ∃i,t.place[i]? = some (pr t.mask h m).j/\hashAt i=h/\probe.go t hashAt h fuel (pr t.mask h n)=some (.candidate (pr t.mask h m).j i (pr t.mask h (m+1))))
 | 0,n,⟨m,a,b,_⟩=>by lia
 |fuel+1,n,⟨m,a,b,c⟩=>by
  have hr:=Ri.of G.ri;by_cases hin:(pr t.mask h n).j∈t.place.toList
  ·obtain⟨i,hi⟩:=List.mem_iff_getElem?.mp hin;rw[Array.getElem?_toList]at hi;rw[probe.go,rU hr hi];dsimp only;by_cases hq:hashAt i=h
   ·refine⟨n,aD _,λk h1 h2=>by lia,.inr ⟨i,hi,hq,?_⟩⟩;rw[if_pos (beq_iff_eq.mpr hq),oZ];rfl
   ·rw[if_neg (by simpa using hq),oZ];have hne:m≠n:=λe=>c (e▸hin)
    obtain⟨m',a',b',c'⟩:=Good.go hashAt h fuel (n+1) ⟨m,by lia,by lia,c⟩;refine⟨m',by lia,λk h1 h2=>?_,c'⟩;rcases Nat.eq_or_lt_of_le h1 with rfl|h1
    ·exact⟨i,hi,hq⟩
    ·exact b' k h1 h2
  ·refine⟨n,aD _,λk h1 h2=>by lia,.inl ⟨hin,?_⟩⟩;rw[probe.go,BA G.dum λi e=>hin (by rw[<-Array.getElem?_toList]at e;exact List.mem_of_getElem? e)];dsimp only;rw[(ij t.mask h n).dm]
theorem Good.fits(hf:hs.length<=t.mask):t.fits hs.length=true:=by
 unfold aU.fits aU.fill;rw[G.dum,G.len]
 simpa using hf
theorem Good.put{h:Int}{j:Nat}(hj:j∉t.place.toList)(hR:Reach t.mask (·∈t.place.toList) h j) :
  t.put j=({t with place:=insertAt t.place (below t.place j) j},below t.place j)/\below t.place j<=hs.length /\
   Good {t with place:=insertAt t.place (below t.place j) j} (hs.take (below t.place j)++h::hs.drop (below t.place j)):=by
 have hr:=Ri.of G.ri;obtain⟨b1,b2⟩:=iW hr j;have hb:below t.place j<=hs.length:=by rw[<-G.len];exact b1
 refine⟨by unfold aU.put;dsimp only;rw[G.dum,mP];simp,hb,?_⟩;have ins:(insertAt t.place (below t.place j) j).toList=t.place.toList.take (below t.place j)++j::t.place.toList.drop (below t.place j):=aU.toList_insertAt ..;have mem:∀{x},x∈(insertAt t.place (below t.place j) j).toList↔x=j\/x∈t.place.toList:=by
  intro x;rw[ins,List.mem_append,aN];constructor
  ·rintro(h|h|h)
   ·exact .inr (List.mem_of_mem_take h)
   ·exact .inl h
   ·exact .inr (List.mem_of_mem_drop h)
  ·rintro(h|h)
   ·exact .inr (.inl h)
   ·rw[<-bF (below t.place j) t.place.toList,List.mem_append]at h;rcases h with h|h
    ·exact .inl h
    ·exact .inr (.inr h)
 have jle:j<=t.mask:=by obtain⟨n,e,_⟩:=hR;rw[<-e];exact ke ..
 refine⟨G.ma,G.dum,?_,?_,?_,?_⟩
 ·show (insertAt t.place (below t.place j) j).size=_;rw[<-aR,ins];simp only[cy,b4,b_,List.length_drop,aR,G.len]
 ·show (insertAt t.place (below t.place j) j).toList.Pairwise (· < ·);rw[ins];have pw:=G.ri;rw[<-bF (below t.place j) t.place.toList,List.pairwise_append]at pw;have lo:∀x∈t.place.toList.take (below t.place j),x<j:=by
   intro x hx;obtain⟨i,hi⟩:=List.mem_iff_getElem?.mp hx;have il:i<below t.place j:=Nat.lt_of_not_le λq=>by rw[List.getElem?_take,if_neg (by lia)]at hi;cases hi
   rw[List.getElem?_take_of_lt il,Array.getElem?_toList]at hi;exact(b2 i x hi).mp il
  have hi:∀x∈t.place.toList.drop (below t.place j),j<x:=by
   intro x hx;obtain⟨i,hi⟩:=List.mem_iff_getElem?.mp hx;rw[List.getElem?_drop,Array.getElem?_toList]at hi;have:=(b2 _ x hi)
   have ne:x≠j:=λe=>hj (by rw[<-e,<-Array.getElem?_toList]at *;exact List.mem_of_getElem? hi)
   lia
  refine List.pairwise_append.mpr ⟨pw.1,List.pairwise_cons.mpr ⟨hi,pw.2.1⟩,λa ha b hb=>?_⟩;rcases aN.mp hb with rfl|hb
  ·exact lo a ha
  ·exact Nat.lt_trans (lo a ha) (hi b hb)
 ·intro x hx;rcases mem.mp hx with rfl|hx
  ·exact jle
  ·exact G.le x hx
 ·rintro⟨x,g⟩ hx;have up:∀y,y∈t.place.toList->y∈(insertAt t.place (below t.place j) j).toList:=λy hy=>mem.mpr (.inr hy)
  change (x,g)∈(insertAt t.place (below t.place j) j).toList.zip _ at hx;rw[ins,List.zip_append (by simp only[b_,aR,G.len]),List.zip_cons_cons,List.mem_append,aN]at hx;have old:(x,g)∈t.place.toList.zip hs->Reach t.mask (·∈(insertAt t.place (below t.place j) j).toList) g x:=λq=>(G.re _ q).mono up
  have hz:t.place.toList.zip hs=(t.place.toList.take (below t.place j)).zip (hs.take (below t.place j))++(t.place.toList.drop (below t.place j)).zip (hs.drop (below t.place j)):=by
   rw[<-List.zip_append (by simp only[b_,aR,G.len]),bF,bF]
  rcases hx with hx|hx|hx
  ·exact old (by rw[hz];exact List.mem_append_left _ hx)
  ·cases hx;exact hR.mono up
  ·exact old (by rw[hz];exact bZ _ hx)
end
theorem rm{α β:Type}{f:α->Option β}:∀{l:List α},(∀x∈l,(f x).isSome=true)->∀i:Nat,(l.filterMap f)[i]? = (l[i]?).bind f
 | [],_,i=>by simp
 |a::l,h,i=>by
  obtain⟨b,hb⟩:=Option.isSome_iff_exists.mp (h a a8);rw[List.filterMap_cons_some hb];cases i with
  |zero=>simp[hb]
  |succ i=>rw[List.getElem?_cons_succ,List.getElem?_cons_succ];exact rm (λx hx=>h x (aV _ hx)) i
noncomputable def Fa(ow:Array (Option Nat))(j:Nat):Prop:=(ow.getD j (some 0)).isNone=true
theorem jV{ow:Array (Option Nat)}{j:Nat}:Fa ow j↔ow[j]? = some none:=by
 unfold Fa;rw[Array.getD_eq_getD_getElem?];cases h:ow[j]? with
 |none=>simp
 |some x=>cases x<;>simp
theorem pE{mask:Nat}{h:Int}{ow:Array (Option Nat)}:∀(k fuel n:Nat) (x:Nat×Nat),k<fuel->x.1<=mask->pr mask h n=RS mask x->Fa ow (lp mask k x).1 ->
  ∃m,n<=m/\layClean.free mask ow fuel x.1 x.2=some (pr mask h m).j/\Fa ow (pr mask h m).j/\∀l,n<=l->l<m->¬ Fa ow (pr mask h l).j
 |_,0,_,_,hk,_,_,_=>by lia
 |k,fuel+1,n,x,hk,hx,hn,hf=>by
  have run:=iU mask (runEnd mask x.1-x.1) (RS mask x) rfl rfl;have rl:=gz hx;have at_:∀c,c<=runEnd mask x.1-x.1->(pr mask h (n+c)).j=x.1+c:=λc hc=>by rw[iX,hn];exact run.2 c hc
  have nxt:pr mask h (n+(runEnd mask x.1-x.1+1))=RS mask (leap mask x.1 x.2):=by rw[iX,hn];exact run.1
  rw[layClean.free];cases q:(a_ (runEnd mask x.1+1-x.1)).find? λk=>(ow.getD (x.1+k) (some 0)).isNone with
  |some c=>
   obtain⟨h1,h2,h3⟩:=List.find?_range_eq_some.mp q;have hc:c<=runEnd mask x.1-x.1:=by have:=List.mem_range.mp h2;lia
   refine⟨n+c,by lia,by rw[at_ c hc],by rw[at_ c hc];exact h1,λl a b=>?_⟩;have:=h3 (l-n) (by lia);rw[show l=n+(l-n)by lia,at_ (l-n) (by lia)];exact λg=>by rw[show (ow.getD (x.1+(l-n)) (some 0)).isNone=true from g]at this;cases this
  |none=>
   have h3:=List.find?_range_eq_none.mp q;have no:∀c,c<=runEnd mask x.1-x.1->¬ Fa ow (x.1+c):=λc hc=>by
    have:=h3 c (by lia);exact λg=>by rw[show (ow.getD (x.1+c) (some 0)).isNone=true from g]at this;cases this
   dsimp only;cases k with
   |zero=>exact absurd hf (no 0 (by lia))
   |succ k=>
    obtain⟨m,a,b,c,d⟩:=pE k fuel _ (leap mask x.1 x.2) (by lia) (gi ..) nxt hf;refine⟨m,by lia,b,c,λl l1 l2=>?_⟩;by_cases e:l<n+(runEnd mask x.1-x.1+1)
    ·rw[show l=n+(l-n)by lia,at_ (l-n) (by lia)];exact no _ (by lia)
    ·exact d l (by lia) l2
structure Lay(mask:Nat)(hs:List Int)(ow:Array (Option Nat))(k:Nat):Prop where
 sz:ow.size=mask+1
 lo:∀(j i:Nat),ow[j]? = some (some i)->i<k
 one:∀(j j' i:Nat),ow[j]? = some (some i)->ow[j']? = some (some i)->j=j'
 all:∀i h,i<k->hs[i]? = some h->∃j:Nat,ow[j]? = some (some i)/\Reach mask (λj=>∃i,ow[j]? = some (some i)) h j
theorem yF{mask:Nat}(hM:Mk mask){hs:List Int}{ow:Array (Option Nat)}{k:Nat}(L:Lay mask hs ow k)(hk:k<=mask):∃j,j<=mask/\Fa ow j:=by
 refine Classical.byContradiction λg=>?_
 have:∀j,j<mask+1->∃i,ow[j]? = some (some i):=λj hj=>by
  cases q:ow[j]? with
  |none=>have:=Array.getElem?_eq_none_iff.mp q;have:=L.sz;lia
  |some x=>
   cases x with
   |none=>exact absurd ⟨j,by lia,jV.mpr q⟩ g
   |some i=>exact⟨i,rfl⟩
 -- more places than things
 have len:=long k ((a_ k)) λj hj=>List.mem_range.mpr hj
 have inj:∀n,n<=mask+1->∃l:List Nat,l.Nodup/\l.length=n/\∀i∈l,∃j,j<n/\ow[j]? = some (some i):=by
  intro n
  induction n with
  |zero=>exact λ_=>⟨[],List.nodup_nil,rfl,by simp⟩
  |succ n ih=>
   intro hn;obtain⟨l,a,b,c⟩:=ih (by lia);obtain⟨i,hi⟩:=this n (by lia);refine⟨i::l,List.nodup_cons.mpr ⟨λhm=>?_,a⟩,by simp[b],λx hx=>?_⟩
   ·obtain⟨j,h1,h2⟩:=c i hm;have:=L.one _ _ _ hi h2;lia
   ·rcases aN.mp hx with rfl|hx
    ·exact⟨n,by lia,hi⟩
    ·obtain⟨j,h1,h2⟩:=c x hx;exact⟨j,by lia,h2⟩
 obtain⟨l,a,b,c⟩:=inj (mask+1) (aD _);have sub:∀i∈l,i<k:=λi hi=>by obtain⟨j,_,h2⟩:=c i hi;exact L.lo _ _ h2
 have:l.length<=(a_ k).length:=by
  have:∀(l r:List Nat),l.Nodup->(∀i∈l,i∈r)->l.length<=r.length:=by
   intro l
   induction l with
   |nil=>intro r _ _;exact br _
   |cons a l ih=>
    intro r hn hs;rw[List.nodup_cons]at hn;have:=ih (r.erase a) hn.2 λi hi=>(List.mem_erase_of_ne (a:=i) (b:=a) (λe=>hn.1 (by rw[<-e];exact hi))).mpr (hs i (aV _ hi))
    have b:=List.length_erase_of_mem (hs a a8);have c:=List.length_pos_of_mem (hs a a8);simp only[b4];lia
  exact this _ _ a λi hi=>List.mem_range.mpr (sub i hi)
 rw[List.length_range]at this;lia
theorem Bi{mask:Nat}(hM:Mk mask){hs:List Int}{ow:Array (Option Nat)}{k:Nat}(L:Lay mask hs ow k)(hk:k<=mask){h:Int}(hh:hs[k]? = some h) :
  ∃j,layClean.free mask ow (turns mask) (bits h%(mask+1)) (bits h)=some j/\Lay mask hs (ow.setIfInBounds j (some k)) (k+1):=by
 obtain⟨j0,h1,h2⟩:=yF hM L hk;have o:=ij mask h 0;have hx:bits h%(mask+1)<=mask:=Nat.le_of_lt_succ (Nat.mod_lt _ (Nat.succ_pos _));obtain⟨c,h3,h4⟩:=o4 hM (x:=(bits h%(mask+1),bits h)) o.pt hx h1;obtain⟨m,_,a,b,d⟩:=pE (h:=h) (ow:=ow) c (turns mask) 0 (bits h%(mask+1),bits h) (by unfold turns;lia) hx rfl (by rw[h4];exact h2);have jl:(pr mask h m).j<=mask:=ke ..;have hf:=jV.mp b;have old:∀{x i:Nat},ow[x]? = some (some i)->(ow.setIfInBounds (pr mask h m).j (some k))[x]? = some (some i):=λ{x i} e=>by
  rw[Array.getElem?_setIfInBounds,if_neg];· exact e
  ·intro q;rw[q,e]at hf;cases hf
 have new:(ow.setIfInBounds (pr mask h m).j (some k))[(pr mask h m).j]? = some (some k):=by
  rw[Array.getElem?_setIfInBounds,if_pos rfl,if_pos (by rw[L.sz];lia)]
 have inv:∀{x i:Nat},(ow.setIfInBounds (pr mask h m).j (some k))[x]? = some (some i)->(x=(pr mask h m).j/\i=k)\/ow[x]? = some (some i):=λ{x i} e=>by
  rw[Array.getElem?_setIfInBounds]at e;split at e
  ·rename_i q
   rw[if_pos (by rw[L.sz];lia)]at e;cases e;exact .inl ⟨q.symm,rfl⟩
  ·exact .inr e
 refine⟨_,a,⟨by rw[Array.size_setIfInBounds];exact L.sz,λx i e=>?_,λx y i e e'=>?_,λi g hi hg=>?_⟩⟩
 ·rcases inv e with ⟨_,rfl⟩|e
  ·lia
  ·have:=L.lo _ _ e;lia
 ·rcases inv e with ⟨e1,e0⟩|e1<;>rcases inv e' with ⟨e2,e3⟩|e2
  ·rw[e1,e2]
  ·have:=L.lo _ _ e2;lia
  ·have:=L.lo _ _ e1;lia
  ·exact L.one _ _ _ e1 e2
 ·by_cases hik:i=k
  ·subst hik;rw[hh]at hg;cases hg;refine⟨_,new,m,rfl,λl hl=>?_⟩;have nf:=d l (br _) hl;cases q:ow[(pr mask h l).j]? with
   |none=>have:=Array.getElem?_eq_none_iff.mp q;have:=L.sz;have:=ke mask h l;lia
   |some y=>
    cases y with
    |none=>exact absurd (jV.mpr q) nf
    |some i=>exact⟨i,old q⟩
  ·obtain⟨j,e,r⟩:=L.all i g (by lia) hg;exact⟨j,old e,r.mono λj ⟨i,e⟩=>⟨i,old e⟩⟩
noncomputable def kl(mask:Nat):Option (Array (Option Nat)×Nat)->Int->Option (Array (Option Nat)×Nat):=λacc h=>do
  let (owner,k) <-acc
  let j <-layClean.free mask owner (turns mask) (bits h%(mask+1)) (bits h)
  pure (owner.setIfInBounds j (some k),k+1)
theorem lN{mask:Nat}(hM:Mk mask):∀(ls dn:List Int) (ow:Array (Option Nat)),(dn++ls).length<=mask+1->Lay mask (dn++ls) ow dn.length ->
  ∃ow',ls.foldl (kl mask) (some (ow,dn.length))=some (ow',(dn++ls).length)/\Lay mask (dn++ls) ow' (dn++ls).length
 | [],dn,ow,hl,L=>⟨ow,by simp,by simpa using L⟩
 |h::ls,dn,ow,hl,L=>by
  have hl':=hl;simp only[cy,b4]at hl';obtain⟨j,e,L'⟩:=Bi hM L (by lia) (h:=h) (by simp);have e1:dn++h::ls=dn++[h]++ls:=by simp
  have:=lN hM ls (dn++[h]) (ow.setIfInBounds j (some dn.length)) (by rw[<-e1];exact hl) (by rw[<-e1];simpa using L');obtain⟨ow',a,b⟩:=this;refine⟨ow',?_,by rw[e1];exact b⟩;rw[List.foldl_cons,e1,<-a]
  congr 1
  simp only[kl,e,aI,Option.bind_some];simp
theorem sW{mask:Nat}(hM:Mk mask)(hs:List Int)(hl:hs.length<=mask+1):∃ow,layClean mask hs.toArray=some ow/\Lay mask hs ow hs.length:=by
 have L0:Lay mask ([]++hs) (Array.replicate (mask+1) none) ([]:List Int).length:=by
  have no:∀(x i:Nat),(Array.replicate (mask+1) (none:Option Nat))[x]?≠some (some i):=λx i e=>by
   rw[Array.getElem?_replicate]at e;split at e<;>cases e
  exact⟨by simp,λj i e=>absurd e (no j i),λj _ i e=>absurd e (no j i),λi g hi=>by simp at hi⟩
 obtain⟨ow,a,b⟩:=lN hM hs [] _ (by simpa using hl) L0;refine⟨ow,?_,by simpa using b⟩;show (Array.foldl (kl mask) (some (Array.replicate (mask+1) none,0)) hs.toArray).map (·.1)=some ow;rw[<-Array.foldl_toList];rw[show hs.toArray.toList=hs from rfl];rw[show (some (Array.replicate (mask+1) (none:Option Nat),0))=some (Array.replicate (mask+1) none,([]:List Int).length)from rfl,a]
 rfl
theorem kF(ow:Array (Option Nat)):∀l:List Nat,(l.filterMap λj=>(ow.getD j none).map (j,·)).map (·.1)=l.filter λj=>(ow.getD j none).isSome
 | []=>rfl
 |j::l=>by
  cases q:ow.getD j none with
  |none=>rw[List.filterMap_cons_none (by rw[q];rfl),List.filter_cons_of_neg (by rw[q];simp)];exact kF ow l
  |some i=>rw[List.filterMap_cons_some (by rw[q];rfl),List.filter_cons_of_pos (by rw[q];simp),a5,kF ow l]
theorem xj{ow:Array (Option Nat)}{mask:Nat}(hz:ow.size=mask+1){j i:Nat}:(j,i)∈((a_ (mask+1)).filterMap λj=>(ow.getD j none).map (j,·))↔ow[j]? = some (some i):=by
 rw[List.mem_filterMap];constructor
 ·rintro⟨x,_,e⟩;rw[bA]at e;obtain⟨y,e1,e2⟩:=e;cases e2;rw[Array.getD_eq_getD_getElem?]at e1;cases q:ow[j]? with
  |none=>rw[q]at e1;cases e1
  |some z=>rw[q]at e1;rw[show z=some i from e1]
 ·intro e;have:=(Array.getElem?_eq_some_iff.mp e).1;exact⟨j,List.mem_range.mpr (by lia),by rw[Array.getD_eq_getD_getElem?,e];rfl⟩
theorem relaid{mask:Nat}(hM:Mk mask)(hs:List Int)(hl:hs.length<=mask+1)(fi mo:Nat)(le pl:Bool) :
  ∃t' order,laid mask fi mo le pl hs.toArray=some (t',order)/\order.toList.Perm (a_ hs.length)/\Good t' (order.toList.filterMap (hs[·]?))/\t'.mask=mask/\t'.led=le/\t'.plain=pl/\t'.moves=mo:=by
 obtain⟨ow,a,L⟩:=sW hM hs hl;generalize hv:((a_ (mask+1)).filterMap λj=>(ow.getD j none).map (j,·))=live;have mem:∀{j i:Nat},(j,i)∈live↔ow[j]? = some (some i):=λ{j i}=>by rw[<-hv];exact xj L.sz
 have fst:live.map (·.1)=(a_ (mask+1)).filter λj=>(ow.getD j none).isSome:=by rw[<-hv];exact kF ow _
 have ri:(live.map (·.1)).Pairwise (· < ·):=by rw[fst];exact List.pairwise_lt_range.filter _
 have nd:(live.map (·.2)).Nodup:=by
  have:live.Pairwise λx y=>x.1<y.1:=List.pairwise_map.mp ri
  unfold List.Nodup;rw[List.pairwise_map];refine(List.Pairwise.and_mem.mp this).imp λ{x y} ⟨hx,hy,hlt⟩ e=>?_
  have e1:=mem.mp (show (x.1,x.2)∈live from hx);have e2:=mem.mp (show (y.1,y.2)∈live from hy);rw[<-e]at e2;have:=L.one _ _ _ e1 e2;lia
 have pm:(live.map (·.2)).Perm (a_ hs.length):=by
  refine(List.perm_ext_iff_of_nodup nd List.nodup_range).mpr λi=>?_
  rw[bt,List.mem_range];constructor
  ·rintro⟨⟨j,x⟩,h1,rfl⟩;exact L.lo _ _ (mem.mp h1)
  ·intro hi;obtain⟨j,e,_⟩:=L.all i (hs[i]) hi (List.getElem?_eq_getElem hi);exact⟨(j,i),mem.mpr e,rfl⟩
 refine⟨{mask,place:=(live.map (·.1)).toArray,dummies:=#[],finger:=fi,led:=le,moves:=mo,plain:=pl},(live.map (·.2)).toArray,?_,?_⟩
 ·unfold laid;rw[a];simp only[aI,Option.bind_some];rw[hv];rfl
 ·refine⟨pm,?_,rfl,rfl,rfl,rfl⟩;have okk:∀x∈live.map (·.2),(hs[x]?).isSome=true:=λx hx=>by
   have:=List.mem_range.mp (pm.mem_iff.mp hx);rw[List.getElem?_eq_getElem this];rfl
  have ln:((live.map (·.2)).filterMap (hs[·]?)).length=live.length:=by
   have:((live.map (·.2)).filterMap (hs[·]?)).Perm hs:=by
    refine(pm.filterMap _).trans ?_;rw[List.filterMap_getElem?_range_length]
   have p2:=pm.length_eq;rw[this.length_eq];simp at p2;lia
  refine⟨hM,rfl,?_,ri,λj hj=>?_,?_⟩
  ·show (live.map (·.1)).toArray.size=((live.map (·.2)).filterMap (hs[·]?)).length;rw[ln];simp
  ·rw[show (live.map (·.1)).toArray.toList=live.map (·.1)from rfl,fst,List.mem_filter,List.mem_range]at hj;exact Nat.le_of_lt_succ hj.1
  ·rintro⟨j,g⟩ hx;obtain⟨i,hi⟩:=List.mem_iff_getElem?.mp hx;have hz:=List.getElem?_zip_eq_some.mp hi;have h1:=hz.1;have h2:=hz.2;rw[show (live.map (·.1)).toArray.toList=live.map (·.1)from rfl,List.getElem?_map]at h1;rw[show (live.map (·.2)).toArray.toList=live.map (·.2)from rfl,rm okk,List.getElem?_map]at h2;cases q:live[i]? with
   |none=>rw[q]at h1;cases h1
   |some y=>
    rw[q]at h1 h2;cases h1;obtain⟨j',e,r⟩:=L.all y.2 g (by have:=okk y.2 (bt.mpr ⟨y,List.mem_of_getElem? q,rfl⟩);rw[Option.isSome_iff_exists]at this;obtain⟨_,this⟩:=this;exact(List.getElem?_eq_some_iff.mp this).1) h2;have e2:=mem.mp (show (y.1,y.2)∈live from List.mem_of_getElem? q);have:=L.one _ _ _ e e2;subst this;exact r.mono λj ⟨i,e⟩=>by
     rw[show (live.map (·.1)).toArray.toList=live.map (·.1)from rfl];exact bt.mpr ⟨(j,i),mem.mpr e,rfl⟩
end ST
namespace ST
open PySem PySem.Spec PySem.SetTable
section
variable{K:Type} [DecidableEq K]
noncomputable def ent(hash:K->Int)(x:K×ae):Int×Value:=(hash x.1,x.2)
noncomputable def eu(es:List (Int×ae))(ep:Nat)(t:aU):Obj:={cls:=.type "set",dict:=none,data:=.set es.toArray ep t,slots:=#[]}
structure Tb(w:av)(hash:K->Int)(xs:List (K×ae))(t:aU):Prop where
 good:Good t (xs.map λx=>hash x.1)
 few:xs.length * 5<t.mask * 3
 led:t.led = !w.params.followText "set-order"
 plain:t.plain=true
 nd:(xs.map (·.1)).Nodup
noncomputable def fO(w:av)(hash:K->Int)(xs:List (K×ae))(o:Obj):Prop:=∃ep t,o=eu (xs.map (ent hash)) ep t/\Tb w hash xs t
variable{w:av}{hash:K->Int}{xs:List (K×ae)}{t:aU}
theorem Tb.fits(T:Tb w hash xs t):t.fits (xs.map (ent hash)).toArray.size=true:=by
 have:=T.good.fits (by rw[aP];have:=T.few;rcases T.good.ma with h|h|h|h|h<;>rw[h]at this ⊢ <;> lia)
 simpa using this
theorem Tb.nil(fi mo:Nat):Tb w hash [] (.fresh fi mo (!w.params.followText "set-order")):=by
 refine⟨⟨.inl rfl,rfl,rfl,.nil,(λj h=>absurd h (by simp[aU.fresh])),(λjh h=>absurd h (by simp[aU.fresh]))⟩,by show 0 * 5<7 * 3;lia,rfl,rfl,.nil⟩
theorem rW(hash:K->Int)(es:List (K×ae))(p:Nat)(x:K×ae):insertAt (es.map (ent hash)).toArray p (hash x.1,x.2)=((es.take p++x::es.drop p).map (ent hash)).toArray:=by
 apply Array.toList_inj.mp;rw[aU.toList_insertAt];simp[ent]
theorem Tb.put(T:Tb w hash xs t){k:K}{v:ae}{j:Nat}(hj:j∉t.place.toList)(hR:Reach t.mask (·∈t.place.toList) (hash k) j)(hk:k∉xs.map (·.1)) :
  ∃p,t.put j=({t with place:=insertAt t.place p j},p)/\Good {t with place:=insertAt t.place p j} ((xs.take p++(k,v)::xs.drop p).map λx=>hash x.1) /\
   (xs.take p++(k,v)::xs.drop p).Perm (xs++[(k,v)])/\((xs.take p++(k,v)::xs.drop p).map (·.1)).Nodup:=by
 obtain⟨a,b,c⟩:=T.good.put hj hR;have pm:(xs.take (below t.place j)++(k,v)::xs.drop (below t.place j)).Perm (xs++[(k,v)]):=by
  refine List.perm_middle.trans ?_;rw[bF];exact(List.perm_append_singleton _ _).symm
 refine⟨below t.place j,a,?_,pm,?_⟩
 ·simpa[List.map_append,List.map_take,List.map_drop]using c
 ·refine((pm.map (·.1)).nodup_iff).mpr ?_;rw[List.map_append,List.nodup_append];exact⟨T.nd,by simp,λa ha b hb=>by simp at hb;subst hb;exact λe=>hk (e▸ha)⟩
theorem vE{n:Nat}(hn:n+1<1200)(hm:Mk t.mask)(hd:t.dummies = #[])(hl:t.place.size=n+1)(hf:n * 5<t.mask * 3) :
  (t.tooFull=false/\(n+1) * 5<t.mask * 3)\/(t.tooFull=true/\∃m,Mk m/\sizeAbove (grown (n+1))-1=m/\sizeAbove (grown (n+1))<=2048/\n+1<=m+1/\(n+1) * 5<m * 3):=by
 have e:t.tooFull=decide ((n+1) * 5 >= t.mask * 3):=by unfold tooFull fill;rw[hd,hl];rfl
 rw[e];by_cases q:(n+1) * 5 >= t.mask * 3
 ·refine .inr ⟨by simpa using q,?_⟩;rcases hm with h|h|h|h|h<;>rw[h]at q hf
  ·obtain rfl:n=4:=by lia
   exact⟨31,.inr (.inl rfl),by decide,by decide,by lia,by lia⟩
  ·obtain rfl:n=18:=by lia
   exact⟨127,.inr (.inr (.inl rfl)),by decide,by decide,by lia,by lia⟩
  ·obtain rfl:n=76:=by lia
   exact⟨511,.inr (.inr (.inr (.inl rfl))),by decide,by decide,by lia,by lia⟩
  ·obtain rfl:n=306:=by lia
   exact⟨2047,.inr (.inr (.inr (.inr rfl))),by decide,by decide,by lia,by lia⟩
  ·lia
 ·exact .inl ⟨by simpa using q,by lia⟩
theorem xQ{t:aU}{ys:List (K×ae)}{n m:Nat}(hM:Mk m)(hs:sizeAbove (grown (n+1))-1=m)(hl:n+1<=m+1)(hq:(n+1) * 5<m * 3)(hn:ys.length=n+1)(led:t.led = !w.params.followText "set-order")(plain:t.plain=true)(nd:(ys.map (·.1)).Nodup) :
  ∃t' order zs,t.relaid ((ys.map (ent hash)).toArray.map (·.1)) (grown (n+1))=some (t',order)/\order.filterMap ((ys.map (ent hash)).toArray[·]?)=(zs.map (ent hash)).toArray/\order.toList.Perm (a_ (n+1))/\zs.Perm ys/\Tb w hash zs t':=by
 have e0:(ys.map (ent hash)).toArray.map (·.1)=(ys.map λx=>hash x.1).toArray:=by
  apply Array.toList_inj.mp;simp[ent,Function.comp_def]
 obtain⟨t',order,h1,h2,h3,h4,h5,h6,h7⟩:=relaid hM (ys.map λx=>hash x.1) (by rw[aP,hn];exact hl) t.finger (t.movedTo m) t.led t.plain;rw[aP,hn]at h2;have pz:(order.toList.filterMap (ys[·]?)).Perm ys:=by
  refine(h2.filterMap _).trans ?_;rw[<-hn,List.filterMap_getElem?_range_length]
 refine⟨t',order,order.toList.filterMap (ys[·]?),?_,?_,h2,pz,⟨?_,?_,h5.trans led,h6.trans plain,?_⟩⟩
 ·unfold aU.relaid;rw[hs,e0];exact h1
 ·apply Array.toList_inj.mp;rw[Array.toList_filterMap,List.map_filterMap];refine congrArg (λf=>List.filterMap f order.toList) (funext λi=>?_);simp
 ·rw[List.map_filterMap];refine(congrArg (Good t') (congrArg (λf=>List.filterMap f order.toList) (funext λi=>?_))).mp h3;simp
 ·rw[pz.length_eq,hn,h4];exact hq
 ·exact((pz.map (·.1)).nodup_iff).mpr nd
end
section
variable{prog:aA}{w:av}{A:az}{E:ae->af->Prop}{s:af}{K:Type} [DecidableEq K]{hash:K->Int}
theorem store{a:Addr}{es:List (Int×ae)}{ep:Nat}{t t':aU}{es':Array (Int×ae)}{Q:Unit->af->Prop}(ho:s.heap.get? a=some (eu es ep t))(hz:es'.size<=aL)
  (h:∀h',Heap.SameBut a s.heap h'->h'.get? a=some (eu es'.toList (ep+1) t')->Q () {s with heap:=h'}):ao (aq prog w) A (storeSet a es' t') Q E s:=by
 refine wpAny_storeSet_of ho rfl (h _ (Heap.SameBut.update _ _ _) ?_) hz;have:=Heap.get?_update_self (Obj.putSet es' t') ho (by rw[putSet_of es' t' rfl];rfl);rw[putSet_of es' t' rfl]at this;rw[this];simp[eu]
end
section
variable{prog:aA}{w:av}{A:az}{E:ae->af->Prop}{s:af}
theorem yG{t:aU}{hs:List Int}(G:Good t hs)(hf:hs.length<=t.mask)(h:Int):∃m,m<10 * turns t.mask/\(pr t.mask h m).j∉t.place.toList/\∀k,k<m->(pr t.mask h k).j∈t.place.toList:=by
 obtain⟨m0,_,b0,c0⟩:=G.free hf h 0;obtain⟨m,_,b,c⟩:=G.go (λ_=>h+1) h (10 * turns t.mask) 0 ⟨m0,br _,b0,c0⟩;have occ:∀k,k<m->(pr t.mask h k).j∈t.place.toList:=λk hk=>by
  obtain⟨i,hi,_⟩:=b k (br _) hk;rw[<-Array.getElem?_toList]at hi;exact List.mem_of_getElem? hi
 rcases c with ⟨c,_⟩|⟨i,_,c,_⟩
 ·refine⟨m,?_,c,occ⟩;have:m<=m0:=dD λq=>c0 (occ m0 q)
  lia
 ·lia
end
section
variable{prog:aA}{w:av}{A:az}{E:ae->af->Prop}{s:af}
end
section
variable{prog:aA}{w:av}{A:az}{E:ae->af->Prop}{s:af}
theorem y_{K:Type} [DecidableEq K]{hash:K->Int}{xs:List (K×ae)}{t:aU}(T:Tb w hash xs t):(xs.map λx=>hash x.1).length<=t.mask:=by
 rw[aP];have:=T.few;rcases T.good.ma with h|h|h|h|h<;>rw[h]at this ⊢ <;> lia
noncomputable def More{K:Type} [DecidableEq K](xs:List (K×ae))(k:K)(v:ae):List (K×ae):=if k∈xs.map (·.1)then xs else xs++[(k,v)]
noncomputable def kU(h:Heap)(k:Int)(v:ae):Prop:=∃t,v=.int k t
theorem elems{xs:List (Int×ae)}{h:Heap}(hel:∀x∈xs,kU h x.1 x.2):ElemsOf (intKind prog w) (xs.map (ent hashInt)):=by
 intro e he;obtain⟨x,hx,rfl⟩:=bt.mp he;obtain⟨t,e⟩:=hel x hx;have e2:(ent hashInt x).2=.int x.1 t:=e;rw[e2];exact⟨⟨x.1,intKind_is _ _ _ _,rfl⟩,rfl⟩
theorem xm{a:Addr}{xs:List (Int×ae)}{k:Int}{tk:Tok}{o:Obj}(ho:s.heap.get? a=some o)(hS:fO w hashInt xs o)
  (hel:∀x∈xs,kU s.heap x.1 x.2) (hn:xs.length+1<1200) {Q:Bool->af->Prop}
  (h:∀b h' ys,Heap.SameBut a s.heap h'->(∃o,h'.get? a=some o/\fO w hashInt ys o)->ys.Perm (More xs k (.int k tk))->Q b {s with heap:=h'}) :
  ao (aq prog w) A (setAddHashed a (.int k tk) (hashInt k)) Q E s:=by
 obtain⟨ep,t,rfl,T⟩:=hS;have EL:ElemsOf (intKind prog w) (xs.map (ent hashInt)).toArray.toList:=elems hel;obtain⟨ms,m1,m2,m3⟩:=yG T.good (y_ T) (hashInt k);have e:s={s with heap:=s.heap}:=by cases s;rfl
 have hb:(xs.map (ent hashInt)).toArray.size<scanBound:=by simp[scanBound];lia
 unfold setAddHashed;refine bJ ?_;unfold setAddHashedIn;refine ah (wpAny_setState_of ho rfl T.fits ?_);dsimp only;rw[byScan_of (knd:=intKind prog w) rfl hb EL];simp only[↓reduceIte];unfold setAddByScan;refine ah ?_;refine ah (wpAny_rule ?_);refine ah (wpAny_setScan_of (knd:=intKind prog w) (k:=k) (intKind_is _ _ _ _) ho rfl T.fits EL ?_);have is_:∀(x:Int×ae),x∈xs->((intKind prog w).is k (ent hashInt x).2=true↔x.1=k):=λx hx=>by
  obtain⟨t,e⟩:=hel x hx;have e2:(ent hashInt x).2=.int x.1 t:=e;rw[e2];constructor
  ·intro q;exact((intKind prog w).inj _ _ _ q (intKind_is _ _ _ _)).symm
  ·intro q;rw[q];exact intKind_is _ _ _ _
 cases hr:List.findIdx? (λe=>(intKind prog w).is k e.2) (xs.map (ent hashInt)).toArray.toList with
 |some j=>
  dsimp only;obtain⟨hj,hpj,_⟩:=List.findIdx?_eq_some_iff_getElem.mp hr;have hm:k∈xs.map (·.1):=by
   have hj':j<xs.length:=by simpa using hj
   have q:(intKind prog w).is k (ent hashInt xs[j]).2=true:=by simpa using hpj
   exact bt.mpr ⟨xs[j],cz _,(is_ _ (cz _)).mp q⟩
  refine aB (aB ?_);have:=h false s.heap xs (Heap.SameBut.refl a s.heap) ⟨_,ho,ep,t,rfl,T⟩ (by rw[More,if_pos hm]);rw[e];exact this
 |none=>
  dsimp only;have hm:k∉xs.map (·.1):=λhm=>by
   obtain⟨x,hx,e⟩:=bt.mp hm;have:=List.findIdx?_eq_none_iff.mp hr (ent hashInt x) (bt.mpr ⟨x,hx,rfl⟩);rw[(is_ x hx).mpr e]at this;cases this
  obtain⟨p,e1,g,pm,nd⟩:=T.put (k:=k) (v:=.int k tk) m2 ⟨ms,rfl,m3⟩ hm;have e2:insertAt (xs.map (ent hashInt)).toArray p (hashInt k,.int k tk)=((xs.take p++(k,.int k tk)::xs.drop p).map (ent hashInt)).toArray:=rW hashInt xs p (k,.int k tk);have fr:t.freeSlot (hashInt k)=some ((pr t.mask (hashInt k) ms).j,false):=by
   obtain⟨m,a1,a2,a3⟩:=T.good.go (λ_=>hashInt k+1) (hashInt k) (10 * turns t.mask) 0 ⟨ms,br _,by lia,m2⟩;have occ:∀l,l<m->(pr t.mask (hashInt k) l).j∈t.place.toList:=λl hl=>by
    obtain⟨i,hi,_⟩:=a2 l (br _) hl;rw[<-Array.getElem?_toList]at hi;exact List.mem_of_getElem? hi
   rcases a3 with ⟨b1,b2⟩|⟨i,_,b,_⟩
   ·have:m=ms:=Nat.le_antisymm (dD λq=>m2 (occ ms q)) (dD λq=>b1 (m3 m q));subst this;unfold freeSlot probe;rw[vj,b2];rfl
   ·lia
  generalize hy:xs.take p++(k,.int k tk)::xs.drop p=ys at *;have hl:ys.length=xs.length+1:=by rw[pm.length_eq];simp
  have zl:ys.length<=sizeLine:=by rw[hl,bf];lia
  have ft:({t with place:=insertAt t.place p (pr t.mask (hashInt k) ms).j}:aU).fits (ys.map (ent hashInt)).toArray.size=true:=by
   have:=g.fits (by rw[aP,hl];have:=T.few;show _<=t.mask;rcases T.good.ma with h|h|h|h|h<;>rw[h]at this ⊢ <;> lia)
   simpa using this
  have ly:layNew t (xs.map (ent hashInt)).toArray (hashInt k) (.int k tk)=((ys.map (ent hashInt)).toArray,{t with place:=insertAt t.place p (pr t.mask (hashInt k) ms).j},false,false):=by
   unfold layNew;rw[fr];dsimp only;rw[e1];dsimp only;rw[e2];unfold orStandIn;rw[ft];rfl
  have hr':(intKind prog w).hash k=hashInt k:=rfl;rw[ly];dsimp only;refine ah (aB ?_);rw[show ({t with place:=insertAt t.place p (pr t.mask (hashInt k) ms).j}:aU).plain=true from T.plain];simp only[if_true];rw[hashByValue_scannable 8 rfl];refine ah (aB ?_);simp only[plainKind,if_true];have len:=g.len;rw[aP,hl]at len;have gt:∀{tt:aU},tt={t with place:=insertAt t.place p (pr t.mask (hashInt k) ms).j}->ao (aq prog w) A (do
    storeSet a (ys.map (ent hashInt)).toArray tt
    if (!false&&tt.tooFull)=true then do
      (match (relayAll tt (ys.map (ent hashInt)).toArray (aU.grown (ys.map (ent hashInt)).toArray.size)).2.2 with|true=>rule "set.scan.the-table-gave-way" |false=>pure ())
      storeSet a (relayAll tt (ys.map (ent hashInt)).toArray (aU.grown (ys.map (ent hashInt)).toArray.size)).1 (relayAll tt (ys.map (ent hashInt)).toArray (aU.grown (ys.map (ent hashInt)).toArray.size)).2.1
      pure (some true)
     else pure (some true)) (λx s'=>ao (aq prog w) A (match x with|some added=>pure added|none=>setAddHashedIn a (.int k tk) (hashInt k) 99999) Q E s') E s:=by
   rintro _ rfl;refine ah (store ho (by simpa using zl) λh1 sb1 o1=>?_);rcases vE (t:={t with place:=insertAt t.place p (pr t.mask (hashInt k) ms).j}) hn T.good.ma T.good.dum len T.few with ⟨f,few⟩|⟨f,m,hM,hs,hsl,hl',hq⟩
   ·rw[f];simp only[Bool.not_false,Bool.and_false,aW,if_false];exact aB (aB (h true h1 ys sb1 ⟨_,o1,ep+1,_,rfl,⟨g,by rw[hl];exact few,T.led,T.plain,nd⟩⟩ (by rw[More,if_neg hm];exact pm)))
   ·rw[f];simp only[Bool.not_false,Bool.and_self,if_true];obtain⟨t',order,zs,r1,r2,r3,r4,r5⟩:=xQ (w:=w) (hash:=hashInt) (t:={t with place:=insertAt t.place p (pr t.mask (hashInt k) ms).j}) hM hs hl' hq hl T.led T.plain nd;have zs_l:zs.length=ys.length:=r4.length_eq;have ra:relayAll {t with place:=insertAt t.place p (pr t.mask (hashInt k) ms).j} (ys.map (ent hashInt)).toArray (aU.grown (ys.map (ent hashInt)).toArray.size)=((zs.map (ent hashInt)).toArray,t',false):=by
     unfold relayAll;rw[show (ys.map (ent hashInt)).toArray.size=xs.length+1 by simp[hl],r1];dsimp only;rw[r2];have ca:coversAll order (xs.length+1)=true:=List.isPerm_iff.mpr r3;rw[ca,r5.fits];rfl
    rw[ra];dsimp only;refine ah (aB ?_);refine ah (store (es:=ys.map (ent hashInt)) (ep:=ep+1) o1 (by simp[zs_l];exact zl) λh2 sb2 o2=>?_);exact aB (aB (h true h2 zs (sb1.trans sb2) ⟨_,o2,ep+1+1,t',rfl,r5⟩ (by rw[More,if_neg hm];exact r4.trans pm)))
  refine gt ?_;rw[<-T.plain]
end
structure Kd(prog:aA)(w:av)(K:Type) [DecidableEq K] where
 hash:K->Int
 el:Heap->K->ae->Prop
 grow:∀{h h':Heap}{k:K}{v:ae},el h k v->(∀b o,h.get? b=some o->h'.get? b=some o)->el h' k v
 room:az->Prop
 pyHash:∀{A:az}{E:ae->af->Prop}{s:af}{k:K}{v:ae}{Q:Int->af->Prop},room A->el s.heap k v->(∀tk,s.toks<=tk->Q (hash k) {s with toks:=tk})->ao (aq prog w) A (pyHash v) Q E s
 add:∀{A:az}{E:ae->af->Prop}{s:af}{a:Addr}{xs:List (K×ae)}{k:K}{v:ae}{o:Obj}{Q:Bool->af->Prop},room A->s.heap.get? a=some o->fO w hash xs o ->
  (∀x∈xs,el s.heap x.1 x.2)->el s.heap k v->xs.length+1<1200 ->
  (∀b h' ys,Heap.SameBut a s.heap h'->(∃o,h'.get? a=some o/\fO w hash ys o)->ys.Perm (More xs k v)->Q b {s with heap:=h'})->ao (aq prog w) A (setAddHashed a v (hash k)) Q E s
noncomputable def inK(prog:aA)(w:av):Kd prog w Int where
 hash:=hashInt
 el:=kU
 grow:=λh _=>h
 room:=λ_=>True
 pyHash:=λ_ ⟨t,e⟩ h=>by subst e;exact wpAny_pyHash_int (h _ (Nat.le_succ _))
 add:=λ_ ho hS hel ⟨t,e⟩ hn h=>by subst e;exact xm ho hS hel hn h
section
variable{prog:aA}{w:av}{K:Type} [DecidableEq K](D:Kd prog w K)
noncomputable def Holds(h0 h:Heap)(a:Addr)(keys:Nat->K)(i:Nat):Prop:=∃o xs,h.get? a=some o/\fO w D.hash xs o/\(∀x∈xs,D.el h0 x.1 x.2)/\(∀k,k∈xs.map (·.1)↔∃j,j<i/\keys j=k)/\xs.length<=i
variable{D}
variable{A:az}{R:Result->af->Prop}{I:Addr}{fp wr:List Addr}{G:Array GenState->Array GenState->Prop}{n:Nat}{P:Nat->ae->Prop}{St:Nat->af->Prop}
theorem loop(W:WalksS prog w A.in1 I fp wr G n P St)(hu:D.room A.in1)(S:Addr)(hSf:S∉fp){h0:Heap}(hS0:h0.get? S=none)(hwr:∀b∈wr,h0.get? b=none)
  (keys:Nat->K) (hval:∀i v,P i v->D.el h0 (keys i) v) (hb:n<1200) :
  ∀(k i:Nat) (s:af),n-i=k->i<=n->St i s->(∀b o,h0.get? b=some o->s.heap.get? b=some o)->Holds D h0 s.heap S keys i ->
   (∀s',Moved (S::wr) G s s'->Holds D h0 s'.heap S keys n->R (.ok (.ret .none)) s') ->
   codeAny (aq prog w) A (.builtin "set.update.loop" ⟨[.ref S,.ref I],[]⟩) R s:=by
 have hSw:S∉wr:=λh=>hSf (W.sub _ h)
 have hsub:∀b∈wr,b∈S::wr:=λb hb=>aV _ hb
 intro k
 induction k with
 |zero=>
  intro i s hk hi hst hk0 hS hR;have hin:i=n:=by lia
  subst hin;refine bT PyProof.Rows.F.entry_set_update_loop ?_;rw[cx PyProof.Rows.F.plain_set_update_loop _];show ao _ A.in1 (pyNext (.ref I)>>=_) _ _ s;refine ah (W.done s _ _ hst λs' hm=>?_);show ao _ A.in1 (ret ae.none) _ _ s';obtain⟨o,xs,ho,r⟩:=hS;exact aB (hR s' (hm.mono hsub) ⟨o,xs,hm.heap S _ hSw ho,r⟩)
 |succ k ih=>
  intro i s hk hi hst hk0 hS hR;have hlt:i<n:=by lia
  refine bT PyProof.Rows.F.entry_set_update_loop ?_;rw[cx PyProof.Rows.F.plain_set_update_loop _];show ao _ A.in1 (pyNext (.ref I)>>=_) _ _ s;refine ah (W.item i s _ _ hlt hst λv s' hP hst' hm=>?_);have hel:=hval i v hP;obtain⟨o,xs,ho,r1,r2,r3,r4⟩:=hS;have hk1:∀b o,h0.get? b=some o->s'.heap.get? b=some o:=λb o e=>hm.heap b o (λq=>by rw[hwr b q]at e;cases e) (hk0 b o e)
  have ho':=hm.heap S _ hSw ho;show ao _ A.in1 (holding [v] (setAdd S v)>>=_) _ _ s';refine ah (bJ ?_);unfold setAdd;refine bJ ?_;refine ah (D.pyHash hu (D.grow hel hk1) λtk htk=>?_);refine D.add (s:={s' with toks:=tk}) hu ho' r1 (λx hx=>D.grow (r2 x hx) hk1) (D.grow hel hk1) (by lia) λb h' ys sb hS2 pm=>?_
  have hk2:∀b o,h0.get? b=some o->h'.get? b=some o:=λb o e=>by
   rw[sb.2 b (λh:b=S=>by rw[h,hS0]at e;cases e)];exact hk1 b o e
  have hS3:Holds D h0 h' S keys (i+1):=by
   obtain⟨o2,ho2,si⟩:=hS2;refine⟨o2,ys,ho2,si,λx hx=>?_,λk'=>?_,?_⟩
   ·have:=pm.mem_iff.mp hx;unfold More at this;split at this
    ·exact r2 x this
    ·rcases List.mem_append.mp this with q|q
     ·exact r2 x q
     ·rw[List.mem_singleton.mp q];exact hel
   ·rw[(pm.map (·.1)).mem_iff];have:(∃j,j<i+1/\keys j=k')↔(∃j,j<i/\keys j=k')\/keys i=k':=by
     constructor
     ·rintro⟨j,a,b⟩;rcases Nat.lt_succ_iff_lt_or_eq.mp a with q|q
      ·exact .inl ⟨j,q,b⟩
      ·subst q;exact .inr b
     ·rintro(⟨j,a,b⟩|b)
      ·exact⟨j,by lia,b⟩
      ·exact⟨i,by lia,b⟩
    rw[this,<-r3 k'];unfold More;split
    ·rename_i q
     exact⟨.inl,λh=>h.elim id λe=>e▸q⟩
    ·rw[List.map_append,List.mem_append];simp only[a5,List.map_nil,List.mem_singleton];exact⟨λh=>h.imp id Eq.symm,λh=>h.imp id Eq.symm⟩
   ·rw[pm.length_eq];unfold More;split
    ·lia
    ·simp;lia
  refine aB ⟨plainId_quiet PyProof.Rows.F.plain_set_update_loop _,ih (i+1) _ (by lia) hlt (W.frame _ s' _ _ hst' htk λb hb o e=>?_) hk2 hS3 λs'' hm'' hS''=>?_⟩
  ·rw[sb.2 b (λh:b=S=>hSf (by rw[<-h];exact hb))];exact e
  ·refine hR s'' (Moved.trans W.gtrans ((hm.mono hsub).then_heap htk λb o hb e=>?_) hm'') hS'';rw[sb.2 b (λh:b=S=>hb (by rw[h];exact a8))];exact e
end
abbrev dM(w:av):Obj:={cls:=.type "set",dict:=none,data:=.set #[] 0 (.fresh 0 0 (!w.params.followText "set-order"))}
section
variable{prog:aA}{w:av}{A:az}{E:ae->af->Prop}{s:af}{K:Type} [DecidableEq K]{D:Kd prog w K}
theorem CU(a:ae){Q₁:ae->af->Prop}(h:Q₁ (.ref s.heap.objs.size) {s with heap:=s.heap.push (dM w)}) :
  codeAny (aq prog w) A (.call (.builtin "set.__new__") ⟨[.type "set",a],[]⟩) (wants Q₁ E) s:=by
 refine codeAny_of_tree ?_;show ao _ A.in1 (do checkBuiltinCall "set.__new__" ⟨[.type "set",a],[]⟩;again (.builtin "set.__new__" ⟨[.type "set",a],[]⟩)) _ _ s;refine ah (wpAny_of_eq (F.newCall_set_1 a) (aB ⟨plainId_quiet F.plain_set_new _,bT F.entry_set_new ?_⟩));rw[cx F.plain_set_new _];unfold Builtin.«set.__new__» Builtin.Frozenset.newClass;have hsub:=sub_set_self;obtain⟨hp,g,d,tk,os⟩:=s;dsimp only
 wp_walk
 refine wpAny_askSetting (aB ?_);dsimp only;simp only[newObj];refine ah (wpAny_alloc (aB ?_));exact aB h
theorem vW:fO w D.hash [] (dM w):=⟨0,_,rfl,Tb.nil 0 0⟩
theorem sV(hu:D.room A.in1.in1.in1){I:Addr}{fp wr:List Addr}{items:Array ae}{St:Nat->Heap->Prop}(W:Walks prog w A.in1.in1.in1 I fp wr items.size (λi v=>items[i]? = some v) St){h1:Heap}
  (keys:Nat->K) (hval:∀(i:Nat) v,items[i]? = some v->D.el s.heap (keys i) v) (hb:items.size<1200) (hst:St 0 h1) (hS:h1.get? s.heap.objs.size=some (dM w)) (hold:∀b o,s.heap.get? b=some o->h1.get? b=some o)
  (hSf:s.heap.objs.size∉fp) (hwr:∀b∈wr,s.heap.objs.size<=b) {R:Result->af->Prop}
  (h:∀(h':Heap) (tk:Nat),Holds D s.heap h' s.heap.objs.size keys items.size->(∀b o,b<s.heap.objs.size->s.heap.get? b=some o->h'.get? b=some o)->R (.ok (.ret .none)) {s with heap:=h',toks:=tk}) :
  codeAny (aq prog w) A.in1.in1 (.builtin "set.update.loop" ⟨[.ref s.heap.objs.size,.ref I],[]⟩) R {s with heap:=h1}:=by
 have out:∀b,s.heap.objs.size<=b->s.heap.get? b=none:=λb hb=>by
  cases q:s.heap.get? b with
  |none=>rfl
  |some o=>exact absurd (aK q) (Nat.not_lt.mpr hb)
 refine loop W.toS hu s.heap.objs.size hSf (h0:=s.heap) (out _ (aD _)) (λb hb=>out b (hwr b hb)) keys hval hb (items.size-0) 0 _ (by lia) (br _) hst hold ?_ λs' hm hS'=>?_
 ·exact⟨_,[],hS,vW,(λx hx=>absurd hx (b9)),(λk=>by simp),aD _⟩
 ·obtain⟨h',g',d',tk',os'⟩:=s';have eg:g'=s.gens:=hm.gens;have ed:d'=s.drawn:=hm.drawn;have eo:os'=s.os:=hm.os;subst eg;subst ed;subst eo;refine h h' tk' hS' λb o hb e=>hm.heap b o (λq=>?_) (hold b o e)
  rcases aN.mp q with q|q
  ·rw[q]at hb;exact bM _ hb
  ·exact absurd hb (Nat.not_lt.mpr (hwr b q))
theorem sub_tuple_set:isSubtype (.type "tuple") (.type "set")=pure false:=by rw[isSubtype_type];kernel_rfl
theorem sub_tuple_frozenset:isSubtype (.type "tuple") (.type "frozenset")=pure false:=by rw[isSubtype_type];kernel_rfl
theorem DC{l:Addr}{items:Array ae}{Q:ae->af->Prop}(hh:A.handled=none)(hu:D.room A.in1.in1.in1)(hl:s.heap.IsTuple l items)(keys:Nat->K)(hval:∀(i:Nat) v,items[i]? = some v->D.el s.heap (keys i) v)(hb:items.size<1200)
  (h:∀(h':Heap) (tk:Nat),Holds D s.heap h' s.heap.objs.size keys items.size->(∀b o,b<s.heap.objs.size->s.heap.get? b=some o->h'.get? b=some o)->Q (.ref s.heap.objs.size) {s with heap:=h',toks:=tk}) :
  ao (aq prog w) A (call (.type "set") [.ref l]) Q E s:=by
 obtain⟨c,tl,hmro⟩:=F.called_set.mro;have hmade:=F.called_set.made;have hsub:=F.called_set.sub;refine wpAny_call (codeAny_of_tree ?_);show ao _ _ (callAny (.type "set") _) _ _ _;refine aB ⟨Code.quiet_builtin _ (by decide +kernel),bT F.entry_type_call ?_⟩;rw[az.under_plain (weight_type_call_type "set" [.ref l] []) rfl];have h1:=F.called_set.notType;have h2:=F.called_set.canCreate;have hct:=F.typeCall_set_1 (.ref l)
 repeat (any_goals (first|assumption|wp_step))
 refine codeAny_mono (CU (.ref l) (E:=E) (Q₁:=λobj s₁=>obj=.ref s.heap.objs.size/\s₁={s with heap:=s.heap.push (dM w)}) ⟨rfl,rfl⟩) λr s₁ hr=>?_
 cases r with
 |error e=>exact hr
 |ok fl=>
  cases fl with
  |ret obj=>
   obtain⟨rfl,rfl⟩:=hr;have hS:(s.heap.push (dM w)).get? s.heap.objs.size=some (dM w):=Heap.get?_push_size _ rfl;have hT:af.TypeIs {s with heap:=s.heap.push (dM w)} (.ref s.heap.objs.size) "set":=⟨_,hS,rfl⟩
   have hli:=F.called_set.init.lookup;have hbi:=F.called_set.init.bind (.ref s.heap.objs.size)
   repeat (any_goals (first|assumption|wp_step))
   refine codeAny_mono (codeAny_call_builtin (R:=wants (λr s₂=>r=.none/\∃h' tk,s₂={s with heap:=h',toks:=tk}/\Holds D s.heap h' s.heap.objs.size keys items.size /\
     (∀b o,b<s.heap.objs.size->s.heap.get? b=some o->h'.get? b=some o)) E) F.called_set.init.plain F.entry_set_init (check_set_init_1 hT ?_)) λr₂ s₂ hr₂=>?_
   ·obtain⟨ol,hol,hcl,nl,hdl⟩:=hl;obtain⟨ocls,odict,odata,oslots⟩:=ol;simp only at hcl hdl;subst hcl;subst hdl;have hol':(s.heap.push (dM w)).get? l=some {cls:=.type "tuple",dict:=odict,data:=.seq items nl,slots:=oslots}:=Heap.get?_push_of_some _ hol;have hsls:=sub_tuple_set;have hslf:=sub_tuple_frozenset;have hne:(bH "tuple" == bH "dict")=false:=by decide
    have hl1:(s.heap.push (dM w)).IsTuple l items:=⟨_,hol',rfl,nl,rfl⟩
    unfold Builtin.«set.__init__» noKeywords Builtin.Frozenset.updateFrom;generalize hPI:pyIter=PI
    wp_walk
    subst hPI;refine wpAny_pyIter_tuple hl1 ?_;refine ah (wpAny_runValue ?_);have hlS:l<s.heap.objs.size:=aK hol;have hh3:A.in1.in1.in1.handled=none:=by simp[hh]
    have hneI:l≠(s.heap.push (dM w)).objs.size:=by
     rw[cc];exact a6 (bR hlS)
    have hSf:s.heap.objs.size∉[(s.heap.push (dM w)).objs.size,l]:=by
     rw[cc];simp only[aN,List.mem_singleton,b9,or_false,not_or];exact⟨a6 (Nat.lt_succ_self _),Nat.ne_of_gt hlS⟩
    refine sV hu (Walks.tuple hh3 _ l hneI items) keys hval hb ⟨⟨_,Heap.get?_push_size _ rfl,rfl,rfl⟩,(hl1.push _)⟩ (Heap.get?_push_of_some _ hS) (λb o e=>Heap.get?_push_of_some _ (Heap.get?_push_of_some _ e)) hSf (λb hb=>by rw[List.mem_singleton.mp hb,cc];exact Nat.le_succ _) λh' tk hH hk=>?_
    show ao _ _ _ _ _ _;refine aB ?_;show ao _ _ (ret ae.none) _ _ _;exact aB ⟨rfl,h',tk,rfl,hH,hk⟩
   ·cases r₂ with
    |error e=>exact hr₂
    |ok fl₂=>
     cases fl₂ with
     |ret r=>
      obtain⟨rfl,h',tk,rfl,hS',hk'⟩:=hr₂
      repeat (any_goals (first|assumption|wp_step))
      exact h _ _ hS' hk'
     |_=>exact hr₂.elim
  |_=>exact hr.elim
end
end ST
namespace TS
open PySem PySem.W PyProof.Rows
noncomputable def cU(x:ak):Int:=match x.1 with
 | .int n _=>n
 |_=>0
noncomputable def fT:ae->Int
 | .int n _=>n
 |_=>0
theorem lP:∀{acc:List ae},(∀v∈acc,∃n t,v=.int n t)->a7 acc (acc.map fT)
 | [],_=>.nil
 |v::acc,h=>by
  obtain⟨n,t,rfl⟩:=h v a8;exact .cons n t (lP λu hu=>h u (aV _ hu))
theorem jE{vs:List ae}{ns:List Int}(h:a7 vs ns):(∀v∈vs,∃n t,v=.int n t)/\ns=vs.map fT:=by
 induction h with
 |nil=>exact⟨λv h=>(by cases h),rfl⟩
 |cons n t _ ih=>
  refine⟨λv hv=>?_,by rw[a5,<-ih.2];rfl⟩;rcases aN.mp hv with rfl|hv
  ·exact⟨n,t,rfl⟩
  ·exact ih.1 v hv
section
variable{prog:aA}{w:av}{A:az}{E:ae->af->Prop}{s:af}
theorem w8{l:List ak}(hl:∀x∈l,∃n t,x.1=.int n t):Cmp prog w A s oneType' (·∈l) (λx y=>decide (cU x<cU y)):=
 ⟨λx y hx hy Q q=>by
  obtain⟨n,t,e⟩:=hl x hx;obtain⟨m,u,e'⟩:=hl y hy;have q:Q (decide (cU x<cU y)) s:=q;rw[cU,cU,e,e']at q;rw[e,e',keyLt'_oneType];exact oneLt_int q,
 λx y h=>by simp at h ⊢;lia,λx y z h1 h2=>by simp at h1 h2 ⊢;lia⟩
theorem sC{a:Addr}{vs:List ae}{ns:List Int}{P:Fin->af->Prop}(hoL:s.heap.get? a=some (aG "list" vs.toArray 0))(hI:a7 vs ns)(hz:vs.length<=aL)
  (h:∀(out:Array ae) (ns':List Int),a7 out.toList ns'->ns'.Perm ns->ns'.Pairwise (·<=·)->P (.done (.ret .none)) {s with heap:=sortedHeap s.heap a vs out}) :
  ao (aq prog w) A (Builtin.«list.sort» ⟨[.ref a],[]⟩) P E s:=by
 by_cases h2:vs.length<2
 ·refine L2.lz hoL h2 (h vs.toArray ns hI .rfl ?_);have hl:ns.length<2:=by rw[(jE hI).2,aP];exact h2
  match ns,hl with
  | [],_=>exact .nil
  | [_],_=>exact List.pairwise_singleton _ _
 rw[list_sort_plain];refine ah (listItems_at  hoL rfl ?_);refine ah (listUpdate_at  hoL rfl ?_ (by rw[aO];exact hz) (br _));obtain⟨e1,ho1⟩:∃e1,(s.heap.update a (ba λ_=>#[])).get? a=some (aG "list" #[] e1):=⟨_,get?_update_seq hoL (λ_=>#[])⟩
 refine ah (seqEpoch_at ho1 rfl ?_);refine ah (wpAny_newTuple ?_ (by show vs.length<=_;exact hz));refine ah (wpAny_newList ?_ (br _));refine bJ ?_;have ho6:(((s.heap.update a (ba λ_=>#[])).push (aG "tuple" vs.toArray 0)).push (aG "list" #[] 0)).get? a=some (aG "list" #[] e1):=Heap.get?_push_of_some _ (Heap.get?_push_of_some _ ho1);show ao (aq prog w) _ _ _ _ {s with heap:=((s.heap.update a (ba λ_=>#[])).push (aG "tuple" vs.toArray 0)).push (aG "list" #[] 0)};dsimp only;have h2':¬ vs.toArray.size<2:=by rw[aO];exact h2
 rw[if_neg h2',if_neg h2'];have hv:=(jE hI).1;have hx:∀x∈(pairsOf vs).toList,x.1=x.2/\∃n t,x.1=.int n t:=λx hx=>by
  rw[pairsOf_toList]at hx;obtain⟨b1,b2⟩:=mem_zip_self hx;exact⟨b1,hv _ b2⟩
 have kk:keyKind' vs.toArray=pure oneType':=by
  match vs,h2,hI with
  | [],h2,_=>exact absurd (by simp) h2
  | [_],h2,_=>exact absurd (by simp) h2
  |v₁::v₂::rest,_,hI=>exact keyKind_ints hI
 rw[kk];refine ah (aB ?_);have K:Rk (·∈(pairsOf vs).toList) (λx y=>decide (cU x<cU y)) cU:=⟨λ_ _ _ _=>rfl⟩
 refine ah (bK (mf (Q:=λ_ st'=>(ag st').Perm (pairsOf vs)/\failedOf st'=none/\Seg cU (ag st') 0 (pairsOf vs).size) (w8 λx z=>(hx x z).2) K (λ_ z=>z) rfl rfl rfl rfl (by rw[pairsOf_size];lia) λst' z1 z2 z3=>⟨z1,z2,z3⟩) ?_ λ_ _ e=>e);rintro⟨⟨⟩,st'⟩ s' ⟨rfl,pm,fl,sg⟩;dsimp only;have pl:=Array.perm_iff_toList_perm.mp pm;have om:((ag st').map (·.2))=((ag st').toList.map (·.2)).toArray:=by
  generalize ag st'=z;apply Array.toList_inj.mp;rw[Array.toList_map]
 have op:((ag st').toList.map (·.2)).Perm vs:=by
  have:=pl.map (·.2)
  rwa[pairsOf_toList,List.map_snd_zip (aD _)]at this
 have hs:=nV (LT:=λx y=>decide (cU x<cU y)) (R:=cU) (a:=ag st') (by rw[pm.size_eq];exact sg) λx z1 y z2=>rfl
 have fin:=h ((ag st').map (·.2)) (((ag st').toList.map (·.2)).map fT) (by rw[om];exact lP λv hv'=>hv v (op.mem_iff.mp hv')) (by rw[(jE hI).2];exact op.map _) (by
  rw[bN,List.pairwise_map];refine(List.Pairwise.and_mem.mp hs).imp λ{x y} ⟨m1,m2,q⟩=>?_
  have q:=of_decide_eq_false q;have e1:=(hx x (pl.mem_iff.mp m1)).1;have e2:=(hx y (pl.mem_iff.mp m2)).1;show fT x.2<=fT y.2;rw[<-e1,<-e2];have d:∀z:ak,fT z.1=cU z:=λz=>by rw[fT.eq_def,cU]
  rw[d,d];lia)
 refine ah (seqEpoch_at ho6 rfl ?_);refine ah (listUpdate_at ho6 rfl ?_ (br _) (by rw[om,aO,op.length_eq];lia));rw[fl];simp only[bne_self_eq_false,aW,if_false];exact aB fin
end
end TS
namespace ST
open PySem PySem.Spec PySem.SetTable
theorem my:Manifest.owners.lookup (String.ofList ['r','o','t','a','r','e','t','i','_','t','e','s'].reverse)=some Manifest.sig_set_iterator:=by kernel_rfl
theorem fZ:Slot "set_iterator" "__next__" "set_iterator.__next__":=
 .of (owner:="set_iterator") (n:="__next__") (by rw[typeLookup_type,builtinLookup_eq_fast];kernel_rfl) (by decide +kernel) (by decide +kernel) (by decide +kernel)
  (by first|exact .inl (by decide +kernel)|exact .inr (by decide +kernel)) (by rw[isSubtype_type];kernel_rfl)
theorem oy:entryFor table "set_iterator.__next__" = some Builtin.«set_iterator.__next__»:=entryFor_of_tree (by kernel_rfl)
theorem o6(a:ae):argsOk "set_iterator.__next__" ⟨[a],[]⟩:=by
 unfold argsOk;rw[signature?_of (id:="set_iterator.__next__") (n:=['_','_','t','x','e','n','_','_']) (o:=['r','o','t','a','r','e','t','i','_','t','e','s']) (by kernel_rfl) my];kernel_rfl
theorem oD:Slot "set_iterator" "__iter__" "set_iterator.__iter__":=
 .of (owner:="set_iterator") (n:="__iter__") (by rw[typeLookup_type,builtinLookup_eq_fast];kernel_rfl) (by decide +kernel) (by decide +kernel) (by decide +kernel)
  (by first|exact .inl (by decide +kernel)|exact .inr (by decide +kernel)) (by rw[isSubtype_type];kernel_rfl)
theorem Bx:entryFor table "set_iterator.__iter__" = some Builtin.«dict_keyiterator.__iter__»:=entryFor_alias (id':="dict_keyiterator.__iter__") (by kernel_rfl) (by first|rfl|decide +kernel) (by decide +kernel) (by kernel_rfl)
theorem BD(a:ae):argsOk "set_iterator.__iter__" ⟨[a],[]⟩:=by
 unfold argsOk;rw[signature?_of (id:="set_iterator.__iter__") (n:=['_','_','r','e','t','i','_','_']) (o:=['r','o','t','a','r','e','t','i','_','t','e','s']) (by kernel_rfl) my];kernel_rfl
theorem wG:entryFor table "set.__iter__" = some Builtin.«frozenset.__iter__»:=entryFor_alias (id':="frozenset.__iter__") (by kernel_rfl) (by first|rfl|decide +kernel) (by decide +kernel) (by kernel_rfl)
noncomputable def eJ(w:av)(a:Addr)(ep:Nat)(es:List (Int×ae)):List (Int×ae):=if w.params.followText "set-order" = true then (pickOrder (w.params.setOrder a ep) es.toArray).toList else es
theorem pM{α:Type}:∀{l:List α}{i:Nat} (h:i<l.length),(l[i]::l.eraseIdx i).Perm l
 |_::_,0,_=>.refl _
 |a::l,i+1,h=>by
  rw[List.eraseIdx_cons_succ,List.getElem_cons_succ];exact(List.Perm.swap _ _ _).trans ((pM (by simpa using h)).cons a)
theorem nh{α:Type}(next:Nat->Nat):∀(fuel k:Nat) (left:List α) (out:Array α),left.length=fuel->(pickOrder.go next fuel k left out).toList.Perm (out.toList++left)
 | 0,k,left,out,h=>by rw[pickOrder.go,List.length_eq_zero_iff.mp h,dk]
 |fuel+1,k,left,out,h=>by
  have hl:next k%left.length<left.length:=Nat.mod_lt _ (by lia);rw[pickOrder.go,List.getElem?_eq_getElem hl];dsimp only;refine(nh next fuel (k+1) _ _ (by rw[List.length_eraseIdx_of_lt hl];lia)).trans ?_;rw[Array.toList_push,bx];refine List.Perm.append_left _ ?_;rw[List.singleton_append];exact pM hl
theorem hV(w:av)(a:Addr)(ep:Nat)(es:List (Int×ae)):(eJ w a ep es).Perm es:=by
 unfold eJ;split
 ·have:=nh (w.params.setOrder a ep) es.toArray.size 0 es.toArray.toList #[] (by simp);simp only[List.nil_append]at this;exact this
 ·exact .refl _
section
variable{prog:aA}{w:av}{A:az}{E:ae->af->Prop}{s:af}{K:Type} [DecidableEq K]{hash:K->Int}
noncomputable def itO(slot i:Nat)(a:Addr)(n ep:Nat):Obj:={cls:=.type "set_iterator",data:=.fields #[.int slot 0,.int i 0,.ref a,.int n 0,.int ep 0]}
theorem uE{a:Addr}{xs:List (K×ae)}{ep:Nat}{t:aU}(ho:s.heap.get? a=some (eu (xs.map (ent hash)) ep t))(T:Tb w hash xs t){Q:ae->af->Prop}
  (h:Q (.ref s.heap.objs.size) {s with heap:=s.heap.push (itO 0 0 a xs.length ep)}):ao (aq prog w) A (pyIter (.ref a)) Q E s:=by
 have hT:s.TypeIs (.ref a) "set":=⟨_,ho,rfl⟩
 refine wpAny_pyIter_slot hT PySem.F.slot_set_iter (cA PySem.F.slot_set_iter hT wG ?_ (PySem.F.args_set_iter_1 _));unfold Builtin.«frozenset.__iter__» Builtin.Frozenset.slot0 slotArgs;simp only[List.isEmpty_nil,cC,aW,↓reduceIte,bind_assoc,List.length_nil,bne_self_eq_false];unfold Builtin.Frozenset.addrOf Builtin.Frozenset.sizeOf;refine ah (aB ?_)
 try dsimp only
 refine ah (aB ?_);refine ah (ah (wpAny_setEntries_of ho rfl T.fits (aB ?_)));refine ah ?_;unfold setDrawn;refine ah (wpAny_setState_of ho rfl T.fits ?_);unfold setsByText;refine ah (ah (wpAny_askSetting (aB ?_)));refine aB ?_;show ao _ _ (if (!(w.params.followText "set-order")&&(!t.plain&&decide ((xs.map (ent hash)).toArray.size>1)))=true then _ else _) _ _ _;rw[T.plain];simp only[cC,Bool.false_and,Bool.and_false,aW,if_false];refine ah (aB ?_);refine ah (wpAny_setEpoch_of ho rfl T.fits ?_);refine ah (di (aB ⟨_,rfl,"set_iterator",_,⟨_,Heap.get?_push_size _ rfl,rfl⟩,fZ.lookup,?_⟩));have e:(xs.map (ent hash)).toArray.size=xs.length:=by simp
 rw[e];exact h
end
section
variable{prog:aA}{w:av}{A:az}{E:ae->af->Prop}{s:af}{K:Type} [DecidableEq K]{hash:K->Int}
theorem Ao{xs:Array Nat}(hr:Ri xs):below xs 0=0:=by
 obtain⟨a,b⟩:=iW hr 0;refine Nat.le_zero.mp (dD λq=>?_);have:=(b 0 xs[0] (Array.getElem?_eq_getElem (by lia))).mp q;lia
theorem BU{xs:Array Nat}(hr:Ri xs){i x:Nat}(h:xs[i]? = some x):below xs (x+1)=i+1:=by
 obtain⟨a,b⟩:=iW hr (x+1);have h1:=(b i x h).mpr (by lia);refine Nat.le_antisymm (dD λq=>?_) h1;have e:xs[i+1]? = some xs[i+1]:=Array.getElem?_eq_getElem (by lia);have:=(b _ _ e).mp q;have:=hr i (i+1) x _ (by lia) h e;lia
theorem pq{a:Addr}{xs:List (K×ae)}{ep slot i:Nat}{t:aU}(ho:s.heap.get? a=some (eu (xs.map (ent hash)) ep t))(T:Tb w hash xs t)(hs:w.params.followText "set-order" = false->below t.place slot=i)
  {Q:Option (ae×Nat)->af->Prop}
  (h:∀slot',(w.params.followText "set-order" = false->i<xs.length->below t.place slot'=i+1)->Q (((eJ w a ep (xs.map (ent hash)))[i]?).map λe=>(e.2,slot')) s):ao (aq prog w) A (setNext a slot i ep) Q E s:=by
 have hr:=Ri.of T.good.ri;unfold setNext;refine ah (wpAny_setState_of ho rfl T.fits ?_);dsimp only;unfold setsByText;refine ah (ah (wpAny_askSetting (aB ?_)));show ao _ _ (if w.params.followText "set-order" = true then _ else _) _ _ _;unfold eJ at h;cases q:w.params.followText "set-order" with
 |true=>
  rw[q]at h;simp only[if_true]at h ⊢;rw[if_neg (by simp)];refine ah ?_;unfold setWalk;refine ah (wpAny_setState_of ho rfl T.fits ?_);dsimp only;unfold setsByText;refine ah (ah (wpAny_askSetting (aB ?_)));show ao _ _ (if w.params.followText "set-order" = true then _ else _) _ _ _;rw[q];simp only[if_true];refine ah (wpAny_askSetting (aB (aB ?_)));have:=h slot (λe=>by cases e);rw[Array.getElem?_toList]at this;exact this
 |false=>
  rw[q]at h;simp only[aW,if_false]at h ⊢;show ao _ _ (if (!t.plain&&decide ((xs.map (ent hash)).toArray.size>1))=true then _ else _) _ _ _;rw[T.plain];simp only[cC,Bool.false_and,aW,if_false];refine ah ?_;show ao _ _ (if (!t.led && !(xs.map (ent hash)).toArray.isEmpty)=true then _ else _) _ _ _;rw[T.led,q];simp only[Bool.not_false,cC,Bool.false_and,aW,if_false];refine aB ?_;rw[hs q];have ln:=T.good.len;rw[aP]at ln;by_cases hi:i<xs.length
  ·have e1:(xs.map (ent hash)).toArray[i]? = some (ent hash xs[i]):=by simp[hi]
   have e2:t.place[i]? = some t.place[i]:=Array.getElem?_eq_getElem (by lia);rw[e1,e2];refine aB ?_;have:=h (t.place[i]+1) λ_ _=>BU hr e2
   rw[show (xs.map (ent hash))[i]? = some (ent hash xs[i])by simp[hi]]at this;exact this
  ·have e1:(xs.map (ent hash)).toArray[i]? = none:=by simp;lia
   rw[e1];refine aB ?_;have:=h 0 λ_ q=>absurd q hi
   rw[show (xs.map (ent hash))[i]? = none by simp;lia]at this;exact this
noncomputable def StI(w:av)(hash:K->Int)(I a:Addr)(xs:List (K×ae))(ep:Nat)(t:aU)(i:Nat)(h:Heap):Prop:=
 (∃slot,h.get? I=some (itO slot i a xs.length ep)/\(w.params.followText "set-order" = false->below t.place slot=i))/\h.get? a=some (eu (xs.map (ent hash)) ep t)
theorem next_item{I a:Addr}(hne:a≠I){xs:List (K×ae)}{ep i:Nat}{t:aU}(T:Tb w hash xs t)(st:StI w hash I a xs ep t i s.heap){e:Int×ae}(he:(eJ w a ep (xs.map (ent hash)))[i]? = some e){Q:Option ae->af->Prop}
  (hQ:∀h',StI w hash I a xs ep t (i+1) h'->Heap.SameBut I s.heap h'->Q (some e.2) {s with heap:=h'}):ao (aq prog w) A (pyNext (.ref I)) Q E s:=by
 obtain⟨⟨slot,hI,hs⟩,ho⟩:=st;have hT:s.TypeIs (.ref I) "set_iterator":=⟨_,hI,rfl⟩
 have il:i<xs.length:=by
  have:=(List.getElem?_eq_some_iff.mp he).1;rw[(hV ..).length_eq,aP]at this;exact this
 unfold pyNext;refine ah (wpAny_attempt (wpAny_callSpecial?_slot (name:=bw "__next__") hT fZ (cA fZ hT oy ?_ (o6 _))));show ao _ _ (fieldsOf (.ref I)>>=_) _ _ s;refine ah (wpAny_fieldsOf hI rfl ?_);show ao _ _ (setEntries a>>=_) _ _ s;refine ah (wpAny_setEntries_of ho rfl T.fits ?_);rw[show ((((xs.map (ent hash)).toArray.size:Nat):Int) != ((xs.length:Nat):Int))=false by simp];simp only[aW,if_false];show ao _ _ (setNext a (Int.toNat ((slot:Nat):Int)) (Int.toNat ((i:Nat):Int)) (Int.toNat ((ep:Nat):Int))>>=_) _ _ s;rw[Int.toNat_natCast,Int.toNat_natCast,Int.toNat_natCast];refine ah (pq ho T hs λslot' h1=>?_);rw[he];show ao _ _ (setField (.ref I) 0 (rawInt slot')>>=_) _ _ s;refine ah (wpAny_setField hI rfl (by simp) ?_);have hI2:(s.heap.update I (Obj.mapFields (·.setIfInBounds 0 (rawInt slot')))).get? I=some (itO slot' i a xs.length ep):=by
  rw[Heap.get?_update_self _ hI (Obj.isFreed_of_fields (Obj.data_mapFields (by rfl) _))];rfl
 refine ah (wpAny_setField hI2 rfl (by simp) ?_);have hI3:((s.heap.update I (Obj.mapFields (·.setIfInBounds 0 (rawInt slot')))).update I (Obj.mapFields (·.setIfInBounds 1 (rawInt ((i:Int)+1))))).get? I=some (itO slot' (i+1) a xs.length ep):=by
  rw[Heap.get?_update_self _ hI2 (Obj.isFreed_of_fields (Obj.data_mapFields (by rfl) _))];rfl
 refine aB ⟨e.2,rfl,aB (hQ _ ⟨⟨slot',hI3,λq=>h1 q il⟩,?_⟩ ((Heap.SameBut.update ..).trans (Heap.SameBut.update ..)))⟩;rw[Heap.get?_update_other _ _ (Ne.symm hne),Heap.get?_update_other _ _ (Ne.symm hne)];exact ho
theorem next_end{I a:Addr}(hh:A.handled=none){xs:List (K×ae)}{ep:Nat}{t:aU}(T:Tb w hash xs t)(st:StI w hash I a xs ep t xs.length s.heap){Q:Option ae->af->Prop}
  (hQ:∀h',Heap.ExtBut I s.heap h'->Q none {s with heap:=h'}):ao (aq prog w) A (pyNext (.ref I)) Q E s:=by
 obtain⟨⟨slot,hI,hs⟩,ho⟩:=st;have hT:s.TypeIs (.ref I) "set_iterator":=⟨_,hI,rfl⟩
 unfold pyNext;refine ah (wpAny_attempt (wpAny_callSpecial?_slot (name:=bw "__next__") hT fZ (cA fZ hT oy ?_ (o6 _))));show ao _ _ (fieldsOf (.ref I)>>=_) _ _ s;refine ah (wpAny_fieldsOf hI rfl ?_);show ao _ _ (setEntries a>>=_) _ _ s;refine ah (wpAny_setEntries_of ho rfl T.fits ?_);rw[show ((((xs.map (ent hash)).toArray.size:Nat):Int) != ((xs.length:Nat):Int))=false by simp];simp only[aW,if_false];show ao _ _ (setNext a (Int.toNat ((slot:Nat):Int)) (Int.toNat ((xs.length:Nat):Int)) (Int.toNat ((ep:Nat):Int))>>=_) _ _ s;rw[Int.toNat_natCast,Int.toNat_natCast,Int.toNat_natCast];refine ah (pq ho T hs λslot' h1=>?_);rw[show (eJ w a ep (xs.map (ent hash)))[xs.length]? = none from List.getElem?_eq_none (by rw[(hV ..).length_eq,aP];exact aD _)];show ao _ _ (setField (.ref I) 2 .none>>=_) _ _ s;refine ah (wpAny_setField hI rfl (by simp) ?_);show ao _ _ (newExc (.type "StopIteration") []>>=_) _ _ _;refine ah ?_;simp only[newExc,newTuple];refine ah (di ?_ (by size_fits));refine ah (m:=firstArgMember _ _) (wpAny_of_eq (a:=ae.none) (by first|rfl|(simp only[firstArgMember];rfl)) ?_);refine di ?_ (by size_fits);simp only[raiseNew];refine ah (wpAny_handled ?_)
 first|rw[show A.in1.handled=none from hh]|rw[hh]
 refine ah (aB (wpAny_throw ?_));refine ah (wpAny_isInstance (T:="StopIteration") (b:=true) ⟨_,Heap.get?_push_size _ rfl,rfl⟩ isSubtype_stop ?_);exact aB (hQ _ (((Heap.SameBut.update ..).extBut.push _).push _))
theorem sX{I a:Addr}{xs:List (K×ae)}{ep i:Nat}{t:aU}(st:StI w hash I a xs ep t i s.heap){Q:ae->af->Prop}(h:Q (.ref I) s):ao (aq prog w) A (pyIter (.ref I)) Q E s:=by
 obtain⟨⟨slot,hI,hs⟩,ho⟩:=st;have hT:s.TypeIs (.ref I) "set_iterator":=⟨_,hI,rfl⟩
 refine wpAny_pyIter_slot hT oD (cA oD hT Bx ?_ (BD _));show ao _ _ (ret (.ref I)) _ _ s;exact aB ⟨_,rfl,"set_iterator",_,hT,fZ.lookup,h⟩
theorem walks(hh:A.handled=none)(I a:Addr)(hne:a≠I){xs:List (K×ae)}{ep:Nat}{t:aU}(T:Tb w hash xs t) :
  Walks prog w A I [I,a] [I] xs.length (λi v=>∃e,(eJ w a ep (xs.map (ent hash)))[i]? = some e/\e.2=v) (λi h=>StI w hash I a xs ep t i h) where
 sub:=λb hb=>by simp at hb;simp[hb]
 frame:=λ_ _ _ st hk=>⟨let ⟨slot,x,y⟩:=st.1;⟨slot,hk I (by simp) _ x,y⟩,hk a (by simp) _ st.2⟩
 item:=λi s Q E hi st hQ=>by
  have il:i<(eJ w a ep (xs.map (ent hash))).length:=by rw[(hV ..).length_eq,aP];exact hi
  refine next_item hne T st (List.getElem?_eq_getElem il) λh' st' hs'=>?_
  exact hQ _ h' s.toks ⟨_,List.getElem?_eq_getElem il,rfl⟩ st' λb o hb e=>hs'.extBut b o (λh=>hb (by simp[h])) e
 done:=λs Q E st hQ=>next_end hh T st λh' he'=>hQ h' s.toks λb o hb e=>he' b o (λh=>hb (by simp[h])) e
 self:=λ_ _ _ _ st hQ=>sX st hQ
end
section
variable{prog:aA}{w:av}{A:az}{E:ae->af->Prop}{s:af}{K:Type} [DecidableEq K]{hash:K->Int}
theorem vY{a:Addr}{xs:List (K×ae)}{ep:Nat}{t:aU}(hh:A.handled=none)(ho:s.heap.get? a=some (eu (xs.map (ent hash)) ep t))(T:Tb w hash xs t)(hn:xs.length<=aL){Q:List ae->af->Prop}
  (hQ:∀h' tk (acc:List ae),s.toks<=tk->s.heap.objs.size<h'.objs.size->(∀b o,s.heap.get? b=some o->h'.get? b=some o)->acc.Perm (xs.map (·.2))->Q acc {s with heap:=h',toks:=tk}):ao (aq prog w) A (collect (.ref a)) Q E s:=by
 have ha:a<s.heap.objs.size:=aK ho;have hSI:s.heap.objs.size≠a:=Nat.ne_of_gt ha;unfold collect;refine ah (wpAny_runValue (bT F.entry_proto_collect ?_));rw[cx F.plain_proto_collect _];show ao _ A.in1 (newList []>>=λl=>again (.builtin "list.__iadd__" ⟨[l,.ref a],[]⟩)) _ _ s;refine ah (di ?_);refine aB ⟨plainId_quiet F.plain_list_iadd _,bT F.entry_list_iadd ?_⟩;rw[cx F.plain_list_iadd _];have ho₁:(s.heap.push {cls:=.type "list",data:=.seq ([]:List ae).toArray}).get? a=some (eu (xs.map (ent hash)) ep t):=Heap.get?_push_of_some _ ho;have hT₁:af.TypeIs {s with heap:=s.heap.push {cls:=.type "list",data:=.seq ([]:List ae).toArray}} (.ref a) "set":=⟨_,ho₁,rfl⟩
 show ao _ A.in1 (dY (.ref s.heap.objs.size) (.ref a) (.ref s.heap.objs.size)) _ _ _;unfold dY;refine ah (wpAny_typeOf hT₁ ?_);have h1:Builtin.List.listSameRef (.ref s.heap.objs.size) (.ref a)=false:=by simp[Builtin.List.listSameRef,hSI]
 have h2:(bH "set" == bH "list")=false:=by decide
 have h3:(bH "set" == bH "tuple")=false:=by decide
 simp only[h1,h2,h3,Bool.or_false,aW,if_false];refine ah (uE ho₁ T ?_);have hsz:(s.heap.push {cls:=.type "list",data:=.seq ([]:List ae).toArray}).objs.size=s.heap.objs.size+1:=cc ..;have ho₂:=Heap.get?_push_of_some (itO 0 0 a xs.length ep) ho₁;have hI₂:((s.heap.push {cls:=.type "list",data:=.seq ([]:List ae).toArray}).push (itO 0 0 a xs.length ep)).get? (s.heap.push {cls:=.type "list",data:=.seq ([]:List ae).toArray}).objs.size=some (itO 0 0 a xs.length ep):=Heap.get?_push_size _ rfl;have hT₂:af.TypeIs {s with heap:=(s.heap.push {cls:=.type "list",data:=.seq ([]:List ae).toArray}).push (itO 0 0 a xs.length ep)} (.ref a) "set":=⟨_,ho₂,rfl⟩
 refine ah (bJ ?_);unfold Builtin.List.listLengthHint;refine ah (wpAny_specialOf hT₂ PySem.F.slot_set_len.lookup ?_);show ao _ A.in1 (isInstance (bq a) (.type "set")>>=_) _ _ _;refine ah (wpAny_isInstance hT₂ sub_set_self ?_);simp only[cC,aW,if_false];show ao _ A.in1 (typeOf (bq a)>>=_) _ _ _;refine ah (wpAny_typeOf hT₂ ?_);refine aB ?_;show ao _ A.in1 (rule "list.extend.makes-room" >>= λ_=>Builtin.List.listTouch (.ref s.heap.objs.size)>>=λ_=>
  again (.builtin "list.extend.loop" ⟨[.ref s.heap.objs.size,.ref (s.heap.push {cls:=.type "list",data:=.seq ([]:List ae).toArray}).objs.size,.ref s.heap.objs.size],[]⟩)) _ _ _
 refine ah (wpAny_rule ?_);have hS₁:((s.heap.push {cls:=.type "list",data:=.seq ([]:List ae).toArray}).push (itO 0 0 a xs.length ep)).get? s.heap.objs.size=some {cls:=.type "list",data:=.seq ([]:List ae).toArray}:=Heap.get?_push_of_some _ (Heap.get?_push_size _ rfl);rw[hsz]at *;generalize hH:(s.heap.push {cls:=.type "list",data:=.seq ([]:List ae).toArray}).push (itO 0 0 a xs.length ep)=H1 at *;have old1:∀b o,s.heap.get? b=some o->H1.get? b=some o:=λb o e=>by rw[<-hH];exact Heap.get?_push_of_some _ (Heap.get?_push_of_some _ e)
 refine ah ?_;show ao _ A.in1 (updateSeq s.heap.objs.size (·.push .none)>>=λ_=>updateSeq s.heap.objs.size (·.pop)) _ _ _;refine ah (wpAny_updateSeq hS₁ rfl ?_);have hS₂:=Heap.get?_update_self (ba (·.push ae.none)) hS₁ rfl;refine wpAny_updateSeq hS₂ rfl ?_;have hS₃:=Heap.get?_update_self (ba (·.pop)) hS₂ rfl;have oth:∀b o,b≠s.heap.objs.size->H1.get? b=some o->((H1.update s.heap.objs.size (ba (·.push ae.none))).update s.heap.objs.size (ba (·.pop))).get? b=some o:=
  λb o hb e=>(Heap.get?_update_other _ _ (Ne.symm hb)).trans ((Heap.get?_update_other _ _ (Ne.symm hb)).trans e)
 have hne:a≠s.heap.objs.size+1:=a6 (bR ha);have hSf:s.heap.objs.size∉[s.heap.objs.size+1,a]:=by
  simp only[aN,b9,or_false,not_or];exact⟨a6 (Nat.lt_succ_self _),hSI⟩
 refine aB ⟨plainId_quiet F.plain_extend_loop _,codeAny_extend_loopS ((walks (prog:=prog) (A:=A.in1) hh (s.heap.objs.size+1) a hne (ep:=ep) T).toS) hn _ hSf _ xs.length 0 _ _ _ rfl (br _)
  ⟨⟨0,oth _ _ (Nat.succ_ne_self _) hI₂,λ_=>Ao (Ri.of T.good.ri)⟩,oth _ _ (Ne.symm hSI) ho₂⟩ hS₃ (ItemsOf.nil _) λs' acc' c' hm hS' hacc=>?_⟩
 show ao _ A (load s.heap.objs.size>>=_) _ _ s';refine ah (wpAny_load hS' ?_);obtain⟨h',g',d',tk',os'⟩:=s';have eg:g'=s.gens:=hm.gens;have ed:d'=s.drawn:=hm.drawn;have eo:os'=s.os:=hm.os;subst eg;subst ed;subst eo;refine aB (hQ h' tk' acc'.toList hm.toks (aK hS') (λb o e=>?_) ?_)
 ·have hb:=aK e;refine hm.heap b o (λq=>?_) (oth b o (a6 hb) (old1 b o e));rcases aN.mp q with q|q
  ·exact absurd q (a6 hb)
  ·exact absurd (List.mem_singleton.mp q) (a6 (bR hb))
 ·have e1:acc'.toList=(eJ w a ep (xs.map (ent hash))).map (·.2):=by
   refine List.ext_getElem? λi=>?_
   have ln:(eJ w a ep (xs.map (ent hash))).length=xs.length:=by rw[(hV ..).length_eq,aP]
   rw[Array.getElem?_toList,List.getElem?_map];by_cases hi:i<xs.length
   ·have hi':i<acc'.size:=by rw[hacc.1];exact hi
    have e2:acc'[i]? = some acc'[i]:=Array.getElem?_eq_getElem hi';obtain⟨e,e3,e4⟩:=hacc.2 i _ e2;rw[e2,e3,<-e4];rfl
   ·rw[Array.getElem?_eq_none (by rw[hacc.1];lia),List.getElem?_eq_none (by lia)];rfl
  rw[e1];refine((hV w a ep _).map _).trans ?_;rw[bN];exact .refl _
end
end ST
namespace ST
open PySem PySem.Spec PySem.SetTable PyProof.Rows
section
variable{prog:aA}{w:av}{A:az}{E:ae->af->Prop}{s:af}
noncomputable def vInt:ae->Int
 | .int n _=>n
 |_=>0
theorem ints_map:∀{acc:List ae},(∀v∈acc,∃n t,v=.int n t)->PyProof.Rows.IntsAre acc (acc.map vInt)
 | [],_=>.nil
 |v::acc,h=>by
  obtain⟨n,t,rfl⟩:=h v a8;exact .cons n t (ints_map λu hu=>h u (aV _ hu))
theorem vD{a:Addr}{xs:List (Int×ae)}{ep:Nat}{t:aU}(hh:A.handled=none)(ho:s.heap.get? a=some (eu (xs.map (ent hashInt)) ep t))(T:Tb w hashInt xs t)(hel:∀x∈xs,∃t,x.2=.int x.1 t)(hn:xs.length<1200){Q:ae->af->Prop}
  (h:∀(h':Heap) (tk:Nat) (D:Addr) (out:List ae) (ns:List Int) (c:Nat),s.heap.objs.size<=D->(∀b o,s.heap.get? b=some o->h'.get? b=some o)->h'.get? D=some {cls:=.type "list",data:=.seq out.toArray c}->PyProof.Rows.IntsAre out ns->ns.Perm (xs.map (·.1))->ns.Pairwise (·<=·)->Q (.ref D) {s with heap:=h',toks:=tk}) :
  ao (aq prog w) A (call (.builtin "sorted") [.ref a]) Q E s:=by
 refine Calls.call_function_entry kind_sorted plain_sorted entry_sorted (PyProof.Rows.args_sorted1 _) ?_;unfold Builtin.«sorted»;refine ah (m:=checkCount "sorted" 1 1 _) (aB ?_);refine ah (vY (A:=A.in1) hh ho T (by rw[bf];lia) λh1 tk acc _ hs1 k1 pm=>?_);have hI:∀v∈acc,∃n t,v=.int n t:=λv hv=>by
  obtain⟨x,hx,rfl⟩:=bt.mp (pm.mem_iff.mp hv);obtain⟨t,e⟩:=hel x hx;exact⟨_,t,e⟩
 have al:acc.length=xs.length:=by rw[pm.length_eq,aP]
 refine ah (wpAny_newList (hsz:=by rw[bf,al];lia) ?_);have hL:(h1.push (PyProof.Rows.seqObj "list" acc.toArray 0)).get? h1.objs.size=some (PyProof.Rows.seqObj "list" acc.toArray 0):=Heap.get?_push_size _ rfl;show ao _ _ _ _ _ ({s with heap:=h1.push (PyProof.Rows.seqObj "list" acc.toArray 0),toks:=tk}:af);refine ah (bJ ?_);refine cA PyProof.Rows.slot_list_sort ⟨_,hL,rfl⟩ PyProof.Rows.entry_list_sort (TS.sC hL (ints_map hI) (by rw[al,bf];lia) λout ns' a1 a2 a3=>⟨_,rfl,?_⟩) (PyProof.Rows.args_list_sort _);obtain⟨c,hc⟩:=PyProof.Rows.sortedHeap_at (out:=out) hL;refine aB ⟨_,rfl,h _ tk _ out.toList ns' c (Nat.le_of_lt hs1) (λb o e=>?_) (by rw[Array.toArray_toList];exact hc) a1 (a2.trans ?_) a3⟩
 ·have e1:=k1 b o e;have hb:=aK e1;show (PyProof.Rows.sortedHeap _ _ _ _).get? b=some o;rw[PyProof.Rows.sortedHeap_old (a6 hb) (by rw[cc];exact bR hb)];exact Heap.get?_push_of_some _ e1
 ·refine(pm.map vInt).trans ?_;rw[bN,show xs.map (vInt∘λx=>x.2)=xs.map (·.1)from List.map_congr_left λx hx=>by obtain⟨t,e⟩:=hel x hx;simp[e,vInt]]
end
end ST
namespace L2
open PySem PySem.Spec PyProof.Rows
variable{X:Cx}
noncomputable def iO(w:av)(p:Addr)(ns:List Int):Heap->Prop:=λh=>∃o xs,h.get? p=some o/\ST.fO w hashInt xs o/\(∀x∈xs,∃t,x.2=.int x.1 t)/\(∀k,k∈xs.map (·.1)↔k∈ns)/\xs.length<1200
noncomputable def pF(X:Cx):List V->Hp->VK->Prop:=λvs H Q=>∃(l:Addr) (ns:List Int),vs=[.ref l]/\SqT X.K H l (ns.map V.int)/\ns.length<1200/\∀p,H p=none->Q (.ref p) (upd H p (.ext (iO X.w p ns)))
theorem getD_mem{α:Type} [DecidableEq α](l:List α)(d:α)(k:α):(∃j,j<l.length/\l.getD j d=k)↔k∈l:=by
 constructor
 ·rintro⟨j,hj,rfl⟩;rw[List.getD_eq_getElem?_getD,List.getElem?_eq_getElem hj];exact cz hj
 ·intro h;obtain⟨i,hi,rfl⟩:=List.getElem_of_mem h;exact⟨i,hi,by rw[List.getD_eq_getElem?_getD,List.getElem?_eq_getElem hi];rfl⟩
theorem r_(hc:X.calm=true):qY X (.type "set") (pF X):=by
 intro pins s σ H xs us Q I r ⟨l,ns,e,hl,h64,q⟩;subst e;obtain⟨u,rfl,ru⟩:=r.one;cases ru;have fin:∀{its:List ae} (h':Heap) (tk:Nat),its.length=ns.length->ST.Holds (ST.inK X.prog X.w) s.heap h' s.heap.objs.size (λi=>ns.getD i 0) its.toArray.size->(∀b o,b<s.heap.objs.size->s.heap.get? b=some o->h'.get? b=some o)->EP X pins σ Q (.ref s.heap.objs.size) {s with heap:=h',toks:=tk}:=by
  intro its h' tk hle ⟨o,ys,e1,e2,e3,e4,e5⟩ hk;rw[aO,hle]at e4 e5;refine⟨.ref _,_,I.laid (t':=tk) (o:=.ext (iO X.w s.heap.objs.size ns)) (λb o e=>hk b o (aK e) e) (aD _) ⟨⟨o,ys,e1,e2,e3,λk=>(e4 k).trans (getD_mem ns 0 k),by lia⟩,⟨_,e1⟩,λh1 h2 ⟨o,ys,a1,a2⟩ k=>⟨o,ys,k _ a1,a2⟩⟩,rfl,q _ I.fresh⟩
 obtain⟨its,rv,pl,hz⟩:=I.tuple hl;have hI:=intsAre_of rv;have hle:=a7.length hI;exact ST.DC (D:=ST.inK X.prog X.w) (I.ok.hd hc) trivial pl (λi=>ns.getD i 0) (λi v hv=>a7.int_at hI i v (by simpa using hv)) (by rw[aO,hle];exact h64) λh' tk hH hk=>fin h' tk hle hH hk
theorem wQ(hc:X.calm=true):qY X (.builtin "sorted") (λvs H Q=>∃(p:Addr) (ns:List Int),vs=[.ref p]/\H p=some (.ext (iO X.w p ns))/\∀(D:Addr) (ms:List Int),H D=none->ms.Nodup->(∀k,k∈ms↔k∈ns)->ms.Pairwise (·<=·)->Q (.ref D) (upd H D (.lst (ms.map V.int)))):=by
 intro pins s σ H xs us Q I r ⟨p,ns,e,hp,q⟩;subst e;obtain⟨u,rfl,ru⟩:=r.one;cases ru;obtain⟨⟨o,ys,e1,⟨ep,t,rfl,T⟩,e3,e4,e5⟩,_⟩:=I.hok p _ hp;refine ST.vD (I.ok.hd hc) e1 T e3 e5 λh' tk D out ms c hD hk hl a1 a2 a3=>?_
 have hle:=a7.length a1;exact⟨.ref D,_,I.laid (t':=tk) (o:=.lst (ms.map V.int)) hk hD ⟨by rw[aP,a2.length_eq,aP,bf];lia,out,c,jd a1,hl⟩,rfl,q D ms (I.hok.fresh hD) (a2.nodup_iff.mpr T.nd) (λk=>a2.mem_iff.trans (e4 k)) a3⟩
end L2
namespace ST
open PySem PySem.Spec PySem.SetTable PyProof.Rows TS L2
section
variable{prog:aA}{w:av}{A:az}{E:ae->af->Prop}{s:af}
end
end ST
namespace L2
open PySem PySem.Spec PyProof.Rows TS
variable{X:Cx}
end L2
namespace EV
open PySem PySem.Spec PySem.P PyProof.Rows L2
theorem jn{α:Type} [DecidableEq α]{x:α}:∀{l:List α},x∈uq l↔x∈l
 | []=>.rfl
 |a::l=>by
  rw[uq];split
  ·rename_i h
   rw[jn,aN];exact⟨.inr,λz=>z.elim (λe=>e▸h) id⟩
  ·rw[aN,aN,jn]
theorem lh{α:Type} [DecidableEq α]:∀(l:List α),(uq l).Nodup
 | []=>.nil
 |a::l=>by
  rw[uq];split
  ·exact lh l
  ·rename_i h
   exact List.nodup_cons.mpr ⟨λz=>h (jn.mp z),lh l⟩
theorem mT{α:Type} [DecidableEq α]{l m:List α}(h1:m.Nodup)(h2:∀k,k∈m↔k∈l):m.Perm (uq l):=
 (List.perm_ext_iff_of_nodup h1 (lh l)).mpr λk=>(h2 k).trans jn.symm
theorem vT{c:Cc}{b:B1}{as:List Expr}{a:Expr}(h:k7 c b as=some a):∃y p3 pos3,as=[.Call (.Name y p3) [a] [] pos3]/\b=.sorted/\glob c y=some .set/\isStar a=false/\c.calm=true:=by
 unfold k7 at h;split at h
 ·split at h
  ·rename_i hq
   cases h;simp only[aM,bL,beq_iff_eq,bG]at hq;exact⟨_,_,_,rfl,hq.1.1.1.1,hq.1.1.2,hq.1.2,hq.2⟩
  ·cases h
 ·cases h
section
variable{w:W}{g:Gc}{c:Cc}{E:XK}{X:Cx}{a:Expr}{ia:EV.E}{pos p2 p3 pos3:Pos}
theorem r0(O:XO w g c E X)(hc:X.calm=true){x y:Str}{b:B1}(hb:b=.sorted)(hx:glob c x=some (.bi b))(hy:glob c y=some .set)(ha:PE X a (tE w g c E ia))(hs:isStar a=false) :
  PE X (.Call (.Name x p2) [.Call (.Name y p3) [a] [] pos3] [] pos) (tE w g c E (.sset (b==.len) ia)):=by
 obtain⟨h1,h2,id,h3⟩:=O.gm hx;have hbt:=oK b;rw[<-h2,h3]at hbt;obtain⟨r1,r2⟩:=O.gm hy;have hK:=O.K;have hr:=fH (p:=p3) (pos:=pos3) (r_ hc) (O.gl hy) r1 r2 (zq ha zX (qc hs)) (qW hy).2.2.2 (qW hy).2.2.1 (qc hs);have arg:∀{S:Sh}{H:Hp}{da:D}{va:V}{xs:List D},zw g H S da va->one? da=some xs->∃l vs,va=.ref l/\SqT g.K H l vs/\qV g (hid H S) xs vs:=λ{S H da va xs} r e=>by
  cases da with
  |tup ys=>cases e;obtain⟨l,vs,rfl,q1,q2⟩:=r.tup;exact⟨l,vs,rfl,q1,q2⟩
  |_=>cases e
 have hbc:∀(r:List V->Hp->VK->Prop),qY X (b1V b) r->PE X (.Call (.Name x p2) [.Call (.Name y p3) [a] [] pos3] [] pos) (tCB r (fR (tCB (pF X) (fR (tE w g c E ia) gb)) gb)):=λr hcall=>by
  rw[h3]at hcall;exact jN hcall (O.gl hx) h1 hbt (zq hr zX) (qW hx).2.2.2 (qW hx).2.2.1
 subst hb
 ·refine PE.imp (hbc _ (wQ hc)) λσ H Q ⟨τ,S,se,q⟩=>?_
  simp only[zb,zf,ze,zd,zc,za,zi,zh,zg,qy,qB,qr,qC,qD,qe,qw,qt,qq,qx,qA,qR,qk,ql,qI,qz,qo,qN,qG,qJ,qS,qH,qO,qP,qu,qF,qM,qT,qK,qQ,qL]at q;refine zm se q λda va H1 e1 p1 k1=>?_
  unfold iz at k1;cases e2:one? da with
  |none=>rw[e2]at k1;exact k1.elim
  |some xs=>
   rw[e2]at k1;simp only[cg]at k1;by_cases h64:xs.length<1200
   ·rw[if_pos h64]at k1;obtain⟨l,vs,rfl,hl,rr⟩:=arg p1.rb e2;cases e3:ints? xs with
    |some ns=>
     rw[e3]at k1;obtain⟨rfl,rfl⟩:=rr.ints e3;refine⟨l,ns,rfl,by rw[hK];exact hl,by simpa using h64,λp hp=>⟨p,ns,rfl,zr,λD ms hD nd mem pw=>?_⟩⟩;have s1:=qU (o:=.ext (iO X.w p ns)) hp;have e4:=gU (mT nd mem) pw;subst e4;refine k1 _ _ (bz.of ((p1.same.trans s1).trans (qU hD)) (zN (se.sub.same (p1.same.trans s1)) hD (qV.ofInts _)) rfl)
    |none=>
     rw[e3]at k1;exact bp k1
   ·rw[if_neg h64]at k1;exact k1.elim
end
section
variable{w:W}{g:Gc}{n:Nat}
theorem wR{c:Cc}{t:String}{as:List Expr}{a:Expr}(h:jR c t as=some a):∃x p,as=[.Name x p]/\a=.Name x p/\t = "list"/\c.calm=true:=by
 unfold jR at h;split at h
 ·split at h
  ·split at h
   ·rename_i hc
    simp only[aM,beq_iff_eq]at hc;cases h;exact⟨_,_,rfl,rfl,hc.1.1,hc.1.2⟩
   ·cases h
  ·cases h
 ·cases h
theorem Snd.call_name(ih:Snd w g n){c:Cc}{E:XK}{X:Cx}(O:XO w g c E X){f:Str}{p pos:Pos}{as:List Expr}{ir:EV.E}(h:cE (n+1) c (.Call (.Name f p) as [] pos)=some ir):PE X (.Call (.Name f p) as [] pos) (tE w g c E ir):=by
 unfold cE at h;dsimp only at h;split at h
 ·cases h
 ·split at h
  ·rename_i fr hg
   simp only[aI,aH]at h;obtain⟨ies,h1,h⟩:=h;split at h
   ·rename_i hc
    simp only[aM,bG]at hc;cases h
    match as with
    | []=>simp at hc
    |e::es=>exact rC O hg (ih.es O h1) hc.1 (fJ h1)
   ·split at h
    ·rename_i hc
     simp only[bG]at hc;cases h
     match as with
     | []=>simp at hc
     |e::es=>exact CF O hg (ih.es O h1) (fJ h1)
    ·cases h
  ·rename_i b hg
   split at h
   ·rename_i a hs
    obtain⟨y,p3,pos3,rfl,hb,hy,hst,hc⟩:=vT hs;rw[bA]at h;obtain⟨ia,h1,rfl⟩:=h;exact r0 O (O.calm hc) hb hg hy (ih.e O h1) hst
   simp only[aI,aH]at h;obtain⟨ies,h1,h⟩:=h;split at h
   ·rename_i hc
    simp only[aM,bG,bL,beq_iff_eq]at hc;cases h
    match as with
    | []=>simp at hc
    |e::es=>exact Ct O hg (by rcases hc.2 with (z|z)|z;exact .inl (O.calm z);exact .inr (.inl z);exact .inr (.inr z)) (ih.es O h1) (fJ h1)
   ·cases h
  ·rename_i t b hg
   have plain:∀{ies:Es},cEs n c as=some ies->as.isEmpty=false->PE X (.Call (.Name f p) as [] pos) (tE w g c E (.bi b ies)):=λ{ies} h1 he=>by
    match as with
    | []=>simp at he
    |e::es=>exact yX O hg (ih.es O h1) (fJ h1)
   split at h
   ·rename_i y p' as' q
    split at h
    ·rename_i hr
     simp only[aM,beq_iff_eq]at hr;split at h
     ·rename_i hc
      simp only[aM,bL,beq_iff_eq]at hc;split at h
      ·rename_i a
       split at h
       ·cases h
       ·rename_i hs
        have hs:isStar a=false:=by simpa using hs
        simp only[aI,aH]at h;obtain⟨ia,h1,h⟩:=h;cases h;exact lZ O (O.calm hc.1) hg hr.2 (Af (ih.e O h1) hs) (by intro z hz;simp at hz;rw[hz];exact hs) hc.2 yr
      ·rename_i a d
       split at h
       ·cases h
       ·rename_i hs
        have hs:isStar a=false/\isStar d=false:=by simpa using hs
        simp only[aI,aH]at h;obtain⟨ia,h1,ib,h2,h⟩:=h;cases h;exact lZ O (O.calm hc.1) hg hr.2 (zq (ih.e O h1) (zq (ih.e O h2) zX (qc hs.2)) (qc hs.1)) (by intro z hz;simp at hz;rcases hz with rfl|rfl;exact hs.1;exact hs.2) hc.2 xO
      ·rename_i a d k
       split at h
       ·cases h
       ·rename_i hs
        have hs:(isStar a=false/\isStar d=false)/\isStar k=false:=by simpa[and_assoc]using hs
        simp only[aI,aH]at h;obtain⟨ia,h1,ib,h2,id,h3,h⟩:=h;split at h
        ·rename_i ht
         have ht:=eq_of_beq ht;subst ht;cases h;exact t9 O (O.calm hc.1) hg hr.2 (ih.e O h1) (ih.e O h2) (ih.e O h3) hs.1.1 hs.1.2 hs.2
        ·cases h
      ·cases h
     ·cases h
    ·simp only[aI,aH]at h;obtain⟨ies,h1,h⟩:=h;cases h;exact plain h1 rfl
   ·split at h
    ·rename_i a hs
     obtain⟨x,px,rfl,rfl,rfl,hc⟩:=wR hs;obtain⟨ia,h1,rfl⟩:=bA.mp h;exact tQ O (O.calm hc) hg (ih.e O h1) rfl
    simp only[aI,aH]at h;obtain⟨ies,h1,h⟩:=h;split at h
    ·rename_i hc
     cases h;exact plain h1 (by simpa using hc)
    ·cases h
  ·rename_i hg
   split at h
   ·rename_i a k
    split at h
    ·cases h
    ·rename_i hs
     simp only[aI,aH]at h;obtain⟨ia,h1,cl,h2,h⟩:=h;cases h;exact t_ O hg (ih.e O h1) h2 (by simpa using hs)
   ·cases h
  ·cases h
theorem jH:∀{n:Nat}{c:Cc}{l:List Expr}{es:Es},cEs n c l=some es->l.length<=n
 | 0,_,_,_,h=>by simp[cEs]at h
 |n+1,_,[],_,_=>by simp
 |n+1,c,x::l,es,h=>by
  have hs:=fJ h x a8;simp only[cEs,hs,aW,if_false,aI,aH]at h;obtain⟨_,_,r,hr,_⟩:=h;have:=jH hr
  simpa using this
theorem jY{c:Cc}{elt:Expr}{gs:List b5}{sc:a9}{p:Pos}{ir:EV.E}(h:cE (n+1) c (.ListComp elt gs sc p)=some ir) :
  ∃tgt it ifs iit itg it' ie,gs=[⟨tgt,it,ifs,0⟩]/\(c.calm=true/\zt it=true)/\(gF (λx=>c.nm.lookup x) c.N (bY sc.names) (gr c sc.names) sc=true/\(bY sc.names).Nodup)/\cI n c it=some iit/\cTg (dz c sc) tgt=some itg/\fD n (dz c sc) ifs=some it'/\cE n (dz c sc) elt=some ie/\(esc ie=true/\gk iit tgt=true)/\ir=.comp iit (gr c sc.names) itg it' ie:=by
 unfold cE at h;dsimp only at h;split at h
 ·rename_i tgt it ifs asy
  split at h
  ·cases h
  ·rename_i hs
   have hs:(asy=0/\c.calm=true)/\zt it=true:=by simpa using hs
   obtain⟨⟨rfl,hs1⟩,hs2⟩:=hs;split at h
   ·cases h
   ·rename_i hk
    have hk:gF (λx=>c.nm.lookup x) c.N (bY sc.names) (gr c sc.names) sc=true/\(bY sc.names).Nodup:=by simpa using hk
    simp only[aI,aH]at h;obtain⟨iit,h1,itg,h2,it',h3,ie,h4,h⟩:=h;split at h
    ·rename_i he
     simp only[aM]at he;cases h;exact⟨tgt,it,ifs,iit,itg,it',ie,rfl,⟨hs1,hs2⟩,hk,h1,h2,h3,h4,he,rfl⟩
    ·cases h
 ·cases h
theorem Snd.e_succ(ih:Snd w g n)(hn:n<=100000){c:Cc}{E:XK}{X:Cx}(O:XO w g c E X){x:Expr}{ir:EV.E}(h:cE (n+1) c x=some ir):PE X x (tE w g c E ir):=by
 have h0:=h;unfold cE at h;split at h
 ·-- Name
  rename_i y p
  split at h
  ·rename_i i hl
   have:=sj (w:=w) (E:=E) (pos:=p) O hl;cases ho:c.own.contains y with
   |true=>rw[ho]at h this;cases h;exact this
   |false=>rw[ho]at h this;cases h;exact this
  ·split at h
   ·rename_i hg;cases h;exact B' O hg
   ·rename_i fr hg;cases h;exact Dw O hg
   ·cases h
 ·split at h
  ·cases h;exact ju AZ λ_=>.int _
  ·cases h;exact ju uk λ_=>.bl _
  ·cases h;exact ju sJ λ_=>.non
  ·cases h;exact ju Cz λ_=>.str _
  ·cases h
 ·simp only[aI,aH]at h;obtain⟨o,ho,ia,h1,ib,h2,h⟩:=h;cases h;exact Bg O ho (ih.e O h1) (ih.e O h2)
 ·rename_i op a p
  simp only[aI,aH]at h;obtain⟨ia,h1,h⟩:=h;cases op with
  |USub=>cases h;exact BI (ih.e O h1)
  |Invert=>cases h;exact ve (ih.e O h1)
  |Not=>cases h;exact vI (ih.e O h1)
  |UAdd=>cases h
 ·exact(ih.bo O h).1
 ·split at h
  ·simp only[aI,aH]at h;obtain⟨ia,h1,ib,h2,h⟩:=h;split at h
   ·rename_i hs;cases h;exact vz O (ih.e O h1) (ih.e O h2) hs
   ·cases h
  ·simp only[aI,aH]at h;obtain⟨ia,h1,ib,h2,id',h3,h⟩:=h;split at h
   ·rename_i hs
    simp only[aM]at hs;cases h;exact rK O (ih.e O h1) (ih.e O h2) (ih.e O h3) hs.2
   ·cases h
  ·simp only[aI,aH]at h;obtain⟨ia,h1,ib,h2,id',h3,if',h4,h⟩:=h;split at h
   ·rename_i hs
    simp only[aM]at hs;cases h;exact ug O (ih.e O h1) (ih.e O h2) (ih.e O h3) (ih.e O h4) hs.2
   ·cases h
  ·cases h
 ·split at h
  ·split at h
   ·rename_i hk
    rw[List.isEmpty_iff]at hk;subst hk;cases h;exact yh
   ·cases h
  ·split at h
   ·split at h
    ·split at h
     ·rename_i hk
      simp only[aM,List.isEmpty_iff]at hk;obtain⟨rfl,rfl⟩:=hk;simp only[aI,aH]at h;obtain⟨ik,h1,iv,h2,h⟩:=h;cases h;exact BV (ih.e O h1) (ih.e O h2)
     ·cases h
    ·cases h
   ·cases h
 ·simp only[aI,aH]at h;obtain⟨it,h1,ia,h2,ib,h3,h⟩:=h;split at h
  ·rename_i hs
   simp only[aM]at hs;cases h;exact yk (ih.t O h1) (ih.e O h2) (ih.e O h3) hs.1 hs.2
  ·cases h
 ·simp only[aI,aH]at h;obtain⟨ies,h1,h⟩:=h;split at h
  ·rename_i hs;cases h
   exact tV (ih.es O h1) hs λτ ds e=>by rw[jD h1 e];exact bB (jH h1) hn
  ·cases h
 ·simp only[aI,aH]at h;obtain⟨ies,h1,h⟩:=h;split at h
  ·rename_i hs;cases h
   exact t8 (ih.es O h1) hs λτ ds e=>by rw[jD h1 e];exact bB (jH h1) hn
  ·cases h
 ·split at h
  ·rename_i lo hi st' sp
   split at h
   ·cases h
   ·simp only[aI,aH]at h;obtain⟨ia,h1,il,h2,ih',h3,h⟩:=h;cases h;exact xE O (ih.e O h1) (ih.o O h2) (ih.o O h3)
  ·split at h
   ·cases h
   ·rename_i hs
    simp only[aI,aH]at h;obtain⟨ia,h1,ib,h2,h⟩:=h;cases h;exact yl O (ih.e O h1) (ih.e O h2) (by simpa using hs)
 ·-- ListComp
  rename_i elt gs sc p
  obtain⟨tgt,it,ifs,iit,itg,it',ie,rfl,hs,hk,h1,h2,h3,h4,he,rfl⟩:=jY h0;have hS:dH X (bY sc.names) (gr c sc.names) sc:=dH.of (by
   have e1:(λx=>c.nm.lookup x)=X.env.kindOf:=by funext x;show _=X.env.scope.names.lookup x;rw[O.nm]
   rw[<-e1,O.N];exact hk.1)
  refine uW O (O.calm hs.1) hS hk.2 (ih.i O h1 he.2) (λcl C s₀ H₀ fp=>?_) he.1 hs.2;have OY:=O.comp hS.kind hk.2 cl C s₀ H₀ fp;exact⟨jo OY h2,ih.ifs OY h3,ih.e OY h4⟩
 ·split at h
  ·split at h
   ·exact ih.call_name O h0
   ·split at h
    ·rename_i hm
     cases h;exact xP O hm
    ·split at h
     ·split at h
      ·cases h
      ·rename_i hc
       simp only[bL,bG,not_or,Bool.not_eq_true,Bool.not_eq_false]at hc;simp only[aI,aH]at h;obtain⟨io,h1,ia,h2,h⟩:=h;obtain⟨⟨⟨c1,c2⟩,c3⟩,c4⟩:=hc;split at h
       ·rename_i hg
        cases h;have hg:=eq_of_beq hg;subst hg;exact yP O c1 (ih.e O h1) (ih.e O h2) c2 c4
       ·rename_i hg
        split at h
        ·cases h;have c3:=eq_of_beq (c3.resolve_right hg);subst c3;exact BG O c1 (ih.e O h1) (ih.e O h2) c2 c4
        ·cases h
     ·split at h
      ·cases h
      ·rename_i hc
       simp only[bL,bG,not_or,Bool.not_eq_true,Bool.not_eq_false]at hc;simp only[aI,aH]at h;obtain⟨io,h1,ia,h2,id,h3,h⟩:=h;obtain⟨⟨⟨⟨c1,c2⟩,c3⟩,c4⟩,c5⟩:=hc;have c4:=eq_of_beq c4;subst c4;split at h
       ·rename_i hes
        cases h;exact yv O c1 (ih.e O h1) (ih.e O h2) (ih.e O h3) c2 c3 hes c5
       ·cases h
     ·cases h
   ·cases h
  ·cases h
 ·cases h
theorem BL:Snd w g 0:=⟨λ_ _ _ h=>(by cases h),λ_ _ _ _ _ h=>by simp[cBo]at h,λ_ _ _ h=>by simp[cO]at h,λ_ _ _ h=>by simp[cEs]at h,λ_ _ _ _ h=>by simp[cI]at h,λ_ _ _ h=>by simp[cT]at h,λ_ _ _ _ _ h=>by simp[cTs]at h,λ_ _ _ h=>by simp[fD]at h⟩
theorem snd:∀n,n<=100000->Snd w g n
 | 0,_=>BL
 |n+1,h=>
  have ih:=snd n (Nat.le_of_succ_le h)
  ⟨λO _ _ q=>ih.e_succ (Nat.le_of_succ_le h) O q,λO _ _ _ _ q=>ih.bo_succ O q,λO _ _ q=>ih.o_succ O q,λO _ _ q=>ih.es_succ O q,λO _ _ _ q t=>ih.i_succ O q t,λO _ _ q=>ih.t_succ O q,λO _ _ _ _ q=>ih.ts_succ O q,λO _ _ q=>ih.ifs_succ O q⟩
end
noncomputable def zz(c:Cc)(i:Nat):Prop:=∃x,c.N[i]? = some x/\c.own.contains x=true
structure SS(g:Gc)(c:Cc)(H0:Hp)(B:Sh)(τ:Env)(σ:L2.St)(H:Hp)(S:Sh):Prop where
 se:SE g c τ σ H S
 lenN:τ.length=c.N.length
 same:qa H0 H
 sub0:Sub B H0
 hd:∀a,S.h a=(B.h a||S.o a)
 new:∀a,S.o a=true->H0 a=none
 own:∀i d,zz c i->τ[i]? = some (some d)->zu d=true->∃a o,σ[i]? = some (some (.ref a))/\S.o a=true/\H a=some o/\cH g (hid H S) d o
 inj:∀i j d e a,zz c i->zz c j->τ[i]? = some (some d)->τ[j]? = some (some e)->zu d=true->zu e=true->σ[i]? = some (some (.ref a))->σ[j]? = some (some (.ref a))->i=j
 frz:c.frz=true->(∀i,zz c i->σ[i]? = B.z[i]?)/\qa B.y H
section
variable{g:Gc}{c:Cc}{H0:Hp}{B:Sh}{τ:Env}{σ:L2.St}{H H':Hp}{S:Sh}
theorem SS.up(s:SS g c H0 B τ σ H S)(e:qa H H'):SS g c H0 B τ σ H' S:=
 ⟨s.se.up e,s.lenN,s.same.trans e,s.sub0,s.hd,s.new,λi d hi h l=>let ⟨a,o,h1,h2,h4,h5⟩:=s.own i d hi h l;⟨a,o,h1,h2,e _ _ h4,h5.mono (qX e)⟩,s.inj,λz=>⟨(s.frz z).1,(s.frz z).2.trans e⟩⟩
theorem SS.set{i:Nat}{d:D}{v:V}(s:SS g c H0 B τ σ H S)(hi:¬ zz c i)(r:Rep g (hid H S) d v):SS g c H0 B (τ.set i (some d)) (σ.set i (some v)) H S:=by
 refine⟨s.se.set r,by simp[s.lenN],s.same,s.sub0,s.hd,s.new,λj e hj h l=>?_,λj k e f a hj hk h1 h2 l1 l2 h3 h4=>?_,λz=>⟨λj hj=>?_,(s.frz z).2⟩⟩
 ·have hij:i≠j:=λz=>hi (z▸hj)
  rw[List.getElem?_set_ne hij]at h ⊢;exact s.own j e hj h l
 ·have hij:i≠j:=λz=>hi (z▸hj)
  have hik:i≠k:=λz=>hi (z▸hk)
  rw[List.getElem?_set_ne hij]at h1 h3;rw[List.getElem?_set_ne hik]at h2 h4;exact s.inj j k e f a hj hk h1 h2 l1 l2 h3 h4
 ·rw[List.getElem?_set_ne (λz:i=j=>hi (z▸hj))];exact(s.frz z).1 j hj
theorem cH.isld{H:Hp}{d:D}{o:HO}(h:cH g H d o):zu d=true:=by cases h<;>rfl
theorem zw.nold{H:Hp}{d:D}{v:V}(h:zw g H S d v)(l:zu d=false):Rep g (hid H S) d v:=by
 rcases h with h|⟨_,_,_,_,_,h⟩
 ·exact h
 ·rw[h.isld]at l;cases l
theorem SS.setN{i:Nat}{d:D}{v:V}(s:SS g c H0 B τ σ H S)(hz:c.frz=false)(hlt:i<τ.length)(l:zu d=false)(r:Rep g (hid H S) d v):SS g c H0 B (τ.set i (some d)) (σ.set i (some v)) H S:=by
 have no:∀j e,(τ.set i (some d))[j]? = some (some e)->zu e=true->i≠j:=λj e h q z=>by
  subst z;simp[hlt]at h;subst h;rw[l]at q;cases q
 refine⟨s.se.set r,by simp[s.lenN],s.same,s.sub0,s.hd,s.new,λj e hj h q=>?_,λj k e f a hj hk h1 h2 l1 l2 h3 h4=>?_,λz=>by rw[hz]at z;cases z⟩
 ·have hij:=no j e h q;rw[List.getElem?_set_ne hij]at h ⊢;exact s.own j e hj h q
 ·have hij:=no j e h1 l1;have hik:=no k f h2 l2;rw[List.getElem?_set_ne hij]at h1 h3;rw[List.getElem?_set_ne hik]at h2 h4;exact s.inj j k e f a hj hk h1 h2 l1 l2 h3 h4
theorem SS.setAll{is:List Nat}:∀{ds:List D}{vs:List V}{τ τ':Env}{σ:L2.St}{Q:L2.St->Hp->Prop},SS g c H0 B τ σ H S->(∀i∈is,¬ zz c i)->qV g (hid H S) ds vs->EV.setAll is ds τ=.ok τ'->(∀σ',SS g c H0 B τ' σ' H S->Q σ' H)->hZ is vs σ H Q:=by
 induction is with
 |nil=>
  intro ds vs τ τ' σ Q se _ r h k;cases r with
  |nil=>cases (show R.ok τ=R.ok τ' from h);exact⟨rfl,k σ se⟩
  |cons _ _=>cases (show R.no=R.ok τ' from h)
 |cons i is ih=>
  intro ds vs τ τ' σ Q se ho r h k;cases r with
  |nil=>cases (show R.no=R.ok τ' from h)
  |cons r rs=>exact⟨_,_,rfl,ih (se.set (ho i a8) r) (λj hj=>ho j (aV _ hj)) rs h k⟩
theorem Dv{tg:Tg}(h:gL c tg):match tg with | .nm i=>¬ zz c i | .tp is=>∀i∈is,¬ zz c i:=by
 cases tg with
 |nm i=>rintro⟨x,h1,h2⟩;rw[h x h1]at h2;cases h2
 |tp is=>rintro i hi ⟨x,h1,h2⟩;rw[h i hi x h1]at h2;cases h2
theorem SS.store{X:Cx}(O:X.K=g.K){tg:Tg}{d:D}{v:V}{τ':Env}{Q:L2.St->Hp->Prop}(s:SS g c H0 B τ σ H S)(hf:gL c tg)(r:Rep g (hid H S) d v)(h:EV.store tg d τ=.ok τ')(k:∀σ',SS g c H0 B τ' σ' H S->Q σ' H):gT X.K tg v σ H Q:=by
 have ho:=Dv hf;cases tg with
 |nm i=>
  simp only[EV.store,R.ok.injEq]at h;subst h;exact k _ (s.set ho r)
 |tp is=>
  cases d with
  |tup ds=>
   simp only[EV.store]at h;split at h
   ·rename_i hl
    cases r with
    |tup h1 r1=>exact⟨_,_,rfl,by rw[O];exact eW dv h1,by rw[<-r1.length];exact hl,s.setAll ho r1 h k⟩
   ·cases h
  |_=>simp[EV.store]at h
noncomputable def oj(S:Sh)(a:Addr):Sh:=⟨λb=>S.o b||b==a,λb=>S.h b||b==a,S.z,S.y⟩
theorem SS.setOwn{i:Nat}{d:D}{v:V}(s:SS g c H0 B τ σ H S)(hz:c.frz=false)(hi:zz c i)(hlt:i<τ.length)(e:qa H H')(f:Fr g H S H' d v):∃S',SS g c H0 B (τ.set i (some d)) (σ.set i (some v)) H' S'/\qa (hid H S) (hid H' S'):=by
 obtain⟨a,oo,rfl,h1,h2,h3⟩:=f;have up:qa (hid H S) (hid H' (oj S a)):=λb o hb=>by
  obtain⟨z1,z2⟩:=bW.mp hb;refine bW.mpr ⟨?_,e _ _ z2⟩;show (S.h b||b==a)=false;rw[z1]
  simpa using λz:b=a=>by rw[z,h1]at z2;cases z2
 have hlt':i<σ.length:=by rw[<-s.se.len];exact hlt
 refine⟨oj S a,⟨⟨by simp[s.se.len],λj e' hj=>?_,λb hb n=>?_⟩,by simp[s.lenN],s.same.trans e,s.sub0,λb=>?_,λb hb=>?_,λj e' hj h l=>?_,λj k e1 e2 b hj hk q1 q2 l1 l2 q3 q4=>?_,λz=>by rw[hz]at z;cases z⟩,up⟩
 ·by_cases hij:i=j
  ·subst hij;simp[hlt]at hj;subst hj;refine⟨.ref a,by simp[hlt'],.inr ⟨a,oo,by show (S.o a||a==a)=true;simp,rfl,h2,h3⟩,λx hx hn=>?_⟩;obtain⟨y,hy1,hy2⟩:=hi;rw[hy1]at hx;cases hx;rw[hn]at hy2;cases hy2
  ·rw[List.getElem?_set_ne hij]at hj ⊢;obtain⟨u,z1,z2,z3⟩:=s.se.val j e' hj;refine⟨u,z1,?_,λx hx hn=>(z3 x hx hn).mono up⟩;rcases z2 with z2|⟨a',o',y1,y2,y4,y5⟩
   ·exact .inl (z2.mono up)
   ·exact .inr ⟨a',o',by show (S.o a'||a'==a)=true;rw[y1];rfl,y2,e _ _ y4,y5.mono up⟩
 ·have hb:(S.h b||b==a)=true\/(S.o b||b==a)=true:=hb;by_cases hba:b=a
  ·rw[hba,h2]at n;cases n
  ·have:S.h b=true\/S.o b=true:=by
    rcases hb with z|z
    ·exact .inl (by simpa[hba]using z)
    ·exact .inr (by simpa[hba]using z)
   exact(s.se.sub.same e) b this n
 ·show (S.h b||b==a)=(B.h b||(S.o b||b==a))
  rw[s.hd b,Bool.or_assoc]
 ·have hb:(S.o b||b==a)=true:=hb;by_cases hba:b=a
  ·rw[hba];exact s.same.free h1
  ·exact s.new b (by simpa[hba]using hb)
 ·by_cases hij:i=j
  ·subst hij;simp[hlt]at h;subst h;exact⟨a,oo,by simp[hlt'],by show (S.o a||a==a)=true;simp,h2,h3⟩
  ·rw[List.getElem?_set_ne hij]at h ⊢;obtain⟨a',o',y1,y2,y4,y5⟩:=s.own j e' hj h l;exact⟨a',o',y1,by show (S.o a'||a'==a)=true;rw[y2];rfl,e _ _ y4,y5.mono up⟩
 ·have other:∀j e1 b,i≠j->zz c j->τ[j]? = some (some e1)->zu e1=true->σ[j]? = some (some (.ref b))->b≠a:=λj e1 b hij hj q1 l q3 z=>by
   obtain⟨a',o',y1,y2,y4,y5⟩:=s.own j e1 hj q1 l;rw[q3]at y1;cases y1;rw[z,h1]at y4;cases y4
  by_cases hij:i=j
  ·by_cases hik:i=k
   ·rw[<-hij,<-hik]
   ·subst hij;rw[List.getElem?_set_ne hik]at q2 q4;have q3':b=a:=by
     have:(σ.set i (some (.ref a)))[i]? = some (some (.ref a)):=by simp[hlt']
     rw[this]at q3;cases q3;rfl
    exact absurd q3' (other k e2 b hik hk q2 l2 q4)
  ·by_cases hik:i=k
   ·subst hik;rw[List.getElem?_set_ne hij]at q1 q3;have q4':b=a:=by
     have:(σ.set i (some (.ref a)))[i]? = some (some (.ref a)):=by simp[hlt']
     rw[this]at q4;cases q4;rfl
    exact absurd q4' (other j e1 b hij hj q1 l1 q3)
   ·rw[List.getElem?_set_ne hij]at q1 q3;rw[List.getElem?_set_ne hik]at q2 q4;exact s.inj j k e1 e2 b hj hk q1 q2 l1 l2 q3 q4
theorem SS.changeO{i:Nat}{a:Addr}{d0 d1:D}{o1:HO}(s:SS g c H0 B τ σ H S)(hz:c.frz=false)(hi:zz c i)(h0:τ[i]? = some (some d0))(ha:σ[i]? = some (some (.ref a)))(r:cH g (hid H S) d1 o1)(l0:zu d0=true:=by rfl):SS g c H0 B (τ.set i (some d1)) σ (upd H a o1) S/\qa (hid H S) (hid (upd H a o1) S):=by
 have hlt:i<τ.length:=(List.getElem?_eq_some_iff.mp h0).1;obtain⟨a',o0,y1,y2,y4,y5⟩:=s.own i d0 hi h0 l0;rw[ha]at y1;cases y1;have hh:S.h a=true:=by rw[s.hd,y2,Bool.or_true]
 have he:hid (upd H a o1) S=hid H S:=iC hh;have other:∀j e,i≠j->zz c j->τ[j]? = some (some e)->zu e=true->∀b,σ[j]? = some (some (.ref b))->b≠a:=λj e hij hj h l b hb z=>by
  subst z;exact hij (s.inj i j d0 e b hi hj h0 h l0 l ha hb)
 refine⟨⟨⟨by simp[s.se.len],λj e hj=>?_,λb hb n=>?_⟩,by simp[s.lenN],λb o hb=>?_,s.sub0,s.hd,s.new,λj e hj h l=>?_,λj k e1 e2 b hj hk q1 q2 l1 l2 q3 q4=>?_,λz=>by rw[hz]at z;cases z⟩,by rw[he];exact qa.refl _⟩
 ·by_cases hij:i=j
  ·subst hij;simp[hlt]at hj;subst hj;refine⟨.ref a,ha,.inr ⟨a,o1,y2,rfl,zr,by rw[he];exact r⟩,λx hx hn=>?_⟩;obtain⟨y,hy1,hy2⟩:=hi;rw[hy1]at hx;cases hx;rw[hn]at hy2;cases hy2
  ·rw[List.getElem?_set_ne hij]at hj;obtain⟨u,z1,z2,z3⟩:=s.se.val j e hj;by_cases ho:zz c j/\zu e=true
   ·obtain⟨b,ob,w1,w2,w4,w5⟩:=s.own j e ho.1 hj ho.2;rw[z1]at w1;cases w1;refine⟨_,z1,.inr ⟨b,ob,w2,rfl,by rw[qm (other j e hij ho.1 hj ho.2 b z1)];exact w4,by rw[he];exact w5⟩,λx hx hn=>?_⟩;obtain⟨y,hy1,hy2⟩:=ho.1;rw[hy1]at hx;cases hx;rw[hn]at hy2;cases hy2
   ·have st:Rep g (hid H S) e u:=by
     cases q:c.N[j]? with
     |some x=>
      cases q2:c.own.contains x with
      |false=>exact z3 x q q2
      |true=>exact z2.nold (by cases q3:zu e with|false=>rfl|true=>exact absurd ⟨⟨x,q,q2⟩,q3⟩ ho)
     |none=>
      have h1:=(List.getElem?_eq_some_iff.mp hj).1;have h2:=List.getElem?_eq_none_iff.mp q;have h3:=s.lenN;lia
    exact⟨u,z1,.inl (by rw[he];exact st),λ_ _ _=>by rw[he];exact st⟩
 ·by_cases hba:b=a
  ·subst hba;rw[zr]at n;cases n
  ·rw[qm hba]at n;exact s.se.sub b hb n
 ·by_cases hba:b=a
  ·subst hba;rw[s.new b y2]at hb;cases hb
  ·rw[qm hba];exact s.same _ _ hb
 ·by_cases hij:i=j
  ·subst hij;simp[hlt]at h;subst h;exact⟨a,o1,ha,y2,zr,by rw[he];exact r⟩
  ·rw[List.getElem?_set_ne hij]at h;obtain⟨b,ob,w1,w2,w4,w5⟩:=s.own j e hj h l;exact⟨b,ob,w1,w2,by rw[qm (other j e hij hj h l b w1)];exact w4,by rw[he];exact w5⟩
 ·have f:∀k e,(τ.set i (some d1))[k]? = some (some e)->zu e=true->∃e',τ[k]? = some (some e')/\zu e'=true:=λk e h l=>by
   by_cases hik:i=k
   ·subst hik;exact⟨d0,h0,l0⟩
   ·rw[List.getElem?_set_ne hik]at h;exact⟨e,h,l⟩
  obtain⟨e1',q1',l1'⟩:=f j e1 q1 l1;obtain⟨e2',q2',l2'⟩:=f k e2 q2 l2;exact s.inj j k e1' e2' b hj hk q1' q2' l1' l2' q3 q4
theorem SS.change{i:Nat}{a:Addr}{d0:D}{vs:List V}{ds:List D}(s:SS g c H0 B τ σ H S)(hz:c.frz=false)(hi:zz c i)(h0:τ[i]? = some (some d0))(ha:σ[i]? = some (some (.ref a)))(r:qV g (hid H S) ds vs)(l0:zu d0=true:=by rfl):SS g c H0 B (τ.set i (some (.lst ds))) σ (upd H a (.lst vs)) S/\qa (hid H S) (hid (upd H a (.lst vs)) S):=s.changeO hz hi h0 ha (.lst r) l0
end
noncomputable def cq(g:Gc)(c:Cc)(E:XK)(fr:Bool)(H0:Hp)(B:Sh)(H:Hp)(S:Sh)(D:Ends):O->Prop
 | .nx τ'=>∀σ' H' S',SS g c H0 B τ' σ' H' S'->qa (hid H S) (hid H' S')->D.nx σ' H'
 | .bk τ'=>∀σ' H' S',SS g c H0 B τ' σ' H' S'->qa (hid H S) (hid H' S')->D.bk σ' H'
 | .ct τ'=>∀σ' H' S',SS g c H0 B τ' σ' H' S'->qa (hid H S) (hid H' S')->D.ct σ' H'
 | .rt d=>∀v H',qa H0 H'->Rep g (hid H' B) d v->(fr=true->zu d=true->Fr g H0 B H' d v)->D.rt v H'
 | .ex k=>∀H' C,qa H0 H'->g.clA k=some C->E (.ref C) none H'
 | .no=>False
section
variable(w:W)(g:Gc)(c:Cc)(E:XK)(fr:Bool)
noncomputable def tS(s:EV.S):TS:=λD σ H=>∃H0 B τ S,SS g c H0 B τ σ H S/\cq g c E fr H0 B H S D (evS w s τ)
noncomputable def tSs(s:Ss):TS:=λD σ H=>∃H0 B τ S,SS g c H0 B τ σ H S/\cq g c E fr H0 B H S D (qi w s τ)
end
structure XS(w:W)(g:Gc)(c:Cc)(E:XK)(X:Cx):Prop extends XO w g c E X where
 thr:c.thr=true->Throws X E
 exc:∀x C,c.G.lookup x=some .exc->g.clA x=some C->mL g.K C
 cat:∀k x,w.cat k x=true->∀C D,g.clA k=some C->g.clA x=some D->PySem.W.exmOne g.K (.ref C) (.ref D)=some true
 frm:X.ex=[]/\X.stack=X.env::X.outer/\X.env.frame=some X.env.locals
 gh:∀x k,c.GH.lookup x=some k->k≠.exc/\∀v,GM w g X.prog X.w X.mg X.base (X.A.mark v) false x k
section
variable{w:W}{g:Gc}{c:Cc}{E:XK}{fr:Bool}{X:Cx}{H0:Hp}{B:Sh}{τ:Env}{σ:L2.St}{H H':Hp}{S:Sh}{Ed:Ends}
theorem cq.up{o:O}{S':Sh}(h:cq g c E fr H0 B H S Ed o)(e:qa (hid H S) (hid H' S')):cq g c E fr H0 B H' S' Ed o:=by
 cases o with
 |nx t=>exact λσ' H2 S2 s e2=>h σ' H2 S2 s (e.trans e2)
 |bk t=>exact λσ' H2 S2 s e2=>h σ' H2 S2 s (e.trans e2)
 |ct t=>exact λσ' H2 S2 s e2=>h σ' H2 S2 s (e.trans e2)
 |rt d=>exact h
 |ex k=>exact h
 |no=>exact h
theorem s_e{e:EV.E}{f:D->O}{Q:VK}(ss:SS g c H0 B τ σ H S)(h:cq g c E fr H0 B H S Ed ((evE w e τ).out f))(k:∀d v H',evE w e τ=.ok d->bz g c e S H d v H'->cq g c E fr H0 B H S Ed (f d)->Q v H'):tE w g c E e σ H Q:=by
 refine⟨τ,S,ss.se,?_⟩;cases q:evE w e τ with
 |ok d=>rw[q]at h;exact λv H' p=>k d v H' q p h
 |ex x=>rw[q]at h;exact λH' C s hc=>h H' C (ss.same.trans s) hc
 |no=>rw[q]at h;exact h
theorem s_t{t:T}{f:Bool->O}{Q:Bool->Hp->Prop}(ss:SS g c H0 B τ σ H S)(h:cq g c E fr H0 B H S Ed ((evT w t τ).out f))(k:∀b H',evT w t τ=.ok b->qa H H'->cq g c E fr H0 B H S Ed (f b)->Q b H'):tT w g c E t σ H Q:=by
 refine⟨τ,S,ss.se,?_⟩;cases q:evT w t τ with
 |ok d=>rw[q]at h;exact λH' p=>k d H' q p h
 |ex x=>rw[q]at h;exact λH' C s hc=>h H' C (ss.same.trans s) hc
 |no=>rw[q]at h;exact h
theorem lH(ss:SS g c H0 B τ σ H S){b:Addr}(h:S.h b=false):B.h b=false:=by
 have:=ss.hd b;rw[h]at this;cases q:B.h b with
 |false=>rfl
 |true=>rw[q]at this;cases this
theorem kx(ss:SS g c H0 B τ σ H S):qa (hid H' S) (hid H' B):=λb o h=>by
 obtain⟨z1,z2⟩:=bW.mp h;exact bW.mpr ⟨lH ss z1,z2⟩
theorem nA:∀{is:List Nat}{ds:List EV.D}{τ:Env}{x:Str},setAll is ds τ≠.ex x
 | [],[],_,_,h=>by cases h
 | [],_::_,_,_,h=>by cases h
 |_::_,[],_,_,h=>by cases h
 |i::is,d::ds,τ,x,h=>by simp only[setAll]at h;exact nA h
theorem rX{pos:Pos}:PS X (.Pass pos) (tS w g c E fr .pass):=PS.imp Bw λD σ H ⟨H0,B,τ,S,ss,h⟩=>h σ H S ss (qa.refl _)
theorem B8{pos:Pos}:PS X (.Break pos) (tS w g c E fr .brk):=PS.imp Ab λD σ H ⟨H0,B,τ,S,ss,h⟩=>h σ H S ss (qa.refl _)
theorem xU{pos:Pos}:PS X (.Continue pos) (tS w g c E fr .cnt):=PS.imp sv λD σ H ⟨H0,B,τ,S,ss,h⟩=>h σ H S ss (qa.refl _)
theorem jr{e:Expr}{t:Option Expr}{l:Nat}{env:PySem.Env}(h:eR e=false):swapsWith e t l env=pure false:=by
 cases e<;>first|rfl|(simp[eR]at h)
theorem xJ{e:Expr}{ie:EV.E}{pos:Pos}(he:PE X e (tE w g c E ie))(hc:eR e=false):PS X (.Expr e pos) (tS w g c E fr (.exp ie)):=
 PS.imp (nD he (jr hc)) λD σ H ⟨H0,B,τ,S,ss,h⟩=>by
  simp only[zJ,cK,cG,cQ,zH,cF,cm,cD,cX,zK,zO,zQ,zT,zW,zV,zR,cZ,zZ,cY,zP,c_,zY,cV]at h;exact s_e ss h λd v H' _ p k=>k σ H' S (ss.up p.same) (qX p.same)
theorem xn{pos:Pos}(hf:fr=false):PS X (.Return none pos) (tS w g c E fr .retN):=PS.imp sF λD σ H ⟨H0,B,τ,S,ss,h⟩=>h _ _ ss.same .non (by rw[hf];intro z;cases z)
theorem jG(ss:SS g c H0 B τ σ H S){a:Addr}{d:EV.D}{o:HO}(h1:H0 a=none)(h2:H' a=some o)(h3:cH g (hid H' (cw S a)) d o):Rep g (hid H' B) d (.ref a)/\Fr g H0 B H' d (.ref a):=by
 have up:qa (hid H' (cw S a)) (hid H' (cw B a)):=λb o hb=>by
  obtain⟨z1,z2⟩:=bW.mp hb;refine bW.mpr ⟨?_,z2⟩;have z1:(S.h b||b==a)=false:=z1;simp only[Bool.or_eq_false_iff]at z1;show (B.h b||b==a)=false;rw[lH ss z1.1,z1.2];rfl
 exact⟨h3.rep (up.trans o7) (bW.mpr ⟨ss.sub0.free h1,h2⟩),⟨a,o,rfl,h1,h2,h3.mono up⟩⟩
theorem oU(ss:SS g c H0 B τ σ H S){a:Addr}{d:EV.D}{o1:HO}(y1:S.o a=true)(y3:cH g (hid H' S) d o1):cH g (hid H' (cw S a)) d o1:=y3.mono λb o hb=>by
 have hh:S.h a=true:=by rw[ss.hd,y1,Bool.or_true]
 obtain⟨z1,z2⟩:=bW.mp hb;refine bW.mpr ⟨?_,z2⟩;show (S.h b||b==a)=false;rw[z1]
 simpa using λz:b=a=>by rw[z,hh]at z1;cases z1
theorem lV{e:Expr}{ie:EV.E}{pos:Pos}(he:PE X e (tE w g c E ie))(hf:fr=true->zL c ie=true):PS X (.Return (some e) pos) (tS w g c E fr (.ret ie)):=
 PS.imp (kJ he) λD σ H ⟨H0,B,τ,S,ss,h⟩=>by
  simp only[zJ,cK,cG,cQ,zH,cF,cm,cD,cX,zK,zO,zQ,zT,zW,zV,zR,cZ,zZ,cY,zP,c_,zY,cV]at h;refine s_e ss h λd v H' _ p k=>?_
  have k:∀v H',qa H0 H'->Rep g (hid H' B) d v->(fr=true->zu d=true->Fr g H0 B H' d v)->D.rt v H':=k;have s1:=ss.up p.same;by_cases hz:fr=true/\zu d=true
  ·obtain⟨a,o,rfl,h1,h2,h3⟩:=p.frc (hf hz.1) hz.2;obtain⟨r1,r2⟩:=jG (H':=H') ss (ss.same.free h1) h2 h3;exact k _ H' s1.same r1 λ_ _=>r2
  ·rcases p.rb with r|⟨a,o,y1,rfl,y2,y3⟩
   ·exact k v H' s1.same (r.mono (kx ss)) λz l=>absurd ⟨z,l⟩ hz
   ·obtain⟨r1,r2⟩:=jG (H':=H') ss (ss.new a y1) y2 (oU ss y1 y3);exact k _ H' s1.same r1 λ_ _=>r2
theorem C5{e:Expr}{ie:EV.E}{pos:Pos}(he:PE X e (tE w g c E ie)):PS X (.Return (some e) pos) (tS w g c E fr (.retn ie)):=
 PS.imp (kJ he) λD σ H ⟨H0,B,τ,S,ss,h⟩=>by
  simp only[zJ,cK,cG,cQ,zH,cF,cm,cD,cX,zK,zO,zQ,zT,zW,zV,zR,cZ,zZ,cY,zP,c_,zY,cV]at h;refine s_e ss h λd v H' _ p k=>?_
  have s1:=ss.up p.same;cases hl:zu d with
  |true=>rw[hl]at k;exact k.elim
  |false=>
   rw[hl]at k;have k:∀v H',qa H0 H'->Rep g (hid H' B) d v->(fr=true->zu d=true->Fr g H0 B H' d v)->D.rt v H':=k;rcases p.rb with r|⟨a,o,y1,rfl,y2,y3⟩
   ·exact k v H' s1.same (r.mono (kx ss)) λ_ l=>by rw[hl]at l;cases l
   ·cases y3<;>cases hl
theorem tM(O:XO w g c E X){x:Str}{i:Nat}{p pos:Pos}(h:loc c x=some i)(ho:c.own.contains x=true):PS X (.Return (some (.Name x p)) pos) (tS w g c E fr (.ret (.own i))):=by
 obtain⟨h1,h2,h3,h4⟩:=fk h;refine PS.imp (kJ (iG (i:=i) (by rw[O.N];exact h1) (by unfold gx;rw[O.nm];exact h2) h3 h4)) λD σ H ⟨H0,B,τ,S,ss,h⟩=>?_
 simp only[zJ,cK,cG,cQ,zH,cF,cm,cD,cX,zK,zO,zQ,zT,zW,zV,zR,cZ,zZ,cY,zP,c_,zY,cV,zb,zf,ze,zd,zc,za,zi,zh,zg,qy,qB,qr,qC,qD,qe,qw,qt,qq,qx,qA,qR,qk,ql,qI,qz,qo,qN,qG,qJ,qS,qH,qO,qP,qu,qF,qM,qT,qK,qQ,qL,b6]at h;cases q:τ[i]? with
 |none=>rw[q]at h;exact h.elim
 |some o=>
  cases o with
  |none=>rw[q]at h;exact h.elim
  |some d=>
   rw[q]at h;cases hl:zu d with
   |false=>
    obtain⟨v,z1,z2,_⟩:=ss.se.val i d q;exact⟨_,z1,h v H ss.same ((z2.nold hl).mono (kx ss)) λ_ l=>by rw[hl]at l;cases l⟩
   |true=>
   obtain⟨a,o,z1,y1,y2,y3⟩:=ss.own i d ⟨x,h1,ho⟩ q hl;obtain⟨r1,r2⟩:=jG (H':=H) ss (ss.new a y1) y2 (oU ss y1 y3);exact⟨_,z1,h _ H ss.same r1 λ_ _=>r2⟩
theorem kL{e:Expr}{ie:EV.E}{i:Nat}{st:Stmt}{te:TE}(hp:PS X st (i3 te (fh i)))(hr:∀σ H Q,tE w g c E ie σ H Q->te σ H Q)(hlt:i<c.N.length)(hk:(zz c i/\zL c ie=true/\c.frz=false)\/(¬ zz c i/\esc ie=true)):PS X st (tS w g c E fr (.set (.nm i) ie)):=
 PS.imp hp λD σ H ⟨H0,B,τ,S,ss,h⟩=>by
  simp only[zJ,cK,cG,cQ,zH,cF,cm,cD,cX,zK,zO,zQ,zT,zW,zV,zR,cZ,zZ,cY,zP,c_,zY,cV,store]at h;refine hr σ H _ (s_e ss h λd v H' _ p k=>?_);have k:∀σ' H2 S2,SS g c H0 B (τ.set i (some d)) σ' H2 S2->qa (hid H S) (hid H2 S2)->D.nx σ' H2:=k;rcases hk with ⟨ho,hf,hfz⟩|⟨ho,he⟩
  ·cases hl:zu d with
   |true=>
    obtain⟨S',s1,s2⟩:=ss.setOwn hfz ho (by rw[ss.lenN];exact hlt) p.same (p.frc hf hl);exact k _ _ S' s1 s2
   |false=>exact k _ _ S ((ss.up p.same).setN hfz (by rw[ss.lenN];exact hlt) hl (p.rb.nold hl)) (qX p.same)
  ·exact k _ _ S ((ss.up p.same).set ho (p.st he)) (qX p.same)
theorem w9(O:XO w g c E X){tg e:Expr}{itg:Tg}{ie:EV.E}{pos:Pos}(he:PE X e (tE w g c E ie))(hg:PG X tg (gT X.K itg))(hf:gL c itg)(hes:esc ie=true)(hs:swapsWithSole [tg] e pos.line X.env=pure false)(hw:swappedStores [tg] e X.env=pure none)(h1:(assignEach [tg] X.env).map (·.2)=[assign tg X.env]) :
  PS X (.Assign [tg] e pos) (tS w g c E fr (.set itg ie)):=
 PS.imp (lA he hg hs hw h1) λD σ H ⟨H0,B,τ,S,ss,h⟩=>by
  simp only[zJ,cK,cG,cQ,zH,cF,cm,cD,cX,zK,zO,zQ,zT,zW,zV,zR,cZ,zZ,cY,zP,c_,zY,cV]at h;refine s_e ss h λd v H' _ p k=>?_
  cases q:store itg d τ with
  |ok τ'=>
   rw[q]at k;exact(ss.up p.same).store O.K hf (p.st hes) q λσ' s1=>k σ' H' S s1 (qX p.same)
  |ex z=>cases itg<;>simp only[store]at q<;>first|cases q|(split at q<;>first|cases q|(split at q<;>first|(exact absurd q (nA))|cases q))
  |no=>rw[q]at k;exact k.elim
end
section
variable{w:W}{g:Gc}{c:Cc}{E:XK}{fr:Bool}{X:Cx}{H0:Hp}{B:Sh}{τ:Env}{σ:L2.St}{H H':Hp}{S:Sh}{Ed:Ends}
theorem oz{i:Nat}{d:EV.D}(h:b6 τ i=.ok d):τ[i]? = some (some d):=by
 unfold b6 at h;split at h
 ·rename_i q;cases h;exact q
 ·cases h
theorem we(O:XO w g c E X)(hfz:c.frz=false){x:Str}{i:Nat}{a:Expr}{ia:EV.E}{p ap cp pos:Pos}(h:loc c x=some i)(ho:c.own.contains x=true)(ha:PE X a (tE w g c E ia))(hes:esc ia=true)(hs:isStar a=false)(hl:(ap.endLine==cp.line)=true) :
  PS X (.Expr (.Call (.Attribute (.Name x p) "append" ap) [a] [] cp) pos) (tS w g c E fr (.app i ia)):=by
 obtain⟨h1,h2,h3,h4⟩:=fk h;have hv:PE X (.Name x p) (gD i):=iG (i:=i) (by rw[O.N];exact h1) (by unfold gx;rw[O.nm];exact h2) h3 h4;have hst:=qc (es:=[]) (env:=X.env) hs;have hb:=Bh (X:=X) (apos:=ap) (cpos:=cp) PySem.F.plainAttrs_list PySem.F.slot_list_append PySem.F.type_list_append o_ hv (zq ha zX hst) rfl (by rw[hst];rfl) hl hst rfl;refine PS.imp (nD hb rfl) λD σ H ⟨H0,B,τ,S,ss,k⟩=>?_
 simp only[zJ,cK,cG,cQ,zH,cF,cm,cD,cX,zK,zO,zQ,zT,zW,zV,zR,cZ,zZ,cY,zP,c_,zY,cV]at k;cases q:b6 τ i with
 |ex z=>unfold b6 at q;split at q<;>cases q
 |no=>rw[q]at k;exact k.elim
 |ok d0=>
  rw[q]at k;have q':=oz q;have hi:zz c i:=⟨x,h1,ho⟩
  have ld:zu d0=true:=by cases d0<;>first|rfl|exact k.elim
  obtain⟨ad,oo,z1,y1,y2,y3⟩:=ss.own i d0 hi q' ld;cases y3 with
  |dic kvs=>exact k.elim
  | @lst ds vs y3=>
  refine⟨_,z1,.inl ⟨rfl,vs,SqL.of y2⟩,s_e ss k λd v H1 _ p1 k1=>?_⟩
  try simp only at k1
  by_cases hz:ds.length<SZ
  ·rw[if_pos hz]at k1;have s1:=ss.up p1.same;have y2':=p1.same _ _ y2;obtain⟨s2,s3⟩:=s1.change (vs:=vs++[v]) (ds:=ds++[d]) hfz hi q' z1 ((y3.mono (qX p1.same)).append (.cons (p1.st hes) .nil));exact⟨ad,vs,v,rfl,rfl,y2',by rw[<-y3.length,bf];unfold SZ at hz;lia,k1 _ _ S s2 ((qX p1.same).trans s3)⟩
  ·rw[if_neg hz]at k1;exact k1.elim
theorem rH(O:XO w g c E X)(hfz:c.frz=false){x:Str}{i:Nat}{a:Expr}{ia:EV.E}{p ap cp pos:Pos}(h:loc c x=some i)(ho:c.own.contains x=true)(ha:PE X a (tE w g c E ia))(hes:esc ia=true)(hs:isStar a=false)(hl:(ap.endLine==cp.line)=true) :
  PS X (.Expr (.Call (.Attribute (.Name x p) "update" ap) [a] [] cp) pos) (tS w g c E fr (.dupd i ia)):=λpins s σ H D I ⟨H0,B,τ,S,ss,h⟩=>by
 simp only[zJ,cK,cG,cQ,zH,cF,cm,cD,cX,zK,zO,zQ,zT,zW,zV,zR,cZ,zZ,cY,zP,c_,zY,cV]at h;exact bp h
theorem tq(O:XO w g c E X)(hfz:c.frz=false){x:Str}{i:Nat}{a:Expr}{ia:EV.E}{p ap cp pos:Pos}(h:loc c x=some i)(ho:c.own.contains x=true)(ha:PE X a (tE w g c E ia))(hes:esc ia=true)(hs:isStar a=false)(hl:(ap.endLine==cp.line)=true) :
  PS X (.Expr (.Call (.Attribute (.Name x p) "extend" ap) [a] [] cp) pos) (tS w g c E fr (.ext i ia)):=λpins s σ H D I ⟨H0,B,τ,S,ss,h⟩=>by
 simp only[zJ,cK,cG,cQ,zH,cF,cm,cD,cX,zK,zO,zQ,zT,zW,zV,zR,cZ,zZ,cY,zP,c_,zY,cV]at h;exact bp h
theorem vy(O:XO w g c E X)(hfz:c.frz=false){x y:Str}{i j:Nat}{p ap cp px q1 pos:Pos}{k0}(hx:dw c x=some i)(hy:loc c y=some j)(hox:c.own.contains x=false)(hoy:c.own.contains y=true)(hl:(ap.endLine==cp.line)=true) :
  PS X (.Assign [.Name x px] (.Call (.Attribute (.Name y p) "pop" ap) [.Constant (.int 0) k0 q1] [] cp) pos) (tS w g c E fr (.pop0 i j)):=λpins s σ H D I ⟨H0,B,τ,S,ss,h⟩=>by
 simp only[zJ,cK,cG,cQ,zH,cF,cm,cD,cX,zK,zO,zQ,zT,zW,zV,zR,cZ,zZ,cY,zP,c_,zY,cV]at h;exact bp h
theorem vo(O:XO w g c E X)(hfz:c.frz=false){x:Str}{i:Nat}{k e:Expr}{ik ie:EV.E}{p sp pos:Pos}(h:loc c x=some i)(ho:c.own.contains x=true)(hk:PE X k (tE w g c E ik))(he:PE X e (tE w g c E ie))(hes:esc ie=true)(hsl:isSlice k=false)(hc:eR e=false) :
  PS X (.Assign [.Subscript (.Name x p) k sp] e pos) (tS w g c E fr (.seti i ik ie)):=by
 obtain⟨h1,h2,h3,h4⟩:=fk h;have hv:PE X (.Name x p) (gD i):=iG (i:=i) (by rw[O.N];exact h1) (by unfold gx;rw[O.nm];exact h2) h3 h4;have hg:PG X (.Subscript (.Name x p) k sp) (l6 (gD i) (tE w g c E ik) (λx y v H Q=>nU x y v H Q\/oG x y v H Q)):=wZ hv hk (set_list.or (CN O.units)) (by intro v;cases k<;>first|rfl|(simp[isSlice]at hsl));refine PS.imp (lA he hg (by simp only[swapsWithSole];exact jr hc) rfl rfl) λD σ H ⟨H0,B,τ,S,ss,k⟩=>?_
 simp only[zJ,cK,cG,cQ,zH,cF,cm,cD,cX,zK,zO,zQ,zT,zW,zV,zR,cZ,zZ,cY,zP,c_,zY,cV]at k;refine s_e ss k λd v H1 _ p1 k1=>?_
 cases q:b6 τ i with
 |ex z=>unfold b6 at q;split at q<;>cases q
 |no=>rw[q]at k1;exact k1.elim
 |ok d0=>
  rw[q]at k1;have q':=oz q;have hi:zz c i:=⟨x,h1,ho⟩
  have s1:=ss.up p1.same;cases ld:zu d0 with
  |false=>
   obtain⟨v0,z1,_⟩:=s1.se.val i d0 q';refine⟨_,z1,s_e s1 (cq.up k1 (qX p1.same)) λn vn H2 _ p2 k2=>?_⟩;cases d0<;>first|exact k2.elim|cases ld
  |true=>
  obtain⟨ad,oo,z1,y1,y2,y3⟩:=s1.own i d0 hi q' ld;refine⟨_,z1,s_e s1 (cq.up k1 (qX p1.same)) λn vn H2 _ p2 k2=>?_⟩;cases y3 with
  | @lst ds vs y3=>
   cases n with
   |int j=>
    simp only at k2;cases qj:ixN ds.length j with
    |none=>rw[qj]at k2;exact k2.elim
    |some m=>
     rw[qj]at k2;have s2:=s1.up p2.same;have y2':=p2.same _ _ y2;obtain⟨s3,s4⟩:=s2.change (vs:=vs.set m v) (ds:=ds.set m d) hfz hi q' z1 ((y3.mono (qX p2.same)).set ((p1.st hes).mono (qX p2.same)) m);exact .inl ⟨ad,vs,j,m,rfl,p2.rb.int,y2',by rw[<-y3.length];exact qj,k2 _ _ S s3 ((qX p2.same).trans s4)⟩
   |_=>exact k2.elim
  |dic kvs=>
   cases n with
   |int j=>
    cases d with
    |int z=>
     simp only at k2;by_cases hz:kvs.length<SZ
     ·rw[if_pos hz]at k2;have s2:=s1.up p2.same;have y2':=p2.same _ _ y2;obtain⟨s3,s4⟩:=s2.changeO (d1:=.dic (fN kvs j z)) (o1:=.dK (bP (fN kvs j z))) hfz hi q' z1 (.dic _);have hv:=p1.rb.int;subst hv;refine .inr ⟨ad,kvs,j,z,rfl,p2.rb.int,rfl,y2',?_,k2 _ _ S s3 ((qX p2.same).trans s4)⟩;rw[bf];unfold SZ at hz;lia
     ·rw[if_neg hz]at k2;exact k2.elim
    |_=>exact k2.elim
   |_=>exact k2.elim
theorem uP:PSs X [] (tSs w g c E fr .nil):=PSs.imp sf λD σ H ⟨H0,B,τ,S,ss,h⟩=>by
 simp only[qi]at h;exact h σ H S ss (qa.refl _)
theorem lR{s:Stmt}{r:List Stmt}{is:EV.S}{ir:Ss}(h1:PS X s (tS w g c E fr is))(h2:PSs X r (tSs w g c E fr ir)):PSs X (s::r) (tSs w g c E fr (.cons is ir)):=
 PSs.imp (xF h1 h2) λD σ H ⟨H0,B,τ,S,ss,h⟩=>by
  simp only[qi]at h;refine⟨H0,B,τ,S,ss,?_⟩;cases q:evS w is τ with
  |nx τ'=>rw[q]at h;exact λσ' H' S' s' e=>⟨H0,B,τ',S',s',cq.up h e⟩
  |bk τ'=>rw[q]at h;exact h
  |ct τ'=>rw[q]at h;exact h
  |rt d=>rw[q]at h;exact h
  |ex k=>rw[q]at h;exact h
  |no=>rw[q]at h;exact h
theorem ym{t:Expr}{a b:List Stmt}{it:T}{ia ib:Ss}{pos:Pos}(ht:PT X t (tT w g c E it))(ha:PSs X a (tSs w g c E fr ia))(hb:PSs X b (tSs w g c E fr ib)):PS X (.If t a b pos) (tS w g c E fr (.ite it ia ib)):=
 PS.imp (vp ht ha hb) λD σ H ⟨H0,B,τ,S,ss,h⟩=>by
  simp only[zJ,cK,cG,cQ,zH,cF,cm,cD,cX,zK,zO,zQ,zT,zW,zV,zR,cZ,zZ,cY,zP,c_,zY,cV]at h;refine s_t ss h λz H1 _ s1 k1=>?_
  cases z with
  |true=>exact⟨H0,B,τ,S,ss.up s1,cq.up k1 (qX s1)⟩
  |false=>exact⟨H0,B,τ,S,ss.up s1,cq.up k1 (qX s1)⟩
theorem PS.nox'{st:Stmt}{t:TS}(h:PS X.nox st t):PS X st t:=λpins s σ H D I hw=>
 bK (h pins s σ H D (I.wish _) hw) (λ_ _ q=>q.unwish) λ_ _ z=>bp z
theorem XO.nox(O:XO w g c E X):XO w g c E0 X.nox:=⟨O.K,O.nm,O.N,O.nd,O.calm,O.units,O.fn,O.kind,nI rfl rfl,O.gok,O.fns,O.sub⟩
theorem XS.nox(O:XS w g c E X):XS w g c E0 X.nox:=⟨O.toXO.nox,λ_ _ _ _ _ _ _ _ _ _ _ z=>bp z,O.exc,O.cat,O.frm,O.gh⟩
theorem CV{o:O}(h:cq g c E fr H0 B H S Ed o.noEx):cq g c E0 fr H0 B H S Ed o/\(∀k,o≠.ex k)/\o≠.no:=by
 cases o with
 |ex k=>exact h.elim
 |no=>exact h.elim
 |nx t=>exact⟨h,(λ_ z=>by cases z),(λz=>by cases z)⟩
 |bk t=>exact⟨h,(λ_ z=>by cases z),(λz=>by cases z)⟩
 |ct t=>exact⟨h,(λ_ z=>by cases z),(λz=>by cases z)⟩
 |rt t=>exact⟨h,(λ_ z=>by cases z),(λz=>by cases z)⟩
noncomputable def frozen(c:Cc)(b:Bool):Cc:={c with frz:=c.frz||b}
theorem XS.froze(O:XS w g c E X){b:Bool}:XS w g (frozen c b) E X:=
 ⟨⟨O.K,O.nm,O.N,O.nd,O.calm,O.units,O.fn,O.kind,O.pass,O.gok,O.fns,O.sub⟩,O.thr,O.exc,O.cat,O.frm,O.gh⟩
noncomputable def eD(B:Sh)(b:Bool)(σ:L2.St)(H:Hp):Sh:=if b=true then ⟨B.o,B.h,σ,H⟩else B
theorem kE{b:Bool}:(eD B b σ H).h=B.h:=by unfold eD;split<;>rfl
theorem An{b:Bool}{H1:Hp}:hid H1 (eD B b σ H)=hid H1 B:=by funext a;unfold hid;rw[kE]
theorem SS.froze(b:Bool)(ss:SS g c H0 B τ σ H S):SS g (frozen c b) H0 (eD B b σ H) τ σ H S:=by
 refine⟨⟨ss.se.len,ss.se.val,ss.se.sub⟩,ss.lenN,ss.same,?_,?_,ss.new,ss.own,ss.inj,λz=>?_⟩
 ·unfold eD;split
  ·exact ss.sub0
  ·exact ss.sub0
 ·rw[kE];exact ss.hd
 ·cases b with
  |true=>exact⟨λi _=>rfl,qa.refl _⟩
  |false=>
   have z:(c.frz||false)=true:=z;rw[Bool.or_false]at z;exact ss.frz z
theorem SS.thaw{b:Bool}{σ1:L2.St}{H1:Hp}{τ1:Env}{S1:Sh}(s0:SS g c H0 B τ1 σ1 H1 S1)(ss:SS g (frozen c b) H0 (eD B b σ1 H1) τ σ H S):SS g c H0 B τ σ H S:=by
 refine⟨⟨ss.se.len,ss.se.val,ss.se.sub⟩,ss.lenN,ss.same,s0.sub0,?_,ss.new,ss.own,ss.inj,λz=>?_⟩
 ·have:=ss.hd;rw[kE]at this;exact this
 ·have f:=ss.frz (by show (c.frz||b)=true;rw[z];rfl);cases b with
  |true=>exact⟨λi hi=>(f.1 i hi).trans ((s0.frz z).1 i hi),(s0.frz z).2.trans f.2⟩
  |false=>exact f
theorem SS.iced{b:Bool}{σ1:L2.St}{H1:Hp}(hb:b=true)(ss:SS g (frozen c b) H0 (eD B b σ1 H1) τ σ H S):qa H1 H:=by
 subst hb;exact(ss.frz (by show (c.frz||true)=true;rw[Bool.or_true])).2
theorem Dc(O:XO w g c E X)(hc:X.calm=true){tg it:Expr}{b:List Stmt}{itg:Tg}{iit:It}{ib:Ss}{pos:Pos}(hi:PI X.nox tg it (tIt w g c E0 iit))(hg:PG X.nox tg (gT X.K itg))(hf:gL c itg)(hb:PSs X.nox b (tSs w g (frozen c (owned iit)) E0 fr ib))(hs:zt it=true) :
  PS X (.For tg it b [] pos) (tS w g c E fr (.for itg iit ib)):=by
 refine PS.nox' (PS.imp (su (X:=X.nox) PassesOwn.never hc hi hg hb (λx=>by cases it<;>first|rfl|(simp[zt]at hs))) λD σ H ⟨H0,B,τ,S,ss,h⟩=>?_);simp only[zJ,cK,cG,cQ,zH,cF,cm,cD,cX,zK,zO,zQ,zT,zW,zV,zR,cZ,zZ,cY,zP,c_,zY,cV]at h;obtain⟨h,nex,nno⟩:=CV h;cases q:evI w iit τ with
 |ex z=>rw[q]at nex;exact absurd rfl (nex z)
 |no=>rw[q]at nno;exact absurd rfl nno
 |ok ds=>
  rw[q]at h nex nno;simp only[R.out_ok]at h nex nno;refine⟨τ,S,ss.se,?_⟩;rw[q];intro J H1 s1 kW kS;generalize hr:dE itg (λσ=>qi w ib σ) ds τ=r at h nex nno;refine⟨λi m σ' H'=>m=ds.length-i/\i<=ds.length/\∃τ' S',SS g (frozen c (owned iit)) H0 (eD B (owned iit) σ H1) τ' σ' H' S'/\qa (hid H1 S) (hid H' S')/\dE itg (λσ=>qi w ib σ) (ds.drop i) τ'=r,⟨ds.length,rfl,br _,τ,S,(ss.up s1).froze _,qa.refl _,hr⟩,?_⟩;rintro i m σ' H' ⟨rfl,hi',τ',S',ss',e',hl⟩;have gg:Goes g J ds H' S':=by
   cases hw:owned iit with
   |false=>exact kS hw H' S' e' ss'.se.sub
   |true=>exact kW H' S' (ss'.iced hw) e' ss'.se.sub
  obtain⟨g1,g2⟩:=gg;have eH:qa (hid H S) (hid H' S'):=(qX s1).trans e';by_cases hlt:i<ds.length
  ·have hd:ds[i]? = some ds[i]:=List.getElem?_eq_getElem hlt;obtain⟨go1,go2⟩:=g2 i ds[i] hd;refine .inr ⟨go1,λσ2 H2=>∃τ' S',SS g (frozen c (owned iit)) H0 (eD B (owned iit) σ H1) τ' σ2 H2 S'/\qa (hid H1 S) (hid H2 S')/\dE itg (λσ=>qi w ib σ) (ds.drop (i+1)) τ'=r,λσ2 H2 z=>⟨ds.length-(i+1),by lia,rfl,hlt,z⟩,λx H2 hy=>?_⟩;obtain⟨s2,rx⟩:=go2 x H2 hy;rw[e_ hlt]at hl;simp only[dE]at hl;cases q1:store itg ds[i] τ' with
   |ex z=>rw[q1]at hl;exact absurd hl.symm (nex z)
   |no=>rw[q1]at hl;exact absurd hl.symm nno
   |ok τ1=>
    rw[q1]at hl;simp only[R.out_ok]at hl;refine(ss'.up s2).store O.K hf rx q1 λσ1 ss1=>⟨H0,_,τ1,S',ss1,?_⟩
    cases q2:qi w ib τ1 with
    |nx τ2=>rw[q2]at hl;exact λσ2 H3 S3 s3 e3=>⟨τ2,S3,s3,(e'.trans (qX s2)).trans e3,hl⟩
    |ct τ2=>rw[q2]at hl;exact λσ2 H3 S3 s3 e3=>⟨τ2,S3,s3,(e'.trans (qX s2)).trans e3,hl⟩
    |bk τ2=>
     rw[q2]at hl;simp only at hl;rw[<-hl]at h;exact λσ2 H3 S3 s3 e3=>h σ2 H3 S3 ((ss.up s1).thaw s3) ((eH.trans (qX s2)).trans e3)
    |rt d=>
     rw[q2]at hl;simp only at hl;rw[<-hl]at h;refine λv H3 s3 r3 f3=>h v H3 s3 (by rw[An]at r3;exact r3) λz=>?_
     have f3:=f3 z;unfold eD at f3;split at f3
     ·exact f3
     ·exact f3
    |ex z=>rw[q2]at hl;exact absurd hl.symm (nex z)
    |no=>rw[q2]at hl;exact absurd hl.symm nno
  ·have e:i=ds.length:=by lia
   subst e;rw[List.drop_length]at hl;simp only[dE]at hl;rw[<-hl]at h;exact .inl ⟨g1 ds.length (aD _),h σ' H' S' ((ss.up s1).thaw ss') eH⟩
end
section
variable{w:W}{g:Gc}{c:Cc}{E:XK}{fr:Bool}{X:Cx}{H0:Hp}{B:Sh}{τ:Env}{σ:L2.St}{H H':Hp}{S:Sh}{Ed:Ends}
theorem Ci{s:Stmt}:PS X s (tS w g c E fr .unk):=λpins s σ H D I ⟨H0,B,τ,S,ss,h⟩=>by
 simp only[zJ,cK,cG,cQ,zH,cF,cm,cD,cX,zK,zO,zQ,zT,zW,zV,zR,cZ,zZ,cY,zP,c_,zY,cV]at h;exact h.elim
theorem Av(O:XO w g c E X)(hfz:c.frz=false){x:Str}{i:Nat}{k a:Expr}{ik ia:EV.E}{p ap cp pos:Pos}(h:loc c x=some i)(ho:c.own.contains x=true)(hk:PE X k (tE w g c E ik))(ha:PE X a (tE w g c E ia))(hes:esc ia=true)(hsk:isStar k=false)(hs:isStar a=false)(hl:(ap.endLine==cp.line)=true) :
  PS X (.Expr (.Call (.Attribute (.Name x p) "insert" ap) [k,a] [] cp) pos) (tS w g c E fr (.ins i ik ia)):=λpins s σ H D I ⟨H0,B,τ,S,ss,h⟩=>by
 simp only[zJ,cK,cG,cQ,zH,cF,cm,cD,cX,zK,zO,zQ,zT,zW,zV,zR,cZ,zZ,cY,zP,c_,zY,cV]at h;exact bp h
end
theorem sm{e:Expr}{x:Str}{ap cp:Pos}{k a:Expr}(h:lL e=some (x,ap,k,a,cp)):∃p,e=.Call (.Attribute (.Name x p) "insert" ap) [k,a] [] cp:=by cases h
theorem uy{ts:List Expr}{k:Nat}{p:Pos}{e:Expr}{env:PySem.Env}(h:isTup e=true->jM e=true):swappedStores [.Tuple ts k p] e env=pure none:=by
 cases e<;>first|rfl|skip
 rename_i vs k2 p2
 have h:vs.all (foldedForSure 8)=true:=h rfl;unfold swappedStores;simp only[h,if_true];split
 ·rfl
 ·split
  ·rfl
  ·split
   ·rfl
   ·rfl
section
variable{w:W}{g:Gc}{c:Cc}{E:XK}{fr:Bool}{X:Cx}
theorem xr{n:Nat}{c:Cc}{elt:Expr}{gs:List b5}{sc:a9}{p:Pos}{ie:EV.E}(h:cE n c (.ListComp elt gs sc p)=some ie)(htw:iL (.ListComp elt gs sc p)=false):iI c ie=ie:=by
 match n,h with
 | 0,h=>cases h
 |m+1,h=>
  obtain⟨tgt,it,ifs,iit,itg,it',ie',rfl,hs1,hk1,h1,h2,h3,h4,he,rfl⟩:=jY h
  rfl
theorem A9(O:XO w g c E X){n:Nat}(hn:n<=100000){x:Str}{i:Nat}{elt:Expr}{gs:List b5}{sc:a9}{p p' pos:Pos}{ie:EV.E}(hl:dw c x=some i)(h:cE n c (.ListComp elt gs sc p)=some ie)(htw:iL (.ListComp elt gs sc p)=false)(hk:(zz c i/\zL c ie=true/\c.frz=false)\/(¬ zz c i/\esc ie=true)) :
  PS X (.Assign [.Name x p'] (.ListComp elt gs sc p) pos) (tS w g c E fr (.set (.nm i) ie)):=by
 obtain⟨l1,l2⟩:=eS hl;obtain⟨l3,_⟩:=fk l1;have hlt:i<c.N.length:=(List.getElem?_eq_some_iff.mp l3).1;have hN:X.N.Nodup:=by rw[O.N];exact O.nd
 have hix:X.N[i]? = some x:=by rw[O.N];exact l3
 have hx:L2.Loc X.env.scope x:=by unfold L2.Loc;rw[O.nm];rcases l2 with z|z;exact .inl z;exact .inr z.1
 have hf:X.fn x=true\/X.env.scope.names.lookup x=some .local:=by
  rcases l2 with z|z
  ·exact .inr (by rw[O.nm];exact z)
  ·exact .inl (O.fn x z.2)
 cases hb:(X.env.blockKind==.function&&X.env.kindOf x==some .local&&p'.line==p.line && !(sc.names.any λ(n,k)=>n==x&&(k==.local||k==.cell)))with
 |false=>
  have hs:swapsWith (.ListComp elt gs sc p) (some (.Name x p')) pos.line X.env=pure false:=by rw[<-hb];rfl
  exact kL (e:=.ListComp elt gs sc p) (rq hN hix hx ((snd n hn).e O h) hs hf) (λ_ _ _ z=>z) hlt hk
 |true=>
  have hs:swapsWith (.ListComp elt gs sc p) (some (.Name x p')) pos.line X.env=pure true:=by rw[<-hb];rfl
  match n,h with
  | 0,h=>cases h
  |m+1,h=>
   have ih:=snd (w:=w) (g:=g) m (Nat.le_of_succ_le hn);obtain⟨tgt,it,ifs,iit,itg,it',ie',rfl,hs1,hk1,h1,h2,h3,h4,he,rfl⟩:=jY h;have hS:dH X (bY sc.names) (gr c sc.names) sc:=dH.of (by
    have e1:(λx=>c.nm.lookup x)=X.env.kindOf:=by funext x;show _=X.env.scope.names.lookup x;rw[O.nm]
    rw[<-e1,O.N];exact hk1.1)
   refine kL (e:=.ListComp elt [⟨tgt,it,ifs,0⟩] sc p) (By (tb:=λacc=>jj acc (tE w g (dz c sc) E0 ie')) hN hix hx (O.calm hs1.1) hS (ih.i O h1 he.2) (λcl C s₀ H₀ fp=>?_) (by simp) hs hf (λx=>by
    have q:=hs1.2;cases it<;>first|rfl|cases q)) (λσ H Q q=>rj O hS he.1 q) hlt hk
   have OY:=O.comp hS.kind hk1.2 cl C s₀ H₀ fp;exact⟨jo OY h2,ih.ifs OY h3,λacc=>nZ rfl (ih.e OY h4)⟩
end
structure gB(w:W)(g:Gc)(n:Nat):Prop where
 s:∀{c:Cc}{E:XK}{X:Cx} (O:XS w g c E X) {fr:Bool}{x:Stmt}{ir:EV.S},cS n c fr x=some ir->PS X x (tS w g c E fr ir)
 ss:∀{c:Cc}{E:XK}{X:Cx} (O:XS w g c E X) {fr:Bool}{x:List Stmt}{ir:Ss},cSs n c fr x=some ir->PSs X x (tSs w g c E fr ir)
section
variable{w:W}{g:Gc}{n:Nat}
theorem gB.ss_succ(ih:gB w g n){c:Cc}{E:XK}{X:Cx}(O:XS w g c E X){fr:Bool}{x:List Stmt}{ir:Ss}(h:cSs (n+1) c fr x=some ir):PSs X x (tSs w g c E fr ir):=by
 match x with
 | []=>simp only[cSs,b8]at h;subst h;exact uP
 |s::r=>
  simp only[cSs,aI,aH]at h;obtain⟨ir',h2,h⟩:=h;cases h;cases h1:cS n c fr s with
  |none=>exact lR Ci (ih.ss O h2)
  |some is=>exact lR (ih.s O h1) (ih.ss O h2)
theorem yY{c:Cc}{x:Str}{i:Nat}(h:c.N[i]? = some x):zz c i↔c.own.contains x=true:=⟨λ⟨y,h1,h2⟩=>by rw[h]at h1;cases h1;exact h2,λh2=>⟨x,h,h2⟩⟩
theorem A0{e:Expr}{x m:Str}{ap cp:Pos}{a:Expr}(h:jJ e=some (x,m,ap,a,cp)):∃p,e=.Call (.Attribute (.Name x p) m ap) [a] [] cp:=by
 unfold jJ at h;split at h
 ·split at h
  ·split at h
   ·split at h
    ·split at h
     ·rename_i hk;cases h;rw[List.isEmpty_iff]at hk;subst hk;exact⟨_,rfl⟩
     ·cases h
    ·cases h
   ·cases h
  ·cases h
 ·cases h
theorem Dq{e:Expr}{x:Str}{ap cp:Pos}(h:j7 e=some (x,ap,cp)):∃p k q,e=.Call (.Attribute (.Name x p) "pop" ap) [.Constant (.int 0) k q] [] cp:=by
 unfold j7 at h;split at h
 ·split at h
  ·split at h
   ·split at h
    ·split at h
     ·split at h
      ·split at h
       ·rename_i hk
        simp only[aM,List.isEmpty_iff,beq_iff_eq,decide_eq_true_eq]at hk;obtain⟨⟨rfl,rfl⟩,rfl⟩:=hk;cases h;exact⟨_,_,_,rfl⟩
       ·cases h
      ·cases h
     ·cases h
    ·cases h
   ·cases h
  ·cases h
 ·cases h
theorem gB.s_succ(ih:gB w g n)(hn:n<=100000){c:Cc}{E:XK}{X:Cx}(O:XS w g c E X){fr:Bool}{x:Stmt}{ir:EV.S}(h:cS (n+1) c fr x=some ir):PS X x (tS w g c E fr ir):=by
 have K:=snd (w:=w) (g:=g) n hn;unfold cS at h;split at h
 ·rename_i ts0 e pos
  split at h
  ·rename_i t0
   split at h
   ·-- x = e
    rename_i y p
    split at h
    ·rename_i hp
     obtain⟨p0,k0,q0,rfl⟩:=Dq hp;simp only[aI,aH]at h;obtain⟨i,hl,j,hj,h⟩:=h;split at h
     ·rename_i hc
      simp only[aM,bG]at hc;cases h;obtain⟨⟨⟨c1,c2⟩,c3⟩,c4⟩:=hc;exact vy O.toXO c4 hl hj c2 c1 (by simpa using c3)
     ·cases h
    split at h
    ·cases h
    rename_i htw
    have htw:iL e=false:=by simpa using htw
    simp only[aI,aH]at h;obtain⟨i,hl,ie,h1,h⟩:=h;obtain⟨l1,l2⟩:=eS hl;obtain⟨l3,_⟩:=fk l1;have ho:=yY l3;have hk:∃ig,((zz c i/\zL c ig=true/\c.frz=false)\/(¬ zz c i/\esc ig=true))/\ir=.set (.nm i) ig/\(ig=ie\/ig=iI c ie):=by
     split at h
     ·rename_i hy
      split at h
      ·rename_i hf;cases h;exact⟨_,.inl ⟨ho.mpr hy,by simpa using hf⟩,rfl,.inl rfl⟩
      ·cases h
     ·rename_i hy
      split at h
      ·rename_i hf;cases h;exact⟨_,.inr ⟨λz=>hy (ho.mp z),hf⟩,rfl,.inl rfl⟩
      ·cases h
    obtain⟨ig,hk,rfl,hig⟩:=hk;have hE:PE X e (tE w g c E ig):=by
     rcases hig with rfl|rfl
     ·exact K.e O.toXO h1
     ·exact rF (K.e O.toXO h1)
    cases hc:eR e with
    |false=>
     refine kL (e:=e) (rq (i:=i) (by rw[O.N];exact O.nd) (by rw[O.N];exact l3) (by unfold L2.Loc;rw[O.nm];rcases l2 with z|z;exact .inl z;exact .inr z.1) hE (jr hc) ?_) (λ_ _ _ z=>z) (List.getElem?_eq_some_iff.mp l3).1 hk;rcases l2 with z|z
     ·exact .inr (by rw[O.nm];exact z)
     ·exact .inl (O.fn y z.2)
    |true=>
     cases e with
     |ListComp elt gs sc p=>
      have eg:ig=ie:=by
       rcases hig with z|z
       ·exact z
       ·rw[z];exact xr h1 htw
      subst eg;exact A9 O.toXO hn hl h1 htw hk
     |SetComp elt gs sc p=>match n,h1 with
      | 0,h1=>cases h1
      |m+1,h1=>cases h1
     |DictComp a b gs sc p=>match n,h1 with
      | 0,h1=>cases h1
      |m+1,h1=>cases h1
     |_=>cases hc
   ·-- (a, b) = e
    rename_i ts k p
    simp only[aI,aH]at h;obtain⟨tg,h1,ie,h2,h⟩:=h;split at h
    ·cases h
    ·rename_i hc
     have hc:((isTup e=true->jM e=true)/\eR e=false)/\esc ie=true:=by simpa using hc
     cases h;refine w9 O.toXO (K.e O.toXO h2) (jo O.toXO h1) (rf h1) hc.2 (by simp only[swapsWithSole];exact jr hc.1.2) ?_ rfl;exact uy hc.1.1
   ·-- x[k] = e
    split at h
    ·simp only[aI,aH]at h;obtain⟨i,hl,ie,h1,ik,h2,h⟩:=h;split at h
     ·rename_i hc
      simp only[aM,bG]at hc;cases h;exact vo O.toXO hc.2 (eS hl).1 hc.1.1.1.1 (K.e O.toXO h2) (K.e O.toXO h1) hc.1.1.1.2 hc.1.1.2 hc.1.2
     ·cases h
    ·cases h
   ·cases h
  ·cases h
 ·split at h
  ·-- x.insert(k, a)
   rename_i he
   obtain⟨p,rfl⟩:=sm he;simp only[aI,aH]at h;obtain⟨i,hl,ik,h0,ia,h1,h⟩:=h;split at h
   ·rename_i hc
    simp only[aM,bG,beq_iff_eq]at hc;cases h;obtain⟨⟨⟨⟨⟨c2,c3⟩,c4⟩,c5⟩,c6⟩,c7⟩:=hc;exact Av O.toXO c7 (eS hl).1 c2 (K.e O.toXO h0) (K.e O.toXO h1) c3 c4 c5 (by simpa using c6)
   ·cases h
  split at h
  ·-- x.append(a)
   rename_i he
   obtain⟨p,rfl⟩:=A0 he;simp only[aI,aH]at h;obtain⟨i,hl,ia,h1,h⟩:=h;split at h
   ·rename_i hm
    have hm:=eq_of_beq hm;subst hm;split at h
    ·rename_i hc
     simp only[aM,bG]at hc;cases h;obtain⟨⟨⟨⟨c2,c3⟩,c4⟩,c5⟩,c6⟩:=hc;exact rH O.toXO c6 (eS hl).1 c2 (K.e O.toXO h1) c3 c4 (by simpa using c5)
    ·cases h
   split at h
   ·rename_i hm
    have hm:=eq_of_beq hm;subst hm;split at h
    ·rename_i hc
     simp only[aM,bG]at hc;cases h;obtain⟨⟨⟨⟨c2,c3⟩,c4⟩,c5⟩,c6⟩:=hc;exact tq O.toXO c6 (eS hl).1 c2 (K.e O.toXO h1) c3 c4 (by simpa using c5)
    ·cases h
   split at h
   ·rename_i hc
    simp only[aM,bG,beq_iff_eq]at hc;cases h;obtain⟨⟨⟨⟨⟨rfl,c2⟩,c3⟩,c4⟩,c5⟩,c6⟩:=hc;exact we O.toXO c6 (eS hl).1 c2 (K.e O.toXO h1) c3 c4 (by simpa using c5)
   ·cases h
  ·split at h
   ·cases h
   ·rename_i hc
    simp only[aI,aH]at h;obtain⟨ie,h1,h⟩:=h;cases h;exact xJ (K.e O.toXO h1) (by simpa using hc)
 ·split at h
  ·-- return e
   rename_i e
   simp only[aI,aH]at h;obtain⟨ie,h1,h⟩:=h;split at h
   ·rename_i hf
    split at h
    ·rename_i y p
     split at h
     ·rename_i ho
      simp only[bA]at h;obtain⟨i,hl,rfl⟩:=h;exact tM O.toXO hl ho
     ·cases h
    ·split at h
     ·rename_i hfr
      cases h;exact lV (K.e O.toXO h1) λ_=>hfr
     ·cases h;exact C5 (K.e O.toXO h1)
   ·rename_i hf
    cases h;exact lV (K.e O.toXO h1) λz=>absurd z hf
  ·split at h
   ·cases h
   ·rename_i hf
    cases h;exact xn (by simpa using hf)
 ·simp only[aI,aH]at h;obtain⟨it,h1,ia,h2,ib,h3,h⟩:=h;cases h;exact ym (K.t O.toXO h1) (ih.ss O h2) (ih.ss O h3)
 ·split at h
  ·cases h
  ·rename_i tg0 it0 b0 els0 pos0 hc
   have hc:(els0=[]/\c.calm=true)/\zt it0=true:=by simpa using hc
   obtain⟨⟨rfl,hc1⟩,hc2⟩:=hc;simp only[aI,aH]at h;obtain⟨tg,h1,it,h2,h⟩:=h;split at h
   ·cases h
   ·rename_i ho
    have ho:gk it tg0=true:=by simpa using ho
    simp only[aH]at h;obtain⟨ib,h3,h⟩:=h;cases h;exact Dc O.toXO (O.calm hc1) (K.i O.toXO.nox h2 ho) (jo O.toXO.nox h1) (rf h1) (ih.ss O.nox.froze h3) hc2
 ·cases h;exact rX
 ·cases h;exact B8
 ·cases h;exact xU
 ·cases h
theorem pQ:∀n,n<=100000->gB w g n
 | 0,_=>⟨λ_ _ _ _ h=>(by cases h),λ_ _ _ _ h=>by simp[cSs]at h⟩
 |n+1,h=>
  have ih:=pQ n (Nat.le_of_succ_le h)
  ⟨λO _ _ _ q=>ih.s_succ (Nat.le_of_succ_le h) O q,λO _ _ _ q=>ih.ss_succ O q⟩
end
section
variable{w:W}{g:Gc}{c:Cc}{E:XK}{fr:Bool}{X:Cx}{H0:Hp}{B:Sh}{τ:Env}{σ:L2.St}{H H':Hp}{S:Sh}{n:Nat}
noncomputable def kK(g:Gc)(E:XK)(fr:Bool)(H0:Hp)(B:Sh)(D:Ends):O->Prop
 | .nx _=>∀σ' H',qa H0 H'->D.nx σ' H'
 | .rt d=>∀v H',qa H0 H'->Rep g (hid H' B) d v->(fr=true->zu d=true->Fr g H0 B H' d v)->D.rt v H'
 | .ex k=>∀H' C,qa H0 H'->g.clA k=some C->E (.ref C) none H'
 |_=>False
theorem kK.out{D:Ends}{o:O}(h:kK g E fr H0 B D o):cq g c E fr H0 B H S D o:=by
 cases o with
 |nx t=>exact λσ' H' S' ss _=>h σ' H' ss.same
 |rt d=>exact h
 |ex k=>exact h
 |bk t=>exact h.elim
 |ct t=>exact h.elim
 |no=>exact h.elim
noncomputable def uB(w:W)(g:Gc)(c:Cc)(E:XK)(fr:Bool)(s:Ss):TS:=λD σ H=>∃H0 B τ S,SS g c H0 B τ σ H S/\kK g E fr H0 B D (qi w s τ)
theorem yJ(hn:n<=100000)(O:XS w g c E X){x:List Stmt}{ir:Ss}(h:ji n c fr x=some ir):PSs X x (uB w g c E fr ir):=
 PSs.imp ((pQ n hn).ss O h) λD σ H ⟨H0,B,τ,S,ss,z⟩=>⟨H0,B,τ,S,ss,z.out⟩
end
noncomputable def GM0(p:Pr)(g:Gc)(mg:Str->Option ae)(x:Str):GK->Prop
 | .fn _=>∃f,g.fnA x=some f
 | .val=>∃u v d,mg x=some u/\RelV v u/\p.glb x=some d/\∀H,Rep g H d v
 | .bi b=>mg x=none/\x=b1N b/\∃id,b1V b=.builtin id
 | .rng=>mg x=none/\x = "range"
 | .enum=>mg x=none/\x = "enumerate"
 | .zip=>mg x=none/\x = "zip"
 | .isi=>mg x=none/\x = "isinstance"
 | .ty n b=>mg x=none/\bO x=some (.type n)/\(n∈["int","bool","str","list","tuple"]\/n = "ValueError")/\∀b',b=some b'->x=b1N b'/\b1V b'=.type n
 | .exc=>∃C,mg x=some (.ref C)/\g.clA x=some C/\mL g.K C
 | .exk=>∃C,mg x=some (.ref C)/\g.clA x=some C
 | .set=>mg x=none/\bO x=some (.type "set")
 | .rvd=>mg x=none/\x = "reversed"
structure Ground(p:Pr)(g:Gc)(G GH GU:List (Str×GK))(mg:Str->Option ae):Prop where
 fn:∀x f,g.fnA x=some f->∃st own fr fd fnn,p.fns x=some fnn/\cFn G GH own fr st=some fnn/\Fun g.K x x st f fd/\Binds g.K fd (argNames (zp st)) []/\cB g.K (.ref f)=true/\mg x=some (.ref f)/\G.lookup x=some (.fn fr)
 gl:∀x k,G.lookup x=some k->GM0 p g mg x k
 gu:∀x k,GU.lookup x=some k->(∀fr,k≠.fn fr)/\k≠.exc/\GM0 p g mg x k
 gh:∀x k,GH.lookup x=some k->GU.lookup x=some k
 sub:∀k cl b,p.sub k cl=some b->∃C cv,g.clA k=some C/\kn g.K C/\cb g.K (.ref C) cv=some b/\match cl with
  | .ty n=>n = "ValueError"/\cv=.type n
  | .ex x=>∃D,g.clA x=some D/\cv=.ref D
 cat:∀k x,p.cat k x=true->∀C D,g.clA k=some C->g.clA x=some D->PySem.W.exmOne g.K (.ref C) (.ref D)=some true
abbrev wAt(p:Pr)(k:Nat):W:=⟨qf p k,p.glb,p.sub,p.cat⟩
theorem xT{N ps:List Str}{sc:a9}(h:jt N ps sc=true):g9 N ps sc:=by
 unfold jt at h;simp only[aM,beq_iff_eq,bG,decide_eq_true_eq,dC,bL,bne_iff_ne,ne_eq]at h;obtain⟨⟨⟨⟨⟨⟨h1,h2⟩,h3⟩,h4⟩,h5⟩,h6⟩,h7⟩:=h;exact⟨h1,h2,h3,h4,h5,h6,h7⟩
theorem vh{G GH:List (Str×GK)}{own:List Str}{fr:Bool}{st:Stmt}{fnn:Fn}(h:cFn G GH own fr st=some fnn):jt (h9 (zp st) (zo st)) (argNames (zp st)) (zo st)=true/\(argNames (zp st)).any own.contains=false /\
  ∃b,ji j8 ⟨(zo st).names,h9 (zp st) (zo st),own,G,true,true,false,GH,[],false⟩ fr (dU st)=some b/\fnn=⟨(argNames (zp st)).length,(h9 (zp st) (zo st)).length,fr,b⟩:=by
 unfold cFn at h;dsimp only at h;split at h
 ·cases h
 ·rename_i hc
  simp only[bL,bG,not_or,Bool.not_eq_false,Bool.not_eq_true]at hc;simp only[aI,aH,b8]at h;obtain⟨b,h1,h2⟩:=h;exact⟨hc.1,hc.2,b,h1,h2.symm⟩
section
variable{P:aA}{w:av}{K:aC}{mg:Str->Option ae}{base:Heap}{N:List Str}{qual:Str}{scope:a9}{f:Addr}{cd:ae}{A:az}{outer:List PySem.Env}{s₀:af}{H₀:Hp}{E:XK}
end
theorem GM0.gm{p:Pr}{g:Gc}{mg:Str->Option ae}{x:Str}{k:GK}{P:aA}{wl:av}{base:Heap}{A:az}{calm:Bool}{n:Nat}(h:GM0 p g mg x k)(hf:∀fr,k≠.fn fr):GM (wAt p n) g P wl mg base A calm x k:=by
 cases k with
 |fn fr'=>exact absurd rfl (hf fr')
 |exc=>obtain⟨C,h1,h2,_⟩:=h;exact⟨C,h1,h2⟩
 |val=>exact h
 |bi b=>exact h
 |rng=>exact h
 |enum=>exact h
 |zip=>exact h
 |isi=>exact h
 |ty n b=>exact h
 |exk=>exact h
 |set=>exact h
 |rvd=>exact h
theorem r9{w:W}{g:Gc}{c:Cc}{E:XK}{X:Cx}{N ps own:List Str}{sc:a9}{fr:Bool}{body:List Stmt}{b:Ss}(hcN:c.N=N)(hco:c.own=own)(hcz:c.frz=false)(FS:g9 N ps sc)(c2:ps.any own.contains=false)(c3:ji j8 c fr body=some b)
  (O:XS w g c E X) {vs:List V}{ds:List D}{B:Sh}{H:Hp}{Q:VK} (hB:Sub B H) (rv:qV g (hid H B) ds vs) (hl:ds.length=ps.length)
  (h:tR g E H (match qi w b (ds.map some++aX (N.length-ps.length) none)with
   | .nx _=>if fr then .no else .ok .non
   | .rt d=>.ok d
   | .ex c=>.ex c
   |_=>.no) (λd=>∀v H',qa H H'->Rep g (hid H' B) d v->(fr=true->zu d=true->Fr g H B H' d v)->Q v H')) :
  ∃t,PSs X body t/\t {nx:=λ_ H'=>Q .non H',rt:=Q} (start N vs) H:=by
 have hNl:ps.length<=N.length:=by have:=congrArg List.length FS.pre;rw[b_]at this;lia
 refine⟨_,yJ (by decide) O c3,H,B,ds.map some++aX (N.length-ps.length) none,⟨λ_=>false,B.h,B.z,B.y⟩,?_,?_⟩
 ·-- at the start
  have hh:hid H ⟨λ_=>false,B.h,B.z,B.y⟩=hid H B:=rfl;have hvl:=rv.length;have par:∀i d,(ds.map some++aX (N.length-ps.length) none)[i]? = some (some d)->i<ps.length/\ds[i]? = some d:=λi d hi=>by
   by_cases hlt:i<ds.length
   ·rw[List.getElem?_append_left (by simpa using hlt),List.getElem?_map]at hi;refine⟨by lia,?_⟩;cases q:ds[i]? with
    |none=>rw[q]at hi;cases hi
    |some e=>rw[q]at hi;simpa using hi
   ·rw[List.getElem?_append_right (by simpa using hlt)]at hi;rw[List.getElem?_replicate]at hi;split at hi<;>cases hi
  have noOwn:∀i d,zz c i->(ds.map some++aX (N.length-ps.length) none)[i]? = some (some d)->False:=λi d ⟨y,h1,h2⟩ hi=>by
   obtain⟨hlt,_⟩:=par i d hi;rw[hcN]at h1;rw[hco]at h2;have:N.take ps.length=ps:=FS.pre;have hy:ps[i]? = some y:=by
    rw[<-this,List.getElem?_take,if_pos hlt];exact h1
   have:=List.any_eq_false.mp c2 y (List.mem_of_getElem? hy);exact this h2
  refine⟨⟨by simp[L2.start];lia,λi d hi=>?_,λa ha=>?_⟩,by simp[hcN];lia,qa.refl _,hB,(λa=>by simp),(λa ha=>by cases ha),(λi d ho hi=>(noOwn i d ho hi).elim),λi j d e a ho _ hi _ _ _=>(noOwn i d ho hi).elim,λz=>by rw[hcz]at z;cases z⟩
  ·obtain⟨hlt,hd⟩:=par i d hi;obtain⟨v,h1,h2⟩:=rv.get hd;have hlt':i<vs.length:=by lia
   refine⟨v,?_,.inl h2,λ_ _ _=>h2⟩;unfold L2.start;rw[List.getElem?_append_left (by simpa using hlt'),List.getElem?_map,h1]
   rfl
  ·refine hB a ?_;rcases ha with ha|ha
   ·exact .inl ha
   ·cases ha
 ·-- at the end
  cases q:qi w b (ds.map some++aX (N.length-ps.length) none)with
  |nx τ'=>
   rw[q]at h;simp only at h;cases fr with
   |true=>exact h.elim
   |false=>exact λσ' H' hs=>h .non H' hs .non (by intro z;cases z)
  |rt d=>rw[q]at h;exact h
  |ex z=>rw[q]at h;exact h
  |bk z=>rw[q]at h;exact h.elim
  |ct z=>rw[q]at h;exact h.elim
  |no=>rw[q]at h;exact h.elim
section
variable{p:Pr}{g:Gc}{G GH GU:List (Str×GK)}{mg:Str->Option ae}{P:aA}{wl:av}{base:Heap}
theorem Ground.ok(T:Ground p g G GH GU mg):∀(k:Nat) (x:Str) (f:Addr) (st:Stmt) (own:List Str) (fr:Bool) (fd:FuncData) (fnn:Fn),p.fns x=some fnn->cFn G GH own fr st=some fnn->Fun g.K x x st f fd ->
  fm P wl g.K mg base (CX1 P wl) k f fd (argNames (zp st)) (spF (wAt p k) g x fr)
 | 0,x,f,st,own,fr,fd,fnn,_,_,_=>⟨λvs H Q E ⟨S,ds,_,_,h⟩=>h.elim,λA outer s H args us vs Q E _ _ _ _ ⟨S,ds,_,_,h⟩=>h.elim⟩
 |k+1,x,f,st,own,fr,fd,fnn,hf,hc,F=>by
  obtain⟨c1,c2,b,c3,rfl⟩:=vh hc;have FS:=xT c1;generalize hN:h9 (zp st) (zo st)=N at *;generalize hps:argNames (zp st)=ps at *;have call:∀ds,qf p (k+1) x ds=cM (wAt p k) ⟨ps.length,N.length,fr,b⟩ ds:=λds=>by simp only[qf,hf]
  have lenOf:∀vs H Q E,spF (wAt p (k+1)) g x fr vs H Q E->vs.length=ps.length:=λvs H Q E ⟨S,ds,_,r,h⟩=>by
   have h:tR g E H (qf p (k+1) x ds) _:=h;rw[call]at h;unfold cM at h;by_cases hl:ds.length=ps.length
   ·rw[<-r.length];exact hl
   ·rw[if_neg hl]at h;exact h.elim
  refine F.ok1 FS lenOf λcdv A outer s H vs Q E hr hsp=>?_
  obtain⟨B,ds,hB,rv,h⟩:=hsp;have h:tR g E H (qf p (k+1) x ds) (λd=>∀v H',qa H H'->Rep g (hid H' B) d v->(fr=true->zu d=true->Fr g H B H' d v)->Q v H'):=h;rw[call]at h;unfold cM at h;by_cases hl:ds.length=ps.length
  ·rw[if_pos hl]at h
   -- the ground of the body
   have calls:∀y fy,g.fnA y=some fy->∃fry,G.lookup y=some (.fn fry)/\iF (wAt p k) g P wl mg base (A.deeper (envOfC x (zo st) s.heap.objs.size f cdv)) true y fy fry:=λy fy hy=>by
    obtain⟨sty,owny,fry,fdy,fny,z1,z2,z3,z4,z5,z6,z7⟩:=T.fn y fy hy;exact⟨fry,z7,z6,z5,k,fdy,_,z4,.inl ⟨rfl,Ground.ok T k y fy sty owny fry fdy fny z1 z2 z3,hr⟩⟩
   have O:XS (wAt p k) g ⟨(zo st).names,N,own,G,true,true,false,GH,[],false⟩ E (eP (CX1 P wl) P wl g.K mg base N x (zo st) f cdv A outer s H E):=by
    refine⟨⟨rfl,rfl,rfl,FS.nd,λ_=>rfl,hr.units,λ_ _=>rfl,FS.kind,xK,λy ky hy=>?_,λ_ y fy hy=>?_,T.sub⟩,(λz=>by cases z),λy C hy hC=>?_,T.cat,⟨rfl,rfl,rfl⟩,λy ky hy=>?_⟩
    ·have:=T.gl y ky hy;by_cases hf:∃fr,ky=.fn fr
     ·obtain⟨fr',rfl⟩:=hf;obtain⟨fy,h1⟩:=this;obtain⟨fry,h2,h3⟩:=calls y fy h1;have hy:G.lookup y=some (.fn fr'):=hy;rw[hy]at h2;cases h2;exact⟨fy,h1,h3⟩
     ·exact this.gm λfr z=>hf ⟨fr,z⟩
    ·obtain⟨fry,_,h3⟩:=calls y fy hy;exact⟨fry,h3⟩
    ·obtain⟨C',_,h2,h3⟩:=T.gl y .exc hy;rw[h2]at hC;cases hC;exact h3
    ·obtain⟨u1,u2,u3⟩:=T.gu y ky (T.gh y ky hy);exact⟨u2,λv=>u3.gm u1⟩
   exact r9 rfl rfl rfl FS c2 c3 O hB rv hl h
  ·rw[if_neg hl]at h;exact h.elim
end
end EV
namespace WB
open PySem PySem.Spec PyProof.Rows L2
structure Dd(K:aC)(n:Str)(st:Stmt)(f:Addr):Prop where
 a:aJ K aE n=some (some (.ref f))
 l:∃oc od an sl kV dc pm cd ct,K.lookup f=some ⟨oc,od,.func (cf n n (zp st) (dU st) (zo st) .none kV dc pm an cd ct),sl⟩/\PySem.W.codeIn K cd n=true
 k:cB K (.ref f)=true
theorem de{K:aC}{n:Str}{st:Stmt}{f:Addr}{od an:Option Addr}{sl:Array (Option ae)}{oc kV dc pm cd ct:ae}(a:aJ K aE n=some (some (.ref f)))
  (l:K.lookup f=some ⟨oc,od,.func (cf n n (zp st) (dU st) (zo st) .none kV dc pm an cd ct),sl⟩) (c:PySem.W.codeIn K cd n=true) (k:cB K (.ref f)=true):Dd K n st f:=
 ⟨a,⟨oc,od,an,sl,kV,dc,pm,cd,ct,l,c⟩,k⟩
theorem Dd.fn{K:aC}{n:Str}{st:Stmt}{f:Addr}(d:Dd K n st f):∃fd,Fun K n n st f fd:=by
 obtain⟨oc,od,an,sl,kV,dc,pm,cd,ct,l,c⟩:=d.l;exact⟨_,oE (st:=st) l c d.k⟩
theorem lX{us:List ae}(h:us.length=1):∃a,us=[a]:=List.length_eq_one_iff.mp h
theorem oF{n:Nat}{us:List ae}(h:us.length=n+1):∃a r,us=a::r/\r.length=n:=by
 cases us with
 |nil=>cases h
 |cons a r=>exact⟨a,r,rfl,Nat.succ.inj h⟩
theorem mm{us:List ae}(h:us.length=2):∃a b,us=[a,b]:=by
 obtain⟨a,r,e,h⟩:=oF h;obtain⟨b,q⟩:=lX h;subst q;exact⟨a,b,e⟩
theorem ui{us:List ae}(h:us.length=3):∃a b c,us=[a,b,c]:=by
 obtain⟨a,r,e,h⟩:=oF h;obtain⟨b,c,q⟩:=mm h;subst q;exact⟨a,b,c,e⟩
structure Dk(K:aC)(n:Str)(D:Addr):Prop where
 a:aJ K aE n=some (some (.ref D))
 c:∃x,PySem.W.clsIn K D=some x
 t:PySem.W.typeIn K (.ref D)=some (.type "type")
end WB
namespace EV
open PySem PySem.Spec PySem.P PyProof.Rows L2
structure Ent where
 x:Str
 st:Stmt
 own:List Str
 fr:Bool
 fn:Fn
noncomputable def prT(tab:List Ent)(vals:List (Str×D))(cJ:List (Str×Str))(subs:List ((Str×Cl)×Bool):=[]):Pr:=⟨λx=>(tab.find? (·.x==x)).map (·.fn),λx=>vals.lookup x,λk c=>subs.lookup (k,c),λk x=>cJ.contains (k,x)⟩
noncomputable def unx:GK->GK
 | .exc=>.exk
 |k=>k
noncomputable def eQ(oth:List (Str×GK)):List (Str×GK):=oth.map λy=>(y.1,unx y.2)
noncomputable def fS(us:List Ent)(oth:List (Str×GK)):List (Str×GK):=us.map (λe=>(e.x,GK.fn e.fr))++eQ oth
theorem m_{x:Str}{k:GK}:∀{oth:List (Str×GK)},(eQ oth).lookup x=some k->∃k0,oth.lookup x=some k0/\k=unx k0
 | [],h=>by cases h
 | (y,k1)::r,h=>by
  have h:List.lookup x ((y,unx k1)::eQ r)=some k:=h;rw[bC]at h;split at h
  ·rename_i q;cases h;exact⟨k1,by rw[bC,q],rfl⟩
  ·rename_i q
   obtain⟨k0,h1,h2⟩:=m_ h;exact⟨k0,by rw[bC,q];exact h1,h2⟩
theorem oO{x:Str}{k:GK}{oth:List (Str×GK)}:∀{us:List Ent},(fS us oth).lookup x=some k->(∃e∈us,e.x=x/\k=.fn e.fr)\/(eQ oth).lookup x=some k
 | [],h=>.inr h
 |a::r,h=>by
  have h:List.lookup x ((a.x,GK.fn a.fr)::fS r oth)=some k:=h;rw[bC]at h;split at h
  ·rename_i q;cases h;exact .inl ⟨a,a8,(eq_of_beq q).symm,rfl⟩
  ·rcases oO h with ⟨e,h1,h2⟩|h1
   ·exact .inl ⟨e,aV _ h1,h2⟩
   ·exact .inr h1
noncomputable def eh(K:aC)(ns:List Str)(x:Str):Option Addr:=if ns.contains x then (match aJ K aE x with
 |some (some (.ref f))=>some f
 |_=>none)else none
noncomputable def gOf(K:aC)(fns cls:List Str):Gc:=⟨K,eh K fns,eh K cls⟩
theorem gI{K:aC}{ns:List Str}{x:Str}{f:Addr}(h:aJ K aE x=some (some (.ref f)))(hx:ns.contains x=true):eh K ns x=some f:=by
 unfold eh;rw[if_pos hx,h]
theorem jI{K:aC}{ns:List Str}{x:Str}{f:Addr}(h:eh K ns x=some f):ns.contains x=true/\aJ K aE x=some (some (.ref f)):=by
 unfold eh at h;split at h
 ·rename_i hx
  split at h
  ·rename_i q;cases h;exact⟨hx,q⟩
  ·cases h
 ·cases h
noncomputable def Bnd(e:Ent):Prop:=∀(kV doc pm:ae) (an:Option Addr) (cdv ct:ae) (us:List ae),us.length=(argNames (zp e.st)).length->bindArgs (cf e.x e.x (zp e.st) (dU e.st) (zo e.st) .none kV doc pm an cdv ct) ⟨us,[]⟩=pure ((argNames (zp e.st)).zip us)
structure gO(K:aC)(G:List (Str×GK))(e:Ent):Prop where
 dd:∃f,WB.Dd K e.x e.st f
 bnd:Bnd e
noncomputable def rh(K:aC)(vals:List (Str×D))(x:Str):GK->Prop
 | .fn _=>True
 | .val=>∃u v d,aJ K aE x=some (some u)/\RelV v u/\vals.lookup x=some d/\∀g H,g.K=K->Rep g H d v
 | .bi b=>aJ K aE x=some none/\x=b1N b/\∃id,b1V b=.builtin id
 | .rng=>aJ K aE x=some none/\x = "range"
 | .enum=>aJ K aE x=some none/\x = "enumerate"
 | .zip=>aJ K aE x=some none/\x = "zip"
 | .isi=>aJ K aE x=some none/\x = "isinstance"
 | .ty n b=>aJ K aE x=some none/\bO x=some (.type n)/\(n∈["int","bool","str","list","tuple"]\/n = "ValueError")/\∀b',b=some b'->x=b1N b'/\b1V b'=.type n
 | .exc=>∃C,aJ K aE x=some (some (.ref C))/\PySem.W.excIn K C jf "ValueError.__new__" = true
 | .exk=>∃C,aJ K aE x=some (some (.ref C))
 | .set=>aJ K aE x=some none/\bO x=some (.type "set")
 | .rvd=>aJ K aE x=some none/\x = "reversed"
noncomputable def mG(K:aC)(cls:List Str)(y:(Str×Cl)×Bool):Prop:=∃C cv,cls.contains y.1.1=true/\aJ K aE y.1.1=some (some (.ref C))/\kn K C/\cb K (.ref C) cv=some y.2/\match y.1.2 with
 | .ty n=>n = "ValueError"/\cv=.type n
 | .ex x=>∃D,cls.contains x=true/\aJ K aE x=some (some (.ref D))/\cv=.ref D
theorem mC{α β:Type} [BEq α] [LawfulBEq α]{a:α}{b:β}:∀{l:List (α×β)},l.lookup a=some b->(a,b)∈l
 | (c,d)::r,h=>by
  rw[bC]at h;split at h
  ·rename_i q;cases h;rw[eq_of_beq q];exact a8
  ·exact aV _ (mC h)
theorem oh{tab:List Ent}{e:Ent}(hn:(tab.map (·.x)).Nodup)(he:e∈tab):tab.find? (·.x==e.x)=some e:=by
 induction tab with
 |nil=>simp at he
 |cons a r ih=>
  simp only[a5,List.nodup_cons]at hn;rw[List.find?_cons];rcases aN.mp he with rfl|h
  ·simp
  ·have:(a.x==e.x)=false:=by
    cases q:a.x==e.x with
    |false=>rfl
    |true=>
     have:=eq_of_beq q;exact absurd (this▸bt.mpr ⟨e,h,rfl⟩) hn.1
   rw[this];exact ih hn.2 h
theorem yM{K:aC}{h:Heap}{mg:Str->Option ae}(X:K.In h)(N:h.Ns aE mg){tab:List Ent}{oth G:List (Str×GK)}{vals:List (Str×D)}(hG:G=tab.map (λe=>(e.x,GK.fn e.fr))++oth)
  (hnd:(tab.map (·.x)).Nodup) (ho:∀x k,oth.lookup x=some k->rh K vals x k) (hof:∀x fr,oth.lookup x≠some (.fn fr)) {us:List Ent} (hus:∀e∈us,e∈tab) (hcu:∀e∈us,nj (eQ oth) e.own e.fr e.st=some e.fn) (hc:∀e∈tab,cFn G (fS us oth) e.own e.fr e.st=some e.fn) (he:∀e∈tab,gO K G e) (cls:List Str) {cJ:List (Str×Str)} (hcat:∀y∈cJ,∃C D,aJ K aE y.1=some (some (.ref C))/\aJ K aE y.2=some (some (.ref D))/\PySem.W.exmOne K (.ref C) (.ref D)=some true) (hcl:∀x,(oth.lookup x=some .exc\/oth.lookup x=some .exk)->cls.contains x=true)
  {subs:List ((Str×Cl)×Bool)} (hsub:∀y∈subs,mG K cls y) :
  Ground (prT tab vals cJ subs) (gOf K (tab.map (·.x)) cls) G (fS us oth) (eQ oth) mg:=by
 have lk:∀x k,G.lookup x=some k->(∃e∈tab,e.x=x/\k=.fn e.fr)\/oth.lookup x=some k:=by
  subst hG;clear hnd hc he hus
  induction tab with
  |nil=>intro x k hx;exact .inr hx
  |cons a r ih=>
   intro x k hx;simp only[a5,List.cons_append,bC]at hx;split at hx
   ·rename_i q;cases hx;exact .inl ⟨a,a8,(eq_of_beq q).symm,rfl⟩
   ·rcases ih x k hx with ⟨e,h1,h2⟩|h1
    ·exact .inl ⟨e,aV _ h1,h2⟩
    ·exact .inr h1
 have lkE:∀e∈tab,G.lookup e.x=some (.fn e.fr):=by
  subst hG;clear hc he lk hus
  induction tab with
  |nil=>intro e h;simp at h
  |cons a r ih=>
   intro e hm;simp only[a5,List.nodup_cons]at hnd;simp only[a5,List.cons_append,bC];rcases aN.mp hm with rfl|hm
   ·rw[beq_self_eq_true]
   ·have:(e.x==a.x)=false:=by
     cases q:e.x==a.x with
     |false=>rfl
     |true=>exact absurd ((eq_of_beq q)▸bt.mpr ⟨e,hm,rfl⟩) hnd.1
    rw[this];exact ih hnd.2 e hm
 have hca:∀k x,cJ.contains (k,x)=true->∀C D,eh K cls k=some C->eh K cls x=some D->PySem.W.exmOne K (.ref C) (.ref D)=some true:=λk x z C D h1 h2=>by
  obtain⟨C',D',e1,e2,e3⟩:=hcat (k,x) (by simpa using z);have a1:=(jI h1).2;have a2:=(jI h2).2;rw[e1]at a1;rw[e2]at a2;cases a1;cases a2;exact e3
 have fnd:∀e∈tab,∃f fd,eh K (tab.map (·.x)) e.x=some f/\Fun K e.x e.x e.st f fd/\Binds K fd (argNames (zp e.st)) []/\cB K (.ref f)=true/\mg e.x=some (.ref f):=λe hm=>by
  obtain⟨⟨f',d⟩,hb⟩:=he e hm;obtain⟨fd,F⟩:=d.fn;exact⟨f',fd,gI d.a (by simpa using bt.mpr ⟨e,hm,rfl⟩),F,F.binds hb,d.k,PySem.W.mg_of X N d.a⟩
 have fne:∀e∈tab,(prT tab vals cJ subs).fns e.x=some e.fn:=λe hm=>by show (tab.find? (·.x==e.x)).map (·.fn)=_;rw[oh hnd hm];rfl
 have gl:∀x k,oth.lookup x=some k->GM0 (prT tab vals cJ subs) (gOf K (tab.map (·.x)) cls) mg x k:=λx k hk=>by
  have:=ho x k hk;cases k with
  |fn fr=>exact absurd hk (hof x fr)
  |val=>obtain⟨u,v,d,h1,h2,h3,h4⟩:=this;exact⟨u,v,d,PySem.W.mg_of X N h1,h2,h3,λH=>h4 _ H rfl⟩
  |bi b=>exact⟨dh X N this.1,this.2⟩
  |rng=>exact⟨dh X N this.1,this.2⟩
  |enum=>exact⟨dh X N this.1,this.2⟩
  |zip=>exact⟨dh X N this.1,this.2⟩
  |isi=>exact⟨dh X N this.1,this.2⟩
  |ty n b=>exact⟨dh X N this.1,this.2⟩
  |exc=>obtain⟨C,h1,h2⟩:=this;exact⟨C,PySem.W.mg_of X N h1,gI h1 (hcl x (.inl hk)),h2⟩
  |exk=>obtain⟨C,h1⟩:=this;exact⟨C,PySem.W.mg_of X N h1,gI h1 (hcl x (.inr hk))⟩
  |set=>exact⟨dh X N this.1,this.2⟩
  |rvd=>exact⟨dh X N this.1,this.2⟩
 refine⟨λx f hf=>?_,λx k hx=>?_,λx k hx=>?_,λx k hx=>?_,λk cl b z=>?_,hca⟩
 ·obtain⟨h1,h2⟩:=jI hf;obtain⟨e,hm,rfl⟩:=bt.mp (by simpa using h1:x∈tab.map (·.x));obtain⟨f',fd,z1,z2,z3,z4,z5⟩:=fnd e hm;have hf:eh K (tab.map (·.x)) e.x=some f:=hf;rw[hf]at z1;cases z1;exact⟨e.st,e.own,e.fr,fd,e.fn,fne e hm,hc e hm,z2,z3,z4,z5,lkE e hm⟩
 ·rcases lk x k hx with ⟨e,hm,rfl,rfl⟩|hk
  ·obtain⟨f',fd,z1,_⟩:=fnd e hm;exact⟨f',z1⟩
  ·exact gl x k hk
 ·obtain⟨k0,h1,rfl⟩:=m_ hx;have:=gl x k0 h1;cases k0 with
  |fn fr=>exact absurd h1 (hof x fr)
  |exc=>obtain⟨C,z1,z2,_⟩:=this;exact⟨by simp[unx],by simp[unx],⟨C,z1,z2⟩⟩
  |_=>exact⟨by simp[unx],by simp[unx],this⟩
 ·rcases oO hx with ⟨e,hm,rfl,rfl⟩|hk
  ·have:=hcu e hm;cases this
  ·exact hk
 ·have z:subs.lookup (k,cl)=some b:=z;obtain⟨C,cv,h0,h1,h2,h3,h4⟩:=hsub _ (mC z);refine⟨C,cv,gI h1 h0,h2,h3,?_⟩;cases cl with
  |ty n=>exact h4
  |ex x=>obtain⟨D,d0,d1,d2⟩:=h4;exact⟨D,gI d1 d0,d2⟩
theorem xh{l:PySem.W.OpenLaw}{q:aA}{loose:List Str}{XP:(Str->Option ae)->Heap->Prop}{YP:av->Heap->Prop}{d:DefRec}{K:Params->aC}{tab:List Ent}{G:List (Str×GK)}{vals:List (Str×D)}{cls:List Str}{cJ:List (Str×Str)}{subs:List ((Str×Cl)×Bool)}{GH GU:List (Str×GK)}{e:Ent}{k:Nat}
  (hn:l.most=some 63) (hdf:d.params.defaults=[]) (hd:d.name=e.x) (hr:ck k callerA) (hY:∀(w:av) (h:Heap),YP w h->(K w.params).In h) (hm:e∈tab) (hnd:(tab.map (·.x)).Nodup) (hx:e.x = "law") (hfr:e.fr=false) (hp:argNames (zp e.st)=[("_law_script" : Str)])
  (hG:∀(w:av) (mg:Str->Option ae) (h:Heap),(K w.params).In h->h.Ns aE mg->Ground (prT tab vals cJ subs) (gOf (K w.params) (tab.map (·.x)) cls) G GH GU mg/\gO (K w.params) G e) (hc:cFn G GH e.own e.fr e.st=some e.fn)
  (hlaw:∀ns:List Int,ns.length<=63->qf (prT tab vals cJ subs) k "law" [.lst (ns.map D.int)]=.ok (.bl true)) :
  PySem.W.WalkO q loose XP YP l.row.toRowW d [] (λf vs=>PySem.call f vs):=by
 refine L2.rQ (n:=63) (k:=k) (x:="_law_script") (CX:=λw=>CX1 l.prog w) (sp:=λw=>spF (wAt (prT tab vals cJ subs) k) (gOf (K w.params) (tab.map (·.x)) cls) "law" false) hn (by decide) hdf hr hY (λw mg fa h KX N hfa=>?_) (λw H a ns hl _ hS=>?_) λw H s e s' z=>?_
 ·obtain⟨T,⟨f,dd⟩,hb⟩:=hG w mg h KX N;have e1:=hfa.symm.trans (hd▸PySem.W.mg_of KX N dd.a);cases e1;obtain⟨oc,od,an,sl,kV,dc,pm,cd,ct,lk,hcd⟩:=dd.l;refine⟨cf e.x e.x (zp e.st) (dU e.st) (zo e.st) .none kV dc pm an cd ct,λs u=>.of_eq ?_,λbase _ _=>?_⟩
  ·have:=hb kV dc pm an cd ct [u] (by rw[hp];rfl);rw[hp]at this;exact this
  ·have:=T.ok (P:=l.prog) (wl:=w) (base:=base) k e.x fa e.st e.own e.fr _ e.fn (by show (tab.find? (·.x==e.x)).map (·.fn)=_;rw[oh hnd hm];rfl) hc (oE (st:=e.st) lk hcd dd.k);rw[hp,hx,hfr]at this;rw[hx];exact this
 ·refine⟨⟨λ_=>false,λ_=>false,[],λ_=>none⟩,[.lst (ns.map D.int)],(λa z=>by rcases z with z|z<;>cases z),.cons (.lst (xs:=ns.map V.int) ?_ (qV.ofInts _)) .nil,?_⟩
  ·have:hid H ⟨λ_=>false,λ_=>false,[],λ_=>none⟩=H:=by funext b;unfold hid;rw[if_neg (by simp)]
   rw[this];exact hS
  ·show tR _ _ _ (qf (prT tab vals cJ subs) k "law" [.lst (ns.map D.int)]) _;rw[hlaw ns hl];intro v H' _ r _;cases r;rfl
 ·obtain⟨_,_,_,_,_,_,_,_,_,z⟩:=z;exact z
end EV
namespace KG
open EV
open PySem (Str)
open L2 (atI ixN ltP)
abbrev prD:Int×Int->D:=EV.pairD
theorem zF{w:W}{f:Fn}{ds:List D}{d:D}{τ:Env}(hl:ds.length=f.ps)(hτ:ds.map some++aX (f.N-f.ps) none=τ)(h:qi w f.body τ=.rt d):cM w f ds=.ok d:=by
 rw[cM,if_pos hl,hτ,h]
theorem nC{w:W}{s:S}{r:Ss}{τ σ:Env}{o:O}(h:evS w s τ=.nx σ)(h':qi w r σ=o):qi w (.cons s r) τ=o:=by rw[qi,h];exact h'
theorem h_{w:W}{it:It}{cap:List (Option Nat)}{t:T}{elt:E}{τ c:Env}{ds:List D}{g:D->List D}(h:evI w it τ=.ok ds)(hz:ds.length<=SZ)(hc:eM cap τ=none::none::c)
  (hb:∀x∈ds,((evT w t (none::some x::c)).bind λr=>if r then (evE w elt (none::some x::c)).bind λd=>.ok [d]else .ok [])=.ok (g x)):evE w (.comp it cap (.nm 1) t elt) τ=.ok (.lst (ds.flatMap g)):=by
 have key:∀(l:List D) (v:Option D) (acc:List D),(∀x∈l,x∈ds)->cn (λx σ=>noEx ((store (.nm 1) x σ).bind λσ'=>(evT w t σ').bind λr=>if r then (evE w elt σ').bind λd=>.ok (σ',[d])else .ok (σ',[]))) l (none::v::c) acc=.ok (acc++l.flatMap g):=by
  intro l
  induction l with
  |nil=>intro v acc _;simp[cn]
  |cons x r ih=>
   intro v acc hm;have q:=hb x (hm x a8);rw[cn];have e:noEx ((store (.nm 1) x (none::v::c)).bind λσ'=>(evT w t σ').bind λr=>if r then (evE w elt σ').bind λd=>.ok (σ',[d])else .ok (σ',[]))=.ok (none::some x::c,g x):=by
    simp only[store,R.bind_ok,List.set_cons_succ,List.set_cons_zero];cases ht:evT w t (none::some x::c)with
    |ok b=>
     rw[ht]at q;simp only[R.bind_ok]at q ⊢;cases b
     ·simp at q ⊢;rw[<-q];rfl
     ·simp only[if_true]at q ⊢;cases he:evE w elt (none::some x::c)with
      |ok d=>rw[he]at q;simp only[R.bind_ok,R.ok.injEq]at q ⊢;rw[<-q];rfl
      |ex=>rw[he]at q;cases q
      |no=>rw[he]at q;cases q
    |ex=>rw[ht]at q;cases q
    |no=>rw[ht]at q;cases q
   rw[e];simp only[R.bind_ok];rw[ih (some x) _ λy hy=>hm y (aV _ hy),List.flatMap_cons,bx]
 rw[qo,h];simp only[R.bind_ok];rw[if_neg (by lia),hc,key ds none [] λ_ h=>h]
 rfl
theorem Ds{w:W}{i:Int}:cW w (.int i) (.ty "int")=.ok (.bl true):=rfl
theorem tP{w:W}{i:Int}:cW w (.int i) (.ty "bool")=.ok (.bl false):=rfl
theorem yu{w:W}{i:List D}:cW w (.tup i) (.ty "tuple")=.ok (.bl true):=rfl
theorem Dl{w:W}{i:List D}:cW w (.tup i) (.ty "bool")=.ok (.bl false)/\cW w (.tup i) (.ty "int")=.ok (.bl false)/\cW w (.tup i) (.ty "str")=.ok (.bl false)/\cW w (.tup i) (.ty "list")=.ok (.bl false):=⟨rfl,rfl,rfl,rfl⟩
theorem CY{w:W}{i:Bool}:cW w (.bl i) (.ty "bool")=.ok (.bl true):=rfl
theorem tG(t:Int×Int):(prD t).asks=true:=rfl
theorem gA:∀ns:List Int,plainAll (ns.map D.int)=true
 | []=>rfl
 |_::r=>gA r
theorem h8:∀ns:List Int,dO (ns.map D.int)=0
 | []=>rfl
 |_::r=>by show max 0 (dO _)=0;rw[h8 r];rfl
theorem p8(ns:List Int):(D.tup (ns.map D.int)).asks=true:=by
 simp[D.asks,D.plain,D.deep,gA,h8]
theorem gH:∀ns ms:List Int,eqvAll (ns.map D.int) (ms.map D.int)=decide (ns=ms)
 | [],[]=>rfl
 | [],_::_=>rfl
 |_::_,[]=>rfl
 |a::r,b::t=>by
  show (a==b&&eqvAll (r.map D.int) (t.map D.int))=_;rw[gH r t];simp[Bool.decide_and]
  rfl
noncomputable def mn(a b:Int):Int:=if b<a then b else a
noncomputable def mx(a b:Int):Int:=if a<b then b else a
noncomputable def gX(ts:List (Int×Int))(a b:Int):Bool:=ts.any λt=>t.1==mn a b&&t.2==mx a b
theorem BP(ts:List (Int×Int))(u v:Int):qE .isin (.tup [.int u,.int v]) (.tup (ts.map prD))=.ok (ts.any λt=>t.1==u&&t.2==v):=by
 rw[qE];simp only[seq?];rw[if_pos (by simp only[aM,dC,bt];exact⟨rfl,λx ⟨t,_,e⟩=>e▸tG t⟩),inD,List.any_map]
 congr 2;funext t;show ((t.1==u)&&((t.2==v)&&true))=_;rw[Bool.and_true]
structure GW(m:Int)(ts:List (Int×Int)):Prop where
 lo:1<=m
 hi:m<=8
 lt:ts.Pairwise λs t=>ltP s t=true
 ok:∀t∈ts,0<=t.1/\t.1<t.2/\t.2<m
 len:ts.length<=28
structure GS(m:Int)(s:List Int):Prop where
 lt:s.Pairwise (· < ·)
 ok:∀i∈s,0<=i/\i<m
 len:s.length<=8
abbrev wb(m:Int)(ts:List (Int×Int)):D:=.tup [.int m,.tup (ts.map prD)]
abbrev tu(s:List Int):D:=.tup (s.map D.int)
theorem gG{xs:List D}{i:Nat}(h:i<xs.length):atI xs (i:Int)=some xs[i]:=by
 rw[atI,ixN,if_pos (by lia),if_pos (by lia)];simp[h]
theorem all_true(xs:List D):bools? (xs.flatMap λ_=>[.bl true])=some (aX xs.length true):=by
 induction xs with
 |nil=>rfl
 |cons x r ih=>show (bools? (r.flatMap λ_=>[.bl true])).map (true :: ·)=_;rw[ih];rfl
theorem Dg(n:Nat):(aX n true).all id=true:=by simp
theorem Aw{s t:Int×Int}(h:ltP s t=true):qE .lt (prD s) (prD t)=.ok true:=by
 show R.ok (du [s.1,s.2] [t.1,t.2])=_;rw[ltP]at h;simp only[du];by_cases e:s.1=t.1
 ·rw[if_pos e]at h ⊢;by_cases e2:s.2=t.2
  ·rw[e2]at h;simp at h
  ·rw[if_neg e2,h]
 ·rw[if_neg e]at h ⊢;rw[h]
noncomputable def rng(m:Int):List Int:=(a_ m.toNat).map λ(i:Nat)=>(i:Int)
theorem jb(m:Int):zE 0 m.toNat=(rng m).map D.int:=by
 rw[zE,rng,bN];simp
theorem x8(m:Int):(rng m).length=m.toNat:=by simp[rng]
theorem iq{m i:Int}:i∈rng m↔0<=i/\i<m:=by
 simp only[rng,bt,List.mem_range];constructor
 ·rintro⟨a,h,rfl⟩;lia
 ·intro h;exact⟨i.toNat,by lia,by lia⟩
theorem lK(m:Int):(rng m).Pairwise (· < ·):=by
 rw[rng,List.pairwise_map];exact List.pairwise_lt_range.imp λh=>by lia
theorem Ak(c:Int->Bool)(ns:List Int):(ns.map D.int).flatMap (λx=>match x with | .int i=>if c i then [D.int i]else []|_=>[])=(ns.filter c).map D.int:=by
 induction ns with
 |nil=>rfl
 |cons a r ih=>
  rw[a5,List.flatMap_cons,ih,List.filter_cons];show (if c a=true then [D.int a]else [])++_=_;cases c a<;>rfl
theorem yV(x y:Int)(h:0<y)(h':y<=2^64):small (x%y)=true:=by
 have a:=Int.emod_nonneg x (show y≠0 by lia);have b:=Int.emod_lt_of_pos x h;simp only[small,aM,decide_eq_true_eq];lia
noncomputable def st(c j:Int):Int:=
 ((((c%2147483647+977 * j+1) * 48271%2147483647) * ((c%2147483647+977 * j+1) * 48271%2147483647)%2147483629+40692 * (j+3)) * 69621%2147483647)/8
theorem GW.sub{m:Int}{ts ps:List (Int×Int)}(h:GW m ps)(s:ts.Sublist ps):GW m ts:=
 ⟨h.lo,h.hi,h.lt.sublist s,λt ht=>h.ok t (s.subset ht),bB s.length_le h.len⟩
theorem eq_int(a b:Int):qE .eq (.int a) (.int b)=.ok (decide (a=b)):=by
 show R.ok (a==b)=_;congr 1
theorem lt_int(a b:Int):qE .lt (.int a) (.int b)=.ok (decide (a<b)):=rfl
theorem ints_map(ns:List Int):ints? (ns.map D.int)=some ns:=by
 induction ns with
 |nil=>rfl
 |cons a r ih=>show (ints? (r.map D.int)).map (a :: ·)=_;rw[ih];rfl
noncomputable instance (m:Int) (ts:List (Int×Int)):Decidable (GW m ts):=
 decidable_of_iff (1<=m/\m<=8/\ts.Pairwise (λs t=>ltP s t=true)/\(∀t∈ts,0<=t.1/\t.1<t.2/\t.2<m)/\ts.length<=28) ⟨λ⟨a,b,c,d,e⟩=>⟨a,b,c,d,e⟩,λ⟨a,b,c,d,e⟩=>⟨a,b,c,d,e⟩⟩
noncomputable def Ends(J:Env->Prop)(Q:D->Prop):O->Prop
 | .nx σ=>J σ
 | .rt d=>Q d
 |_=>False
section
variable{w:W}{J K:Env->Prop}{Q:D->Prop}{s:S}{r:Ss}{τ σ:Env}
theorem eI(h:J τ):Ends J Q (qi w .nil τ):=by rw[qi];exact h
theorem cN(h:evS w s τ=.nx σ)(h':Ends J Q (qi w r σ)):Ends J Q (qi w (.cons s r) τ):=by rw[qi,h];exact h'
theorem nz(h:Ends K Q (evS w s τ))(h':∀σ,K σ->Ends J Q (qi w r σ)):Ends J Q (qi w (.cons s r) τ):=by
 rw[qi];cases q:evS w s τ with
 |nx σ=>rw[q]at h;exact h' σ h
 |rt d=>rw[q]at h;exact h
 |_=>rw[q]at h;exact h.elim
theorem iZ{e:E}{d:D}(h:evE w e τ=.ok d)(hq:Q d):Ends J Q (qi w (.cons (.ret e) r) τ):=by
 rw[qi,zH,h];exact hq
theorem xM{t:T}{a b:Ss}{v:Bool}(h:evT w t τ=.ok v)(h1:v=true->Ends J Q (qi w a τ))(h2:v=false->Ends J Q (qi w b τ)):Ends J Q (evS w (.ite t a b) τ):=by
 rw[cm,h];cases v
 ·exact h2 rfl
 ·exact h1 rfl
theorem ff{tg:Tg}{it:It}{b:Ss}{ds:List D}(I:List D->Env->Prop)(h:evI w it τ=.ok ds)(h0:I ds τ)(hs:∀x t σ,I (x::t) σ->∃σ1,store tg x σ=.ok σ1/\Ends (I t) Q (qi w b σ1))(hn:∀σ,I [] σ->Ends J Q (qi w r σ)):Ends J Q (qi w (.cons (.for tg it b) r) τ):=by
 have key:∀(l:List D) (σ:Env),I l σ->Ends (I []) Q (dE tg (λσ=>qi w b σ) l σ):=by
  intro l
  induction l with
  |nil=>intro σ q;exact q
  |cons x t ih=>
   intro σ q;obtain⟨σ1,a,b'⟩:=hs x t σ q;rw[dE,a];simp only[R.out_ok];cases z:qi w b σ1 with
   |nx σ2=>rw[z]at b';exact ih σ2 b'
   |rt d=>rw[z]at b';exact b'
   |_=>rw[z]at b';exact b'.elim
 have hk:=key ds τ h0;refine nz (K:=I []) ?_ hn;rw[cD,h];simp only[R.out_ok];cases z:dE tg (λσ=>qi w b σ) ds τ with
 |nx σ2=>rw[z]at hk;exact hk
 |rt d=>rw[z]at hk;exact hk
 |_=>rw[z]at hk;exact hk.elim
end
theorem oW(xs:List D):b1 .sorted [.lst xs]=(if xs.length<64 then (match ints? xs with
  |some ns=>.ok (.lst ((sortI ns).map D.int))
  |none=>match pairs? xs with
   |some ps=>.ok (.lst ((ee ps).map pairD))
   |none=>cR xs)else cR xs):=rfl
noncomputable def hd(m:Int)(ts:List (Int×Int))(a:Int):List Int:=(rng m).filter λb=>b==a||gX ts a b
end KG
noncomputable def KG.Z:=aw @EV.qi.eq_1 (aw @EV.qi.eq_2 (aw @EV.zJ (aw @EV.cK (aw @EV.cQ (aw @EV.zH (aw @EV.cF (aw @EV.cm (aw @EV.zK (aw @EV.zb (aw @EV.zf (aw @EV.ze (aw @EV.zd (aw @EV.zc (aw @EV.za (aw @EV.zg (aw @EV.qy (aw @EV.qB (aw @EV.qr (aw @EV.qC (aw @EV.qD (aw @EV.qw (aw @EV.qt (aw @EV.qq (aw @EV.qx (aw @EV.qA (aw @EV.qk (aw @EV.ql (aw @EV.qz (aw @EV.zB.eq_1 (aw @EV.zB.eq_2 (aw @EV.fj (aw @EV.fq (aw @EV.fb (aw @EV.fv (aw @EV.fg (aw @EV.fE (aw @EV.fz (aw @EV.evI.eq_1 (aw @EV.evI.eq_2 (aw @EV.evI.eq_3 (aw @EV.evI.eq_4 (aw @EV.evI.eq_5 (aw @EV.evI.eq_6 (aw @EV.evI.eq_7 (aw @EV.evO.eq_1 (aw @EV.evO.eq_2 (aw @EV.opI.eq_1 (aw @EV.opI.eq_2 (aw @EV.opI.eq_3 (aw @EV.opI.eq_4 (aw @EV.opI.eq_5 (aw @EV.opI.eq_6 (aw @EV.opI.eq_7 (aw @EV.opI.eq_8 (aw @EV.opI.eq_9 (aw @EV.opI.eq_10 (aw @EV.opI.eq_11 (aw @EV.b11.eq_1 (aw @EV.b11.eq_2 (aw @EV.b11.eq_3 (aw @EV.b11.eq_4 (aw @EV.b11.eq_5 (aw @EV.b11.eq_6 (aw @EV.b11.eq_7 (aw @EV.b11.eq_8 (aw @EV.b11.eq_9 (aw @EV.b11.eq_10 (aw @EV.b11.eq_11 (aw @EV.b11.eq_12 (aw @EV.b11.eq_13 (aw @EV.b11.eq_14 (aw @EV.b12.eq_1 (aw @EV.b12.eq_2 (aw @EV.b12.eq_3 (aw @EV.cg.eq_1 (aw @EV.cg.eq_2 (aw @EV.ez.eq_1 (aw @EV.ez.eq_2 (aw @EV.iiR.eq_1 (aw @EV.iiR.eq_2 (aw @EV.b6.eq_1 (aw @EV.store.eq_1 (aw @EV.store.eq_2 (aw @EV.store.eq_3 (aw @EV.setAll.eq_1 (aw @EV.setAll.eq_2 (aw @EV.setAll.eq_3 (aw @EV.truth.eq_1 (aw @EV.truth.eq_2 (aw @EV.truth.eq_3 (aw @EV.truth.eq_4 (aw @EV.truth.eq_5 (aw @EV.truth.eq_6 (aw @KG.Ds (aw @KG.tP (aw @KG.yu (aw @KG.Dl (@KG.CY))))))))))))))))))))))))))))))))))))))))))))))))))))))))))))))))))))))))))))))))))))))))))))))))))
namespace KG
open EV
open PySem (Str)
open L2 (atI ixN ltP)
noncomputable def gP:Fn:=⟨1,1,false,(.cons (.ret (.and (.isi (.var 0) (.ty "int")) (.not (.isi (.var 0) (.ty "bool"))))) .nil)⟩
noncomputable def zS:Fn:=⟨3,3,false,(.cons (.ret (.and (.call "is_whole" (.cons (.var 0) .nil)) (.cmp2 .le .le (.var 1) (.var 0) (.var 2)))) .nil)⟩
noncomputable def mw:Fn:=⟨1,1,false,(.cons (.ret (.and (.isi (.var 0) (.ty "tuple")) (.cmp .eq (.bi .len (.cons (.var 0) .nil)) (.con (.int 2))))) .nil)⟩
noncomputable def rz:Fn:=⟨1,1,false,(.cons (.ret (.bi .all (.cons (.comp (.rng (.op .sub (.bi .len (.cons (.var 0) .nil)) (.con (.int 1)))) [none,none,some 0] (.nm 1) .yes (.cmp .lt (.ix (.var 2) (.var 1)) (.ix (.var 2) (.op .add (.var 1) (.con (.int 1)))))) .nil))) .nil)⟩
noncomputable def o8:Fn:=⟨1,3,false,(.cons (.ite (.not (.val (.call "is_pair" (.cons (.var 0) .nil)))) (.cons (.ret (.con (.bl false))) .nil) .nil) (.cons (.set (.tp [1,2]) (.var 0)) (.cons (.ite (.or (.not (.val (.call "is_between" (.cons (.var 1) (.cons (.con (.int 1)) (.cons (.glb "MOST") .nil)))))) (.not (.val (.isi (.var 2) (.ty "tuple"))))) (.cons (.ret (.con (.bl false))) .nil) .nil) (.cons (.ret (.and (.bi .all (.cons (.comp (.seq (.var 2)) [none,none,some 1] (.nm 1) .yes (.call "is_tie" (.cons (.var 1) (.cons (.var 2) .nil)))) .nil)) (.call "rises" (.cons (.var 2) .nil)))) .nil))))⟩
noncomputable def pI:Fn:=⟨2,4,false,(.cons (.ite (.not (.val (.call "is_pair" (.cons (.var 0) .nil)))) (.cons (.ret (.con (.bl false))) .nil) .nil) (.cons (.set (.tp [2,3]) (.var 0)) (.cons (.ret (.and (.call "is_whole" (.cons (.var 2) .nil)) (.and (.call "is_whole" (.cons (.var 3) .nil)) (.cmp3 .le .lt .lt (.con (.int 0)) (.var 2) (.var 3) (.var 1))))) .nil)))⟩
noncomputable def m6:Fn:=⟨1,1,false,(.cons (.ite (.not (.val (.call "is_web" (.cons (.var 0) .nil)))) (.cons .unk .nil) .nil) .nil)⟩
noncomputable def pD:Fn:=⟨1,1,false,(.cons (.exp (.call "need_web" (.cons (.var 0) .nil))) (.cons (.ret (.bi .tuple (.cons (.comp (.rng (.ix (.var 0) (.con (.int 0)))) [none,none,some 0] (.nm 1) .yes (.call "hood_of" (.cons (.var 2) (.cons (.var 1) .nil)))) .nil))) .nil))⟩
noncomputable def iV:Fn:=⟨2,4,false,(.cons (.set (.tp [2,3]) (.var 0)) (.cons (.ret (.bi .tuple (.cons (.comp (.rng (.var 2)) [none,none,some 1,some 3] (.nm 1) (.or (.cmp .eq (.var 1) (.var 2)) (.val (.call "are_tied" (.cons (.var 3) (.cons (.var 2) (.cons (.var 1) .nil)))))) (.var 1)) .nil))) .nil))⟩
noncomputable def gM:Fn:=⟨3,3,false,(.cons (.ret (.cmp .isin (.tup (.cons (.bi .min (.cons (.var 1) (.cons (.var 2) .nil))) (.cons (.bi .max (.cons (.var 1) (.cons (.var 2) .nil))) .nil))) (.var 0))) .nil)⟩
noncomputable def Bv:Fn:=⟨2,2,false,(.cons (.ret (.bi .tuple (.cons (.comp (.seq (.var 1)) [none,none,some 0] (.nm 1) (.cmp .isin (.var 1) (.var 2)) (.var 1)) .nil))) .nil)⟩
noncomputable def yD:Fn:=⟨2,2,false,(.cons (.ret (.comp (.seq (.var 0)) [none,none,some 1] (.nm 1) .yes (.call "mark_of" (.cons (.var 1) (.cons (.var 2) .nil))))) .nil)⟩
noncomputable def mD:Fn:=⟨1,3,false,(.cons (.set (.nm 1) (.lst (.cons (.tup .nil) .nil))) (.cons (.for (.nm 2) (.rng (.ix (.var 0) (.con (.int 0)))) (.cons (.set (.nm 1) (.op .add (.var 1) (.comp (.seq (.var 1)) [none,none,some 2] (.nm 1) .yes (.op .add (.var 1) (.tup (.cons (.var 2) .nil)))))) .nil)) (.cons (.ret (.bi .sorted (.cons (.var 1) .nil))) .nil)))⟩
noncomputable def zv:Fn:=⟨2,2,false,(.cons (.ite (.cmp .lt (.var 1) (.bi .len (.cons (.var 0) .nil))) (.cons (.ret (.ix (.var 0) (.var 1))) .nil) .nil) (.cons (.ret (.con (.int 0))) .nil))⟩
noncomputable def zM:Fn:=⟨2,3,false,(.cons (.set (.nm 2) (.op .mod (.op .mul (.op .add (.op .add (.op .mod (.var 0) (.con (.int 2147483647))) (.op .mul (.con (.int 977)) (.var 1))) (.con (.int 1))) (.con (.int 48271))) (.con (.int 2147483647)))) (.cons (.set (.nm 2) (.op .mod (.op .mul (.var 2) (.var 2)) (.con (.int 2147483629)))) (.cons (.set (.nm 2) (.op .mod (.op .mul (.op .add (.var 2) (.op .mul (.con (.int 40692)) (.op .add (.var 1) (.con (.int 3))))) (.con (.int 69621))) (.con (.int 2147483647)))) (.cons (.ret (.op .fdiv (.var 2) (.con (.int 8)))) .nil))))⟩
noncomputable def gv:Fn:=⟨1,1,false,(.cons (.ret (.and (.isi (.var 0) (.ty "int")) (.not (.isi (.var 0) (.ty "bool"))))) .nil)⟩
noncomputable def ml:Fn:=⟨2,10,false,(.cons (.set (.nm 2) (.op .add (.con (.int 1)) (.op .mod (.var 0) (.var 1)))) (.cons (.set (.nm 3) (.op .fdiv (.var 0) (.var 1))) (.cons (.set (.nm 4) (.op .mod (.var 3) (.con (.int 6)))) (.cons (.set (.nm 5) (.lst .nil)) (.cons (.for (.nm 6) (.rng2 (.con (.int 1)) (.var 2)) (.cons (.for (.nm 7) (.rng (.var 6)) (.cons (.set (.nm 8) (.op .band (.op .shr (.op .fdiv (.var 3) (.con (.int 6))) (.op .add (.op .fdiv (.op .mul (.var 6) (.op .sub (.var 6) (.con (.int 1)))) (.con (.int 2))) (.var 7))) (.con (.int 1)))) (.cons (.ite (.cmp .eq (.var 4) (.con (.int 3))) (.cons (.set (.nm 8) (.op .fdiv (.op .mod (.call "_law_stir" (.cons (.var 0) (.cons (.op .add (.op .mul (.con (.int 8)) (.var 7)) (.var 6)) .nil))) (.con (.int 3))) (.con (.int 2)))) .nil) .nil) (.cons (.ite (.cmp .eq (.var 4) (.con (.int 4))) (.cons (.set (.nm 8) (.op .fdiv (.op .add (.op .mod (.call "_law_stir" (.cons (.var 0) (.cons (.op .add (.op .mul (.con (.int 8)) (.var 7)) (.var 6)) .nil))) (.con (.int 4))) (.con (.int 2))) (.con (.int 3)))) .nil) .nil) (.cons (.ite (.cmp .eq (.var 4) (.con (.int 5))) (.cons (.set (.nm 9) (.lst (.cons (.cmp .eq (.var 6) (.op .add (.var 7) (.con (.int 1)))) (.cons (.or (.cmp .eq (.var 6) (.op .add (.var 7) (.con (.int 1)))) (.cmp .eq (.op .sub (.var 6) (.var 7)) (.op .sub (.var 2) (.con (.int 1))))) (.cons (.cmp .eq (.var 7) (.con (.int 0))) (.cons (.con (.bl true)) (.cons (.and (.cmp .eq (.var 6) (.op .add (.var 7) (.con (.int 1)))) (.cmp .lt (.op .mod (.var 7) (.con (.int 3))) (.con (.int 2)))) .nil))))))) (.cons (.set (.nm 8) (.bi .int (.cons (.ix (.var 9) (.op .mod (.op .fdiv (.var 3) (.con (.int 6))) (.con (.int 5)))) .nil))) .nil)) .nil) (.cons (.ite (.cmp .eq (.var 8) (.con (.int 1))) (.cons (.app 5 (.tup (.cons (.var 7) (.cons (.var 6) .nil)))) .nil) .nil) .nil)))))) .nil)) (.cons (.ret (.tup (.cons (.var 2) (.cons (.bi .tuple (.cons (.bi .sorted (.cons (.own 5) .nil)) .nil)) .nil)))) .nil))))))⟩
noncomputable def B_:Fn:=⟨1,4,false,(.cons (.set (.nm 1) (.comp (.rng (.ix (.var 0) (.con (.int 0)))) [none,none] (.nm 1) .yes (.op .shl (.con (.int 1)) (.var 1)))) (.cons (.for (.tp [2,3]) (.seq (.ix (.var 0) (.con (.int 1)))) (.cons (.seti 1 (.var 2) (.op .bor (.ix (.own 1) (.var 2)) (.op .shl (.con (.int 1)) (.var 3)))) (.cons (.seti 1 (.var 3) (.op .bor (.ix (.own 1) (.var 3)) (.op .shl (.con (.int 1)) (.var 2)))) .nil))) (.cons (.ret (.own 1)) .nil)))⟩
noncomputable def gS:Fn:=⟨2,2,false,(.cons (.ret (.bi .tuple (.cons (.comp (.rng (.var 0)) [none,none,some 1] (.nm 1) (.cmp .eq (.op .band (.op .shr (.var 2) (.var 1)) (.con (.int 1))) (.con (.int 1))) (.var 1)) .nil))) .nil)⟩
noncomputable def j9:Fn:=⟨2,2,false,(.cons (.ret (.call "is_between" (.cons (.var 1) (.cons (.con (.int 0)) (.cons (.op .sub (.ix (.var 0) (.con (.int 0))) (.con (.int 1))) .nil))))) .nil)⟩
noncomputable def jF:Fn:=⟨2,2,false,(.cons (.ite (.not (.val (.isi (.var 1) (.ty "tuple")))) (.cons (.ret (.con (.bl false))) .nil) .nil) (.cons (.ret (.and (.bi .all (.cons (.comp (.seq (.var 1)) [none,none,some 0] (.nm 1) .yes (.call "is_place" (.cons (.var 2) (.cons (.var 1) .nil)))) .nil)) (.call "rises" (.cons (.var 1) .nil)))) .nil))⟩
noncomputable def nP:Fn:=⟨2,2,false,(.cons (.ite (.not (.val (.call "is_some" (.cons (.var 0) (.cons (.var 1) .nil))))) (.cons .unk .nil) .nil) .nil)⟩
structure Web(p:Pr):Prop where
 is_whole:p.fns "is_whole" = some gP
 is_between:p.fns "is_between" = some zS
 is_pair:p.fns "is_pair" = some mw
 rises:p.fns "rises" = some rz
 is_web:p.fns "is_web" = some o8
 is_tie:p.fns "is_tie" = some pI
 need_web:p.fns "need_web" = some m6
 MOST:p.glb "MOST" = some (.int 8)
structure Base(p:Pr):Prop extends Web p where
 all_some:p.fns "all_some" = some mD
 _law_cell_at:p.fns "_law_cell_at" = some zv
 _law_stir:p.fns "_law_stir" = some zM
 _law_web:p.fns "_law_web" = some ml
 _law_some:p.fns "_law_some" = some gS
structure mQ(p:Pr):Prop where
 _law_cell_at:p.fns "_law_cell_at" = some zv
 _law_stir:p.fns "_law_stir" = some zM
 _law_web:p.fns "_law_web" = some ml
theorem Base.draw{p:Pr}(B:Base p):mQ p:=⟨B._law_cell_at,B._law_stir,B._law_web⟩
structure Hds(p:Pr):Prop where
 hoods:p.fns "hoods" = some pD
 hood_of:p.fns "hood_of" = some iV
 are_tied:p.fns "are_tied" = some gM
structure Nbr(p:Pr):Prop where
 hoods:p.fns "hoods" = some pD
 hood_of:p.fns "hood_of" = some iV
 are_tied:p.fns "are_tied" = some gM
 mark_of:p.fns "mark_of" = some Bv
 marks_of:p.fns "marks_of" = some yD
structure C1(p:Pr):Prop extends Nbr p where
 _law_masks:p.fns "_law_masks" = some B_
noncomputable instance {p:Pr}:CoeOut (Base p) (Web p):=⟨λb=>b.toWeb⟩
theorem Nbr.hds{p:Pr}(O:Nbr p):Hds p:=⟨O.hoods,O.hood_of,O.are_tied⟩
noncomputable instance {p:Pr}:CoeOut (Base p) (mQ p):=⟨λb=>b.draw⟩
noncomputable instance {p:Pr}:CoeOut (Nbr p) (Hds p):=⟨λb=>b.hds⟩
noncomputable instance {p:Pr}:CoeOut (C1 p) (Nbr p):=⟨λb=>b.toNbr⟩
structure kQ(p:Pr):Prop where
 is_place:p.fns "is_place" = some j9
 is_some:p.fns "is_some" = some jF
structure i'(p:Pr):Prop where
 is_place:p.fns "is_place" = some j9
 is_some:p.fns "is_some" = some jF
 need_some:p.fns "need_some" = some nP
theorem i'.a{p:Pr}(b:i' p):kQ p:=⟨b.is_place,b.is_some⟩
noncomputable instance {p:Pr}:CoeOut (i' p) (kQ p):=⟨λb=>b.a⟩
end KG
namespace K53
open PySem PySem.Spec PyProof.Rows L2 EV
noncomputable def top(i:Nat):Stmt:=PySem.Challenge.pw_holdplaces_k53_rows_and_rings_held_once.main.body.getD i (.Pass ⟨0,0,0,0⟩)
abbrev gP:Fn:=KG.gP
abbrev zS:Fn:=KG.zS
noncomputable def lg:Fn:=⟨3,3,false,(.cons (.ite (.not (.val (.call "is_between" (.cons (.var 0) (.cons (.var 1) (.cons (.var 2) .nil)))))) (.cons .unk .nil) .nil) .nil)⟩
noncomputable def jy:Fn:=⟨1,1,false,(.cons (.exp (.call "need_between" (.cons (.var 0) (.cons (.con (.int 1)) (.cons (.glb "LONGEST") .nil))))) .nil)⟩
noncomputable def jC:Fn:=⟨1,1,false,(.cons (.exp (.call "need_between" (.cons (.var 0) (.cons (.con (.int 3)) (.cons (.glb "LONGEST") .nil))))) .nil)⟩
noncomputable def pU:Fn:=⟨1,1,true,(.cons (.exp (.call "need_row" (.cons (.var 0) .nil))) (.cons (.ret (.comp (.rng (.con (.int 2))) [none,none,some 0] (.nm 1) (.cmp .le (.op .mod (.op .sub (.op .sub (.var 2) (.con (.int 1))) (.var 1)) (.con (.int 3))) (.con (.int 1))) (.call "thirds_from" (.cons (.var 1) (.cons (.var 2) .nil))))) .nil))⟩
noncomputable def oP:Fn:=⟨1,1,true,(.cons (.exp (.call "need_ring" (.cons (.var 0) .nil))) (.cons (.ret (.ite (.cmp .eq (.op .mod (.var 0) (.con (.int 3))) (.con (.int 0))) (.comp (.rng (.con (.int 3))) [none,none,some 0] (.nm 1) .yes (.call "thirds_from" (.cons (.var 1) (.cons (.var 2) .nil)))) (.lst .nil))) .nil))⟩
noncomputable def pL:Fn:=⟨2,2,false,(.cons (.ret (.rtup (.rng3 (.var 0) (.var 1) (.con (.int 3))))) .nil)⟩
abbrev zv:Fn:=KG.zv
abbrev zM:Fn:=KG.zM
abbrev gv:Fn:=KG.gv
abbrev gS:Fn:=KG.gS
noncomputable def lQ:Fn:=⟨3,6,false,(.cons (.set (.nm 3) (.op .mul (.lst (.cons (.con (.int 0)) .nil)) (.var 0))) (.cons (.for (.nm 4) (.seq (.var 2)) (.cons (.for (.nm 5) (.seq (.tup (.cons (.op .sub (.var 4) (.con (.int 1))) (.cons (.var 4) (.cons (.op .add (.var 4) (.con (.int 1))) .nil))))) (.cons (.ite (.or (.val (.var 1)) (.cmp2 .le .lt (.con (.int 0)) (.var 5) (.var 0))) (.cons (.seti 3 (.op .mod (.var 5) (.var 0)) (.op .add (.ix (.own 3) (.op .mod (.var 5) (.var 0))) (.con (.int 1)))) .nil) .nil) .nil)) .nil)) (.cons (.ret (.cmp .eq (.own 3) (.op .mul (.lst (.cons (.con (.int 1)) .nil)) (.var 0)))) .nil)))⟩
noncomputable def p_:Fn:=⟨2,8,false,(.cons (.set (.nm 2) (.ite (.val (.var 1)) (.ix (.lst (.cons (.con (.int 0)) (.cons (.con (.int 3)) .nil))) (.bi .int (.cons (.cmp .eq (.op .mod (.var 0) (.con (.int 3))) (.con (.int 0))) .nil))) (.ix (.lst (.cons (.con (.int 1)) (.cons (.con (.int 2)) .nil))) (.bi .int (.cons (.cmp .eq (.op .mod (.var 0) (.con (.int 3))) (.con (.int 2))) .nil))))) (.cons (.for (.nm 3) (.rng (.con (.int 2))) (.cons (.set (.nm 4) (.ite (.val (.var 1)) (.call "ring_once" (.cons (.var 0) .nil)) (.call "row_once" (.cons (.var 0) .nil)))) (.cons (.ite (.or (.not (.val (.isi (.own 4) (.ty "list")))) (.or (.cmp .ne (.bi .len (.cons (.own 4) .nil)) (.var 2)) (.cmp .ne (.own 4) (.bi .sorted (.cons (.own 4) .nil))))) (.cons (.ret (.con (.bl false))) .nil) .nil) (.cons (.for (.tp [5,6]) (.enum (.own 4)) (.cons (.ite (.or (.not (.val (.isi (.var 6) (.ty "tuple")))) (.or (.not (.val (.bi .all (.cons (.comp (.seq (.var 6)) [none,none] (.nm 1) .yes (.call "_law_whole" (.cons (.var 1) .nil))) .nil)))) (.cmp .isin (.var 6) (.sl (.own 4) .none (.some (.var 5)))))) (.cons (.ret (.con (.bl false))) .nil) .nil) (.cons (.ite (.or (.cmp .ne (.bi .list (.cons (.var 6) .nil)) (.sset false (.var 6))) (.not (.val (.call "_law_once" (.cons (.var 0) (.cons (.var 1) (.cons (.var 6) .nil))))))) (.cons (.ret (.con (.bl false))) .nil) .nil) .nil))) (.cons (.ite (.cmp .lt (.var 0) (.con (.int 10))) (.cons (.set (.nm 7) (.bi .sorted (.cons (.comp (.rng (.op .shl (.con (.int 1)) (.var 0))) [none,none,some 0] (.nm 1) .yes (.call "_law_some" (.cons (.var 2) (.cons (.var 1) .nil)))) .nil))) (.cons (.ite (.cmp .ne (.own 4) (.comp (.seq (.var 7)) [none,none,some 1,some 0] (.nm 1) (.val (.call "_law_once" (.cons (.var 3) (.cons (.var 2) (.cons (.var 1) .nil))))) (.var 1))) (.cons (.ret (.con (.bl false))) .nil) .nil) .nil)) .nil) (.cons (.app 4 (.tup .nil)) .nil)))))) (.cons (.ret (.con (.bl true))) .nil)))⟩
noncomputable def ip:Fn:=⟨1,5,false,(.cons (.for (.nm 1) (.seq (.lst (.cons (.con (.int 1)) (.cons (.con (.int 2)) (.cons (.con (.int 3)) (.cons (.con (.int 4)) (.cons (.con (.int 5)) (.cons (.con (.int 6)) .nil)))))))) (.cons (.ite (.or (.not (.val (.call "_law_right" (.cons (.var 1) (.cons (.con (.bl false)) .nil))))) (.and (.cmp .gt (.var 1) (.con (.int 2))) (.not (.val (.call "_law_right" (.cons (.var 1) (.cons (.con (.bl true)) .nil))))))) (.cons (.ret (.con (.bl false))) .nil) .nil) .nil)) (.cons (.for (.nm 2) (.seq (.op .add (.lst (.cons (.call "_law_cell_at" (.cons (.var 0) (.cons (.con (.int 0)) .nil))) .nil)) (.sl (.var 0) (.some (.con (.int 1))) (.some (.con (.int 4)))))) (.cons (.for (.nm 3) (.seq (.tup (.cons (.con (.bl false)) (.cons (.con (.bl true)) .nil)))) (.cons (.set (.nm 4) (.call "_law_stir" (.cons (.var 2) (.cons (.bi .int (.cons (.var 3) .nil)) .nil)))) (.cons (.set (.nm 1) (.ix (.lst (.cons (.op .add (.con (.int 3)) (.op .mod (.op .fdiv (.var 4) (.con (.int 4))) (.con (.int 7)))) (.cons (.op .add (.con (.int 3)) (.op .mod (.op .fdiv (.var 4) (.con (.int 4))) (.con (.int 298)))) (.cons (.op .add (.con (.int 3)) (.op .mul (.op .mod (.op .fdiv (.var 4) (.con (.int 4))) (.con (.int 99))) (.con (.int 3)))) (.cons (.op .add (.con (.int 1)) (.op .mod (.op .fdiv (.var 4) (.con (.int 4))) (.con (.int 40)))) .nil))))) (.op .mod (.var 4) (.con (.int 4))))) (.cons (.ite (.not (.val (.call "_law_right" (.cons (.ite (.val (.var 3)) (.bi .max (.cons (.con (.int 3)) (.cons (.var 1) .nil))) (.var 1)) (.cons (.var 3) .nil))))) (.cons (.ret (.con (.bl false))) .nil) .nil) .nil)))) .nil)) (.cons (.ret (.con (.bl true))) .nil)))⟩
abbrev AX:Ent:=⟨"is_whole",top 4,[],false,gP⟩
abbrev vP:Ent:=⟨"is_between",top 5,[],false,zS⟩
abbrev Cu:Ent:=⟨"need_between",top 6,[],false,lg⟩
abbrev uV:Ent:=⟨"need_row",top 9,[],false,jy⟩
abbrev BF:Ent:=⟨"need_ring",top 10,[],false,jC⟩
abbrev Bn:Ent:=⟨"row_once",top 11,[],true,pU⟩
abbrev AJ:Ent:=⟨"ring_once",top 12,[],true,oP⟩
abbrev tm:Ent:=⟨"thirds_from",top 13,[],false,pL⟩
abbrev vH:Ent:=⟨"_law_cell_at",top 15,[],false,zv⟩
abbrev Co:Ent:=⟨"_law_stir",top 16,[],false,zM⟩
abbrev t5:Ent:=⟨"_law_whole",top 17,[],false,gv⟩
abbrev vU:Ent:=⟨"_law_some",top 18,[],false,gS⟩
abbrev xC:Ent:=⟨"_law_once",top 19,[bw "_law_counts"],false,lQ⟩
abbrev u7:Ent:=⟨"_law_right",top 20,[bw "_law_found"],false,p_⟩
abbrev fV:Ent:=⟨"law",top 21,[],false,ip⟩
abbrev tab:List Ent:=[AX,vP,Cu,uV,BF,Bn,AJ,tm,vH,Co,t5,vU,xC,u7,fV]
abbrev oth:List (Str×GK):=[(bw "NoNumber",GK.exc),(bw "LONGEST",GK.val),(bw "len",GK.bi .len),(bw "tuple",GK.ty "tuple" (some .tuple)),(bw "list",GK.ty "list" (some .list)),(bw "int",GK.ty "int" (some .int)),(bw "bool",GK.ty "bool" (some .bool)),(bw "set",GK.set),(bw "sorted",GK.bi .sorted),(bw "all",GK.bi .all),(bw "max",GK.bi .max),(bw "range",GK.rng),(bw "enumerate",GK.enum),(bw "isinstance",GK.isi)]
abbrev vals:List (Str×D):=[(bw "LONGEST",(.int 300))]
abbrev G:List (Str×GK):=tab.map (λe=>(e.x,GK.fn e.fr))++oth
abbrev cJ:List (Str×Str):=[]
abbrev us:List Ent:=[]
abbrev subs:List ((Str×Cl)×Bool):=[]
abbrev p:Pr:=prT tab vals cJ subs
theorem Bk:p.fns "is_whole" = some gP:=by kernel_rfl
theorem xy:p.fns "is_between" = some zS:=by kernel_rfl
theorem sU:p.fns "need_between" = some lg:=by kernel_rfl
theorem xa:p.fns "need_row" = some jy:=by kernel_rfl
theorem uH:p.fns "need_ring" = some jC:=by kernel_rfl
theorem tw:p.fns "row_once" = some pU:=by kernel_rfl
theorem uw:p.fns "ring_once" = some oP:=by kernel_rfl
theorem DB:p.fns "thirds_from" = some pL:=by kernel_rfl
theorem uN:p.fns "_law_some" = some gS:=by kernel_rfl
theorem u5:p.fns "_law_once" = some lQ:=by kernel_rfl
theorem yL:p.fns "_law_right" = some p_:=by kernel_rfl
theorem wc:p.fns "law" = some ip:=by kernel_rfl
theorem oi:p.glb "LONGEST" = some (.int 300):=by kernel_rfl
end K53
namespace KG
open EV
open PySem (Str)
open L2 (atI ixN ltP)
section
variable{p:Pr}
theorem zj{k:Nat}{x:Str}{f:Fn}{ds:List D}(h:p.fns x=some f):qf p (k+1) x ds=cM ⟨qf p k,p.glb,p.sub,p.cat⟩ f ds:=by
 rw[qf,h]
theorem kD{k:Nat}{x:Str}{f:Fn}{ds:List D}{τ:Env}{Q:D->Prop}(hf:p.fns x=some f)(hl:ds.length=f.ps)(hτ:ds.map some++aX (f.N-f.ps) none=τ)(h:Ends (λ_=>False) Q (qi (wAt p k) f.body τ)):∃d,qf p (k+1) x ds=.ok d/\Q d:=by
 rw[zj hf,cM,if_pos hl,hτ];cases z:qi ⟨qf p k,p.glb,p.sub,p.cat⟩ f.body τ with
 |rt d=>rw[z]at h;exact⟨d,rfl,h⟩
 |nx _=>rw[z]at h;exact h.elim
 |_=>rw[z]at h;exact h.elim
section
variable(B:Web p)
include B
theorem is_whole{k:Nat}(i:Int):qf p (k+1) "is_whole" [.int i]=.ok (.bl true):=by rw[zj B.is_whole];rfl
theorem is_between{k:Nat}(i a b:Int)(h:a<=i/\i<=b):qf p (k+2) "is_between" [.int i,.int a,.int b]=.ok (.bl true):=by
 rw[zj B.is_between];refine zF rfl rfl ?_;simp[KG.Z,KG.zS,is_whole B,qE,gE,h.1,h.2]
theorem is_pair{k:Nat}(a b:D):qf p (k+1) "is_pair" [.tup [a,b]]=.ok (.bl true):=by
 rw[zj B.is_pair];refine zF rfl rfl ?_;simp[KG.Z,mw,b1,seq?,qE,D.asks,D.plain,D.deep,D.eqv]
theorem is_tie{k:Nat}(a b m:Int)(h:0<=a/\a<b/\b<m):qf p (k+2) "is_tie" [.tup [.int a,.int b],.int m]=.ok (.bl true):=by
 rw[zj B.is_tie];refine zF rfl rfl ?_;simp[KG.Z,pI,is_pair B,is_whole B,qE,gE,h.1,h.2.1,h.2.2]
theorem rises{k:Nat}(xs:List D)(hz:xs.length<=28)(h:∀(i:Nat) (q:i+1<xs.length),qE .lt xs[i] xs[i+1]=.ok true):qf p (k+1) "rises" [.tup xs]=.ok (.bl true):=by
 rw[zj B.rises];refine zF rfl rfl ?_;have hr:qg ((xs.length:Int)-1)=true:=by simp[qg];lia
 have hc:evE ⟨qf p k,p.glb,p.sub,p.cat⟩ (.comp (.rng (.op .sub (.bi .len (.cons (.var 0) .nil)) (.con (.int 1)))) [none,none,some 0] (.nm 1) .yes (.cmp .lt (.ix (.var 2) (.var 1)) (.ix (.var 2) (.op .add (.var 1) (.con (.int 1)))))) [some (.tup xs)]=.ok (.lst ((zE 0 ((xs.length:Int)-1).toNat).flatMap λ_=>[.bl true])):=by
  refine h_ (c:=[some (.tup xs)]) ?_ ?_ rfl ?_
  ·simp[KG.Z,b1,seq?,op2,hr]
  ·simp[zE,SZ];lia
  ·intro x hx;simp only[zE,bt,List.mem_range]at hx;obtain⟨i,hi,rfl⟩:=hx;have e1:atI xs ((0:Int)+(i:Int))=some xs[i]:=by rw[Int.zero_add];exact gG (by lia)
   have e2:atI xs ((0:Int)+(i:Int)+1)=some xs[i+1]:=by rw[Int.zero_add];exact gG (i:=i+1) (by lia)
   have e3:=h i (by lia);simp only[Int.zero_add]at e1 e2;simp[KG.Z,ixD,op2,e1,e2,e3]
 simp[KG.Z,rz,hc,b1,all_true,Dg]
theorem is_web{k:Nat}{m:Int}{ts:List (Int×Int)}(h:GW m ts):qf p (k+3) "is_web" [wb m ts]=.ok (.bl true):=by
 rw[zj B.is_web];refine zF rfl rfl ?_;have hr:=rises B (k:=k+1) (ts.map prD) (by simpa using h.len) (λi q=>by
  rw[dj,dj];exact Aw (List.pairwise_iff_getElem.mp h.lt i (i+1) (by simp at q;lia) (by simpa using q) (by lia)))
 have hc:evE ⟨qf p (k+2),p.glb,p.sub,p.cat⟩ (.comp (.seq (.var 2)) [none,none,some 1] (.nm 1) .yes (.call "is_tie" (.cons (.var 1) (.cons (.var 2) .nil)))) [some (wb m ts),some (.int m),some (.tup (ts.map prD))]=.ok (.lst ((ts.map prD).flatMap λ_=>[.bl true])):=by
  refine h_ (c:=[some (.int m)]) ?_ ?_ rfl ?_
  ·simp[KG.Z,seq?]
  ·simp[SZ];have:=h.len;lia
  ·intro x hx;rw[bt]at hx;obtain⟨t,ht,rfl⟩:=hx;have e:=is_tie B (k:=k) t.1 t.2 m (h.ok t ht);have e':qf p (k+2) "is_tie" [prD t,.int m]=.ok (.bl true):=e;simp[KG.Z,e']
 simp[KG.Z,o8,is_pair B,is_between B m 1 8 ⟨h.lo,h.hi⟩,B.MOST,hc,b1,all_true,hr]
theorem need_web{k:Nat}{m:Int}{ts:List (Int×Int)}(h:GW m ts):qf p (k+4) "need_web" [wb m ts]=.ok .non:=by
 rw[zj B.need_web];simp only[cM];simp[KG.Z,m6,is_web B h]
end
theorem BJ(hf:p.fns "_law_stir" = some zM){k:Nat}(c j:Int):qf p (k+1) "_law_stir" [.int c,.int j]=.ok (.int (st c j)):=by
 have s1:small 977=true:=by decide
 have s2:small 48271=true:=by decide
 have s3:small 40692=true:=by decide
 have s4:small 69621=true:=by decide
 have s5:=yV ((c%2147483647+977 * j+1) * 48271) 2147483647 (by decide) (by decide);rw[zj hf];refine zF rfl rfl ?_;simp[KG.Z,KG.zM,op2,s1,s2,s3,s4,s5,st]
theorem AK(hf:p.fns "_law_cell_at" = some zv){k:Nat}(ns:List Int):∃x:Int,qf p (k+1) "_law_cell_at" [.lst (ns.map D.int),.int 0]=.ok (.int x):=by
 cases ns with
 |nil=>
  refine⟨0,?_⟩;have e1:b1 .len [.lst []]=.ok (.int 0):=rfl;have e3:qE .lt (.int 0) (.int 0)=.ok false:=rfl;rw[zj hf];refine zF rfl rfl ?_;simp[KG.Z,KG.zv,e1,e3]
 |cons x r=>
  refine⟨x,?_⟩;have e1:b1 .len [.lst ((x::r).map D.int)]=.ok (.int (r.length+1:Nat)):=by
   show R.ok (D.int ((x::r).map D.int).length)=_;simp
  have e2:ixD (.lst ((x::r).map D.int)) (.int 0)=.ok (.int x):=by
   have:=gG (xs:=(x::r).map D.int) (i:=0) (by simp);simp only[ixD];rw[show (0:Int)=((0:Nat):Int)from rfl,this];rfl
  simp only[a5]at e1 e2;have h0:(0:Int)<((r.length+1:Nat):Int):=by lia
  have e3:qE .lt (.int 0) (.int ((r.length+1:Nat):Int))=.ok true:=by rw[lt_int,decide_eq_true h0]
  generalize ((r.length+1:Nat):Int)=N at *;rw[zj hf];refine zF rfl rfl ?_;simp[KG.Z,KG.zv,e1,e2,e3]
section
variable(B:Base p)
include B
end
section
variable(B:Web p)(S:kQ p)
include B S
theorem is_place{k:Nat}(i m:Int)(t:D)(h:0<=i/\i<m):qf p (k+3) "is_place" [.tup [.int m,t],.int i]=.ok (.bl true):=by
 rw[zj S.is_place];refine zF rfl rfl ?_;simp[KG.Z,j9,ixD,atI,ixN,op2,is_between B i 0 (m-1) (by lia)]
theorem is_some{k:Nat}{m:Int}{t:D}{s:List Int}(h:GS m s):qf p (k+4) "is_some" [.tup [.int m,t],tu s]=.ok (.bl true):=by
 rw[zj S.is_some];refine zF rfl rfl ?_;have hr:=rises B (k:=k+2) (s.map D.int) (by simp;have:=h.len;lia) (λi q=>by
  rw[dj,dj];have:=List.pairwise_iff_getElem.mp h.lt i (i+1) (by simp at q;lia) (by simpa using q) (by lia);simp[qE,gE,this])
 have hc:evE ⟨qf p (k+3),p.glb,p.sub,p.cat⟩ (.comp (.seq (.var 1)) [none,none,some 0] (.nm 1) .yes (.call "is_place" (.cons (.var 2) (.cons (.var 1) .nil)))) [some (.tup [.int m,t]),some (tu s)]=.ok (.lst ((s.map D.int).flatMap λ_=>[.bl true])):=by
  refine h_ (c:=[some (.tup [.int m,t])]) ?_ ?_ rfl ?_
  ·simp[KG.Z,seq?]
  ·simp[SZ];have:=h.len;lia
  ·intro x hx;rw[bt]at hx;obtain⟨i,hi,rfl⟩:=hx;simp[KG.Z,is_place B S i m t (h.ok i hi)]
 simp[KG.Z,jF,hc,b1,all_true,hr]
omit S in
theorem need_some(S:i' p){k:Nat}{m:Int}{t:D}{s:List Int}(h:GS m s):qf p (k+5) "need_some" [.tup [.int m,t],tu s]=.ok .non:=by
 rw[zj S.need_some];simp only[cM];simp[KG.Z,nP,is_some B S h]
end
theorem mj(hA:p.fns "are_tied" = some gM){k:Nat}(ts:List (Int×Int))(a b:Int):qf p (k+1) "are_tied" [.tup (ts.map prD),.int a,.int b]=.ok (.bl (gX ts a b)):=by
 rw[zj hA];refine zF rfl rfl ?_;simp[KG.Z,gM,b1,BP,gX,mn,mx]
theorem rT(hH:p.fns "hood_of" = some iV)(hA:p.fns "are_tied" = some gM){k:Nat}{m:Int}{ts:List (Int×Int)}(h:GW m ts)(a:Int):qf p (k+2) "hood_of" [wb m ts,.int a]=.ok (tu (hd m ts a)):=by
 rw[zj hH];refine zF rfl rfl ?_;have h1:=h.lo;have h2:=h.hi;have hc:evE ⟨qf p (k+1),p.glb,p.sub,p.cat⟩ (.comp (.rng (.var 2)) [none,none,some 1,some 3] (.nm 1) (.or (.cmp .eq (.var 1) (.var 2)) (.val (.call "are_tied" (.cons (.var 3) (.cons (.var 2) (.cons (.var 1) .nil)))))) (.var 1)) [some (wb m ts),some (.int a),some (.int m),some (.tup (ts.map prD))]=.ok (.lst ((hd m ts a).map D.int)):=by
  rw[hd,<-Ak,<-jb];refine h_ (c:=[some (.int a),some (.tup (ts.map prD))]) ?_ ?_ rfl ?_
  ·have:qg m=true:=by simp[qg];lia
   simp[KG.Z,this]
  ·simp[zE,SZ];lia
  ·intro x hx;rw[jb,bt]at hx;obtain⟨b,hb,rfl⟩:=hx;have e:qE .eq (.int b) (.int a)=.ok (b==a):=rfl;simp[KG.Z,e,mj hA];by_cases q:b=a
   ·simp[q]
   ·simp[q];cases gX ts a b<;>simp
 simp[KG.Z,iV,hc,b1,seq?]
section
variable(B:Web p)(O:Hds p)
include O
theorem are_tied{k:Nat}(ts:List (Int×Int))(a b:Int):qf p (k+1) "are_tied" [.tup (ts.map prD),.int a,.int b]=.ok (.bl (gX ts a b)):=mj O.are_tied ts a b
theorem hood_of{k:Nat}{m:Int}{ts:List (Int×Int)}(h:GW m ts)(a:Int):qf p (k+2) "hood_of" [wb m ts,.int a]=.ok (tu (hd m ts a)):=rT O.hood_of O.are_tied h a
include B
end
section
variable(O:Nbr p)
include O
end
end
section
variable{p:Pr}{k:Nat}{M c:Int}{n:Int}{ts:List (Int×Int)}{a b:Int}{i:Int}{v3 v4:Option D}{Q:D->Prop}
end
end KG
namespace KG
open EV
open PySem (Str Builtin.bitAnd Builtin.bitOr)
open L2 (atI ixN ltP)
theorem yA(a b:Nat):PySem.Builtin.bitAnd (a:Int) (b:Int)=((a &&& b:Nat):Int):=by
 simp[PySem.Builtin.bitAnd]
theorem uF(n:Nat)(i:Nat):PySem.Builtin.bitAnd ((n:Int)/2^i) 1=if n.testBit i then 1 else 0:=by
 have e:((n:Int)/2^i)=((n/2^i:Nat):Int):=by simp
 rw[e,show (1:Int)=((1:Nat):Int)from rfl,yA,Nat.and_one_is_mod,Nat.testBit_eq_decide_div_mod_eq];by_cases h:n/2^i%2=1
 ·simp[h]
 ·have:n/2^i%2=0:=by lia
  simp[this]
noncomputable def bs(m:Int)(n:Nat):List Int:=(rng m).filter λi=>n.testBit i.toNat
noncomputable def subs:Nat->List (List Int)
 | 0=>[[]]
 |j+1=>subs j++(subs j).map (· ++ [(j:Int)])
theorem wq(m:Int)(h1:1<=m)(h2:m<=8):subs m.toNat=(a_ (2^m.toNat)).map (bs m):=by
 have:m=1\/m=2\/m=3\/m=4\/m=5\/m=6\/m=7\/m=8:=by lia
 rcases this with rfl|rfl|rfl|rfl|rfl|rfl|rfl|rfl<;>decide +kernel
theorem ll:∀j,(subs j).length=2^j
 | 0=>rfl
 |j+1=>by rw[subs,cy,aP,ll j,Nat.pow_succ];lia
theorem iR:∀ts:List (List Int),tups? (ts.map tu)=some ts
 | []=>rfl
 |t::r=>by
  show (ints? (t.map D.int)).bind (λn=>(tups? (r.map tu)).map (n :: ·))=_;rw[ints_map,iR r];rfl
theorem kf:∀j,1<=j->∃b r,subs j=[]::b::r
 | 1,_=>⟨_,_,rfl⟩
 |j+2,_=>by
  obtain⟨b,r,e⟩:=kf (j+1) (by lia);rw[subs,e];exact⟨_,_,rfl⟩
theorem rN(j:Nat)(h:1<=j):eB (subs j)=true:=by
 obtain⟨b,r,e⟩:=kf j h;rw[e];rfl
theorem xl{m:Nat}(h:m<=8):2^m<=256:=Nat.pow_le_pow_right (by decide) h
theorem m7{j:Nat}(h1:1<=j):b1 .sorted [.lst ((subs j).map tu)]=.ok (.lst ((zA (subs j)).map tu)):=by
 have hT:cR ((subs j).map tu)=.ok (.lst ((zA (subs j)).map tu)):=by
  rw[cR,iR];show (if eB (subs j)=true then _ else _)=_;rw[rN j h1];rfl
 rw[oW];obtain⟨b,r,e⟩:=kf j h1;have hi:ints? ((subs j).map tu)=none:=by rw[e];rfl
 have hp:pairs? ((subs j).map tu)=none:=by rw[e];rfl
 rw[hi,hp];simp only;rw[hT];split<;>rfl
theorem Au{p:Pr}(hf:p.fns "all_some" = some mD){k:Nat}{m:Int}{t:D}(h1:1<=m)(h2:m<=8):qf p (k+1) "all_some" [.tup [.int m,t]]=.ok (.lst ((zA (subs m.toNat)).map tu)):=by
 obtain⟨d,e,rfl⟩:∃d,qf p (k+1) "all_some" [.tup [.int m,t]]=.ok d/\d=.lst ((zA (subs m.toNat)).map tu):=by
  refine kD (k:=k) (τ:=[some (.tup [.int m,t]),none,none]) hf rfl rfl ?_;refine cN (σ:=[some (.tup [.int m,t]),some (.lst ((subs 0).map tu)),none]) (by simp[KG.Z];rfl) ?_;have hm:qg m=true:=by simp[qg];lia
  have hx:ixD (.tup [.int m,t]) (.int 0)=.ok (.int m):=rfl;refine ff (ds:=(rng m).map D.int) (λr σ=>∃(j:Nat) (v2:Option D),j<=m.toNat/\r=((List.range' j (m.toNat-j)).map λ(i:Nat)=>(i:Int)).map D.int/\σ=[some (.tup [.int m,t]),some (.lst ((subs j).map tu)),v2]) (by rw[<-jb];simp[KG.Z,hm,hx]) ⟨0,none,by lia,by rw[rng,List.range_eq_range'];rfl,rfl⟩ ?_ ?_
  ·rintro x r σ ⟨j,v2,hj,e,rfl⟩;by_cases hjm:j=m.toNat
   ·subst hjm;simp at e
   ·have ej:m.toNat-j=(m.toNat-(j+1))+1:=by lia
    rw[ej,List.range'_succ,a5,a5]at e;injection e with e1 e2
    subst e1 e2;refine⟨[some (.tup [.int m,t]),some (.lst ((subs j).map tu)),some (.int j)],rfl,?_⟩;have hl:=ll j;have hp:=xl (m:=j) (by lia);have hc:evE (wAt p k) (.comp (.seq (.var 1)) [none,none,some 2] (.nm 1) .yes (.op .add (.var 1) (.tup (.cons (.var 2) .nil)))) [some (.tup [.int m,t]),some (.lst ((subs j).map tu)),some (.int j)]=.ok (.lst (((subs j).map (· ++ [(j:Int)])).map tu)):=by
     have he:((subs j).map tu).flatMap (λx=>match x with | .tup xs=>[D.tup (xs++[.int j])]|_=>[])=((subs j).map (· ++ [(j:Int)])).map tu:=by
      generalize subs j=l
      induction l with
      |nil=>rfl
      |cons a r ih=>rw[a5,List.flatMap_cons,ih];simp[tu]
     rw[<-he];refine h_ (c:=[some (.int j)]) ?_ ?_ rfl ?_
     ·simp[KG.Z,seq?]
     ·simp[SZ];lia
     ·intro x hx;rw[bt]at hx;obtain⟨s,hs,rfl⟩:=hx;have hsl:s.length<=j:=by
       have:∀(n:Nat) (s:List Int),s∈subs n->s.length<=n:=by
        intro n
        induction n with
        |zero=>intro s hs;simp[subs]at hs;subst hs;simp
        |succ n ih=>
         intro s hs;rw[subs,List.mem_append,bt]at hs;rcases hs with hs|⟨u,hu,rfl⟩
         ·have:=ih s hs;lia
         ·have:=ih u hu;simp;lia
       exact this j s hs
      have e:op2 .add (tu s) (.tup [.int j])=.ok (.tup (s.map D.int++[.int j])):=by
       rw[op2,if_pos (by simp[SZ];lia)]
      simp[KG.Z,e]
    have e3:op2 .add (.lst ((subs j).map tu)) (.lst (((subs j).map (· ++ [(j:Int)])).map tu))=.ok (.lst ((subs (j+1)).map tu)):=by
     rw[op2,if_pos (by simp[SZ];lia),subs,List.map_append]
    refine cN (σ:=[some (.tup [.int m,t]),some (.lst ((subs (j+1)).map tu)),some (.int j)]) (by rw[zJ,za,hc,zb];simp only[b6,List.getElem?_cons_succ,List.getElem?_cons_zero,R.bind_ok];rw[e3];rfl) (eI ⟨j+1,_,by lia,rfl,rfl⟩)
  ·rintro σ ⟨j,v2,hj,e,rfl⟩;have:j=m.toNat:=by
    have:=congrArg List.length e;simp at this;lia
   subst this;exact iZ (d:=.lst ((zA (subs m.toNat)).map tu)) (by simp[KG.Z,m7 (j:=m.toNat) (by lia)]) rfl
 exact e
section
variable{p:Pr}(B:Base p)
include B
theorem all_some{k:Nat}{m:Int}{t:D}(h1:1<=m)(h2:m<=8):qf p (k+1) "all_some" [.tup [.int m,t]]=.ok (.lst ((zA (subs m.toNat)).map tu)):=Au B.all_some h1 h2
end
end KG
namespace KG
open EV
open PySem (Str)
open L2 (atI ixN ltP)
section
variable{p:Pr}(B:Base p)
include B
end
abbrev ln(N:List Nat):D:=.lst (N.map λ(x:Nat)=>D.int (x:Int))
theorem jc{α:Type}{w:W}{it:It}{cap:List (Option Nat)}{t:T}{elt:E}{τ c:Env}{l:List α}{f:α->D}(q:α->Bool)(g:α->D)(h:evI w it τ=.ok (l.map f))(hz:l.length<=SZ)(hc:eM cap τ=none::none::c)
  (hb:∀a∈l,evT w t (none::some (f a)::c)=.ok (q a)/\(q a=true->evE w elt (none::some (f a)::c)=.ok (g a))):evE w (.comp it cap (.nm 1) t elt) τ=.ok (.lst ((l.filter q).map g)):=by
 have key:∀(r:List α) (v:Option D) (acc:List D),(∀x∈r,x∈l)->cn (λx σ=>noEx ((store (.nm 1) x σ).bind λσ'=>(evT w t σ').bind λr=>if r then (evE w elt σ').bind λd=>.ok (σ',[d])else .ok (σ',[]))) (r.map f) (none::v::c) acc=.ok (acc++(r.filter q).map g):=by
  intro r
  induction r with
  |nil=>intro v acc _;simp[cn]
  |cons x r ih=>
   intro v acc hm;obtain⟨h1,h2⟩:=hb x (hm x a8);rw[a5,cn];have e:noEx ((store (.nm 1) (f x) (none::v::c)).bind λσ'=>(evT w t σ').bind λr=>if r then (evE w elt σ').bind λd=>.ok (σ',[d])else .ok (σ',[]))=.ok (none::some (f x)::c,if q x then [g x]else []):=by
    simp only[store,R.bind_ok,List.set_cons_succ,List.set_cons_zero,h1];cases hq:q x with
    |false=>rfl
    |true=>simp only[if_true,h2 hq,R.bind_ok];rfl
   rw[e];simp only[R.bind_ok];rw[ih (some (f x)) _ λy hy=>hm y (aV _ hy),List.filter_cons,bx];cases q x<;>simp
 rw[qo,h];simp only[R.bind_ok];rw[if_neg (by simp;lia),hc,key l none [] λ_ h=>h]
 rfl
theorem kI{α:Type}{w:W}{it:It}{cap:List (Option Nat)}{elt:E}{τ c:Env}{l:List α}{f:α->D}(g:α->D)(h:evI w it τ=.ok (l.map f))(hz:l.length<=SZ)(hc:eM cap τ=none::none::c)
  (hb:∀a∈l,evE w elt (none::some (f a)::c)=.ok (g a)):evE w (.comp it cap (.nm 1) .yes elt) τ=.ok (.lst (l.map g)):=by
 have:=jc (t:=.yes) (elt:=elt) (f:=f) (λ_=>true) g h hz hc λa ha=>⟨rfl,λ_=>hb a ha⟩
 rwa[List.filter_eq_self.mpr (λ_ _=>rfl)]at this
theorem ue{w:W}{e:E}{τ:Env}{xs:List D}(h:evE w e τ=.ok (.lst xs)):evI w (.seq e) τ=.ok xs:=by rw[evI.eq_1,h];rfl
theorem kA{w:W}{e:E}{τ:Env}{xs:List D}(h:evE w e τ=.ok (.tup xs)):evI w (.seq e) τ=.ok xs:=by rw[evI.eq_1,h];rfl
theorem wF{α:Type}(l:List α)(f:α->Bool):bools? (l.map λa=>D.bl (f a))=some (l.map f):=by
 induction l with
 |nil=>rfl
 |cons a r ih=>rw[a5,bools?,ih];rfl
theorem uX{α:Type}(l:List α)(f:α->Bool):b1 .all [.lst (l.map λa=>D.bl (f a))]=.ok (.bl (l.all f)):=by
 rw[b1,b11];simp only[ez];rw[wF];simp only[cg];rw[List.all_map];rfl
theorem rg:∀L:List (List Int),plainAll (L.map tu)=true
 | []=>rfl
 |t::r=>by
  show (D.plain (tu t)&&plainAll (r.map tu))=true;rw[rg r,show D.plain (tu t)=plainAll (t.map D.int)from by simp[D.plain],gA];rfl
theorem pP:∀L:List (List Int),dO (L.map tu)<=1
 | []=>by decide
 |t::r=>by
  have h:=pP r;have e:D.deep (tu t)=1:=by
   show D.deep (.tup (t.map D.int))=1;rw[D.deep,h8]
  show max (D.deep (tu t)) (dO (r.map tu))<=1;rw[e];lia
theorem mH(L:List (List Int)):(D.lst (L.map tu)).asks=true:=by
 have h:=pP L;simp only[D.asks,D.plain,rg,Bool.true_and,decide_eq_true_eq];show dO (L.map tu)+1<=20;lia
theorem nK:∀L M:List (List Int),eqvAll (L.map tu) (M.map tu)=decide (L=M)
 | [],[]=>rfl
 | [],_::_=>rfl
 |_::_,[]=>rfl
 |a::r,b::t=>by
  show (D.eqv (tu a) (tu b)&&eqvAll (r.map tu) (t.map tu))=_;rw[nK r t,show D.eqv (tu a) (tu b)=eqvAll (a.map D.int) (b.map D.int)from by simp[D.eqv],gH];simp[Bool.decide_and]
theorem lJ(L M:List (List Int)):qE .ne (.lst (L.map tu)) (.lst (M.map tu))=.ok (!decide (L=M)):=by
 rw[qE]
 ·rw[if_pos (by rw[mH,mH];rfl)];show R.ok (!D.eqv (.lst _) (.lst _))=_;rw[show D.eqv (.lst (L.map tu)) (.lst (M.map tu))=eqvAll (L.map tu) (M.map tu)from by simp[D.eqv],nK]
 all_goals (intros;rintro⟨⟩)
theorem ne_int(a b:Int):qE .ne (.int a) (.int b)=.ok (!decide (a=b)):=by
 show R.ok (!(a==b))=_
 congr 1
theorem r8(ns:List Int)(lo hi:Option Int):∃cs:List Int,cutD (ns.map D.int) lo hi=cs.map D.int/\cs.length<=ns.length:=by
 refine⟨(ns.drop _).take _,by rw[cutD,<-List.map_drop,<-List.map_take],by simp;lia⟩
theorem uL{p:Pr}(hf:p.fns "_law_whole" = some gv){k:Nat}(i:Int):qf p (k+1) "_law_whole" [.int i]=.ok (.bl true):=by
 rw[zj hf];refine zF rfl rfl ?_;simp[KG.Z,KG.gv]
theorem fx{α:Type}{f:α->D}{r:List D}{x:D}{l:List α}(e:x::r=l.map f):∃a l',l=a::l'/\x=f a/\r=l'.map f:=by
 cases l with
 |nil=>cases e
 |cons a l'=>rw[a5]at e;injection e with e1 e2;exact⟨a,l',rfl,e1,e2⟩
theorem vG{w:W}{f:Fn}{ds:List D}{τ:Env}{Q:D->Prop}(hl:ds.length=f.ps)(hτ:ds.map some++aX (f.N-f.ps) none=τ)(h:Ends (λ_=>False) Q (qi w f.body τ)):∃d,cM w f ds=.ok d/\Q d:=by
 rw[cM,if_pos hl,hτ];cases z:qi w f.body τ with
 |rt d=>rw[z]at h;exact⟨d,rfl,h⟩
 |nx _=>rw[z]at h;exact h.elim
 |_=>rw[z]at h;exact h.elim
end KG
namespace K53
open EV KG
open PySem (Str)
open L2 (atI ixN ltP)
theorem hSt:p.fns "_law_stir" = some KG.zM:=by kernel_rfl
theorem hCe:p.fns "_law_cell_at" = some KG.zv:=by kernel_rfl
noncomputable def tf(s n:Int):List Int:=(a_ (L2.bV s n 3)).map λ(i:Nat)=>s+(i:Int) * 3
theorem sQ(s n:Int):D.tup (fC s 3 (L2.bV s n 3))=tu (tf s n):=by
 rw[tf,tu,bN];rfl
theorem yz(s n:Int):(tf s n).Pairwise (· < ·):=by
 rw[tf,List.pairwise_map];exact List.pairwise_lt_range.imp λh=>by lia
theorem Ae{s n:Int}(h0:0<=s)(hn:n<=300):(tf s n).length<=100:=by
 rw[tf,aP,List.length_range,L2.bV];split<;>lia
theorem jQ{s n:Int}(h:s<n):∃r,tf s n=s::r:=by
 rw[tf,L2.bV,if_pos h];obtain⟨k,e⟩:∃k,((n-s-1)/3+1).toNat=k+1:=⟨((n-s-1)/3).toNat,by lia⟩
 rw[e,List.range_succ_eq_map,a5];refine⟨((a_ k).map Nat.succ).map λ(i:Nat)=>s+(i:Int) * 3,?_⟩
 congr 1
 simp
theorem nT{k:Nat}{s n:Int}(h1:0<=s/\s<=2)(h2:1<=n/\n<=300):qf p (k+1) "thirds_from" [.int s,.int n]=.ok (tu (tf s n)):=by
 have a1:qg s=true:=by simp[qg];lia
 have a2:qg n=true:=by simp[qg];lia
 have a3:qg 3=true:=by decide
 rw[zj DB,<-sQ];refine zF (τ:=[some (.int s),some (.int n)]) rfl rfl ?_;have e:evI ⟨qf p k,p.glb,p.sub,p.cat⟩ (.rng3 (.var 0) (.var 1) (.con (.int 3))) [some (.int s),some (.int n)]=.ok (fC s 3 (L2.bV s n 3)):=by
  simp[KG.Z,a1,a2,a3]
 show qi _ (.cons (.ret (.rtup _)) .nil) _=_;rw[qi,zH,ql,e]
 rfl
theorem x9{k:Nat}(i:Int):qf p (k+1) "is_whole" [.int i]=.ok (.bl true):=by rw[zj Bk];rfl
theorem between{k:Nat}(i a b:Int)(h:a<=i/\i<=b):qf p (k+2) "is_between" [.int i,.int a,.int b]=.ok (.bl true):=by
 rw[zj xy];refine zF rfl rfl ?_;simp[KG.Z,KG.zS,x9,qE,gE,h.1,h.2]
theorem pG{k:Nat}(i a b:Int)(h:a<=i/\i<=b):qf p (k+3) "need_between" [.int i,.int a,.int b]=.ok .non:=by
 rw[zj sU];simp only[cM];simp[KG.Z,lg,between i a b h]
theorem Bt{k:Nat}(n:Int)(h:1<=n/\n<=300):qf p (k+4) "need_row" [.int n]=.ok .non:=by
 rw[zj xa];simp only[cM];simp[KG.Z,jy,oi,pG n 1 300 h]
theorem yn{k:Nat}(n:Int)(h:3<=n/\n<=300):qf p (k+4) "need_ring" [.int n]=.ok .non:=by
 rw[zj uH];simp only[cM];simp[KG.Z,jC,oi,pG n 3 300 h]
noncomputable def fd(n:Int)(cl:Bool):List (List Int):=if cl then (if n%3=0 then (rng 3).map (tf · n)else [])else ((rng 2).filter λs=>decide ((n-1-s)%3<=1)).map (tf · n)
theorem sP{k:Nat}(n:Int)(h:1<=n/\n<=300):qf p (k+5) "row_once" [.int n]=.ok (.lst ((fd n false).map tu)):=by
 have e1:=Bt (k:=k) n h;have hc:evE ⟨qf p (k+4),p.glb,p.sub,p.cat⟩ (.comp (.rng (.con (.int 2))) [none,none,some 0] (.nm 1) (.cmp .le (.op .mod (.op .sub (.op .sub (.var 2) (.con (.int 1))) (.var 1)) (.con (.int 3))) (.con (.int 1))) (.call "thirds_from" (.cons (.var 1) (.cons (.var 2) .nil)))) [some (.int n)]=.ok (.lst (((rng 2).filter λs=>decide ((n-1-s)%3<=1)).map λs=>tu (tf s n))):=by
  refine jc (f:=D.int) (c:=[some (.int n)]) (λs=>decide ((n-1-s)%3<=1)) _ (by rfl) (by decide) rfl λs hs=>⟨?_,λ_=>?_⟩
  ·rfl
  ·obtain⟨s0,s1⟩:=iq.mp hs;have e:=nT (k:=k+3) (s:=s) (n:=n) (by lia) h;generalize tu (tf s n)=U at *;simp[KG.Z,e]
 rw[zj tw];refine zF (τ:=[some (.int n)]) rfl rfl ?_;show qi _ (.cons (.exp _) (.cons (.ret _) .nil)) _=_;refine nC (σ:=[some (.int n)]) (by simp[KG.Z,e1]) ?_;rw[qi,zH,hc];simp only[R.out_ok,fd,aW,if_false,bN]
 rfl
theorem Bo{k:Nat}(n:Int)(h:3<=n/\n<=300):qf p (k+5) "ring_once" [.int n]=.ok (.lst ((fd n true).map tu)):=by
 have e1:=yn (k:=k) n h;have hc:evE ⟨qf p (k+4),p.glb,p.sub,p.cat⟩ (.comp (.rng (.con (.int 3))) [none,none,some 0] (.nm 1) .yes (.call "thirds_from" (.cons (.var 1) (.cons (.var 2) .nil)))) [some (.int n)]=.ok (.lst ((rng 3).map λs=>tu (tf s n))):=by
  refine kI (f:=D.int) (c:=[some (.int n)]) _ (by rfl) (by decide) rfl λs hs=>?_
  obtain⟨s0,s1⟩:=iq.mp hs;have e:=nT (k:=k+3) (s:=s) (n:=n) (by lia) ⟨by lia,h.2⟩;generalize tu (tf s n)=U at *;simp[KG.Z,e]
 have eT:evT ⟨qf p (k+4),p.glb,p.sub,p.cat⟩ (.cmp .eq (.op .mod (.var 0) (.con (.int 3))) (.con (.int 0))) [some (.int n)]=.ok (decide (n%3=0)):=by
  have:=eq_int (n%3) 0;generalize decide (n%3=0)=q at *;simp[KG.Z,op2,this]
 rw[zj uw];refine zF (τ:=[some (.int n)]) rfl rfl ?_;show qi _ (.cons (.exp _) (.cons (.ret (.ite _ _ _)) .nil)) _=_;refine nC (σ:=[some (.int n)]) (by simp[KG.Z,e1]) ?_;rw[qi,zH,qe,eT];simp only[R.bind_ok,fd,if_true];by_cases q:n%3=0
 ·rw[if_pos q,if_pos (by simpa using q),hc,bN];rfl
 ·rw[if_neg q,if_neg (by simpa using q)];rfl
noncomputable def bump(n:Nat)(cl:Bool)(c:List Int)(o:Int):List Int:=if cl||(decide (0<=o)&&decide (o<n))then c.set (o%n).toNat (c.getD (o%n).toNat 0+1)else c
noncomputable def step(n:Nat)(cl:Bool)(c:List Int)(x:Int):List Int:=[x-1,x,x+1].foldl (bump n cl) c
noncomputable def oc(n:Nat)(cl:Bool)(s:List Int):Bool:=decide (s.foldl (step n cl) (aX n 0)=aX n 1)
theorem tY(n:Nat)(cl:Bool)(c:List Int)(o:Int):(bump n cl c o).length=c.length:=by rw[bump];split<;>simp
abbrev li(c:List Int):D:=.lst (c.map D.int)
theorem lI(i:Int){n:Nat}(hn:n<=300):op2 .mul (.lst [.int i]) (.int (n:Int))=.ok (li (aX n i)):=by
 rw[op2,if_pos ⟨rfl,by lia,by simp[SZ];lia,by lia⟩,li,List.map_replicate]
 congr 2
 simp
theorem wV(xs ys:List Int):qE .eq (li xs) (li ys)=.ok (decide (xs=ys)):=by
 have a:∀l:List Int,(li l).asks=true:=λl=>by simp[D.asks,D.plain,D.deep,gA,h8]
 rw[qE,a,a];simp only[Bool.and_self,if_true,D.eqv,gH]
theorem ya(xs ys:List Int):qE .ne (li xs) (li ys)=.ok (!decide (xs=ys)):=by
 have a:∀l:List Int,(li l).asks=true:=λl=>by simp[D.asks,D.plain,D.deep,gA,h8]
 rw[qE,a,a];simp only[Bool.and_self,if_true,D.eqv,gH]
abbrev OE(n:Nat)(cl:Bool)(s:D)(c:List Int)(v4 v5:Option D):Env:=[some (.int (n:Int)),some (.bl cl),some s,some (li c),v4,v5]
theorem wt{w:W}{n:Nat}(h1:1<=n)(h2:n<=300){cl:Bool}{s:D}{c:List Int}(hl:c.length=n){v4:Option D}(o:Int):evS w (.ite (.or (.val (.var 1)) (.cmp2 .le .lt (.con (.int 0)) (.var 5) (.var 0))) (.cons (.seti 3 (.op .mod (.var 5) (.var 0)) (.op .add (.ix (.own 3) (.op .mod (.var 5) (.var 0))) (.con (.int 1)))) .nil) .nil) (OE n cl s c v4 (some (.int o)))=.nx (OE n cl s (bump n cl c o) v4 (some (.int o))):=by
 have m0:=Int.emod_nonneg o (show (n:Int)≠0 by lia);have m1:=Int.emod_lt_of_pos o (show (0:Int)<n by lia);have c1:qE .le (.int 0) (.int o)=.ok (decide (0<=o)):=rfl;have c2:qE .lt (.int o) (.int (n:Int))=.ok (decide (o<n)):=rfl;have eT:evT w (.or (.val (.var 1)) (.cmp2 .le .lt (.con (.int 0)) (.var 5) (.var 0))) (OE n cl s c v4 (some (.int o)))=.ok (cl||(decide (0<=o)&&decide (o<n))):=by
  dsimp only[OE];generalize decide (o<(n:Int))=q2 at *;generalize decide (0<=o)=q1 at *;generalize ((n:Nat):Int)=N at *;cases cl
  ·cases q1<;>simp[KG.Z,c1,c2]
  ·simp[KG.Z]
 rw[cm,eT];simp only[R.out_ok];by_cases q:(cl||(decide (0<=o)&&decide (o<n)))=true
 ·rw[if_pos q,bump,if_pos q];obtain⟨i,hi⟩:∃i:Nat,o%(n:Int)=i:=⟨(o%n).toNat,by lia⟩
  have hi':i<c.length:=by lia
  have z1:op2 .mod (.int o) (.int (n:Int))=.ok (.int (i:Int)):=by
   show opI .mod o n=_;rw[opI,if_pos (by lia),hi]
  have z2:ixD (li c) (.int (i:Int))=.ok (.int (c.getD i 0)):=by
   have:=gG (xs:=c.map D.int) (i:=i) (by simpa using hi');simp only[ixD,li];rw[this];simp[hi']
  have z3:op2 .add (.int (c.getD i 0)) (.int 1)=.ok (.int (c.getD i 0+1)):=rfl;have z4:ixN (c.map D.int).length (i:Int)=some i:=by
   rw[ixN,if_pos (by lia),if_pos (by simp;lia)];simp
  rw[hi,Int.toNat_natCast];have z5:(c.map D.int).set i (.int (c.getD i 0+1))=(c.set i (c.getD i 0+1)).map D.int:=by rw[List.map_set]
  have eE:evE w (.op .add (.ix (.own 3) (.op .mod (.var 5) (.var 0))) (.con (.int 1))) (OE n cl s c v4 (some (.int o)))=.ok (.int (c.getD i 0+1)):=by
   dsimp only[OE];generalize li c=LC at *;generalize c.getD i 0+1=Y at *;generalize c.getD i 0=X at *;generalize ((n:Nat):Int)=N at *;generalize ((i:Nat):Int)=I at *;simp[KG.Z,z1,z2,z3]
  have eK:evE w (.op .mod (.var 5) (.var 0)) (OE n cl s c v4 (some (.int o)))=.ok (.int (i:Int)):=by
   dsimp only[OE];generalize li c=LC at *;generalize ((n:Nat):Int)=N at *;generalize ((i:Nat):Int)=I at *;simp[KG.Z,z1]
  have eG:b6 (OE n cl s c v4 (some (.int o))) 3=.ok (li c):=rfl;rw[qi,cG,eE];simp only[R.out_ok];rw[eG];simp only[R.out_ok];rw[eK];simp only[R.out_ok,li];rw[z4];dsimp only;rw[z5]
  rfl
 ·rw[if_neg q,bump,if_neg q];rfl
theorem oS{k:Nat}{n:Nat}(h1:1<=n)(h2:n<=300)(cl:Bool)(s:List Int):qf p (k+1) "_law_once" [.int (n:Int),.bl cl,tu s]=.ok (.bl (oc n cl s)):=by
 have hr:=lI 0 h2;have hr1:=lI 1 h2;obtain⟨d,e,rfl⟩:∃d,qf p (k+1) "_law_once" [.int (n:Int),.bl cl,tu s]=.ok d/\d=.bl (oc n cl s):=by
  refine kD (k:=k) (τ:=[some (.int (n:Int)),some (.bl cl),some (tu s),none,none,none]) u5 rfl rfl ?_;refine cN (σ:=OE n cl (tu s) (aX n 0) none none) (by
   dsimp only[OE];generalize li (aX n 0)=LC at *;generalize tu s=TS at *;generalize ((n:Nat):Int)=N at *;simp[KG.Z,hr]) ?_
  refine ff (ds:=s.map D.int) (λr σ=>∃(l:List Int) (c:List Int) (v4 v5:Option D),r=l.map D.int/\c.length=n/\l.foldl (step n cl) c=s.foldl (step n cl) (aX n 0)/\σ=OE n cl (tu s) c v4 v5) (kA rfl) ⟨s,_,none,none,rfl,by simp,rfl,rfl⟩ ?_ ?_
  ·rintro x r σ ⟨l,c,v4,v5,er,hl,hf,rfl⟩;obtain⟨x,l,rfl,rfl,rfl⟩:=fx er;refine⟨OE n cl (tu s) c (some (.int x)) v5,rfl,?_⟩;refine ff (ds:=[x-1,x,x+1].map D.int) (λr σ=>∃(ys:List Int) (c':List Int) (v5:Option D),r=ys.map D.int/\c'.length=n/\ys.foldl (bump n cl) c'=step n cl c x/\σ=OE n cl (tu s) c' (some (.int x)) v5) (kA (by
    dsimp only[OE];generalize li c=LC at *;generalize tu s=TS at *;generalize ((n:Nat):Int)=N at *;simp[KG.Z,op2])) ⟨_,c,v5,rfl,hl,rfl,rfl⟩ ?_ ?_
   ·rintro y r σ ⟨ys,c',v5,er,hl',hf',rfl⟩;obtain⟨o,ys,rfl,rfl,rfl⟩:=fx er;refine⟨OE n cl (tu s) c' (some (.int x)) (some (.int o)),rfl,?_⟩;exact cN (wt h1 h2 hl' o) (eI ⟨ys,bump n cl c' o,_,rfl,by rw[tY];exact hl',hf',rfl⟩)
   ·rintro σ ⟨ys,c',v5,er,hl',hf',rfl⟩;have:ys=[]:=by cases ys with|nil=>rfl|cons _ _=>cases er
    subst this;exact eI ⟨l,c',_,_,rfl,hl',by rw[<-hf,List.foldl_cons,<-hf'];rfl,rfl⟩
  ·rintro σ ⟨l,c,v4,v5,er,hl,hf,rfl⟩;have:l=[]:=by cases l with|nil=>rfl|cons _ _=>cases er
   subst this;have hf:c=s.foldl (step n cl) (aX n 0):=hf;have e3:=wV c (aX n 1);refine iZ (d:=.bl (oc n cl s)) ?_ rfl;rw[oc,<-hf];dsimp only[OE];generalize decide (c=aX n 1)=q at *;generalize li (aX n 1)=L1 at *;generalize li c=LC at *;generalize tu s=TS at *;generalize ((n:Nat):Int)=N at *;simp[KG.Z,hr1,e3]
 exact e
noncomputable def ind(n:Nat)(O:Nat->Int)(t:Int):List Int:=(a_ n).map λj=>if O j<t then 1 else 0
theorem nM{n:Nat}{O:Nat->Int}{t:Int}{i:Nat}(hi:i<n)(h:O i=t)(hu:∀j,j<n->O j=t->j=i):(ind n O t).set i ((ind n O t).getD i 0+1)=ind n O (t+1):=by
 have e0:(ind n O t).getD i 0=0:=by simp[ind,hi,h]
 rw[e0];refine List.ext_getElem (by simp[ind]) λj h1 h2=>?_
 have hj:j<n:=by simpa[ind]using h2
 rw[List.getElem_set];by_cases q:i=j
 ·subst q;rw[if_pos rfl];simp only[ind,dj,List.getElem_range];rw[if_pos (by lia)];rfl
 ·rw[if_neg q];have:O j≠t:=λz=>q (hu j hj z).symm
  simp only[ind,dj,List.getElem_range];by_cases q2:O j<t
  ·rw[if_pos q2,if_pos (by lia)]
  ·rw[if_neg q2,if_neg (by lia)]
theorem xg{n:Nat}{O:Nat->Int}{t:Int}(hu:∀j,j<n->O j≠t):ind n O t=ind n O (t+1):=by
 refine List.map_congr_left λj hj=>?_
 have:=hu j (List.mem_range.mp hj);by_cases q2:O j<t
 ·rw[if_pos q2,if_pos (by lia)]
 ·rw[if_neg q2,if_neg (by lia)]
noncomputable def Of(n:Nat)(cl:Bool)(s:Int)(j:Nat):Int:=if cl then ((j:Int)-s+1)%n else (j:Int)-s+1
theorem jx{n:Nat}(hn:1<=n){cl:Bool}{s:Int}(hs:0<=s){t:Int}(h0:0<=t)(hc:cl=true->t<n):bump n cl (ind n (Of n cl s) t) (s-1+t)=ind n (Of n cl s) (t+1):=by
 rw[bump];cases cl with
 |true=>
  have ht:=hc rfl;simp only[Bool.true_or,if_true];have m0:=Int.emod_nonneg (s-1+t) (show (n:Int)≠0 by lia);have m1:=Int.emod_lt_of_pos (s-1+t) (show (0:Int)<n by lia);obtain⟨i,hi⟩:∃i:Nat,(s-1+t)%(n:Int)=i:=⟨((s-1+t)%n).toNat,by lia⟩
  rw[hi,Int.toNat_natCast];have ei:(((i:Int)-s+1)%n)=t:=by
   have:((i:Int)-s+1)%n=((s-1+t)%n-(s-1))%n:=by rw[hi];congr 1;lia
   rw[this,Int.emod_sub_emod,show s-1+t-(s-1)=t by lia,Int.emod_eq_of_lt h0 ht]
  refine nM (by lia) (by simp only[Of,if_true];exact ei) λj hj hz=>?_
  simp only[Of,if_true]at hz;have d:((j:Int)-s+1-((i:Int)-s+1))%n=0:=by rw[Int.sub_emod,hz,ei,Int.sub_self];simp
  rw[show (j:Int)-s+1-((i:Int)-s+1)=(j:Int)-i by lia]at d;obtain⟨k,hk⟩:=Int.dvd_of_emod_eq_zero d;have:k=0:=by
   rcases Int.lt_trichotomy k 0 with q|q|q
   ·have:=Int.mul_le_mul_of_nonneg_left (show k<=-1 by lia) (show (0:Int)<=n by lia);lia
   ·exact q
   ·have:=Int.mul_le_mul_of_nonneg_left (show 1<=k by lia) (show (0:Int)<=n by lia);lia
  subst this;lia
 |false=>
  simp only[Bool.false_or,aM,decide_eq_true_eq];by_cases q:0<=s-1+t/\s-1+t<n
  ·rw[if_pos q,Int.emod_eq_of_lt q.1 q.2];refine nM (by lia) (by simp only[Of,aW,if_false];lia) λj hj hz=>?_
   simp only[Of,aW,if_false]at hz;lia
  ·rw[if_neg q];refine xg λj hj hz=>?_
   simp only[Of,aW,if_false]at hz;lia
theorem mI{n:Nat}(hn:1<=n){cl:Bool}{s:Int}(hs:0<=s):∀k:Nat,(cl=true->3 * k<=n)->((a_ k).map λ(i:Nat)=>s+(i:Int) * 3).foldl (step n cl) (ind n (Of n cl s) 0)=ind n (Of n cl s) (3 * (k:Int))
 | 0,_=>rfl
 |k+1,hk=>by
  rw[List.range_succ,List.map_append,List.foldl_append,mI hn hs k (λz=>by have:=hk z;lia)];show bump n cl (bump n cl (bump n cl (ind n (Of n cl s) (3 * (k:Int))) (s+(k:Int) * 3-1)) (s+(k:Int) * 3)) (s+(k:Int) * 3+1)=_;have b1:=jx hn hs (cl:=cl) (t:=3 * (k:Int)) (by lia) λz=>by have:=hk z;lia
  have b2:=jx hn hs (cl:=cl) (t:=3 * (k:Int)+1) (by lia) λz=>by have:=hk z;lia
  have b3:=jx hn hs (cl:=cl) (t:=3 * (k:Int)+1+1) (by lia) λz=>by have:=hk z;lia
  rw[show s+(k:Int) * 3-1=s-1+3 * (k:Int)by lia,b1,show s+(k:Int) * 3=s-1+(3 * (k:Int)+1)by lia,b2,show s-1+(3 * (k:Int)+1)+1=s-1+(3 * (k:Int)+1+1)by lia,b3]
  rfl
theorem md{n:Nat}{O:Nat->Int}{t v:Int}(h:∀j,j<n->(if O j<t then (1:Int)else 0)=v):ind n O t=aX n v:=by
 refine List.ext_getElem (by simp[ind]) λj h1 h2=>?_
 simp only[ind,dj,List.getElem_range,List.getElem_replicate];exact h j (by simpa[ind]using h1)
theorem AQ{n:Nat}(h1:1<=n){cl:Bool}{s:Int}(hs:0<=s)(hsn:s<n)(hf:if cl then n%3=0/\s<=2 else s<=1/\((n:Int)-1-s)%3<=1):oc n cl (tf s n)=true:=by
 rw[oc,decide_eq_true_eq,tf,L2.bV,if_pos hsn];have hO:∀j,0<=Of n cl s j:=λj=>by
  rw[Of];cases cl with
  |true=>exact Int.emod_nonneg _ (by lia)
  |false=>simp only[aW,if_false]at hf ⊢;lia
 rw[<-md (n:=n) (O:=Of n cl s) (t:=0) (v:=0) λj hj=>by rw[if_neg (by have:=hO j;lia)]];rw[mI h1 hs _ λz=>by subst z;simp only[if_true]at hf;lia];refine md λj hj=>?_
 rw[if_pos];cases cl with
 |true=>
  simp only[if_true]at hf;have m1:=Int.emod_lt_of_pos ((j:Int)-s+1) (show (0:Int)<n by lia);simp only[Of,if_true];lia
 |false=>
  simp only[aW,if_false]at hf;simp only[Of,aW,if_false];lia
theorem Aq:KG.subs 9=(a_ (2^9)).map (bs 9):=by decide +kernel
theorem so:∀n:Fin 10,1<=n.val->(zA (KG.subs n.val)).filter (oc n.val false)=fd (n.val:Int) false:=by decide +kernel
theorem wu:∀n:Fin 10,3<=n.val->(zA (KG.subs n.val)).filter (oc n.val true)=fd (n.val:Int) true:=by decide +kernel
theorem sH{n:Nat}(h1:1<=n)(h:n<10){cl:Bool}(hc:cl=true->3<=n):(zA (KG.subs n)).filter (oc n cl)=fd (n:Int) cl:=by
 cases cl with
 |false=>exact so ⟨n,h⟩ h1
 |true=>exact wu ⟨n,h⟩ (hc rfl)
theorem Be{n:Nat}(h1:1<=n)(h:n<10):KG.subs n=(a_ (2^n)).map (bs (n:Int)):=by
 by_cases q:n=9
 ·subst q;exact Aq
 ·have:=wq (n:Int) (by lia) (by lia)
  simpa using this
theorem vN{k:Nat}{m:Nat}(h2:m<=9)(n:Nat):qf p (k+1) "_law_some" [.int (m:Int),.int (n:Int)]=.ok (tu (bs m n)):=by
 rw[zj uN];refine zF (τ:=[some (.int (m:Int)),some (.int (n:Int))]) rfl rfl ?_;have hm:qg (m:Int)=true:=by simp[qg];lia
 have hc:evE ⟨qf p k,p.glb,p.sub,p.cat⟩ (.comp (.rng (.var 0)) [none,none,some 1] (.nm 1) (.cmp .eq (.op .band (.op .shr (.var 2) (.var 1)) (.con (.int 1))) (.con (.int 1))) (.var 1)) [some (.int (m:Int)),some (.int (n:Int))]=.ok (.lst ((bs m n).map D.int)):=by
  refine jc (f:=D.int) (c:=[some (.int (n:Int))]) (λi=>n.testBit i.toNat) D.int ?_ (by rw[x8];simp[SZ];lia) rfl λb hb=>⟨?_,λ_=>rfl⟩
  ·rw[<-jb];generalize ((m:Nat):Int)=M at *;simp[KG.Z,hm]
  ·obtain⟨b0,b1⟩:=iq.mp hb;have e:=uF n b.toNat;have e2:qE .eq (.int (PySem.Builtin.bitAnd ((n:Int)/2^b.toNat) 1)) (.int 1)=.ok (n.testBit b.toNat):=by
    rw[e,eq_int];cases n.testBit b.toNat<;>rfl
   generalize n.testBit b.toNat=q at *;simp[KG.Z,op2,b0,e2]
 show qi _ (.cons (.ret (.bi .tuple (.cons _ .nil))) .nil) _=_;rw[qi,zH,qk,zB,hc];simp only[R.bind_ok,zB]
 rfl
noncomputable def sts(n:Int)(cl:Bool):List Int:=if cl then (if n%3=0 then rng 3 else [])else (rng 2).filter λs=>decide ((n-1-s)%3<=1)
noncomputable def many(n:Int)(cl:Bool):Int:=if cl then (if n%3=0 then 3 else 0)else (if n%3=2 then 2 else 1)
theorem i_(n:Int)(cl:Bool):fd n cl=(sts n cl).map (tf · n):=by
 rw[fd,sts];cases cl
 ·rfl
 ·simp only[if_true];split<;>rfl
theorem xY(n:Int)(cl:Bool):(sts n cl).Pairwise (· < ·):=by
 rw[sts];cases cl
 ·exact(lK 2).sublist List.filter_sublist
 ·simp only[if_true];split
  ·exact lK 3
  ·exact .nil
theorem kC{n:Nat}(h1:1<=n){cl:Bool}(hc:cl=true->3<=n):∀s∈sts n cl,0<=s/\s<n/\s<=2/\(if cl then n%3=0/\s<=2 else s<=1/\((n:Int)-1-s)%3<=1):=by
 intro s hs;rw[sts]at hs;cases cl with
 |false=>
  simp only[aW,if_false]at hs ⊢;obtain⟨a,b⟩:=List.mem_filter.mp hs;have a:=iq.mp a;have b:=of_decide_eq_true b;lia
 |true=>
  have:=hc rfl;simp only[if_true]at hs ⊢;split at hs
  ·have:=iq.mp hs;lia
  ·cases hs
theorem xv{n:Int}(h1:1<=n)(cl:Bool):((sts n cl).length:Int)=many n cl:=by
 rw[sts,many];cases cl with
 |true=>simp only[if_true];split<;>rfl
 |false=>
  simp only[aW,if_false];rw[show rng 2=[0,1]by decide];simp only[List.filter_cons,List.filter_nil];have m:n%3=0\/n%3=1\/n%3=2:=by lia
  rcases m with m|m|m
  ·rw[if_neg (by simp;lia),if_pos (by simp;lia),if_neg (by lia)];rfl
  ·rw[if_pos (by simp;lia),if_neg (by simp;lia),if_neg (by lia)];rfl
  ·rw[if_pos (by simp;lia),if_pos (by simp;lia),if_pos m];rfl
theorem vJ(n:Int)(cl:Bool):(sts n cl).length<=3:=by
 rw[sts];cases cl with
 |true=>simp only[if_true];split<;>decide
 |false=>exact bB (List.length_filter_le _ _) (by decide)
theorem Ca{n:Nat}(h1:1<=n){cl:Bool}(hc:cl=true->3<=n):(fd n cl).Pairwise λa b=>TS.ltL b a=false/\a≠b:=by
 rw[i_,List.pairwise_map];refine(List.Pairwise.and_mem.mp (xY n cl)).imp λ{a b} ⟨ha,hb,hlt⟩=>?_
 obtain⟨r,er⟩:=jQ (kC h1 hc a ha).2.1;obtain⟨t,et⟩:=jQ (kC h1 hc b hb).2.1;rw[er,et];refine⟨?_,λz=>by cases z;lia⟩;rw[TS.ltL,if_neg (by lia)];exact decide_eq_false (by lia)
theorem Cv{n:Nat}(h1:1<=n){cl:Bool}(hc:cl=true->3<=n){x:List Int}(hx:x∈fd n cl):oc n cl x=true/\x.Pairwise (· < ·)/\x≠[]/\∃s,0<=s/\x=tf s n:=by
 rw[i_]at hx;obtain⟨s,hs,rfl⟩:=bt.mp hx;obtain⟨a,b,c,d⟩:=kC h1 hc s hs;obtain⟨r,er⟩:=jQ b;exact⟨AQ h1 a b d,yz s n,by simp only[er];simp,s,a,rfl⟩
theorem CZ(L:List (List Int))(h:L.length<64)(h0:∀t∈L,t≠[])(hs:L.Pairwise λa b=>TS.ltL b a=false):b1 .sorted [.lst (L.map tu)]=.ok (.lst (L.map tu)):=by
 have sl:zA L=L:=(lT .rfl hs).symm;rw[oW,if_pos (by simpa using h)];cases L with
 |nil=>rfl
 |cons a r=>
  have e1:ints? ((a::r).map tu)=none:=rfl;rw[e1];dsimp only;cases e2:pairs? ((a::r).map tu)with
  |some ps=>
   have e3:=jT e2;rw[iR]at e3;injection e3 with e3
   rw[e3,k_]at sl;show R.ok (D.lst ((ee ps).map pairD))=_;rw[e3,<-sl,bN];rfl
  |none=>
   have e4:eB (a::r)=true:=by
    cases r with
    |nil=>rfl
    |cons b r=>
     rw[eB,bL];right;rw[dC];intro t ht;have:=h0 t ht;cases t with
     |nil=>exact absurd rfl this
     |cons _ _=>rfl
   show cR _=_;rw[cR,iR];show (if eB (a::r)=true then _ else _)=_;rw[e4,sl];rfl
theorem Br(x:List Int)(P:List (List Int))(h:x∉P):qE .isin (tu x) (.lst (P.map tu))=.ok false:=by
 rw[qE];simp only[seq?];rw[if_pos (by simp only[aM,dC,bt];exact⟨p8 _,λy ⟨t,_,e⟩=>e▸p8 _⟩),inD,List.any_map]
 congr 1
 rw[List.any_eq_false];intro y hy z;have z:D.eqv (tu y) (tu x)=true:=z;rw[show D.eqv (tu y) (tu x)=eqvAll (y.map D.int) (x.map D.int)from by simp[D.eqv],gH,decide_eq_true_eq]at z;exact h (z▸hy)
theorem Am(L:List (List Int))(j:Nat)(h:j<=L.length):slD (.lst (L.map tu)) none (some (j:Int))=.ok (.lst ((L.take j).map tu)):=by
 show R.ok (D.lst (cutD (L.map tu) none (some (j:Int))))=_;rw[cutD,HT.uJ,HT.AA,aP,Nat.min_eq_left h,List.drop_zero,Nat.sub_zero,List.map_take]
theorem uD{xs:List Int}(h:xs.Pairwise (· < ·)):sortI (uq xs)=xs:=(gU (mT (h.imp λz=>by lia) λ_=>.rfl) (h.imp λz=>by lia)).symm
theorem uZ{xs:List Int}(hz:xs.length<=100)(h:xs.Pairwise (· < ·)):iz false (tu xs)=.ok (li xs):=by
 simp only[iz,tu,one?,cg];rw[if_pos (by simp;lia),ints_map];show R.ok (D.lst ((sortI (uq xs)).map D.int))=_;rw[uD h]
theorem z_(L:List (List Int)):∀j:Nat,dN j (L.map tu)=(List.range' j L.length).map λ(q:Nat)=>.tup [.int (q:Int),tu (L.getD (q-j) [])]:=by
 induction L with
 |nil=>intro j;rfl
 |cons a r ih=>
  intro j;rw[a5,dN,ih (j+1),b4,List.range'_succ,a5]
  congr 1
  ·simp
  ·refine List.map_congr_left λq hq=>?_
   have:=(List.mem_range'_1.mp hq).1;have e:q-j=(q-(j+1))+1:=by lia
   rw[e,List.getD_cons_succ]
abbrev RS(n:Nat)(cl:Bool)(L:List (List Int))(v3 v5 v6 v7:Option D):Env:=[some (.int (n:Int)),some (.bl cl),some (.int (L.length:Int)),v3,some (.lst (L.map tu)),v5,v6,v7]
theorem look{k:Nat}{n:Nat}(h1:1<=n)(h2:n<=300){cl:Bool}{x:List Int}{L:List (List Int)}{j:Nat}(hx:oc n cl x=true)(hr:x.Pairwise (· < ·))(hz:x.length<=100)(hj:j<=L.length)(hn:x∉L.take j){v3 v7:Option D}{J:Env->Prop}{Q:D->Prop}{r:Ss}(hJ:Ends J Q (qi (wAt p (k+1)) r (RS n cl L v3 (some (.int (j:Int))) (some (tu x)) v7))) :
  Ends J Q (qi (wAt p (k+1)) (.cons (.ite (.or (.not (.val (.isi (.var 6) (.ty "tuple")))) (.or (.not (.val (.bi .all (.cons (.comp (.seq (.var 6)) [none,none] (.nm 1) .yes (.call "_law_whole" (.cons (.var 1) .nil))) .nil)))) (.cmp .isin (.var 6) (.sl (.own 4) .none (.some (.var 5)))))) (.cons (.ret (.con (.bl false))) .nil) .nil) (.cons (.ite (.or (.cmp .ne (.bi .list (.cons (.var 6) .nil)) (.sset false (.var 6))) (.not (.val (.call "_law_once" (.cons (.var 0) (.cons (.var 1) (.cons (.var 6) .nil))))))) (.cons (.ret (.con (.bl false))) .nil) .nil) r)) (RS n cl L v3 (some (.int (j:Int))) (some (tu x)) v7)):=by
 have i1:=Br x (L.take j) hn;have i2:=Am L j hj;have hw:p.fns "_law_whole" = some KG.gv:=by kernel_rfl
 have hc:evE (wAt p (k+1)) (.comp (.seq (.var 6)) [none,none] (.nm 1) .yes (.call "_law_whole" (.cons (.var 1) .nil))) (RS n cl L v3 (some (.int (j:Int))) (some (tu x)) v7)=.ok (.lst (x.map λ_=>.bl true)):=by
  refine kI (f:=D.int) (c:=[]) (λ_=>.bl true) (kA rfl) (by simp[SZ];lia) rfl λa _=>?_
  have e:=uL hw (k:=k) a;simp[KG.Z,e]
 have h3:=uX x λ_=>true
 have h4:(x.all λ_=>true)=true:=by simp
 rw[h4]at h3;have e1:∀w:W,cW w (tu x) (.ty "tuple")=.ok (.bl true):=λ_=>rfl
 have e2:b1 .list [tu x]=.ok (li x):=rfl;have e3:=uZ hz hr;have e4:=ya x x;simp only[decide_true,cC]at e4;have e5:=oS (k:=k) h1 h2 cl x;rw[hx]at e5;refine cN (σ:=RS n cl L v3 (some (.int (j:Int))) (some (tu x)) v7) ?_ (cN (σ:=RS n cl L v3 (some (.int (j:Int))) (some (tu x)) v7) ?_ hJ)
 ·dsimp only[RS]at hc ⊢;generalize (x.map λ_=>D.bl true)=BB at *;generalize L.map tu=LL at *;generalize (L.take j).map tu=LT at *;generalize tu x=TX at *;generalize ((L.length:Nat):Int)=LN at *;generalize ((n:Nat):Int)=N at *;generalize ((j:Nat):Int)=Jn at *;simp[KG.Z,hc,h3,e1,i1,i2]
 ·dsimp only[RS];generalize L.map tu=LL at *;generalize tu x=TX at *;generalize li x=LX at *;generalize ((L.length:Nat):Int)=LN at *;generalize ((n:Nat):Int)=N at *;generalize ((j:Nat):Int)=Jn at *;simp[KG.Z,e2,e3,e4,e5,qu]
theorem rows{k:Nat}{n:Nat}(h1:1<=n)(h:n<10){cl:Bool}(hc:cl=true->3<=n){L:List (List Int)}(hL:L=fd n cl){v3 v5 v6 v7:Option D}:Ends (λσ=>∃v7,σ=RS n cl L v3 v5 v6 v7) (λd=>d=.bl true) (qi (wAt p (k+1)) (.cons (.set (.nm 7) (.bi .sorted (.cons (.comp (.rng (.op .shl (.con (.int 1)) (.var 0))) [none,none,some 0] (.nm 1) .yes (.call "_law_some" (.cons (.var 2) (.cons (.var 1) .nil)))) .nil))) (.cons (.ite (.cmp .ne (.own 4) (.comp (.seq (.var 7)) [none,none,some 1,some 0] (.nm 1) (.val (.call "_law_once" (.cons (.var 3) (.cons (.var 2) (.cons (.var 1) .nil))))) (.var 1))) (.cons (.ret (.con (.bl false))) .nil) .nil) .nil)) (RS n cl L v3 v5 v6 v7)):=by
 have hp:2^n<=512:=bB (Nat.pow_le_pow_right (by decide) (show n<=9 by lia)) (by decide);have c1:evE (wAt p (k+1)) (.comp (.rng (.op .shl (.con (.int 1)) (.var 0))) [none,none,some 0] (.nm 1) .yes (.call "_law_some" (.cons (.var 2) (.cons (.var 1) .nil)))) (RS n cl L v3 v5 v6 v7)=.ok (.lst ((KG.subs n).map tu)):=by
  rw[Be h1 h,bN];refine kI (f:=λ(i:Nat)=>D.int (i:Int)) (c:=[some (.int (n:Int))]) (tu∘bs (n:Int)) ?_ (by simp[SZ];lia) rfl λi _=>?_
  ·have e:op2 .shl (.int 1) (.int (n:Int))=.ok (.int ((2^n:Nat):Int)):=by
    show opI .shl 1 (n:Int)=_;rw[opI,if_pos ⟨by lia,by lia,by decide⟩];simp
   have e2:qg ((2^n:Nat):Int)=true:=by
    generalize 2^n=Z at *;simp only[qg,aM,decide_eq_true_eq];lia
   have e3:zE 0 (((2^n:Nat):Int)).toNat=(a_ (2^n)).map λ(i:Nat)=>D.int (i:Int):=by
    rw[Int.toNat_natCast,zE];simp
   rw[<-e3];dsimp only[RS];generalize L.map tu=LL at *;generalize ((L.length:Nat):Int)=LN at *;generalize ((2^n:Nat):Int)=Z at *;generalize ((n:Nat):Int)=N at *;simp[KG.Z,e,e2]
  ·have e:=vN (k:=k) (m:=n) (by lia) i;show evE _ _ [none,some (.int (i:Int)),some (.int (n:Int))]=.ok (tu (bs n i));generalize tu (bs n i)=U at *;generalize ((n:Nat):Int)=N at *;generalize ((i:Nat):Int)=I at *;simp[KG.Z,e]
 have c2:=m7 (j:=n) h1;have hlen:(zA (KG.subs n)).length<=512:=by rw[(kH _).length_eq,ll];exact hp
 have hf:=sH h1 h hc;rw[<-hL]at hf;refine cN (σ:=RS n cl L v3 v5 v6 (some (.lst ((zA (KG.subs n)).map tu)))) (by
  rw[zJ,qk,zB,c1];simp only[R.bind_ok,zB,c2]
  rfl) ?_
 have c3:evE (wAt p (k+1)) (.comp (.seq (.var 7)) [none,none,some 1,some 0] (.nm 1) (.val (.call "_law_once" (.cons (.var 3) (.cons (.var 2) (.cons (.var 1) .nil))))) (.var 1)) (RS n cl L v3 v5 v6 (some (.lst ((zA (KG.subs n)).map tu))))=.ok (.lst (L.map tu)):=by
  conv=>rhs;rw[<-hf]
  refine jc (f:=tu) (c:=[some (.bl cl),some (.int (n:Int))]) (oc n cl) tu (ue rfl) (by simp[SZ];lia) rfl λx _=>⟨?_,λ_=>rfl⟩
  have e:=oS (k:=k) h1 (by lia) cl x;generalize oc n cl x=q at *;generalize tu x=U at *;generalize ((n:Nat):Int)=N at *;simp[KG.Z,e]
 have c4:=lJ L L;simp only[decide_true,cC]at c4;refine cN (σ:=RS n cl L v3 v5 v6 (some (.lst ((zA (KG.subs n)).map tu)))) ?_ (eI ⟨_,rfl⟩);dsimp only[RS]at c3 ⊢;generalize (zA (KG.subs n)).map tu=SL at *;generalize L.map tu=LL at *;generalize ((L.length:Nat):Int)=LN at *;generalize ((n:Nat):Int)=N at *;simp[KG.Z,c3,c4]
theorem Ad{w:W}{n:Int}{cl:Bool}{v2 v3 v4 v5 v6 v7:Option D}:evE w (.ite (.val (.var 1)) (.ix (.lst (.cons (.con (.int 0)) (.cons (.con (.int 3)) .nil))) (.bi .int (.cons (.cmp .eq (.op .mod (.var 0) (.con (.int 3))) (.con (.int 0))) .nil))) (.ix (.lst (.cons (.con (.int 1)) (.cons (.con (.int 2)) .nil))) (.bi .int (.cons (.cmp .eq (.op .mod (.var 0) (.con (.int 3))) (.con (.int 2))) .nil)))) [some (.int n),some (.bl cl),v2,v3,v4,v5,v6,v7]=.ok (.int (many n cl)):=by
 have x0:ixD (.lst [.int 0,.int 3]) (.int 0)=.ok (.int 0):=rfl;have x1:ixD (.lst [.int 0,.int 3]) (.int 1)=.ok (.int 3):=rfl;have y0:ixD (.lst [.int 1,.int 2]) (.int 0)=.ok (.int 1):=rfl;have y1:ixD (.lst [.int 1,.int 2]) (.int 1)=.ok (.int 2):=rfl;have b0:b1 .int [.bl false]=.ok (.int 0):=rfl;have b1':b1 .int [.bl true]=.ok (.int 1):=rfl;have om:op2 .mod (.int n) (.int 3)=.ok (.int (n%3)):=rfl;have q0:=eq_int (n%3) 0;have q2:=eq_int (n%3) 2;rw[many];cases cl with
 |true=>
  by_cases q:n%3=0
  ·rw[decide_eq_true q]at q0;rw[if_pos rfl,if_pos q];generalize n%3=R3 at *;clear q;simp[KG.Z,om,q0,x1,b1',qe]
  ·rw[decide_eq_false q]at q0;rw[if_pos rfl,if_neg q];generalize n%3=R3 at *;clear q;simp[KG.Z,om,q0,x0,b0,qe]
 |false=>
  by_cases q:n%3=2
  ·rw[decide_eq_true q]at q2;rw[if_neg (by decide),if_pos q];generalize n%3=R3 at *;clear q;simp[KG.Z,om,q2,y1,b1',qe]
  ·rw[decide_eq_false q]at q2;rw[if_neg (by decide),if_neg q];generalize n%3=R3 at *;clear q;simp[KG.Z,om,q2,y0,b0,qe]
theorem AD{k:Nat}{n:Nat}(h1:1<=n)(h2:n<=300){cl:Bool}(hc:cl=true->3<=n):qf p (k+6) "_law_right" [.int (n:Int),.bl cl]=.ok (.bl true):=by
 have hlen:((fd n cl).length:Int)=many n cl:=by rw[i_,aP];exact xv (by lia) cl
 have hl3:(fd n cl).length<=3:=by rw[i_,aP];exact vJ n cl
 have hpw:=Ca h1 hc;have hmem:=λx hx=>Cv h1 hc (x:=x) hx
 have hsr:=CZ (fd n cl) (by lia) (λt ht=>(hmem t ht).2.2.1) (hpw.imp λz=>z.1);have hnd:(fd n cl).Pairwise (·≠·):=hpw.imp λz=>z.2
 have hcall:evE (wAt p (k+5)) (.ite (.val (.var 1)) (.call "ring_once" (.cons (.var 0) .nil)) (.call "row_once" (.cons (.var 0) .nil))) [some (.int (n:Int)),some (.bl cl),some (.int ((fd n cl).length:Int)),none,none,none,none,none]=.ok (.lst ((fd n cl).map tu))/\∀v2 v3 v4 v5 v6 v7,evE (wAt p (k+5)) (.ite (.val (.var 1)) (.call "ring_once" (.cons (.var 0) .nil)) (.call "row_once" (.cons (.var 0) .nil))) [some (.int (n:Int)),some (.bl cl),v2,v3,v4,v5,v6,v7]=.ok (.lst ((fd n cl).map tu)):=by
  have all:∀v2 v3 v4 v5 v6 v7,evE (wAt p (k+5)) (.ite (.val (.var 1)) (.call "ring_once" (.cons (.var 0) .nil)) (.call "row_once" (.cons (.var 0) .nil))) [some (.int (n:Int)),some (.bl cl),v2,v3,v4,v5,v6,v7]=.ok (.lst ((fd n cl).map tu)):=λv2 v3 v4 v5 v6 v7=>by
   cases cl with
   |true=>
    have e:=Bo (k:=k) (n:Int) ⟨by have:=hc rfl;lia,by lia⟩;generalize (fd n true).map tu=LL at *;generalize ((n:Nat):Int)=N at *;simp[KG.Z,e,qe]
   |false=>
    have e:=sP (k:=k) (n:Int) ⟨by lia,by lia⟩;generalize (fd n false).map tu=LL at *;generalize ((n:Nat):Int)=N at *;simp[KG.Z,e,qe]
  exact⟨all _ _ _ _ _ _,all⟩
 obtain⟨L,hL⟩:∃L,L=fd n cl:=⟨_,rfl⟩
 rw[<-hL]at hlen hl3 hsr hnd hcall;have hmem:∀x∈L,_:=λx hx=>hmem x (hL▸hx)
 obtain⟨d,e,rfl⟩:∃d,qf p (k+6) "_law_right" [.int (n:Int),.bl cl]=.ok d/\d=.bl true:=by
  refine kD (k:=k+5) (τ:=[some (.int (n:Int)),some (.bl cl),none,none,none,none,none,none]) yL rfl rfl ?_;refine cN (σ:=[some (.int (n:Int)),some (.bl cl),some (.int (L.length:Int)),none,none,none,none,none]) (by rw[zJ,Ad,<-hlen];rfl) ?_;refine ff (ds:=(rng 2).map D.int) (λr σ=>∃(ms:List Int) (v3 v4 v5 v6 v7:Option D),r=ms.map D.int/\σ=[some (.int (n:Int)),some (.bl cl),some (.int (L.length:Int)),v3,v4,v5,v6,v7]) (by rfl) ⟨_,none,none,none,none,none,rfl,rfl⟩ ?_ ?_
  ·rintro x t σ ⟨ms,v3,v4,v5,v6,v7,e,rfl⟩;obtain⟨y,ms,rfl,rfl,rfl⟩:=fx e;refine⟨[some (.int (n:Int)),some (.bl cl),some (.int (L.length:Int)),some (.int y),v4,v5,v6,v7],rfl,?_⟩;refine cN (σ:=RS n cl L (some (.int y)) v5 v6 v7) (by rw[zJ,hcall.2];rfl) ?_;refine cN (σ:=RS n cl L (some (.int y)) v5 v6 v7) ?_ ?_
   ·have a1:∀w:W,cW w (.lst (L.map tu)) (.ty "list")=.ok (.bl true):=λ_=>rfl
    have a2:b1 .len [.lst (L.map tu)]=.ok (.int (L.length:Int)):=by
     show R.ok (D.int (L.map tu).length)=_;rw[aP]
    have a3:=KG.ne_int (L.length:Int) (L.length:Int);have a4:=lJ L L;simp only[decide_true,cC]at a3 a4;dsimp only[RS];generalize L.map tu=LL at *;generalize ((L.length:Nat):Int)=LN at *;generalize ((n:Nat):Int)=N at *;simp[KG.Z,a1,a2,a3,a4,hsr]
   have hen:=z_ L 0;simp only[Nat.sub_zero]at hen;refine ff (ds:=(List.range' 0 L.length).map λ(q:Nat)=>.tup [.int (q:Int),tu (L.getD q [])]) (λr σ=>∃(j:Nat) (v5 v6:Option D),j<=L.length/\(r=(List.range' j (L.length-j)).map λ(q:Nat)=>.tup [.int (q:Int),tu (L.getD q [])])/\σ=RS n cl L (some (.int y)) v5 v6 v7) (by
    rw[<-hen];dsimp only[RS];generalize L.map tu=LL at *;generalize ((L.length:Nat):Int)=LN at *;generalize ((n:Nat):Int)=N at *;simp[KG.Z]) ⟨0,v5,v6,by lia,rfl,rfl⟩ ?_ ?_
   ·rintro x r σ ⟨j,v5,v6,hj,er,rfl⟩;by_cases hjm:j=L.length
    ·subst hjm;simp at er
    ·have ej:L.length-j=(L.length-(j+1))+1:=by lia
     have hj':j<L.length:=by lia
     rw[ej,List.range'_succ,a5]at er;injection er with e1 e2
     subst e1 e2;have eg:L.getD j []=L[j]:=by simp[hj']
     rw[eg];refine⟨RS n cl L (some (.int y)) (some (.int (j:Int))) (some (tu L[j])) v7,rfl,?_⟩;obtain⟨m1,m2,m3,s0,m4,m5⟩:=hmem L[j] (cz _);refine look (k:=k+4) h1 h2 m1 m2 (by rw[m5];exact Ae m4 (by lia)) (by lia) (λhin=>?_) (eI ⟨j+1,_,_,by lia,rfl,rfl⟩);obtain⟨i,hi,ei⟩:=List.getElem_of_mem hin;have hi2:i<j:=by simp at hi;lia
     rw[List.getElem_take]at ei;exact List.pairwise_iff_getElem.mp hnd i j (by lia) hj' hi2 ei
   ·rintro σ ⟨j,v5,v6,hj,er,rfl⟩;have lt10:qE .lt (.int (n:Int)) (.int 10)=.ok (decide ((n:Int)<10)):=rfl;refine nz (K:=λσ=>∃v7,σ=RS n cl L (some (.int y)) v5 v6 v7) ?_ ?_
    ·refine xM (v:=decide ((n:Int)<10)) ?_ (λz=>?_) λ_=>eI ⟨_,rfl⟩
     ·dsimp only[RS];generalize decide ((n:Int)<10)=q at *;generalize L.map tu=LL at *;generalize ((L.length:Nat):Int)=LN at *;generalize ((n:Nat):Int)=N at *;simp[KG.Z,lt10]
     ·have z:=of_decide_eq_true z;exact rows (k:=k+4) h1 (by lia) hc hL
    ·rintro _ ⟨v7,rfl⟩;refine cN (σ:=[some (.int (n:Int)),some (.bl cl),some (.int (L.length:Int)),some (.int y),some (.lst (L.map tu++[.tup []])),v5,v6,v7]) ?_ (eI ⟨ms,_,_,_,_,_,rfl,rfl⟩);have hz:(L.map tu).length<SZ:=by simp[SZ];lia
     dsimp only[RS];generalize L.map tu=LL at *;generalize ((L.length:Nat):Int)=LN at *;generalize ((n:Nat):Int)=N at *;simp[KG.Z,hz]
  ·rintro σ ⟨ms,v3,v4,v5,v6,v7,e,rfl⟩;exact iZ (d:=.bl true) (by rfl) rfl
 exact e
noncomputable def depth:Nat:=7
theorem rL{l:List D}{P:D->Prop}(hL:∀d∈l,P d)(i:Int)(h:0<=i/\i<l.length):∃d,ixD (.lst l) (.int i)=.ok d/\P d:=by
 obtain⟨j,rfl⟩:∃j:Nat,i=j:=⟨i.toNat,by lia⟩
 have hj:j<l.length:=by lia
 refine⟨l[j],?_,hL _ (cz hj)⟩;simp only[ixD];rw[gG hj]
structure Hyp(F:Str->List D->R D):Prop where
 hr:∀(n:Int) (cl:Bool),1<=n->n<=300->(cl=true->3<=n)->F "_law_right" [.int n,.bl cl]=.ok (.bl true)
 hs:∀c j:Int,F "_law_stir" [.int c,.int j]=.ok (.int (st c j))
theorem ub{w:W}(ns:List Int)(hn:ns.length<=63)(hc:∃x:Int,w.call "_law_cell_at" [.lst (ns.map D.int),.int 0]=.ok (.int x))(H:Hyp w.call):Ends (λ_=>False) (λd=>d=.bl true) (qi w ip.body [some (.lst (ns.map D.int)),none,none,none,none]):=by
 obtain⟨LL,hLL⟩:∃LL,LL=ns.map D.int:=⟨_,rfl⟩
 refine ff (ds:=([1,2,3,4,5,6]:List Int).map D.int) (λr σ=>∃(ms:List Int) (v1:Option D),r=ms.map D.int/\(∀x∈ms,1<=x/\x<=6)/\σ=[some (.lst (ns.map D.int)),v1,none,none,none]) (by rfl) ⟨_,none,rfl,by decide,rfl⟩ ?_ ?_
 ·rintro y t σ ⟨ms,v1,e,hm,rfl⟩;obtain⟨n,ms,rfl,rfl,rfl⟩:=fx e;obtain⟨n1,n6⟩:=hm n a8;refine⟨[some (.lst (ns.map D.int)),some (.int n),none,none,none],rfl,?_⟩;refine cN (σ:=[some (.lst (ns.map D.int)),some (.int n),none,none,none]) ?_ (eI ⟨ms,_,rfl,λx hx=>hm x (aV _ hx),rfl⟩);have r1:=H.hr n false n1 (by lia) (λz=>by cases z);have c1:qE .gt (.int n) (.int 2)=.ok (decide (2<n)):=rfl;rw[<-hLL];by_cases q:2<n
  ·have r2:=H.hr n true n1 (by lia) (λ_=>by lia);rw[decide_eq_true q]at c1;simp[KG.Z,r1,r2,c1]
  ·rw[decide_eq_false q]at c1;simp[KG.Z,r1,c1]
 ·rintro σ ⟨ms,v1,e,hm,rfl⟩;obtain⟨cs,hcs,hcl⟩:=r8 ns (some 1) (some 4);obtain⟨x,hx⟩:=hc;refine ff (ds:=(x::cs).map D.int) (λr σ=>∃(ms:List Int) (v1 v2 v3 v4:Option D),r=ms.map D.int/\σ=[some (.lst (ns.map D.int)),v1,v2,v3,v4]) ?_ ⟨_,v1,none,none,none,rfl,rfl⟩ ?_ ?_
  ·have e:op2 .add (.lst [.int x]) (.lst (cs.map D.int))=.ok (.lst ((x::cs).map D.int)):=by
    rw[op2,if_pos (by simp[SZ];lia)];simp
   simp[KG.Z,slD,hcs,hx,e,seq?]
  ·rintro y t σ ⟨ms,v1,v2,v3,v4,e,rfl⟩;obtain⟨c,ms,rfl,rfl,rfl⟩:=fx e;refine⟨[some (.lst (ns.map D.int)),v1,some (.int c),v3,v4],rfl,?_⟩;refine ff (ds:=([false,true]:List Bool).map D.bl) (λr σ=>∃(bs:List Bool) (v1 v3 v4:Option D),r=bs.map D.bl/\σ=[some (.lst (ns.map D.int)),v1,some (.int c),v3,v4]) (by rfl) ⟨_,v1,v3,v4,rfl,rfl⟩ ?_ ?_
   ·rintro y t σ ⟨bs,v1,v3,v4,e,rfl⟩;obtain⟨cl,bs,rfl,rfl,rfl⟩:=fx e;refine⟨[some (.lst (ns.map D.int)),v1,some (.int c),some (.bl cl),v4],rfl,?_⟩;have s1:=H.hs c (if cl then 1 else 0);have b0:b1 .int [.bl cl]=.ok (.int (if cl then 1 else 0)):=rfl;generalize (if cl then (1:Int)else 0)=ci at *;rw[<-hLL];refine cN (σ:=[some (.lst LL),v1,some (.int c),some (.bl cl),some (.int (st c ci))]) (by
     generalize st c ci=T at *;simp[KG.Z,b0,s1]) ?_
    generalize st c ci=T at *;obtain⟨d,g,n,rfl,n1,n2⟩:=rL (l:=[.int (3+T/4%7),.int (3+T/4%298),.int (3+T/4%99 * 3),.int (1+T/4%40)]) (P:=λd=>∃n:Int,d=.int n/\1<=n/\n<=300) (by
     simp only[List.forall_mem_cons];exact⟨⟨_,rfl,by lia,by lia⟩,⟨_,rfl,by lia,by lia⟩,⟨_,rfl,by lia,by lia⟩,⟨_,rfl,by lia,by lia⟩,by simp⟩) (T%4) ⟨by lia,by show T%4<4;lia⟩
    have s3:small 3=true:=by decide
    refine cN (σ:=[some (.lst LL),some (.int n),some (.int c),some (.bl cl),some (.int T)]) ?_ ?_
    ·simp[KG.Z,op2,s3,g]
    refine cN (σ:=[some (.lst LL),some (.int n),some (.int c),some (.bl cl),some (.int T)]) ?_ (eI ⟨bs,_,_,_,rfl,by rw[hLL]⟩);cases cl with
    |true=>
     have m1:b1 .max [.int 3,.int n]=.ok (.int (if n>3 then n else 3)):=rfl;have r1:=H.hr (if n>3 then n else 3) true (by split<;>lia) (by split<;>lia) (λ_=>by split<;>lia);generalize (if n>3 then n else 3)=mx at *;simp[KG.Z,m1,r1,qe]
    |false=>
     have r1:=H.hr n false n1 n2 (λz=>by cases z);simp[KG.Z,r1,qe]
   ·rintro σ ⟨bs,v1,v3,v4,e,rfl⟩;exact eI ⟨ms,_,_,_,_,rfl,rfl⟩
  ·rintro σ ⟨ms,v1,v2,v3,v4,e,rfl⟩;exact iZ (d:=.bl true) (by rfl) rfl
theorem vi{F:Str->List D->R D}(ns:List Int)(hn:ns.length<=63)(hc:∃x:Int,F "_law_cell_at" [.lst (ns.map D.int),.int 0]=.ok (.int x))(H:Hyp F):cM ⟨F,p.glb,p.sub,p.cat⟩ ip [.lst (ns.map D.int)]=.ok (.bl true):=by
 obtain⟨d,e,rfl⟩:=vG (w:=⟨F,p.glb,p.sub,p.cat⟩) (f:=ip) (ds:=[.lst (ns.map D.int)]) rfl rfl (ub (w:=⟨F,p.glb,p.sub,p.cat⟩) ns hn hc H);exact e
theorem rD:∀ns:List Int,ns.length<=63->qf p depth "law" [.lst (ns.map D.int)]=.ok (.bl true):=by
 intro ns hn;rw[show depth=6+1 from rfl,zj wc];refine vi ns hn (AK hCe (k:=5) ns) ⟨λn cl h1 h2 h3=>?_,λc j=>BJ hSt (k:=5) c j⟩;obtain⟨m,rfl⟩:∃m:Nat,n=m:=⟨n.toNat,by lia⟩
 exact AD (k:=0) (by lia) (by lia) λz=>by have:=h3 z;lia
end K53
namespace K53
open PySem PySem.Spec PyProof.Rows L2 EV
theorem lO:∀e∈tab,cFn G (fS us oth) e.own e.fr e.st=some e.fn:=by
 intro e he;simp only[tab,aN,b9,or_false]at he;rcases he with rfl|rfl|rfl|rfl|rfl|rfl|rfl|rfl|rfl|rfl|rfl|rfl|rfl|rfl|rfl<;>kernel_rfl
theorem vZ:∀e∈us,e∈tab:=by
 intro e he;cases he
theorem Cn:∀e∈us,nj (eQ oth) e.own e.fr e.st=some e.fn:=by
 intro e he;cases he
theorem nd:(tab.map (·.x)).Nodup:=by decide +kernel
section
variable{K:aC}{h:Heap}{mg:Str->Option ae}{f0:Addr}(d0:WB.Dd K "is_whole" (top 4) f0){f1:Addr}(d1:WB.Dd K "is_between" (top 5) f1){f2:Addr}(d2:WB.Dd K "need_between" (top 6) f2){f3:Addr}(d3:WB.Dd K "need_row" (top 9) f3){f4:Addr}(d4:WB.Dd K "need_ring" (top 10) f4){f5:Addr}(d5:WB.Dd K "row_once" (top 11) f5){f6:Addr}(d6:WB.Dd K "ring_once" (top 12) f6){f7:Addr}(d7:WB.Dd K "thirds_from" (top 13) f7){f8:Addr}(d8:WB.Dd K "_law_cell_at" (top 15) f8){f9:Addr}(d9:WB.Dd K "_law_stir" (top 16) f9){f10:Addr}(d10:WB.Dd K "_law_whole" (top 17) f10){f11:Addr}(d11:WB.Dd K "_law_some" (top 18) f11){f12:Addr}(d12:WB.Dd K "_law_once" (top 19) f12){f13:Addr}(d13:WB.Dd K "_law_right" (top 20) f13){f14:Addr}(d14:WB.Dd K "law" (top 21) f14)
include d0 d1 d2 d3 d4 d5 d6 d7 d8 d9 d10 d11 d12 d13 d14
theorem BQ:∀e∈tab,gO K G e:=by
 intro e he;simp only[tab,aN,b9,or_false]at he;rcases he with rfl|rfl|rfl|rfl|rfl|rfl|rfl|rfl|rfl|rfl|rfl|rfl|rfl|rfl|rfl<;>refine⟨⟨_,by assumption⟩,λ_ _ _ _ _ _ us hl=>?_⟩<;>first|(obtain⟨_,rfl⟩:=WB.lX hl;rfl)|(obtain⟨_,_,rfl⟩:=WB.mm hl;rfl)|(obtain⟨_,_,_,rfl⟩:=WB.ui hl;rfl)
omit d0 d1 d2 d3 d4 d5 d6 d7 d8 d9 d10 d11 d12 d13 d14
theorem jP{x:Str}{k:GK}(h:oth.lookup x=some k):∃y∈oth,x=y.1/\k=y.2:=by
 generalize oth=l at h ⊢
 induction l with
 |nil=>cases h
 |cons a r ih=>
  rw[bC]at h;split at h
  ·rename_i q;cases h;exact⟨a,a8,eq_of_beq q,rfl⟩
  ·obtain⟨y,h1,h2⟩:=ih h;exact⟨y,aV _ h1,h2⟩
theorem A8{K:aC}{C0:Addr}(k0:aJ K aE "NoNumber" = some (some (.ref C0)))(x0:PySem.W.excIn K C0 jf "ValueError.__new__" = true){tk0:Tok}(u0:aJ K aE "LONGEST" = some (some (.int 300 tk0)))(z0:aJ K aE "len" = some none)(z1:aJ K aE "tuple" = some none)(z2:aJ K aE "list" = some none)(z3:aJ K aE "int" = some none)(z4:aJ K aE "bool" = some none)(z5:aJ K aE "set" = some none)(z6:aJ K aE "sorted" = some none)(z7:aJ K aE "all" = some none)(z8:aJ K aE "max" = some none)(z9:aJ K aE "range" = some none)(z10:aJ K aE "enumerate" = some none)(z11:aJ K aE "isinstance" = some none):∀x k,oth.lookup x=some k->rh K vals x k:=by
 intro x k h;obtain⟨y,h1,rfl,rfl⟩:=jP h;simp only[oth,aN,b9,or_false]at h1;rcases h1 with rfl|rfl|rfl|rfl|rfl|rfl|rfl|rfl|rfl|rfl|rfl|rfl|rfl|rfl
 ·exact⟨_,k0,x0⟩
 ·exact⟨_,.int 300,.int 300,u0,⟨_,rfl⟩,rfl,λg H _=>.int _⟩
 ·exact⟨z0,rfl,_,rfl⟩
 ·exact⟨z1,by decide +kernel,by simp,by simp[b1N,b1V]⟩
 ·exact⟨z2,by decide +kernel,by simp,by simp[b1N,b1V]⟩
 ·exact⟨z3,by decide +kernel,by simp,by simp[b1N,b1V]⟩
 ·exact⟨z4,by decide +kernel,by simp,by simp[b1N,b1V]⟩
 ·exact⟨z5,by decide +kernel⟩
 ·exact⟨z6,rfl,_,rfl⟩
 ·exact⟨z7,rfl,_,rfl⟩
 ·exact⟨z8,rfl,_,rfl⟩
 ·exact⟨z9,rfl⟩
 ·exact⟨z10,rfl⟩
 ·exact⟨z11,rfl⟩
theorem uh:∀x fr,oth.lookup x≠some (.fn fr):=by
 intro x fr h;obtain⟨y,h1,rfl,h2⟩:=jP h;simp only[oth,aN,b9,or_false]at h1;rcases h1 with rfl|rfl|rfl|rfl|rfl|rfl|rfl|rfl|rfl|rfl|rfl|rfl|rfl|rfl<;>cases h2
theorem x_:∀x,(oth.lookup x=some .exc\/oth.lookup x=some .exk)->([bw "NoNumber"]:List Str).contains x=true:=by
 intro x h;rcases h with h|h<;>obtain⟨y,h1,rfl,h2⟩:=jP h<;>simp only[oth,aN,b9,or_false]at h1<;>rcases h1 with rfl|rfl|rfl|rfl|rfl|rfl|rfl|rfl|rfl|rfl|rfl|rfl|rfl|rfl<;>first|(cases h2;done)|decide +kernel
theorem Cw{K:aC}{C0:Addr}(k0:aJ K aE "NoNumber" = some (some (.ref C0)))  : ∀y∈cJ,∃C D,aJ K aE y.1=some (some (.ref C))/\aJ K aE y.2=some (some (.ref D))/\PySem.W.exmOne K (.ref C) (.ref D)=some true:=by
 intro y h1;simp only[cJ,aN,b9,or_false]at h1
 skip
theorem CP{K:aC}{C0:Addr}(k0:aJ K aE "NoNumber" = some (some (.ref C0)))  : ∀y∈subs,mG K [bw "NoNumber"] y:=by
 intro y h1;cases h1
include d0 d1 d2 d3 d4 d5 d6 d7 d8 d9 d10 d11 d12 d13 d14
theorem all_mk(X:K.In h)(N:h.Ns aE mg){C0:Addr}(k0:aJ K aE "NoNumber" = some (some (.ref C0)))(x0:PySem.W.excIn K C0 jf "ValueError.__new__" = true){tk0:Tok}(u0:aJ K aE "LONGEST" = some (some (.int 300 tk0)))(z0:aJ K aE "len" = some none)(z1:aJ K aE "tuple" = some none)(z2:aJ K aE "list" = some none)(z3:aJ K aE "int" = some none)(z4:aJ K aE "bool" = some none)(z5:aJ K aE "set" = some none)(z6:aJ K aE "sorted" = some none)(z7:aJ K aE "all" = some none)(z8:aJ K aE "max" = some none)(z9:aJ K aE "range" = some none)(z10:aJ K aE "enumerate" = some none)(z11:aJ K aE "isinstance" = some none)   : Ground p (gOf K (tab.map (·.x)) [bw "NoNumber"]) G (fS us oth) (eQ oth) mg/\gO K G fV:=
 have A:=BQ d0 d1 d2 d3 d4 d5 d6 d7 d8 d9 d10 d11 d12 d13 d14
 ⟨yM X N rfl nd (A8 k0 x0 u0 z0 z1 z2 z3 z4 z5 z6 z7 z8 z9 z10 z11) uh vZ Cn lO A _ (Cw k0) x_ (CP k0 ),A fV (by simp[tab])⟩
end
theorem walk{l:PySem.W.OpenLaw}{q:aA}{loose:List Str}{XP:(Str->Option ae)->Heap->Prop}{YP:av->Heap->Prop}{d:DefRec}{K:Params->aC}(hn:l.most=some 63)(hdf:d.params.defaults=[])(hd:d.name = "law")(hY:∀(w:av) (h:Heap),YP w h->(K w.params).In h)
  (hG:∀(w:av) (mg:Str->Option ae) (h:Heap),(K w.params).In h->h.Ns aE mg->Ground p (gOf (K w.params) (tab.map (·.x)) [bw "NoNumber"]) G (fS us oth) (eQ oth) mg/\gO (K w.params) G fV):PySem.W.WalkO q loose XP YP l.row.toRowW d [] (λf vs=>PySem.call f vs):=
 xh (e:=fV) (k:=depth) hn hdf hd ⟨rfl,by decide,by decide⟩ hY (by simp[tab]) nd rfl rfl (by kernel_rfl) hG (lO fV (by simp[tab])) rD
end K53
end
open PySem PySem.W PyProof.Rows
namespace PySem.W.Fast
def tw11052246267391158696:Nat:=0
theorem te11052246267391158696:tw11052246267391158696=0:=rfl
def tw7966232860460238858:Nat:=0
theorem te7966232860460238858:tw7966232860460238858=0:=rfl
def tw4414007805952461757:Nat:=0
theorem te4414007805952461757:tw4414007805952461757=0:=rfl
def tw2578373843166207053:Nat:=0
theorem te2578373843166207053:tw2578373843166207053=0:=rfl
def tw7806202452364421598:Nat:=0
theorem te7806202452364421598:tw7806202452364421598=0:=rfl
def tw9195128654737065054:Nat:=0
theorem te9195128654737065054:tw9195128654737065054=0:=rfl
def tw14718100275988157510:Nat:=0
theorem te14718100275988157510:tw14718100275988157510=0:=rfl
def tw6844537011961168821:Nat:=0
theorem te6844537011961168821:tw6844537011961168821=0:=rfl
def tw13478705990878037700:Nat:=0
theorem te13478705990878037700:tw13478705990878037700=0:=rfl
def tw8809374805517214278:Nat:=0
theorem te8809374805517214278:tw8809374805517214278=0:=rfl
def tw8187947203857598541:Nat:=0
theorem te8187947203857598541:tw8187947203857598541=0:=rfl
def tw4096773592432221786:Nat:=0
theorem te4096773592432221786:tw4096773592432221786=0:=rfl
def tw971619912935831451:Nat:=0
theorem te971619912935831451:tw971619912935831451=0:=rfl
def tw10087648487426492995:Nat:=0
theorem te10087648487426492995:tw10087648487426492995=0:=rfl
def tw17856098575463008986:Nat:=0
theorem te17856098575463008986:tw17856098575463008986=0:=rfl
def tw1358189604003322607:Nat:=0
theorem te1358189604003322607:tw1358189604003322607=0:=rfl
def tw1994244653253656205:Nat:=0
theorem te1994244653253656205:tw1994244653253656205=0:=rfl
def tw7751312972885908815:Nat:=0
theorem te7751312972885908815:tw7751312972885908815=0:=rfl
def tw1336861627009440003:Nat:=0
theorem te1336861627009440003:tw1336861627009440003=0:=rfl
def tw18074503113580002618:Nat:=0
theorem te18074503113580002618:tw18074503113580002618=0:=rfl
def tw13325390992381677496:Nat:=0
theorem te13325390992381677496:tw13325390992381677496=0:=rfl
def tw17383504689757348175:Nat:=0
theorem te17383504689757348175:tw17383504689757348175=0:=rfl
def tw14181982425974646935:Nat:=0
theorem te14181982425974646935:tw14181982425974646935=0:=rfl
def tw1354890194468543673:Nat:=0
theorem te1354890194468543673:tw1354890194468543673=0:=rfl
def tw1410925075720033994:Nat:=0
theorem te1410925075720033994:tw1410925075720033994=0:=rfl
def tw1268347824380352485:Nat:=0
theorem te1268347824380352485:tw1268347824380352485=0:=rfl
def tw15665949451736569433:Nat:=0
theorem te15665949451736569433:tw15665949451736569433=0:=rfl
def tw16635846905523612909:Nat:=0
theorem te16635846905523612909:tw16635846905523612909=0:=rfl
def tw2859034235849748706:Nat:=0
theorem te2859034235849748706:tw2859034235849748706=0:=rfl
def tw1674968995226604020:Nat:=0
theorem te1674968995226604020:tw1674968995226604020=0:=rfl
def tw13071349976184910962:Nat:=0
theorem te13071349976184910962:tw13071349976184910962=0:=rfl
def tw6841001679349285809:Nat:=0
theorem te6841001679349285809:tw6841001679349285809=0:=rfl
def tw16119887054517437140:Nat:=0
theorem te16119887054517437140:tw16119887054517437140=0:=rfl
def tw7708769719506406124:Nat:=0
theorem te7708769719506406124:tw7708769719506406124=0:=rfl
def tw8204631895375756354:Nat:=0
theorem te8204631895375756354:tw8204631895375756354=0:=rfl
def tw8448450896984919934:Nat:=0
theorem te8448450896984919934:tw8448450896984919934=0:=rfl
def tw3630137743468460858:Nat:=0
theorem te3630137743468460858:tw3630137743468460858=0:=rfl
def tw2912220538227895418:Nat:=0
theorem te2912220538227895418:tw2912220538227895418=0:=rfl
def tw12498096232815361513:Nat:=0
theorem te12498096232815361513:tw12498096232815361513=0:=rfl
def tw7942542534392000790:Nat:=0
theorem te7942542534392000790:tw7942542534392000790=0:=rfl
def tw13510712692419250137:Nat:=0
theorem te13510712692419250137:tw13510712692419250137=0:=rfl
def tw14074412748923524100:Nat:=0
theorem te14074412748923524100:tw14074412748923524100=0:=rfl
def tw15454272864422462599:Nat:=0
theorem te15454272864422462599:tw15454272864422462599=0:=rfl
def tw575082823609786670:Nat:=0
theorem te575082823609786670:tw575082823609786670=0:=rfl
def tw4314582279403636873:Nat:=0
theorem te4314582279403636873:tw4314582279403636873=0:=rfl
def tw10263866914336700213:Nat:=0
theorem te10263866914336700213:tw10263866914336700213=0:=rfl
def tw17813801818645403329:Nat:=0
theorem te17813801818645403329:tw17813801818645403329=0:=rfl
def tw17834842924722174734:Nat:=0
theorem te17834842924722174734:tw17834842924722174734=0:=rfl
def tw18431019083974530886:Nat:=0
theorem te18431019083974530886:tw18431019083974530886=0:=rfl
def tw8004294843575264532:Nat:=0
theorem te8004294843575264532:tw8004294843575264532=0:=rfl
def tw13817818529233308410:Nat:=0
theorem te13817818529233308410:tw13817818529233308410=0:=rfl
def tw9126861925979965251:Nat:=0
theorem te9126861925979965251:tw9126861925979965251=0:=rfl
def tw12666665991152415879:Nat:=0
theorem te12666665991152415879:tw12666665991152415879=0:=rfl
def tw1890353220832343:Nat:=0
theorem te1890353220832343:tw1890353220832343=0:=rfl
def tw8916653892999032563:Nat:=0
theorem te8916653892999032563:tw8916653892999032563=0:=rfl
def tw2371296739552922660:Nat:=0
theorem te2371296739552922660:tw2371296739552922660=0:=rfl
def tw2794145305608346871:Nat:=0
theorem te2794145305608346871:tw2794145305608346871=0:=rfl
def tw12706819291535616434:Nat:=0
theorem te12706819291535616434:tw12706819291535616434=0:=rfl
def tw9838513992555421113:Nat:=0
theorem te9838513992555421113:tw9838513992555421113=0:=rfl
def tw12606885427422810424:Nat:=0
theorem te12606885427422810424:tw12606885427422810424=0:=rfl
def tw17039698373554682265:Nat:=0
theorem te17039698373554682265:tw17039698373554682265=0:=rfl
def tw7278793445388474859:Nat:=0
theorem te7278793445388474859:tw7278793445388474859=0:=rfl
def tw7218594807336484827:Nat:=0
theorem te7218594807336484827:tw7218594807336484827=0:=rfl
def tw8916514666268799037:Nat:=0
theorem te8916514666268799037:tw8916514666268799037=0:=rfl
def tw5573839706144555408:Nat:=0
theorem te5573839706144555408:tw5573839706144555408=0:=rfl
def tw4045630496325002118:Nat:=0
theorem te4045630496325002118:tw4045630496325002118=0:=rfl
def tw4799839165384011839:Nat:=0
theorem te4799839165384011839:tw4799839165384011839=0:=rfl
def tw10445585048224656914:Nat:=0
theorem te10445585048224656914:tw10445585048224656914=0:=rfl
def tw14053181611875392754:Nat:=0
theorem te14053181611875392754:tw14053181611875392754=0:=rfl
def tw9610938983463862951:Nat:=0
theorem te9610938983463862951:tw9610938983463862951=0:=rfl
def tw6431336460716564024:Nat:=0
theorem te6431336460716564024:tw6431336460716564024=0:=rfl
def tw412854298081175634:Nat:=0
theorem te412854298081175634:tw412854298081175634=0:=rfl
def tw4303883038772411339:Nat:=0
theorem te4303883038772411339:tw4303883038772411339=0:=rfl
end PySem.W.Fast
set_option maxRecDepth 100000 in
set_option maxHeartbeats 0 in
theorem PySem.Challenge.cw_holdplaces_k53_rows_and_rings_held_once_holds : PySem.Challenge.rw_holdplaces_k53_rows_and_rings_held_once.Holds := by
 w_on;o_law;k_head;(case hw=>w_witness2)
 k_fill
 refine K53.walk (l:=PySem.Challenge.rw_holdplaces_k53_rows_and_rings_held_once) rfl rfl rfl (λw h Y=>PySem.W.kIn_of Y) ?F
 case F=>
  intro w mg h KX N
  refine' K53.all_mk (WB.de ?_ ?_ ?_ ?_) (WB.de ?_ ?_ ?_ ?_) (WB.de ?_ ?_ ?_ ?_) (WB.de ?_ ?_ ?_ ?_) (WB.de ?_ ?_ ?_ ?_) (WB.de ?_ ?_ ?_ ?_) (WB.de ?_ ?_ ?_ ?_) (WB.de ?_ ?_ ?_ ?_) (WB.de ?_ ?_ ?_ ?_) (WB.de ?_ ?_ ?_ ?_) (WB.de ?_ ?_ ?_ ?_) (WB.de ?_ ?_ ?_ ?_) (WB.de ?_ ?_ ?_ ?_) (WB.de ?_ ?_ ?_ ?_) (WB.de ?_ ?_ ?_ ?_) KX N ?_ ?_ ?_ ?_ ?_ ?_ ?_ ?_ ?_ ?_ ?_ ?_ ?_ ?_ ?_
  any_goals k_is
  any_goals k_exc
#print axioms PySem.Challenge.cw_holdplaces_k53_rows_and_rings_held_once_holds
