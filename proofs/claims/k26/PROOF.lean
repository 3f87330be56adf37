import PyProof.Rows.All
import Wide.All
import OpenK.AllK
import Wide.FinOn
import Lean
import PyProof.EqAt
import PyProof.EqKinds
import PyProof.TupleCall
import PyProof.Rows.ListMulArg
import KE.KSortTup
import KE.LcSums
import PyProof.SeqI3
import KE.KMinBuiltin
import PyProof.ListRange
import PyProof.TupleOfSeq
import PySem.Challenge.RW_holdplaces_k26_whole_no_fewer_hold_all
set_option Elab.async false
set_option maxHeartbeats 8000000
set_option maxRecDepth 100000
set_option linter.all false
noncomputable section
set_option Elab.async false
namespace L2
open PySem PySem.Spec PyProof.Rows
abbrev Key:=Sum Int Str
noncomputable def qob:Key→Value→Bool
 | .inl k,v=>Value.isInt k v
 | .inr x,v=>Value.isStrOf x v
noncomputable def qtL(w:World):Key→Int
 | .inl k=>hashInt k
 | .inr x=>hashStr w x
theorem zC:∀{k:Key}{v:Value},qob k v=true→(∃i t,k=Sum.inl i∧v=Value.int i t)∨(∃x t,k=Sum.inr x∧v=Value.str x t)
 | .inl i,v,h=>by
  obtain⟨t,e⟩:=Value.isInt_shape (k:=i) (v:=v) h;exact .inl ⟨i,t,rfl,e⟩
 | .inr x,v,h=>by
  obtain⟨t,e⟩:=Value.isStrOf_shape (x:=x) (v:=v) h;exact .inr ⟨x,t,rfl,e⟩
theorem qqk(a b:Int):decide ((Sum.inl a:Key)=Sum.inl b)=(a==b):=by
 by_cases e:a=b
 ·subst e;simp
 ·have h:¬ (Sum.inl a:Key)=Sum.inl b:=fun q=>e (Sum.inl.inj q)
  rw [decide_eq_false h];exact(beq_eq_false_iff_ne.mpr e).symm
theorem qqF(a b:Str):decide ((Sum.inr a:Key)=Sum.inr b)=decide (a=b):=by
 by_cases e:a=b
 ·subst e;simp
 ·have h:¬ (Sum.inr a:Key)=Sum.inr b:=fun q=>e (Sum.inr.inj q)
  rw [decide_eq_false h,decide_eq_false e]
theorem qry(a:Int)(b:Str):decide ((Sum.inl a:Key)=Sum.inr b)=false:=decide_eq_false (fun q=>nomatch q)
theorem qrW(a:Str)(b:Int):decide ((Sum.inr a:Key)=Sum.inl b)=false:=decide_eq_false (fun q=>nomatch q)
noncomputable def qfV(prog:Program)(w:World):PySem.KeyKind prog w Key where
 is:=qob
 hash:=qtL w
 inj:=fun v a b ha hb=>by
  rcases zC ha with ⟨i,t,rfl,rfl⟩|⟨x,t,rfl,rfl⟩
  ·rcases zC hb with ⟨j,u,rfl,e⟩|⟨y,u,rfl,e⟩
   ·injection e with e1 _;rw [e1]
   ·exact nomatch e
  ·rcases zC hb with ⟨j,u,rfl,e⟩|⟨y,u,rfl,e⟩
   ·exact nomatch e
   ·injection e with e1 _;rw [e1]
 byValue:=fun k v h=>by
  rcases zC h with ⟨i,t,rfl,rfl⟩|⟨x,t,rfl,rfl⟩<;>rfl
 pyHash:=fun hv h=>by
  rcases zC hv with ⟨i,t,rfl,rfl⟩|⟨x,t,rfl,rfl⟩
  ·exact wpAny_pyHash_int h
  ·exact wpAny_pyHash_str h
 eqBool:=fun hu hv h=>by
  rcases zC hu with ⟨i,t,rfl,rfl⟩|⟨x,t,rfl,rfl⟩
  ·rcases zC hv with ⟨j,u,rfl,rfl⟩|⟨y,u,rfl,rfl⟩
   ·rw [qqk]at h;exact wpAny_eqBool_int h
   ·rw [qry]at h;exact SeqAt.EqAt.int_str i t y u _ _ _ _ h
  ·rcases zC hv with ⟨j,u,rfl,rfl⟩|⟨y,u,rfl,rfl⟩
   ·rw [qrW]at h;exact SeqAt.EqAt.str_int x t j u _ _ _ _ h
   ·rw [qqF]at h;exact wpAny_eqBool_str h
 «strs»:=fun k x t v h=>by
  rcases zC h with ⟨i,u,rfl,e⟩|⟨y,u,rfl,e⟩
  ·exact nomatch e
  ·injection e with e1 _
   subst e1;cases v<;>rfl
inductive V where
 |non|bl (b:Bool)|int (i:Int)|str (x:Str)|byt (b:Array UInt8)|flt (b:UInt64)|ref (a:Addr)|ty (n:String)
 deriving DecidableEq
noncomputable def RelV:V→Value→Prop
 | .non,u=>u=Value.none
 | .bl b,u=>u=Value.bool b
 | .int i,u=>∃t,u=Value.int i t
 | .str x,u=>∃t,u=Value.str x t
 | .byt b,u=>∃t,u=Value.bytes b t
 | .flt b,u=>∃t,u=Value.float b t
 | .ref a,u=>u=Value.ref a
 | .ty n,u=>u=Value.type n
abbrev Vals:List V→List Value→Prop:=Paired RelV
theorem Vals.length{xs:List V}{us:List Value}(r:Vals xs us):xs.length=us.length:=Paired.length r
theorem Vals.get:∀{xs:List V}{us:List Value}{i:Nat}{x:V},Vals xs us→xs[i]? = some x→∃u,us[i]? = some u∧RelV x u
 |_,_,_,_,.nil,e=>by simp at e
 |_,_,0,_,.cons r _,e=>by simp at e;subst e;exact⟨_,rfl,r⟩
 |_,_,i+1,x,.cons _ t,e=>by
  obtain⟨u,h1,h2⟩:=Vals.get (i:=i) (x:=x) t (by simpa using e);exact⟨u,by simpa using h1,h2⟩
theorem Vals.set{x:V}{u:Value}(r:RelV x u):∀{xs:List V}{us:List Value} (i:Nat),Vals xs us→Vals (xs.set i x) (us.set i u)
 |_,_,_,.nil=>.nil
 |_,_,0,.cons _ t=>.cons r t
 |_,_,i+1,.cons q t=>.cons q (Vals.set r i t)
theorem Vals.append:∀{xs ys:List V}{us ws:List Value},Vals xs us→Vals ys ws→Vals (xs++ys) (us++ws)
 |_,_,_,_,.nil,s=>s
 |_,_,_,_,.cons r t,s=>.cons r (Vals.append t s)
theorem Vals.take:∀{xs:List V}{us:List Value} (n:Nat),Vals xs us→Vals (xs.take n) (us.take n)
 |_,_,0,_=>.nil
 |_,_,_+1,.nil=>.nil
 |_,_,n+1,.cons r t=>.cons r (Vals.take n t)
theorem Vals.drop:∀{xs:List V}{us:List Value} (n:Nat),Vals xs us→Vals (xs.drop n) (us.drop n)
 |_,_,0,r=>r
 |_,_,_+1,.nil=>.nil
 |_,_,n+1,.cons _ t=>Vals.drop n t
noncomputable def qml:Option V→Option Value→Prop
 |some v,some u=>RelV v u
 |none,none=>True
 |_,_=>False
noncomputable def KV{κ:Type}:List (κ×V)→List (κ×Value)→Prop:=Paired fun(p:κ×V) (q:κ×Value)=>p.1=q.1∧RelV p.2 q.2
noncomputable def kV:Key→V
 | .inl i=>.int i
 | .inr x=>.str x
inductive HO where
 |lst (xs:List V)
 |tup (xs:List V)
 |dK (kvs:List (Key×V))|dT (kvs:List (List Key×V))
 |set (S:Int→Bool) (n:Nat)
 |ins (C dx:Addr) (fs:List (Str×V))
 |own (x:Addr)
 |xd (fs:List (Str×V))
 |met (f x:Addr)
 |rng (lo hi:Int)
 |frz (o:Obj) (u:HO)
 |tbl (ps:Array Value)
 |ext (φ:Heap→Prop)
abbrev Hp:=Addr→Option HO
noncomputable def upd(H:Hp)(a:Addr)(o:HO):Hp:=fun b=>if b=a then some o else H b
theorem zw{H:Hp}{a:Addr}{o:HO}:upd H a o a=some o:=by unfold upd;rw [if_pos rfl]
theorem qm{H:Hp}{a b:Addr}{o:HO}(h:b≠a):upd H a o b=H b:=by unfold upd;rw [if_neg h]
theorem qbD{H:Hp}{a b:Addr}{o:HO}(h:H a=some o)(h':H b=none):a≠b:=by
 intro e;subst e;rw [h]at h';cases h'
section
variable(P:Program)(w:World)
noncomputable def zI(H:Hp)(h:Heap)(a:Addr):HO→Prop
 | .lst xs=>xs.length≤sizeLine∧∃(its:List Value) (n:Nat),Vals xs its∧h.get? a=some {cls:=.type "list",data:=.seq its.toArray n}
 | .tup xs=>xs.length≤sizeLine∧∃its:List Value,Vals xs its∧IsTup h a its.toArray
 | .dK kvs=>kvs.length≤sizeLine∧(a==sysModules)=false∧∃vs,KV kvs vs∧h.DictOf (qfV P w) a vs
 | .dT kvs=>kvs.length≤sizeLine∧(a==sysModules)=false∧∃xs:List (List Key×Addr×Value),
   Paired (fun(p:List Key×V) (q:List Key×Addr×Value)=>p.1=q.1∧H q.2.1=some (.tup (p.1.map kV))∧RelV p.2 q.2.2) kvs xs ∧
   ∃o es ep,h.get? a=some o∧o.ExactDict∧o.data=.dict es ep∧es.toList=xs.map (entryOfKey (tupleKind (qfV P w)))∧(xs.map (·.1)).Nodup
 | .set S n=>h.SetOf (intKind P w) a S n
 | .ins C dx fs=>H dx=some (.own a)∧fs.length≤1000∧dx≠a∧h.get? a=some (PySem.W.instObj C dx) ∧
   ∃mA,h.Ns1 dx mA∧(∀f,qml (fs.lookup f) (mA f))∧PySem.Within mA (fs.map (·.1))
 | .own _=>∃o,h.get? a=some o
 | .xd fs=>∃mA,h.Ns1 a mA∧∀f,qml (fs.lookup f) (mA f)
 | .rng lo hi=>∃t u v,h.get? a=some {cls:=.type "range",data:=.fields #[.int lo t,.int hi u,.int 1 v]}
 | .frz o u=>h.get? a=some o∧zI H h a u
 | .tbl ps=>h.get? a=some {cls:=.none,data:=.fields ps}
 | .met f x=>h.get? a=some (PySem.W.methodObj (.ref f) (.ref x))
 | .ext φ=>φ h∧(∃o,h.get? a=some o)∧∀h1 h2:Heap,φ h1→(∀o,h1.get? a=some o→h2.get? a=some o)→φ h2
noncomputable def HOk(H:Hp)(h:Heap):Prop:=∀a o,H a=some o→zI P w H h a o
end
section
variable{P:Program}{w:World}{H H':Hp}{h h':Heap}{a:Addr}{o:HO}
theorem zI.lt(x:zI P w H h a o):a<h.objs.size:=by
 cases o with
 |lst xs=>obtain⟨_,_,_,_,e⟩:=x;exact Heap.lt_size e
 |tup xs=>obtain⟨_,_,_,p⟩:=x;exact p.lt
 |dK kvs=>obtain⟨_,_,_,_,o,_,_,e,_⟩:=x;exact Heap.lt_size e
 |dT kvs=>obtain⟨_,_,_,_,o,_,_,e,_⟩:=x;exact Heap.lt_size e
 |set S n=>obtain⟨o,_,_,_,e,_⟩:=x;exact Heap.lt_size e
 |ins C dx fs=>obtain⟨_,_,_,e,_⟩:=x;exact Heap.lt_size e
 |own y=>obtain⟨_,e⟩:=x;exact Heap.lt_size e
 |xd fs=>obtain⟨_,⟨_,_,_,e,_⟩,_⟩:=x;exact Heap.lt_size e
 |rng lo hi=>obtain⟨_,_,_,e⟩:=x;exact Heap.lt_size e
 |frz ob u=>obtain⟨e,_⟩:=x;exact Heap.lt_size e
 |tbl ps=>exact Heap.lt_size (show h.get? a=some _ from x)
 |met f y=>exact Heap.lt_size (show h.get? a=some _ from x)
 |ext φ=>obtain⟨_,⟨_,e⟩,_⟩:=x;exact Heap.lt_size e
theorem Paired.mapP{α β:Type}{F G:α→β→Prop}:∀{l₁:List α}{l₂:List β},Paired F l₁ l₂→(∀a b,F a b→G a b)→Paired G l₁ l₂
 |_,_,.nil,_=>.nil
 |_,_,.cons r t,f=>.cons (f _ _ r) (Paired.mapP t f)
theorem zI.stay(x:zI P w H h a o)(k:∀b u,(b=a∨H b=some (.own a))→h.get? b=some u→h'.get? b=some u)
  (ho:∀b,H b=some (.own a)→H' b=some (.own a)) (ht:∀b xs,H b=some (.tup xs)→H' b=some (.tup xs)):zI P w H' h' a o:=by
 induction o with
 |lst xs=>obtain⟨z,its,n,r,e⟩:=x;exact⟨z,its,n,r,k _ _ (.inl rfl) e⟩
 |tup xs=>obtain⟨z,its,r,ob,e,c⟩:=x;exact⟨z,its,r,ob,k _ _ (.inl rfl) e,c⟩
 |dK kvs=>obtain⟨z,y,vs,r,ob,es,ep,e,c⟩:=x;exact⟨z,y,vs,r,ob,es,ep,k _ _ (.inl rfl) e,c⟩
 |dT kvs=>
  obtain⟨z,y,xs,r,ob,es,ep,e,c⟩:=x;exact⟨z,y,xs,Paired.mapP r fun p q z=>⟨z.1,ht _ _ z.2.1,z.2.2⟩,ob,es,ep,k _ _ (.inl rfl) e,c⟩
 |set S n=>obtain⟨ob,es,ep,t,e,c⟩:=x;exact⟨ob,es,ep,t,k _ _ (.inl rfl) e,c⟩
 |ins C dx fs=>
  obtain⟨d,z,ne,e,mA,⟨od,es,ep,e2,c⟩,r⟩:=x;exact⟨ho _ d,z,ne,k _ _ (.inl rfl) e,mA,⟨od,es,ep,k _ _ (.inr d) e2,c⟩,r⟩
 |own y=>obtain⟨ob,e⟩:=x;exact⟨ob,k _ _ (.inl rfl) e⟩
 |xd fs=>obtain⟨mA,⟨od,es,ep,e,c⟩,r⟩:=x;exact⟨mA,⟨od,es,ep,k _ _ (.inl rfl) e,c⟩,r⟩
 |rng lo hi=>obtain⟨t,u,v,e⟩:=x;exact⟨t,u,v,k _ _ (.inl rfl) e⟩
 |frz ob u ih=>obtain⟨e,q⟩:=x;exact⟨k _ _ (.inl rfl) e,ih q⟩
 |tbl ps=>
  have e:h.get? a=some {cls:=.none,data:=.fields ps}:=x;show h'.get? a=some {cls:=.none,data:=.fields ps};exact k a _ (.inl rfl) e
 |met f y=>
  have e:h.get? a=some (PySem.W.methodObj (.ref f) (.ref y)):=x;show h'.get? a=some (PySem.W.methodObj (.ref f) (.ref y));exact k a _ (.inl rfl) e
 |ext φ=>obtain⟨p,⟨o,e⟩,st⟩:=x;exact⟨st _ _ p fun o q=>k _ _ (.inl rfl) q,⟨o,k _ _ (.inl rfl) e⟩,st⟩
theorem HOk.lt(x:HOk P w H h)(e:H a=some o):a<h.objs.size:=(x a o e).lt
theorem HOk.fresh(x:HOk P w H h)(e:h.objs.size≤a):H a=none:=by
 cases q:H a with
 |none=>rfl
 |some u=>exact absurd (Nat.lt_of_lt_of_le (x.lt q) e) (Nat.lt_irrefl _)
theorem HOk.kept(x:HOk P w H h)(k:∀b u,h.get? b=some u→h'.get? b=some u):HOk P w H h':=fun a o e=>
 (x a o e).stay (fun b u _ q=>k b u q) (fun _ q=>q) fun _ _ q=>q
theorem HOk.laid(x:HOk P w H h)(k:∀b u,h.get? b=some u→h'.get? b=some u)(hp:h.objs.size≤a)(new:zI P w (upd H a o) h' a o):HOk P w (upd H a o) h':=fun b u e=>by
 have hn:=x.fresh hp;by_cases hb:b=a
 ·subst hb;rw [zw]at e;cases e;exact new
 ·rw [qm hb]at e;exact(x b u e).stay (fun c v _ q=>k c v q) (fun c q=>by rw [qm (qbD q hn)];exact q) fun c xs q=>by rw [qm (qbD q hn)];exact q
end
noncomputable def Rd(H:Hp)(a:Addr)(u:HO):Prop:=H a=some u∨∃o,H a=some (.frz o u)
theorem Rd.of{H:Hp}{a:Addr}{u:HO}(h:H a=some u):Rd H a u:=.inl h
theorem Rd.ok{P:Program}{w:World}{H:Hp}{h:Heap}{a:Addr}{u:HO}(r:Rd H a u)(x:HOk P w H h):zI P w H h a u:=by
 rcases r with r|⟨o,r⟩
 ·exact x a u r
 ·obtain⟨_,q⟩:=x a _ r;exact q
noncomputable def Mut:Option HO→Prop
 |some (.lst _)=>True
 |some (.dK _)=>True
 |some (.dT _)=>True
 |some (.set _ _)=>True
 |some (.ins _ _ _)=>True
 |some (.ext _)=>True
 |_=>False
section
variable{P:Program}{w:World}{H:Hp}{h h':Heap}{x e:Addr}{o':HO}
theorem HOk.write(ok:HOk P w H h)(mu:Mut (H x))(he:e=x∨H e=some (.own x))(k:∀b u,b≠e→h.get? b=some u→h'.get? b=some u)(heo:∃u,h'.get? e=some u)
  (new:zI P w (upd H x o') h' x o'):HOk P w (upd H x o') h':=fun b u q=>by
 have nown:∀c y,H c=some (.own y)→c≠x:=fun c y r z=>by subst z;rw [r]at mu;exact mu
 have ntup:∀c xs,H c=some (.tup xs)→c≠x:=fun c xs r z=>by subst z;rw [r]at mu;exact mu
 by_cases hb:b=x
 ·subst hb;rw [zw]at q;cases q;exact new
 ·rw [qm hb]at q;by_cases hbe:b=e
  ·have q':H b=some (.own x):=by
    rcases he with z|z
    ·exact absurd (hbe.trans z) hb
    ·rw [hbe];exact z
   rw [q]at q';cases q';obtain⟨v,hv⟩:=heo;exact⟨v,by rw [hbe];exact hv⟩
  ·refine(ok b u q).stay (fun c v hc r=>k c v ?_ r) (fun c r=>by rw [qm (nown c b r)];exact r) fun c xs r=>by rw [qm (ntup c xs r)];exact r
   rcases hc with rfl|hc
   ·exact hbe
   ·rintro rfl;rcases he with z|z
    ·exact nown c b hc z
    ·rw [hc]at z;cases z;exact hb rfl
end
structure Un(fs ex:List Addr)(H H':Hp)(h h':Heap):Prop where
 keep:∀b o,h.get? b=some o→H b=none→b∉fs→b∉ex→h'.get? b=some o
 slot:∀b o,h.get? b=some o→H b=none→b∈fs→b∉ex→∃sl,h'.get? b=some {o with slots:=sl}
 free:∀b o,h.get? b=some o→H b=none→b∉ex→H' b=none
 there:∀b o,h.get? b=some o→b∉ex→∃o',h'.get? b=some o'
 tups:∀b xs,H b=some (.tup xs)→H' b=some (.tup xs)
 frzs:∀b o u,H b=some (.frz o u)→H' b=some (.frz o u)
 tbls:∀b ps,H b=some (.tbl ps)→∃more,H' b=some (.tbl (ps++more))
section
variable{fs fs' ex ex':List Addr}{H H1 H2:Hp}{h h1 h2 h':Heap}{a x e:Addr}{o:HO}
theorem Un.any(u:Un fs ex H H1 h h1){b:Addr}{ob:Obj}(q:h.get? b=some ob)(n:H b=none)(hx:b∉ex):∃sl,h1.get? b=some {ob with slots:=sl}:=by
 by_cases hb:b∈fs
 ·exact u.slot b ob q n hb hx
 ·exact⟨ob.slots,u.keep b ob q n hb hx⟩
theorem Un.kept(k:∀b u,h.get? b=some u→h'.get? b=some u):Un fs ex H H h h':=
 ⟨fun b ob q _ _ _=>k b ob q,fun b ob q _ _ _=>⟨ob.slots,k b ob q⟩,fun _ _ _ n _=>n,fun b ob q _=>⟨ob,k b ob q⟩,fun _ _ q=>q,fun _ _ _ q=>q,fun _ ps q=>⟨#[],by rw [q];simp⟩⟩
theorem Un.refl:Un fs ex H H h h:=Un.kept fun _ _ q=>q
theorem Un.laid(k:∀b u,h.get? b=some u→h'.get? b=some u)(hp:h.objs.size≤a)(hn:H a=none):Un fs ex H (upd H a o) h h' where
 keep:=fun b u q _ _ _=>k b u q
 slot:=fun b u q _ _ _=>⟨u.slots,k b u q⟩
 free:=fun b u q n _=>by rw [qm (Nat.ne_of_lt (Nat.lt_of_lt_of_le (Heap.lt_size q) hp))];exact n
 there:=fun b u q _=>⟨u,k b u q⟩
 tups:=fun b xs q=>by rw [qm (qbD q hn)];exact q
 frzs:=fun b u xs q=>by rw [qm (qbD q hn)];exact q
 tbls:=fun b ps q=>⟨#[],by rw [qm (qbD q hn),q];simp⟩
theorem Un.write(mu:Mut (H x))(he:e=x∨H e=some (.own x))(k:∀b u,b≠e→h.get? b=some u→h'.get? b=some u)(heo:∃u,h'.get? e=some u):Un fs ex H (upd H x o) h h':=by
 have hx:∀b,H b=none→b≠x:=fun b n z=>by subst z;rw [n]at mu;exact mu
 have hb:∀b,H b=none→b≠e:=fun b n z=>by
  subst z;rcases he with r|r
  ·exact hx b n r
  ·rw [n]at r;cases r
 have hm:∀b u,H b=some u→¬ Mut (some u)→b≠x:=fun b u q nm z=>by subst z;rw [q]at mu;exact nm mu
 refine⟨fun b u q n _ _=>k b u (hb b n) q,fun b u q n _ _=>⟨u.slots,k b u (hb b n) q⟩,fun b u q n _=>by rw [qm (hx b n)];exact n,fun b u q _=>?_,
  fun b xs q=>by rw [qm (hm b _ q fun z=>z)];exact q,fun b u xs q=>by rw [qm (hm b _ q fun z=>z)];exact q,fun b ps q=>⟨#[],by rw [qm (hm b _ q fun z=>z),q];simp⟩⟩
 by_cases hbe:b=e
 ·subst hbe;exact heo
 ·exact⟨u,k b u hbe q⟩
end
noncomputable def trk(h:Heap)(H:Hp):List Addr:=(List.range h.objs.size).filter fun a=>(H a).isSome
noncomputable def qdp(h:Heap)(H:Hp):Heap:=PySem.W.hideAll h (trk h H)
theorem qlU(h:Heap)(H:Hp):(qdp h H).objs.size=h.objs.size:=PySem.W.hideAll_size _ _
theorem qnj{h:Heap}{H:Hp}{b:Addr}{o:Obj}(e:h.get? b=some o)(n:H b=none):(qdp h H).get? b=some o:=
 PySem.W.hideAll_get _ e fun hm=>by
  have q:(H b).isSome=true:=(List.mem_filter.mp hm).2;rw [n]at q;simp at q
theorem qoU{h:Heap}{H:Hp}{b:Addr}{o:Obj}(e:(qdp h H).get? b=some o):h.get? b=some o∧H b=none:=by
 have e':h.get? b=some o:=PySem.W.of_hideAll (trk h H) e;refine⟨e',?_⟩;cases q:H b with
 |none=>rfl
 |some x=>
  have hm:b∈trk h H:=List.mem_filter.mpr ⟨List.mem_range.mpr (Heap.lt_size e'),by simp [q]⟩;have z:(qdp h H).get? b=none:=PySem.W.hideAll_none (trk h H) hm;rw [z]at e;cases e
noncomputable def qaj(g h:Heap)(L:Addr):List (Addr×Obj):=(List.range h.objs.size).filterMap fun a=>if a=L∨(g.get? a).isSome=true then none else (h.get? a).map fun o=>(a,o)
theorem qiI{g h:Heap}{L a:Addr}{o:Obj}(h1:a≠L)(h2:g.get? a=none)(h3:h.get? a=some o):(a,o)∈qaj g h L:=
 List.mem_filterMap.mpr ⟨a,List.mem_range.mpr (Heap.lt_size h3),by simp [h1,h2,h3]⟩
theorem qfD{g h:Heap}{L:Addr}{p:Addr×Obj}(hp:p∈qaj g h L):p.1≠L∧g.get? p.1=none∧h.get? p.1=some p.2:=by
 obtain⟨b,_,e⟩:=List.mem_filterMap.mp hp;split at e
 ·cases e
 ·rename_i hn
  cases q:h.get? b with
  |none=>rw [q]at e;simp at e
  |some u=>
   rw [q]at e;simp only [Option.map_some,Option.some.injEq]at e;subst e;refine⟨fun z=>hn (.inl z),?_,q⟩;show g.get? b=none;cases r:g.get? b with
   |none=>rfl
   |some v=>exact(hn (.inr (by simp [r]))).elim
noncomputable def rest(g h:Heap)(L d:Addr):List (Addr×Obj):=(qaj g h L).filter fun p=>decide (p.1≠d)
theorem qme{g h:Heap}{L:Addr}:News g L h (qaj g h L):=fun p hp=>let ⟨a,b,c⟩:=qfD hp;⟨c,a,b⟩
structure Mod(K:PySem.W.Frag)(mg:Str→Option Value)(base:Heap):Prop where
 kin:K.In base
 glob:base.Ns mainGlobals mg
 blt:∃mb,base.Ns builtinsNs mb∧∀x:Str,x≠"__name__"→mb x=bootBuiltins x
 nolimit:base.NoLimit
structure Cx where
 prog:Program
 w:World
 K:PySem.W.Frag
 mg:Str→Option Value
 base:Heap
 A:Around
 N:List Str
 s₀:Shared
 H₀:Hp
 env:Env
 outer:List Env
 stack:List Env
 ex:List Addr
 fn:Str→Bool
 calm:Bool
 pn:List (Addr×Obj)
 xe:Value→Shared→Prop
noncomputable def frs(l:List Env):List Addr:=l.filterMap (·.frame)
abbrev Cx.fs(X:Cx):List Addr:=frs X.outer
noncomputable def Vis(sc:Scope)(x:Str):Prop:=sc.names.lookup x=some .local∨sc.names.lookup x=some .cell∨sc.names.lookup x=some .free
noncomputable def Loc(sc:Scope)(x:Str):Prop:=sc.names.lookup x=some .local∨sc.names.lookup x=some .cell
noncomputable def Look(env:Env)(h:Heap)(m:Str→Option Value)(x:Str)(u:Value):Prop:=
 (env.kindOf x=some .local∧m x=some u)∨((env.kindOf x=some .cell∨env.kindOf x=some .free)∧∃c,env.cells.lookup x=some c∧h.IsCell c (some u))
structure Cx.Ok(X:Cx):Prop where
 mod:Mod X.K X.mg X.base
 kind:X.env.scope.kind=.function
 glob:X.env.globals=mainGlobals
 blt:X.env.builtins=builtinsNs
 above:X.s₀.heap.objs.size≤X.env.locals
 inj:∀x y c,X.env.cells.lookup x=some c→X.env.cells.lookup y=some c→x=y
 has:∀x,(X.env.kindOf x=some .cell∨X.env.kindOf x=some .free)→∃c,X.env.cells.lookup x=some c
 cab:∀x c,X.fn x=true→X.env.cells.lookup x=some c→X.s₀.heap.objs.size≤c
 hd:X.calm=true→X.A.handled=none
 frames:X.A.frames=some X.stack
 stk:X.stack=X.outer∨(X.stack=X.env::X.outer∧X.env.frame=some X.env.locals)
 exf:∀b∈X.ex,b≠X.env.locals∧∀x c,X.env.cells.lookup x=some c→c≠b
 bs:∀b o,X.base.get? b=some o→X.s₀.heap.get? b=some o∧X.H₀ b=none
 bsz:X.base.objs.size≤X.s₀.heap.objs.size
 noex:∀b o,X.base.get? b=some o→b∉X.ex
 exfs:∀b∈X.ex,b∉X.fs
 funs:X.s₀.heap.FunFrames X.base X.outer
 frf:∀b∈X.fs,X.H₀ b=none
structure Inv(X:Cx)(pins:List (Addr×Obj))(σ:List (Option V))(H:Hp)(s:Shared):Prop where
 ok:X.Ok
 os:s.os=X.s₀.os
 bare:AllBare s.gens
 base:Un X.fs X.ex X.H₀ H X.s₀.heap s.heap
 loc:∃m,s.heap.Ns X.env.locals m∧∀(i:Nat) (x:Str) (v:V),X.N[i]? = some x→σ[i]? = some (some v)→Vis X.env.scope x→∃u,RelV v u∧Look X.env s.heap m x u
 cell:∀x c,X.env.cells.lookup x=some c→∃v,s.heap.IsCell c v
 free:H X.env.locals=none
 freeC:∀x c,X.env.cells.lookup x=some c→H c=none
 pin:∀p∈X.pn++pins,s.heap.get? p.1=some p.2∧H p.1=none∧p.1≠X.env.locals∧p.1∉X.fs∧∀v,p.2.data≠.cell v
 hok:HOk X.prog X.w H s.heap
 len:σ.length=X.N.length
section
variable{X:Cx}{pins:List (Addr×Obj)}{σ:List (Option V)}{H H':Hp}{s:Shared}{h':Heap}
theorem Cx.Ok.nofr(ok:X.Ok){b:Addr}{o:Obj}(e:X.base.get? b=some o):b∉X.fs:=fun hb=>by
 have:=(ok.funs.mem hb).1;rw [e]at this;cases this
theorem Inv.bs(I:Inv X pins σ H s):∀b o,X.base.get? b=some o→s.heap.get? b=some o∧H b=none:=fun b o e=>
 ⟨I.base.keep b o (I.ok.bs b o e).1 (I.ok.bs b o e).2 (I.ok.nofr e) (I.ok.noex b o e),I.base.free b o (I.ok.bs b o e).1 (I.ok.bs b o e).2 (I.ok.noex b o e)⟩
theorem Inv.bk(I:Inv X pins σ H s):∀b o,X.base.get? b=some o→s.heap.get? b=some o:=fun b o e=>(I.bs b o e).1
theorem Inv.mod(I:Inv X pins σ H s):Mod X.K X.mg X.base:=I.ok.mod
theorem Inv.kIn(I:Inv X pins σ H s):X.K.In s.heap:=I.ok.mod.kin.keeps I.bk
theorem Inv.nolimit(I:Inv X pins σ H s):s.heap.NoLimit:=I.ok.mod.nolimit.keeps I.bk
theorem Inv.fr(I:Inv X pins σ H s):∃m,Fr X.base X.env.locals s.heap m:=
 let ⟨m,hn,_⟩:=I.loc
 ⟨m,hn,I.bk,Nat.le_trans I.ok.bsz I.ok.above⟩
theorem Inv.lt(I:Inv X pins σ H s):X.env.locals<s.heap.objs.size:=let ⟨_,hn,_⟩:=I.loc;hn.lt
theorem Inv.sz(I:Inv X pins σ H s):X.s₀.heap.objs.size≤s.heap.objs.size:=Nat.le_trans I.ok.above (Nat.le_of_lt I.lt)
theorem Inv.nofs(I:Inv X pins σ H s){a:Addr}(h:s.heap.objs.size≤a):a∉X.fs:=fun hb=>by
 obtain⟨_,o,ho,_⟩:=I.ok.funs.mem hb;exact absurd (Nat.lt_of_lt_of_le (Heap.lt_size ho) (Nat.le_trans I.sz h)) (Nat.lt_irrefl _)
theorem Inv.cne(I:Inv X pins σ H s):∀x c,X.env.cells.lookup x=some c→c≠X.env.locals:=fun x c e z=>by
 obtain⟨v,o,ho,hd⟩:=I.cell x c e;obtain⟨m,⟨o',es,ep,ho',hd',_⟩,_⟩:=I.loc;rw [z,ho']at ho;cases ho;rw [hd']at hd;cases hd
theorem Inv.funs(I:Inv X pins σ H s):s.heap.FunFrames X.base X.outer:=by
 have all:∀(l:List Env),(∀b∈frs l,b∈X.fs)→X.s₀.heap.FunFrames X.base l→s.heap.FunFrames X.base l:=by
  intro l
  induction l with
  |nil=>intro _ _;trivial
  |cons env r ih=>
   intro hs hl;obtain⟨hk,⟨L,o,hf,hn,ho,hd⟩,hr⟩:=hl;have hL:L∈X.fs:=hs L (by unfold frs;rw [List.filterMap_cons,hf];exact List.mem_cons_self);obtain⟨sl,e⟩:=I.base.slot L o ho (I.ok.frf L hL) hL fun z=>I.ok.exfs L z hL
   exact⟨hk,⟨L,_,hf,hn,e,hd⟩,ih (fun b hb=>hs b (by unfold frs;rw [List.filterMap_cons,hf];exact List.mem_cons_of_mem _ hb)) hr⟩
 exact all X.outer (fun _ hb=>hb) I.ok.funs
theorem Inv.stack(I:Inv X pins σ H s):s.heap.FunFrames X.base X.stack:=by
 rcases I.ok.stk with e|⟨e,hf⟩
 ·rw [e];exact I.funs
 ·rw [e];obtain⟨m,hn,_⟩:=I.loc;refine .cons (by rw [I.ok.kind];decide) hf hn ?_ I.funs;exact Heap.get?_none_of_le (Nat.le_trans I.ok.bsz I.ok.above)
theorem Inv.stkSub(I:Inv X pins σ H s):∀b∈frs X.stack,b∈X.env.locals::X.fs:=fun b hb=>by
 rcases I.ok.stk with e|⟨e,hf⟩
 ·rw [e]at hb;exact List.mem_cons_of_mem _ hb
 ·rw [e]at hb;unfold frs at hb;rw [List.filterMap_cons,hf]at hb;exact hb
theorem Inv.stkFree(I:Inv X pins σ H s):∀b∈frs X.stack,H b=none:=fun b hb=>by
 rcases List.mem_cons.mp (I.stkSub b hb)with e|hb
 ·rw [e];exact I.free
 ·obtain⟨_,o,ho,_⟩:=I.ok.funs.mem hb;exact I.base.free b o ho (I.ok.frf b hb) fun z=>I.ok.exfs b z hb
theorem Inv.step{g':Array GenState}{t':Nat}{d':Drawn}{ch:List Addr}(I:Inv X pins σ H s)
  (hch:∀b∈ch,(b∈X.ex∨X.s₀.heap.objs.size≤b)∧b≠X.env.locals∧(∀x c,X.env.cells.lookup x=some c→c≠b)∧∀p∈X.pn++pins,p.1≠b)
  (keep:∀b o,b≠X.env.locals→b∉X.fs→b∉ch→s.heap.get? b=some o→H b=none→h'.get? b=some o)
  (slot:∀b o,b≠X.env.locals→b∈X.fs→b∉ch→s.heap.get? b=some o→H b=none→∃sl,h'.get? b=some {o with slots:=sl}) (free:∀b o,b∉ch→s.heap.get? b=some o→H b=none→H' b=none)
  (there:∀b o,b∉ch→s.heap.get? b=some o→∃o',h'.get? b=some o')
  (tups:∀b xs,H b=some (.tup xs)→H' b=some (.tup xs)) (frzs:∀b o u,H b=some (.frz o u)→H' b=some (.frz o u)) (tbls:∀b ps,H b=some (.tbl ps)→∃more,H' b=some (.tbl (ps++more)))
  (ns:∀m,s.heap.Ns X.env.locals m→h'.Ns X.env.locals m) (hok:HOk X.prog X.w H' h') (hg:AllBare g') :
  Inv X pins σ H' {s with heap:=h',gens:=g',drawn:=d',toks:=t'}:=by
 have neL:∀b o,X.s₀.heap.get? b=some o→b≠X.env.locals:=fun b o e=>Nat.ne_of_lt (Nat.lt_of_lt_of_le (Heap.lt_size e) I.ok.above)
 have neC:∀b o,X.s₀.heap.get? b=some o→b∉X.ex→b∉ch:=fun b o e hx hb=>by
  rcases(hch b hb).1 with z|z
  ·exact hx z
  ·exact absurd (Nat.lt_of_lt_of_le (Heap.lt_size e) z) (Nat.lt_irrefl _)
 have cellK:∀x c,X.env.cells.lookup x=some c→∀v,s.heap.IsCell c v→h'.IsCell c v:=fun x c e v ⟨o,ho,hd⟩=>by
  have nch:c∉ch:=fun z=>(hch c z).2.2.1 x c e rfl
  by_cases hc:c∈X.fs
  ·obtain⟨sl,q⟩:=slot c o (I.cne x c e) hc nch ho (I.freeC x c e);exact⟨_,q,hd⟩
  ·exact⟨o,keep c o (I.cne x c e) hc nch ho (I.freeC x c e),hd⟩
 refine⟨I.ok,I.os,hg,⟨fun b o e n hb hx=>?_,fun b o e n hb hx=>?_,fun b o e n hx=>?_,fun b o e hx=>?_,fun b xs e=>tups b xs (I.base.tups b xs e),fun b o xs e=>frzs b o xs (I.base.frzs b o xs e),fun b ps e=>?_⟩,?_,fun x c e=>?_,?_,fun x c e=>?_,fun p hp=>?_,hok,I.len⟩
 ·exact keep b o (neL b o e) hb (neC b o e hx) (I.base.keep b o e n hb hx) (I.base.free b o e n hx)
 ·obtain⟨sl,e1⟩:=I.base.slot b o e n hb hx;obtain⟨sl',e2⟩:=slot b _ (neL b o e) hb (neC b o e hx) e1 (I.base.free b o e n hx);exact⟨sl',e2⟩
 ·obtain⟨o',e1⟩:=I.base.there b o e hx;exact free b o' (neC b o e hx) e1 (I.base.free b o e n hx)
 ·obtain⟨o',e1⟩:=I.base.there b o e hx;exact there b o' (neC b o e hx) e1
 ·obtain⟨m1,e1⟩:=I.base.tbls b ps e;obtain⟨m2,e2⟩:=tbls b _ e1;exact⟨m1++m2,by rw [e2,Array.append_assoc]⟩
 ·obtain⟨m,hn,hl⟩:=I.loc;refine⟨m,ns m hn,fun i x v e1 e2 e3=>?_⟩;obtain⟨u,r,l⟩:=hl i x v e1 e2 e3;refine⟨u,r,?_⟩;rcases l with l|⟨k,c,e,z⟩
  ·exact .inl l
  ·exact .inr ⟨k,c,e,cellK x c e _ z⟩
 ·obtain⟨v,z⟩:=I.cell x c e;exact⟨v,cellK x c e v z⟩
 ·obtain⟨m,⟨o,_,_,ho,_⟩,_⟩:=I.loc;exact free _ o (fun z=>(hch _ z).2.1 rfl) ho I.free
 ·obtain⟨v,o,ho,hd⟩:=I.cell x c e;exact free c o (fun z=>(hch c z).2.2.1 x c e rfl) ho (I.freeC x c e)
 ·obtain⟨e,n,ne,nf,d⟩:=I.pin p hp;have nch:p.1∉ch:=fun z=>(hch p.1 z).2.2.2 p hp rfl
  exact⟨keep p.1 p.2 ne nf nch e n,free p.1 p.2 nch e n,ne,nf,d⟩
theorem Inv.un{t':Nat}(I:Inv X pins σ H s)(u:Un X.fs [] H H' s.heap h')(hok:HOk X.prog X.w H' h'):Inv X pins σ H' {s with heap:=h',toks:=t'}:=by
 obtain⟨m,⟨o,es,ep,ho,r⟩,_⟩:=id I.loc;obtain⟨sl,hL⟩:=u.any ho I.free (by simp);exact I.step (g':=s.gens) (d':=s.drawn) (ch:=[]) (fun _ z=>nomatch z) (fun b o _ hb _ e n=>u.keep b o e n hb (by simp)) (fun b o _ hb _ e n=>u.slot b o e n hb (by simp)) (fun b o _ e n=>u.free b o e n (by simp)) (fun b o _ e=>u.there b o e (by simp)) u.tups u.frzs u.tbls (fun m' hm=>by
  obtain⟨o',es',ep',ho',r'⟩:=hm;rw [ho]at ho';cases ho';exact⟨_,es',ep',hL,r'⟩) hok I.bare
theorem Inv.call{g':Array GenState}{t':Nat}{d':Drawn}{ch:List Addr}(I:Inv X pins σ H s)(u:Un (frs X.stack) ch H H' s.heap h')(hok:HOk X.prog X.w H' h')(hg:AllBare g')
  (hch:∀b∈ch,(b∈X.ex∨X.s₀.heap.objs.size≤b)∧b≠X.env.locals∧(∀x c,X.env.cells.lookup x=some c→c≠b)∧∀p∈X.pn++pins,p.1≠b) :
  Inv X pins σ H' {s with heap:=h',gens:=g',drawn:=d',toks:=t'}:=by
 obtain⟨m,⟨o,es,ep,ho,r⟩,_⟩:=id I.loc;obtain⟨sl,hL⟩:=u.any ho I.free fun z=>(hch _ z).2.1 rfl
 exact I.step (ch:=ch) hch (fun b o hL hb hc e n=>u.keep b o e n (fun z=>(List.mem_cons.mp (I.stkSub b z)).elim hL hb) hc) (fun b o _ _ hc e n=>u.any e n hc) (fun b o hc e n=>u.free b o e n hc) (fun b o hc e=>u.there b o e hc) u.tups u.frzs u.tbls (fun m' hm=>by
  obtain⟨o',es',ep',ho',r'⟩:=hm;rw [ho]at ho';cases ho';exact⟨_,es',ep',hL,r'⟩) hok hg
theorem Inv.turned{t':Nat}{it:Addr}(I:Inv X pins σ H s)(k:∀b o,b≠it→s.heap.get? b=some o→h'.get? b=some o)(hn:H it=none)(hL:it≠X.env.locals)
  (h1:it∈X.ex∨X.s₀.heap.objs.size≤it) (h2:∀x c,X.env.cells.lookup x=some c→c≠it) (h3:∀p∈X.pn++pins,p.1≠it):Inv X pins σ H {s with heap:=h',toks:=t'}:=by
 have nit:∀b u,H b=some u→b≠it:=fun b u e z=>by rw [z,hn]at e;cases e
 refine I.step (g':=s.gens) (d':=s.drawn) (ch:=[it]) (fun b hb=>?_) (fun b o _ _ hc e _=>k b o (fun z=>hc (by simp [z])) e) (fun b o _ _ hc e _=>⟨o.slots,k b o (fun z=>hc (by simp [z])) e⟩) (fun _ _ _ _ n=>n)
  (fun b o hc e=>⟨o,k b o (fun z=>hc (by simp [z])) e⟩) (fun _ _ e=>e) (fun _ _ _ e=>e) (fun b ps e=>⟨#[],by rw [e];simp⟩) (fun m hm=>?_) (fun b u e=>?_) I.bare
 ·have e:b=it:=by simpa using hb
  subst e;exact⟨h1,hL,h2,h3⟩
 ·obtain⟨o,es,ep,ho,r⟩:=hm;exact⟨o,es,ep,k _ o (Ne.symm hL) ho,r⟩
 ·refine(I.hok b u e).stay (fun c v hc q=>k c v ?_ q) (fun _ q=>q) fun _ _ q=>q
  rcases hc with z|z
  ·rw [z];exact nit b u e
  ·exact nit c _ z
theorem Inv.tok(I:Inv X pins σ H s)(t:Nat):Inv X pins σ H {s with toks:=t}:=I.un (h':=s.heap) (t':=t) Un.refl I.hok
theorem Inv.kept{t':Nat}(I:Inv X pins σ H s)(k:∀b u,s.heap.get? b=some u→h'.get? b=some u):Inv X pins σ H {s with heap:=h',toks:=t'}:=I.un (Un.kept k) (I.hok.kept k)
theorem Inv.laid{a:Addr}{o:HO}{t':Nat}(I:Inv X pins σ H s)(k:∀b u,s.heap.get? b=some u→h'.get? b=some u)(hp:s.heap.objs.size≤a)(new:zI X.prog X.w (upd H a o) h' a o) :
  Inv X pins σ (upd H a o) {s with heap:=h',toks:=t'}:=I.un (Un.laid k hp (I.hok.fresh hp)) (I.hok.laid k hp new)
theorem Inv.write{x e:Addr}{o:HO}{t':Nat}(I:Inv X pins σ H s)(mu:Mut (H x))(he:e=x∨H e=some (.own x))(k:∀b u,b≠e→s.heap.get? b=some u→h'.get? b=some u)(heo:∃u,h'.get? e=some u)
  (new:zI X.prog X.w (upd H x o) h' x o):Inv X pins σ (upd H x o) {s with heap:=h',toks:=t'}:=I.un (Un.write mu he k heo) (I.hok.write mu he k heo new)
theorem Inv.pins_of{pins':List (Addr×Obj)}(I:Inv X pins σ H s)(h:∀p∈pins',s.heap.get? p.1=some p.2∧H p.1=none∧p.1≠X.env.locals∧p.1∉X.fs∧∀v,p.2.data≠.cell v):Inv X pins' σ H s:=
 ⟨I.ok,I.os,I.bare,I.base,I.loc,I.cell,I.free,I.freeC,fun p hp=>(List.mem_append.mp hp).elim (fun z=>I.pin p (List.mem_append_left _ z)) (h p),I.hok,I.len⟩
theorem qip{N:List Str}(hN:N.Nodup){i j:Nat}{x:Str}(a:N[i]? = some x)(b:N[j]? = some x):i=j:=by
 obtain⟨h1,e1⟩:=List.getElem?_eq_some_iff.mp a;obtain⟨h2,e2⟩:=List.getElem?_eq_some_iff.mp b;exact(List.getElem_inj hN).mp (e1.trans e2.symm)
theorem qgm{M:Model}{A:Around}{E:Value→Shared→Prop}{i:Nat}{x:Str}{v:V}{u:Value}{Q:Unit→Shared→Prop}(I:Inv X pins σ H s)(hN:X.N.Nodup)(hi:X.N[i]? = some x)(hx:Loc X.env.scope x)(r:RelV v u)
  (h:∀s',Inv X pins (σ.set i (some v)) H s'→(∃a,Heap.SameBut a s.heap s'.heap∧(a=X.env.locals∨X.env.cells.lookup x=some a))→Q () s') (hf:X.fn x=true∨X.env.scope.names.lookup x=some .local:=by first|exact .inl rfl|exact .inr rfl|assumption):wpAny M A (storeName X.env x u) Q E s:=by
 obtain⟨m,hn,hl⟩:=id I.loc;have hcls:(X.env.scope.kind==.class||(X.env.scope.kind==.module&&X.env.locals != X.env.globals))=false:=by rw [I.ok.kind];rfl
 have hiσ:i<σ.length:=by rw [I.len];exact(List.getElem?_eq_some_iff.mp hi).1
 have cne:=I.cne;have tracked:∀{a:Addr}{h':Heap},(∃o,s.heap.get? a=some o∧H a=none)→Heap.SameBut a s.heap h'→HOk X.prog X.w H h':=fun {a h'} ha hs b ob e=>by
  obtain⟨_,_,hfree⟩:=ha;refine(I.hok b ob e).stay (fun c w' hc q=>(hs.2 c ?_).trans q) (fun _ q=>q) fun _ _ q=>q
  rintro rfl;rcases hc with rfl|hc
  ·rw [hfree]at e;cases e
  ·rw [hfree]at hc;cases hc
 rcases hx with hk|hk
 ·refine wpAny_storeName_local hk hn (fun h' hn' hs=>?_) hcls;obtain⟨oL,_,_,hoL,_⟩:=id hn;refine h _ ⟨I.ok,I.os,I.bare,⟨fun b o e n hb hx=>?_,fun b o e n hb hx=>?_,I.base.free,fun b o e hx=>?_,I.base.tups,I.base.frzs,I.base.tbls⟩,⟨_,hn',fun j y v' e1 e2 e3=>?_⟩,fun y c e=>?_,I.free,I.freeC,fun p hp=>?_,tracked ⟨oL,hoL,I.free⟩ hs,by simpa using I.len⟩ ⟨_,hs,.inl rfl⟩
  ·exact(hs.2 b (Nat.ne_of_lt (Nat.lt_of_lt_of_le (Heap.lt_size e) I.ok.above))).trans (I.base.keep b o e n hb hx)
  ·obtain⟨sl,e1⟩:=I.base.slot b o e n hb hx;exact⟨sl,(hs.2 b (Nat.ne_of_lt (Nat.lt_of_lt_of_le (Heap.lt_size e) I.ok.above))).trans e1⟩
  ·obtain⟨o',e1⟩:=I.base.there b o e hx;exact⟨o',(hs.2 b (Nat.ne_of_lt (Nat.lt_of_lt_of_le (Heap.lt_size e) I.ok.above))).trans e1⟩
  ·by_cases hj:j=i
   ·subst hj;rw [hi]at e1;cases e1;rw [List.getElem?_set_self hiσ]at e2;cases e2;exact⟨u,r,.inl ⟨hk,by simp⟩⟩
   ·rw [List.getElem?_set_ne (Ne.symm hj)]at e2;obtain⟨u',r',q⟩:=hl j y v' e1 e2 e3;refine⟨u',r',?_⟩;rcases q with ⟨k,e⟩|⟨k,c,e,z⟩
    ·refine .inl ⟨k,?_⟩;have:y≠x:=fun e=>hj (qip hN e1 (e▸hi))
     simp [this,e]
    ·exact .inr ⟨k,c,e,z.sameBut hs (cne y c e)⟩
  ·obtain⟨w',z⟩:=I.cell y c e;exact⟨w',z.sameBut hs (cne y c e)⟩
  ·obtain⟨e,n,ne,nf,d⟩:=I.pin p hp;exact⟨(hs.2 p.1 ne).trans e,n,ne,nf,d⟩
 ·have hfn:X.fn x=true:=by
   rcases hf with z|z
   ·exact z
   ·rw [z]at hk;cases hk
  obtain⟨c,hc⟩:=I.ok.has x (.inl hk);obtain⟨w',z⟩:=I.cell x c hc;refine wpAny_storeName_cell I.ok.kind hk hc z (fun h' hc' hs=>?_);obtain⟨oc,hoc,hocd⟩:=id z;refine h {s with heap:=h'} ⟨I.ok,I.os,I.bare,⟨fun b o e n hb hx=>?_,fun b o e n hb hx=>?_,I.base.free,fun b o e hx=>?_,I.base.tups,I.base.frzs,I.base.tbls⟩,⟨m,hn.sameBut hs (Ne.symm (cne x c hc)),fun j y v' e1 e2 e3=>?_⟩,fun y c' e=>?_,I.free,I.freeC,fun p hp=>?_,tracked ⟨oc,hoc,I.freeC x c hc⟩ hs,by simpa using I.len⟩ ⟨c,hs,.inr hc⟩
  ·exact(hs.2 b (Nat.ne_of_lt (Nat.lt_of_lt_of_le (Heap.lt_size e) (I.ok.cab x c hfn hc)))).trans (I.base.keep b o e n hb hx)
  ·obtain⟨sl,e1⟩:=I.base.slot b o e n hb hx;exact⟨sl,(hs.2 b (Nat.ne_of_lt (Nat.lt_of_lt_of_le (Heap.lt_size e) (I.ok.cab x c hfn hc)))).trans e1⟩
  ·obtain⟨o',e1⟩:=I.base.there b o e hx;exact⟨o',(hs.2 b (Nat.ne_of_lt (Nat.lt_of_lt_of_le (Heap.lt_size e) (I.ok.cab x c hfn hc)))).trans e1⟩
  ·by_cases hj:j=i
   ·subst hj;rw [hi]at e1;cases e1;rw [List.getElem?_set_self hiσ]at e2;cases e2;exact⟨u,r,.inr ⟨.inl hk,c,hc,hc'⟩⟩
   ·rw [List.getElem?_set_ne (Ne.symm hj)]at e2;obtain⟨u',r',q⟩:=hl j y v' e1 e2 e3;refine⟨u',r',?_⟩;rcases q with q|⟨k,c',e,z'⟩
    ·exact .inl q
    ·refine .inr ⟨k,c',e,z'.sameBut hs ?_⟩;rintro rfl;exact hj (qip hN e1 (I.ok.inj _ _ _ e hc▸hi))
  ·by_cases hcc:c'=c
   ·subst hcc;exact⟨_,hc'⟩
   ·obtain⟨w2,z2⟩:=I.cell y c' e;exact⟨w2,z2.sameBut hs hcc⟩
  ·obtain⟨e,n,ne,nf,d⟩:=I.pin p hp;refine⟨(hs.2 p.1 ?_).trans e,n,ne,nf,d⟩;intro q;rw [q,hoc]at e;have q':oc=p.2:=Option.some.inj e;exact d w' (by rw [←q'];exact hocd)
theorem qdH{M:Model}{A:Around}{E:Value→Shared→Prop}{i:Nat}{x:Str}{v:V}{u:Value}{Q:Unit→Shared→Prop}(I:Inv X pins σ H s)(hN:X.N.Nodup)(hi:X.N[i]? = some x)(hx:Loc X.env.scope x)(r:RelV v u)
  (h:∀s',Inv X pins (σ.set i (some v)) H s'→Q () s') (hf:X.fn x=true∨X.env.scope.names.lookup x=some .local:=by first|exact .inl rfl|exact .inr rfl|assumption):wpAny M A (storeName X.env x u) Q E s:=
 qgm I hN hi hx r (fun s' I' _=>h s' I') hf
theorem Inv.call'{s':Shared}{ch:List Addr}(I:Inv X pins σ H s)(ho:s'.os=s.os)(u:Un (frs X.stack) ch H H' s.heap s'.heap)(hok:HOk X.prog X.w H' s'.heap)(hg:AllBare s'.gens)
  (hch:∀b∈ch,(b∈X.ex∨X.s₀.heap.objs.size≤b)∧b≠X.env.locals∧(∀x c,X.env.cells.lookup x=some c→c≠b)∧∀p∈X.pn++pins,p.1≠b):Inv X pins σ H' s':=by
 obtain⟨h',g',d',t',o'⟩:=s';have e:o'=s.os:=ho;subst e;exact I.call (g':=g') (t':=t') (d':=d') u hok hg hch
end
abbrev XK:=Value→Option Addr→Hp→Prop
abbrev St:=List (Option V)
abbrev VK:=V→Hp→Prop
abbrev TE:=St→Hp→VK→Prop
abbrev TT:=St→Hp→(Bool→Hp→Prop)→Prop
abbrev TA:=St→Hp→(List V→Hp→Prop)→Prop
structure Ends where
 nx:St→Hp→Prop
 rt:VK
 bk:St→Hp→Prop:=fun _ _=>False
 ct:St→Hp→Prop:=fun _ _=>False
abbrev TS:=Ends→St→Hp→Prop
noncomputable def EP(X:Cx)(pins:List (Addr×Obj))(σ:St)(Q:VK)(u:Value)(s':Shared):Prop:=∃v H',Inv X pins σ H' s'∧RelV v u∧Q v H'
noncomputable def TP(X:Cx)(pins:List (Addr×Obj))(σ:St)(Q:Bool→Hp→Prop)(b:Bool)(s':Shared):Prop:=∃H',Inv X pins σ H' s'∧Q b H'
noncomputable def AP(X:Cx)(pins:List (Addr×Obj))(σ:St)(Q:List V→Hp→Prop)(us:List Value)(s':Shared):Prop:=∃vs H',Inv X pins σ H' s'∧Vals vs us∧Q vs H'
noncomputable def SP(X:Cx)(pins:List (Addr×Obj))(D:Ends)(f:Flow)(s':Shared):Prop:=
 match f with
 | .next=>∃σ' H',Inv X pins σ' H' s'∧D.nx σ' H'
 | .brk=>∃σ' H',Inv X pins σ' H' s'∧D.bk σ' H'
 | .cont=>∃σ' H',Inv X pins σ' H' s'∧D.ct σ' H'
 | .ret u=>∃v σ' H',Inv X pins σ' H' s'∧RelV v u∧D.rt v H'
noncomputable def PE(X:Cx)(e:Expr)(t:TE):Prop:=
 ∀(pins:List (Addr×Obj)) (s:Shared) (σ:St) (H:Hp) (Q:VK),Inv X pins σ H s→t σ H Q→wpAny (model X.prog X.w) X.A (eval e X.env) (EP X pins σ Q) X.xe s
noncomputable def PT(X:Cx)(e:Expr)(t:TT):Prop:=
 ∀(pins:List (Addr×Obj)) (s:Shared) (σ:St) (H:Hp) (Q:Bool→Hp→Prop),Inv X pins σ H s→t σ H Q→wpAny (model X.prog X.w) X.A (isTrue e X.env (eval e X.env)) (TP X pins σ Q) X.xe s
noncomputable def PW(X:Cx)(e:Expr)(t:TT):Prop:=
 ∀(whole:Sem Value) (pins:List (Addr×Obj)) (s:Shared) (σ:St) (H:Hp) (Q:Bool→Hp→Prop),Inv X pins σ H s→t σ H Q→wpAny (model X.prog X.w) X.A (isTrue e X.env whole) (TP X pins σ Q) X.xe s
theorem PW.pt{X:Cx}{e:Expr}{t:TT}(h:PW X e t):PT X e t:=h _
noncomputable def PA(X:Cx)(es:List Expr)(t:TA):Prop:=
 ∀(pos:Pos) (pins:List (Addr×Obj)) (s:Shared) (σ:St) (H:Hp) (Q:List V→Hp→Prop),Inv X pins σ H s→t σ H Q→wpAny (model X.prog X.w) X.A (spliced (backTo pos (starEach es X.env))) (AP X pins σ Q) X.xe s
noncomputable def PS(X:Cx)(st:Stmt)(t:TS):Prop:=
 ∀(pins:List (Addr×Obj)) (s:Shared) (σ:St) (H:Hp) (D:Ends),Inv X pins σ H s→t D σ H→wpAny (model X.prog X.w) X.A (exec st X.env) (SP X pins D) X.xe s
noncomputable def PSs(X:Cx)(st:List Stmt)(t:TS):Prop:=
 ∀(pins:List (Addr×Obj)) (s:Shared) (σ:St) (H:Hp) (D:Ends),Inv X pins σ H s→t D σ H→wpAny (model X.prog X.w) X.A (execs st X.env) (SP X pins D) X.xe s
theorem thn{α:Type}{t:Sem α}{Q Q':α→Shared→Prop}{M:Model}{A:Around}{E:Value→Shared→Prop}{s:Shared}(h:wpAny M A t Q E s)(hQ:∀a s,Q a s→Q' a s):wpAny M A t Q' E s:=wpAny_mono h hQ fun _ _ x=>x
section
variable{X:Cx}
theorem bin{a b:Expr}{ta tb:TE}(ha:PE X a ta)(hb:PE X b tb){pins:List (Addr×Obj)}{s:Shared}{σ:St}{H:Hp}{R:V→V→Hp→Prop}(I:Inv X pins σ H s)(h:ta σ H fun x H1=>tb σ H1 fun y H2=>R x y H2)
  {α:Type}{Q:α→Shared→Prop}{f:Value→Value→Sem α}
  (hf:∀v u s2 x y H2,Inv X pins σ H2 s2→RelV x v→RelV y u→R x y H2→wpAny (model X.prog X.w) X.A (f v u) Q X.xe s2) :
  wpAny (model X.prog X.w) X.A (eval a X.env) (fun v s₁=>wpAny (model X.prog X.w) X.A (eval b X.env) (fun u s₂=>wpAny (model X.prog X.w) X.A (f v u) Q X.xe s₂) X.xe s₁) X.xe s:=by
 refine thn (ha pins s σ H _ I h) fun v s1 ⟨x,H1,I1,r1,q1⟩=>?_
 refine thn (hb pins s1 σ H1 _ I1 q1) fun u s2 ⟨y,H2,I2,r2,q2⟩=>?_
 exact hf v u s2 x y H2 I2 r1 r2 q2
noncomputable def qir(i:Nat):TE:=fun σ H Q=>∃v,σ[i]? = some (some v)∧Q v H
noncomputable def tC(v:V):TE:=fun _ H Q=>Q v H
theorem qfm{i:Nat}{x:Str}{pos:Pos}(hN:X.N[i]? = some x)(hv:Vis X.env.scope x)(hd:(x==("__debug__" : Str))=false:=by decide)(hcd:(x==("__classdict__" : Str))=false:=by decide):PE X (.Name x pos) (qir i):=by
 intro pins s σ H Q I h;obtain⟨v,e,h⟩:=h;obtain⟨m,hn,hl⟩:=I.loc;obtain⟨u,r,l⟩:=hl i x v hN e hv;have fin:EP X pins σ Q u s:=⟨v,H,I,r,h⟩
 rcases l with ⟨hk,hm⟩|⟨hk,c,hc,hcell⟩
 ·exact wpAny_Name (wpAny_loadName_local I.ok.kind hk hn hm fin) hd
 ·rcases hk with hk|hk
  ·exact wpAny_Name (wpAny_loadName_cell I.ok.kind hk hc hcell fin) hd
  ·exact wpAny_Name (wpAny_loadName_free I.ok.kind hk hc hcell fin hcd) hd
theorem qrI{i j pos}:PE X (.Constant (.int i) j pos) (tC (.int i)):=fun _ _ _ H _ I h=>wpAny_Constant_int ⟨.int i,H,I.tok _,⟨_,rfl⟩,h⟩
theorem qtf{b j pos}:PE X (.Constant (.bool b) j pos) (tC (.bl b)):=fun _ _ _ H _ I h=>Constant_bool ⟨.bl b,H,I,rfl,h⟩
theorem qrZ{j pos}:PE X (.Constant .none j pos) (tC .non):=fun _ _ _ H _ I h=>Constant_none ⟨.non,H,I,rfl,h⟩
theorem qqn{x j pos}:PE X (.Constant (.str x) j pos) (tC (.str x)):=fun _ _ _ H _ I h=>Calls.Constant_str ⟨.str x,H,I.tok _,⟨_,rfl⟩,h⟩
noncomputable def Gl(X:Cx)(x:Str):Prop:=X.env.kindOf x=some .globalImplicit
theorem qfB{E:Value→Shared→Prop}{pins:List (Addr×Obj)}{s:Shared}{σ:St}{H:Hp}{x:Str}{u:Value}{pos:Pos}{Q:Value→Shared→Prop}(I:Inv X pins σ H s)(hg:Gl X x)(hm:X.mg x=some u)(h:Q u s)
  (hd:(x==("__debug__" : Str))=false:=by decide):wpAny (model X.prog X.w) X.A (eval (.Name x pos) X.env) Q E s:=
 Calls.Name_function_global I.ok.kind hg (Calls.loadGlobal_global (by rw [I.ok.glob];exact I.mod.glob.keeps I.bk) hm h) hd
theorem qcg{E:Value→Shared→Prop}{pins:List (Addr×Obj)}{s:Shared}{σ:St}{H:Hp}{x:Str}{u:Value}{pos:Pos}{Q:Value→Shared→Prop}(I:Inv X pins σ H s)(hg:Gl X x)(hm:X.mg x=none)(hv:bootBuiltins x=some u)(h:Q u s)
  (hn:x≠"__name__":=by decide) (hd:(x==("__debug__" : Str))=false:=by decide):wpAny (model X.prog X.w) X.A (eval (.Name x pos) X.env) Q E s:=by
 obtain⟨mb,h1,h2⟩:=I.mod.blt;exact Calls.Name_function_global I.ok.kind hg (Calls.loadGlobal_builtin (by rw [I.ok.glob];exact I.mod.glob.keeps I.bk) hm (by rw [I.ok.blt];exact h1.keeps I.bk) ((h2 x hn).trans hv) h) hd
theorem qfO{x:Str}{v:V}{u:Value}{pos:Pos}(hg:Gl X x)(hm:X.mg x=some u)(r:RelV v u)(hd:(x==("__debug__" : Str))=false:=by decide):PE X (.Name x pos) (tC v):=
 fun _ _ _ H _ I h=>qfB I hg hm ⟨v,H,I,r,h⟩ hd
theorem qpN{x:Str}{v:V}{u:Value}{pos:Pos}(hg:Gl X x)(hm:X.mg x=none)(hv:bootBuiltins x=some u)(r:RelV v u)(hn:x≠"__name__":=by decide)(hd:(x==("__debug__" : Str))=false:=by decide):PE X (.Name x pos) (tC v):=
 fun _ _ _ H _ I h=>qcg I hg hm hv ⟨v,H,I,r,h⟩ hn hd
variable{a b:Expr}{ta tb:TE}{pos:Pos}
variable{tA tB':TT}{rest:List Expr}
noncomputable def qtQ(t u:TT):TT:=fun σ H Q=>t σ H fun c H1=>if c=true then u σ H1 Q else Q false H1
noncomputable def tOr(t u:TT):TT:=fun σ H Q=>t σ H fun c H1=>if c=true then Q true H1 else u σ H1 Q
noncomputable def qtH(t:TT):TT:=fun σ H Q=>t σ H fun c H1=>Q (!c) H1
theorem qoO(ha:PT X a tA):PW X (.BoolOp .And [a] pos) tA:=by
 intro wh pins s σ H Q I h;refine isTrue_and (thn (ha pins s σ H Q I h) fun c s1 e=>?_);cases c with
 |true=>exact isTrue_and_nil e
 |false=>exact e
theorem qqd(ha:PT X a tA):PW X (.BoolOp .Or [a] pos) tA:=by
 intro wh pins s σ H Q I h;refine isTrue_or (thn (ha pins s σ H Q I h) fun c s1 e=>?_);cases c with
 |false=>exact isTrue_or_nil e
 |true=>exact e
theorem qrz(ha:PT X a tA)(hb:PW X (.BoolOp .And (b::rest) pos) tB'):PW X (.BoolOp .And (a::b::rest) pos) (qtQ tA tB'):=by
 intro wh pins s σ H Q I h;refine isTrue_and (thn (ha pins s σ H _ I h) fun c s1 ⟨H1,I1,q1⟩=>?_);cases c with
 |true=>exact hb wh pins s1 σ H1 Q I1 q1
 |false=>exact⟨H1,I1,q1⟩
theorem qtt(ha:PT X a tA)(hb:PW X (.BoolOp .Or (b::rest) pos) tB'):PW X (.BoolOp .Or (a::b::rest) pos) (tOr tA tB'):=by
 intro wh pins s σ H Q I h;refine isTrue_or (thn (ha pins s σ H _ I h) fun c s1 ⟨H1,I1,q1⟩=>?_);cases c with
 |true=>exact⟨H1,I1,q1⟩
 |false=>exact hb wh pins s1 σ H1 Q I1 q1
theorem qqW(ha:PT X a tA):PT X (.UnaryOp .Not a pos) (qtH tA):=by
 intro pins s σ H Q I h;exact isTrue_not (ha pins s σ H (fun c H1=>Q (!c) H1) I h)
noncomputable def qtz(ta tb:TE):TE:=fun σ H Q=>ta σ H fun x H1=>∃c,x=.bl c∧if c=true then tb σ H1 Q else Q (.bl false) H1
noncomputable def qtE(ta tb:TE):TE:=fun σ H Q=>ta σ H fun x H1=>∃c,x=.bl c∧if c=true then Q (.bl true) H1 else tb σ H1 Q
noncomputable def qsC(ta:TE):TE:=fun σ H Q=>ta σ H fun x H1=>∃c,x=.bl c∧Q (.bl (!c)) H1
theorem qqe{op}{t:TE}(h:PE X a t):PE X (.BoolOp op [a] pos) t:=fun pins s σ H Q I hw=>BoolOp_one (h pins s σ H Q I hw)
theorem qqT(ha:PE X a ta)(hb:PE X (.BoolOp .And (b::rest) pos) tb):PE X (.BoolOp .And (a::b::rest) pos) (qtz ta tb):=by
 intro pins s σ H Q I h;refine BoolOp_and (thn (ha pins s σ H _ I h) fun v s1 ⟨x,H1,I1,r1,q1⟩=>?_);obtain⟨c,rfl,q1⟩:=q1;cases r1;refine wpAny_truthy_bool ?_;cases c with
 |true=>exact hb pins s1 σ H1 Q I1 q1
 |false=>exact⟨.bl false,H1,I1,rfl,q1⟩
theorem qth(ha:PE X a ta)(hb:PE X (.BoolOp .Or (b::rest) pos) tb):PE X (.BoolOp .Or (a::b::rest) pos) (qtE ta tb):=by
 intro pins s σ H Q I h;refine BoolOp_or (thn (ha pins s σ H _ I h) fun v s1 ⟨x,H1,I1,r1,q1⟩=>?_);obtain⟨c,rfl,q1⟩:=q1;cases r1;refine wpAny_truthy_bool ?_;cases c with
 |false=>exact hb pins s1 σ H1 Q I1 q1
 |true=>exact⟨.bl true,H1,I1,rfl,q1⟩
theorem qsf(ha:PE X a ta):PE X (.UnaryOp .Not a pos) (qsC ta):=by
 intro pins s σ H Q I h;refine UnaryOp_ (thn (ha pins s σ H _ I h) fun v s1 ⟨x,H1,I1,r1,q1⟩=>?_);obtain⟨c,rfl,q1⟩:=q1;cases r1;exact not_of (wpAny_truthy_bool ⟨.bl (!c),H1,I1,rfl,q1⟩)
noncomputable def tIf(t:TT)(ta tb:TE):TE:=fun σ H Q=>t σ H fun c H1=>if c=true then ta σ H1 Q else tb σ H1 Q
theorem qnq{c:Expr}(hc:PT X c tA)(ha:PE X a ta)(hb:PE X b tb):PE X (.IfExp c a b pos) (tIf tA ta tb):=by
 intro pins s σ H Q I h;refine wpAny_IfExp (thn (hc pins s σ H _ I h) fun d s1 ⟨H1,I1,q1⟩=>?_);cases d with
 |true=>exact ha pins s1 σ H1 Q I1 q1
 |false=>exact hb pins s1 σ H1 Q I1 q1
end
noncomputable def SqL(K:PySem.W.Frag)(H:Hp)(a:Addr)(xs:List V):Prop:=
 Rd H a (.lst xs) ∨
  ∃(o:Obj) (its:Array Value) (n:Nat),K.lookup a=some o∧o.cls=.type "list"∧o.dict=none∧o.data=.seq its n∧its.size≤sizeLine∧Vals xs its.toList
noncomputable def SqT(K:PySem.W.Frag)(H:Hp)(a:Addr)(xs:List V):Prop:=
 Rd H a (.tup xs) ∨
  ∃(o:Obj) (its:Array Value) (n:Nat),K.lookup a=some o∧o.cls=.type "tuple"∧o.data=.seq its n∧its.size≤sizeLine∧Vals xs its.toList
noncomputable def qtW:Value→Option V
 | .none=>some .non
 | .bool b=>some (.bl b)
 | .int i _=>some (.int i)
 | .str x _=>some (.str x)
 | .bytes b _=>some (.byt b)
 | .float b _=>some (.flt b)
 | .ref a=>some (.ref a)
 | .type n=>some (.ty n)
 |_=>none
theorem RelV.abs{x:V}{u:Value}(r:RelV x u):qtW u=some x:=by
 cases x with
 |non=>cases r;rfl
 |bl _=>cases r;rfl
 |int _=>obtain⟨t,rfl⟩:=r;rfl
 |str _=>obtain⟨t,rfl⟩:=r;rfl
 |byt _=>obtain⟨t,rfl⟩:=r;rfl
 |flt _=>obtain⟨t,rfl⟩:=r;rfl
 |ref _=>cases r;rfl
 |ty _=>cases r;rfl
theorem RelV.inj{x y:V}{u:Value}(r:RelV x u)(q:RelV y u):x=y:=Option.some.inj (r.abs.symm.trans q.abs)
theorem Vals.inj:∀{xs ys:List V}{us:List Value},Vals xs us→Vals ys us→xs=ys
 |_,_,_,.nil,.nil=>rfl
 |_,_,_,.cons r t,.cons r' t'=>by rw [r.inj r',Vals.inj t t']
section
variable{X:Cx}{pins:List (Addr×Obj)}{σ:St}{H:Hp}{s:Shared}{a:Addr}{xs ys:List V}
theorem SqL.of{K:PySem.W.Frag}(h:H a=some (.lst xs)):SqL K H a xs:=.inl (.inl h)
theorem SqT.of{K:PySem.W.Frag}(h:H a=some (.tup xs)):SqT K H a xs:=.inl (.inl h)
theorem Inv.list(I:Inv X pins σ H s)(h:SqL X.K H a xs):∃its:List Value,Vals xs its∧PlainL s.heap a its.toArray∧xs.length≤sizeLine:=by
 rcases h with h|⟨o,its,n,hk,hc,hd,hs,hz,r⟩
 ·obtain⟨z,its,n,r,e⟩:=h.ok I.hok;exact⟨its,r,⟨_,n,e,rfl,rfl,rfl⟩,z⟩
 ·refine⟨its.toList,r,⟨o,n,I.kIn a o hk,hc,hd,by simpa using hs⟩,?_⟩;have e:=r.length;simp only [Array.length_toList]at e;lia
theorem Inv.tuple(I:Inv X pins σ H s)(h:SqT X.K H a xs):∃its:List Value,Vals xs its∧IsTup s.heap a its.toArray∧xs.length≤sizeLine:=by
 rcases h with h|⟨o,its,n,hk,hc,hs,hz,r⟩
 ·obtain⟨z,its,r,p⟩:=h.ok I.hok;exact⟨its,r,p,z⟩
 ·refine⟨its.toList,r,⟨o,I.kIn a o hk,hc,n,by simpa using hs⟩,?_⟩;have e:=r.length;simp only [Array.length_toList]at e;lia
theorem Inv.list_inj(I:Inv X pins σ H s)(h:SqL X.K H a xs)(h':SqL X.K H a ys):xs=ys:=by
 obtain⟨its,r,⟨o,n,e,_,_,d⟩,_⟩:=I.list h;obtain⟨its',r',⟨o',n',e',_,_,d'⟩,_⟩:=I.list h';rw [e]at e';cases e';rw [d]at d';injection d' with d1 _
 have:its=its':=by simpa using congrArg Array.toList d1
 subst this;exact r.inj r'
theorem Inv.tuple_inj(I:Inv X pins σ H s)(h:SqT X.K H a xs)(h':SqT X.K H a ys):xs=ys:=by
 obtain⟨its,r,⟨o,e,_,n,d⟩,_⟩:=I.tuple h;obtain⟨its',r',⟨o',e',_,n',d'⟩,_⟩:=I.tuple h';rw [e]at e';cases e';rw [d]at d';injection d' with d1 _
 have:its=its':=by simpa using congrArg Array.toList d1
 subst this;exact r.inj r'
end
abbrev Cx.wish(X:Cx)(E:Value→Shared→Prop):Cx:={X with xe:=E}
abbrev Cx.nox(X:Cx):Cx:=X.wish fun _ _=>False
theorem Cx.Ok.wish{X:Cx}(ok:X.Ok)(E:Value→Shared→Prop):(X.wish E).Ok:=
 ⟨ok.mod,ok.kind,ok.glob,ok.blt,ok.above,ok.inj,ok.has,ok.cab,ok.hd,ok.frames,ok.stk,ok.exf,ok.bs,ok.bsz,ok.noex,ok.exfs,ok.funs,ok.frf⟩
theorem Cx.Ok.unwish{X:Cx}{E:Value→Shared→Prop}(ok:(X.wish E).Ok):X.Ok:=
 ⟨ok.mod,ok.kind,ok.glob,ok.blt,ok.above,ok.inj,ok.has,ok.cab,ok.hd,ok.frames,ok.stk,ok.exf,ok.bs,ok.bsz,ok.noex,ok.exfs,ok.funs,ok.frf⟩
section
variable{X:Cx}{pins:List (Addr×Obj)}{σ:St}{H:Hp}{s:Shared}{E:Value→Shared→Prop}
theorem Inv.wish(I:Inv X pins σ H s)(E:Value→Shared→Prop):Inv (X.wish E) pins σ H s:=⟨I.ok.wish E,I.os,I.bare,I.base,I.loc,I.cell,I.free,I.freeC,I.pin,I.hok,I.len⟩
theorem Inv.unwish(I:Inv (X.wish E) pins σ H s):Inv X pins σ H s:=⟨I.ok.unwish,I.os,I.bare,I.base,I.loc,I.cell,I.free,I.freeC,I.pin,I.hok,I.len⟩
theorem SP.unwish{D:Ends}{f:Flow}{s':Shared}(h:SP (X.wish E) pins D f s'):SP X pins D f s':=by
 cases f with
 |next=>obtain⟨σ',H',I,q⟩:=h;exact⟨σ',H',I.unwish,q⟩
 |brk=>obtain⟨σ',H',I,q⟩:=h;exact⟨σ',H',I.unwish,q⟩
 |cont=>obtain⟨σ',H',I,q⟩:=h;exact⟨σ',H',I.unwish,q⟩
 |ret u=>obtain⟨v,σ',H',I,r,q⟩:=h;exact⟨v,σ',H',I.unwish,r,q⟩
end
section
variable{X:Cx}{st:Stmt}{rest:List Stmt}{t u:TS}{e:Expr}{te:TE}{pos:Pos}
noncomputable def qfc:TS:=fun D σ H=>D.nx σ H
noncomputable def que(t u:TS):TS:=fun D σ H=>t {D with nx:=u D} σ H
theorem qox:PSs X [] qfc:=fun _ _ σ H _ I h=>wpAny_execs_nil ⟨σ,H,I,h⟩
theorem qic(h1:PS X st t)(h2:PSs X rest u):PSs X (st::rest) (que t u):=by
 intro pins s σ H D I h;refine wpAny_execs_cons (thn (h1 pins s σ H {D with nx:=u D} I h) fun f s1 q=>?_);cases f with
 |next=>
  obtain⟨σ',H',I',q⟩:=q;exact h2 pins s1 σ' H' D I' q
 |ret v=>exact q
 |brk=>exact q
 |cont=>exact q
noncomputable def qqj:TS:=fun D σ H=>D.bk σ H
noncomputable def qsE:TS:=fun D σ H=>D.ct σ H
theorem qpE:PS X (.Pass pos) qfc:=fun _ _ σ H _ I h=>wpAny_Pass ⟨σ,H,I,h⟩
theorem qnn:PS X (.Break pos) qqj:=fun _ _ σ H _ I h=>wpAny_Break ⟨σ,H,I,h⟩
theorem qiF:PS X (.Continue pos) qsE:=fun _ _ σ H _ I h=>wpAny_Continue ⟨σ,H,I,h⟩
theorem Inv.quiet{pins:List (Addr×Obj)}{σ:St}{H:Hp}{s:Shared}(I:Inv X pins σ H s):interactive X.env=false:=by simp [interactive,I.ok.kind]
noncomputable def qtl(te:TE):TS:=fun D σ H=>te σ H fun _ H1=>D.nx σ H1
theorem qiT(he:PE X e te)(hs:swapsWith e none pos.line X.env=pure false:=by rfl):PS X (.Expr e pos) (qtl te):=by
 intro pins s σ H D I h;exact wpAny_Expr_any (thn (he pins s σ H _ I h) fun v s1 ⟨x,H1,I1,r1,q1⟩=>⟨σ,H1,I1,q1⟩) I.quiet hs
noncomputable def qua(te:TE):TS:=fun D σ H=>te σ H D.rt
theorem qlV(he:PE X e te):PS X (.Return (some e) pos) (qua te):=by
 intro pins s σ H D I h;exact wpAny_Return_some (thn (he pins s σ H _ I h) fun v s1 ⟨x,H1,I1,r1,q1⟩=>⟨x,σ,H1,I1,r1,q1⟩)
noncomputable def qtp:TS:=fun D _ H=>D.rt .non H
theorem qpQ:PS X (.Return none pos) qtp:=fun _ _ σ H _ I h=>wpAny_Return_none ⟨.non,σ,H,I,rfl,h⟩
noncomputable def qkw(c:TT)(t u:TS):TS:=fun D σ H=>c σ H fun b H1=>if b=true then t D σ H1 else u D σ H1
theorem qtC{c:Expr}{a b:List Stmt}{tc:TT}(hc:PT X c tc)(ha:PSs X a t)(hb:PSs X b u):PS X (.If c a b pos) (qkw tc t u):=by
 intro pins s σ H D I h;refine wpAny_If (thn (hc pins s σ H _ I h) fun d s1 ⟨H1,I1,q1⟩=>?_);cases d with
 |true=>exact ha pins s1 σ H1 D I1 q1
 |false=>exact hb pins s1 σ H1 D I1 q1
end
abbrev TG:=V→St→Hp→(St→Hp→Prop)→Prop
abbrev TGs:=List V→St→Hp→(St→Hp→Prop)→Prop
noncomputable def PG(X:Cx)(target:Expr)(t:TG):Prop:=
 ∀(pins:List (Addr×Obj)) (s:Shared) (σ:St) (H:Hp) (v:V) (u:Value) (Q:St→Hp→Prop),Inv X pins σ H s→RelV v u→t v σ H Q →
  wpAny (model X.prog X.w) X.A (assign target X.env u) (fun _ s'=>∃σ' H',Inv X pins σ' H' s'∧Q σ' H') X.xe s
noncomputable def PGs(X:Cx)(ts:List Expr)(t:TGs):Prop:=
 ∀(pins:List (Addr×Obj)) (s:Shared) (σ:St) (H:Hp) (vs:List V) (us:List Value) (Q:St→Hp→Prop),Inv X pins σ H s→Vals vs us→t vs σ H Q →
  wpAny (model X.prog X.w) X.A (assignInOrder ((assignEach ts X.env).map (·.2)) us) (fun _ s'=>∃σ' H',Inv X pins σ' H' s'∧Q σ' H') X.xe s
abbrev qnx:=V→V→V→Hp→(Hp→Prop)→Prop
noncomputable def qsm(X:Cx)(t:qnx):Prop:=
 ∀(pins:List (Addr×Obj)) (s:Shared) (σ:St) (H:Hp) (o i v:V) (ov iv u:Value) (Q:Hp→Prop),Inv X pins σ H s→RelV o ov→RelV i iv→RelV v u→t o i v H Q →
  wpAny (model X.prog X.w) X.A (setItem ov iv u) (fun _ s'=>∃H',Inv X pins σ H' s'∧Q H') X.xe s
section
variable{X:Cx}{pos:Pos}
noncomputable def qcP(i:Nat):TG:=fun v σ H Q=>Q (σ.set i (some v)) H
theorem qpO{i:Nat}{x:Str}(hN:X.N.Nodup)(hi:X.N[i]? = some x)(hx:Loc X.env.scope x)(hf:X.fn x=true∨X.env.scope.names.lookup x=some .local:=by first|exact .inl rfl|exact .inr rfl|assumption):PG X (.Name x pos) (qcP i):=by
 intro pins s σ H v u Q I r h;exact wpAny_assign_Name (qdH I hN hi hx r (fun s' I'=>⟨_,H,I',h⟩) hf)
noncomputable def qqM:TGs:=fun vs σ H Q=>vs=[]∧Q σ H
noncomputable def qnM(t:TG)(u:TGs):TGs:=fun vs σ H Q=>∃v r,vs=v::r∧t v σ H fun σ' H'=>u r σ' H' Q
theorem qoV:PGs X [] qqM:=by
 intro pins s σ H vs us Q I r h;obtain⟨e,h⟩:=h;subst e;cases r;exact assignInOrder_nil ⟨σ,H,I,h⟩
theorem qnd{e:Expr}{es:List Expr}{t:TG}{u:TGs}(h1:PG X e t)(h2:PGs X es u)
  (hs:(assignEach (e::es) X.env).map (·.2)=assign e X.env::(assignEach es X.env).map (·.2):=by rfl):PGs X (e::es) (qnM t u):=by
 intro pins s σ H vs us Q I r h;obtain⟨v,vr,e1,h⟩:=h;subst e1;cases r with
 |cons r rr=>
  rw [hs];refine assignInOrder_cons (thn (h1 pins s σ H _ _ _ I r h) fun _ s1 ⟨σ1,H1,I1,q1⟩=>?_);exact h2 pins s1 σ1 H1 _ _ Q I1 rr q1
noncomputable def qqK(K:PySem.W.Frag)(n:Nat)(t:TGs):TG:=fun v σ H Q=>∃a xs,v=.ref a∧SqT K H a xs∧xs.length=n∧t xs σ H Q
theorem qql{es:List Expr}{k:Nat}{t:TGs}{n:Nat}(hc:X.calm=true)(h:PGs X es t)
  (hn:(assignEach es X.env).length=n:=by rfl) (hst:(assignEach es X.env).findIdx? (·.1)=none:=by rfl):PG X (.Tuple es k pos) (qqK X.K n t):=by
 intro pins s σ H v u Q I r hw;obtain⟨a,xs,e1,hq,hl,hw⟩:=hw;subst e1;cases r;obtain⟨its,rv,ht,hz⟩:=I.tuple hq;refine assign_Tuple_tuple (I.ok.hd hc) ht (by simp [hn,←hl,rv.length]) hst fun h' hx=>?_
 have I1:Inv X pins σ H {s with heap:=h'}:=I.kept (t':=s.toks) fun b o e=>hx b o (Nat.ne_of_lt (Heap.lt_size e)) e
 exact h pins _ σ H xs _ Q I1 (by simpa using rv) hw
noncomputable def qrK(to ti:TE)(t:qnx):TG:=fun v σ H Q=>to σ H fun o H1=>ti σ H1 fun i H2=>t o i v H2 fun H3=>Q σ H3
theorem qsa{o i:Expr}{to ti:TE}{t:qnx}(ho:PE X o to)(hi:PE X i ti)(hs:qsm X t)
  (ha:∀v,assign (.Subscript o i pos) X.env v=(do
   let ov ←holding [v] (eval o X.env)
   let iv ←holding [v,ov] (eval i X.env)
   standAt pos
   holding [v,ov,iv] (setItem ov iv v)
   release [v,ov,iv] []):=by intro _;rfl):PG X (.Subscript o i pos) (qrK to ti t):=by
 intro pins s σ H v u Q I r h;rw [ha];refine wpAny_bind (wpAny_holding (thn (ho pins s σ H _ I h) fun ov s1 ⟨x,H1,I1,r1,q1⟩=>?_));refine wpAny_bind (wpAny_holding (thn (hi pins s1 σ H1 _ I1 q1) fun iv s2 ⟨y,H2,I2,r2,q2⟩=>?_));refine wpAny_bind (wpAny_standAt (wpAny_bind (wpAny_holding (thn (hs pins s2 σ H2 x y v ov iv u _ I2 r1 r2 r q2) fun _ s3 ⟨H3,I3,q3⟩=>?_))));exact wpAny_release ⟨σ,H3,I3,q3⟩
noncomputable def qjt(te:TE)(g:TG):TS:=fun D σ H=>te σ H fun x H1=>g x σ H1 D.nx
theorem qln{tg e:Expr}{te:TE}{g:TG}(he:PE X e te)(hg:PG X tg g)(hs:swapsWithSole [tg] e pos.line X.env=pure false:=by rfl)(hw:swappedStores [tg] e X.env=pure none:=by rfl)
  (h1:(assignEach [tg] X.env).map (·.2)=[assign tg X.env]:=by rfl):PS X (.Assign [tg] e pos) (qjt te g):=by
 intro pins s σ H D I h;refine wpAny_Assign_stores (thn (he pins s σ H _ I h) fun v s1 ⟨x,H1,I1,r1,q1⟩=>?_) hs hw;rw [h1];exact thn (hg pins s1 σ H1 x v _ I1 r1 q1) fun _ s2 q=>q
theorem qlY{i:Nat}{x:Str}{e:Expr}{te:TE}{pos':Pos}(hN:X.N.Nodup)(hi:X.N[i]? = some x)(hx:Loc X.env.scope x)(he:PE X e te)(hs:swapsWith e (some (.Name x pos')) pos.line X.env=pure false:=by rfl)(hf:X.fn x=true∨X.env.scope.names.lookup x=some .local:=by first|exact .inl rfl|exact .inr rfl|assumption) :
  PS X (.Assign [.Name x pos'] e pos) (qjt te (qcP i)):=by
 intro pins s σ H D I h;refine wpAny_Assign_Name (thn (he pins s σ H _ I h) fun v s1 ⟨y,H1,I1,r1,q1⟩=>?_) hs;exact qdH I1 hN hi hx r1 (fun s2 I2=>⟨_,H1,I2,q1⟩) hf
noncomputable def qtK(i j:Nat)(ta:TA):TS:=fun D σ H=>ta σ H fun vs H1=>∃v w,vs=[v,w]∧D.nx ((σ.set i (some v)).set j (some w)) H1
theorem qrr{i j:Nat}{x y:Str}{a b:Expr}{ta:TA}{px py pt:Pos}{kt k2 pt2}(hc:X.calm=true)(hN:X.N.Nodup)(hi:X.N[i]? = some x)(hj:X.N[j]? = some y)(hij:i≠j)
  (hx:X.env.scope.names.lookup x=some .local) (hy:X.env.scope.names.lookup y=some .local) (ha:PA X [a,b] ta)
  (hw:swappedStores [.Tuple [.Name x px,.Name y py] kt pt] (.Tuple [a,b] k2 pt2) X.env=pure (some [x,y]))
  (hs:swapsWithSole [.Tuple [.Name x px,.Name y py] kt pt] (.Tuple [a,b] k2 pt2) pos.line X.env=pure false:=by rfl) :
  PS X (.Assign [.Tuple [.Name x px,.Name y py] kt pt] (.Tuple [a,b] k2 pt2) pos) (qtK i j ta):=by
 intro pins s σ H D I h;rw [exec_Assign_arm];refine wpAny_bind (wpAny_standAt ?_);rw [hs];refine wpAny_bind (wpAny_pure ?_);rw [if_neg (by decide)];refine wpAny_bind (Tuple_ (thn (ha _ pins s σ H _ I h) fun us s1 ⟨vs,H1,I1,r1,q1⟩=>?_));obtain⟨v,w,e1,q1⟩:=q1;subst e1;obtain⟨u1,u2,rfl,rv,rw'⟩:∃u1 u2,us=[u1,u2]∧RelV v u1∧RelV w u2:=by
  cases r1 with
  |cons p q=>
   cases q with
   |cons p' q'=>
    cases q';exact⟨_,_,rfl,p,p'⟩
 refine wpAny_newObj_type ?_ (by show 2≤sizeLine;decide);have I2:Inv X pins σ H1 {s1 with heap:=s1.heap.push {cls:=.type "tuple",data:=.seq [u1,u2].toArray}}:=I1.kept (t':=s1.toks) fun b o e=>Heap.get?_push_of_some _ e
 rw [hw];refine wpAny_bind (wpAny_pure ?_);show wpAny (model X.prog X.w) X.A (do rule "assign.swapped-stores";let items ←unpackItems (.ref s1.heap.objs.size) 2 none;assignInOrder [fun v=>bindName X.env y v,fun v=>bindName X.env x v] items.reverse;pure Flow.next) _ _ _;refine wpAny_bind (wpAny_rule (wpAny_bind (unpackItems_tuple (items:=#[u1,u2]) (I.ok.hd hc) (IsTup.new s1.heap _) fun h' hx'=>?_)));have I3:=I2.kept (h':=h') (t':=s1.toks) fun b o e=>hx' b o (Nat.ne_of_lt (Heap.lt_size e)) e
 show wpAny _ _ (assignInOrder [fun v=>bindName X.env y v,fun v=>bindName X.env x v] [u2,u1]>>=fun _=>pure Flow.next) _ _ _;refine wpAny_bind (assignInOrder_cons (wpAny_bindName (qdH I3 hN hj (.inl hy) rw' (fun s2 I4=>?_) (.inr hy))));refine assignInOrder_cons (wpAny_bindName (qdH I4 hN hi (.inl hx) rv (fun s3 I5=>assignInOrder_nil (wpAny_pure ?_)) (.inr hx)));rw [List.set_comm _ _ (Ne.symm hij)]at I5;exact⟨_,H1,I5,q1⟩
end
section
variable{X:Cx}{pos:Pos}
noncomputable def qqp(c:TT)(tb:TS):TS:=fun D σ H=>∃W:Nat→St→Hp→Prop,(∃m,W m σ H)∧∀m σ H,W m σ H →
 c σ H fun b H1=>if b=true then ∃N:St→Hp→Prop,(∀σ' H',N σ' H'→∃m',m'<m∧W m' σ' H')∧tb {D with nx:=N,ct:=N,bk:=D.nx} σ H1 else D.nx σ H1
theorem qmY{c:Expr}{body:List Stmt}{tc:TT}{tb:TS}(hp:PassesOwn (model X.prog X.w) X.A X.env X.xe)(hc:PT X c tc)(hb:PSs X body tb):PS X (.While c body [] pos) (qqp tc tb):=by
 intro pins s σ H D I h;obtain⟨W,⟨m0,w0⟩,turn⟩:=h;refine wpAny_While (codeAny_whileLoop (fun n s'=>∃σ' H',Inv X pins σ' H' s'∧W n σ' H') ?_ m0 ⟨σ,H,I,w0⟩);rintro n s1 ⟨σ1,H1,I1,w1⟩;refine wpAny_passesOwn hp (thn (hc pins s1 σ1 H1 _ I1 (turn n σ1 H1 w1)) fun b s2 ⟨H2,I2,q2⟩=>?_);cases b with
 |true=>
  obtain⟨N,hN,q2⟩:=q2;rw [if_pos rfl];refine wpAny_passesOwn hp (thn (hb pins s2 σ1 H2 _ I2 q2) fun f s3 q3=>?_);cases f with
  |next=>
   obtain⟨σ3,H3,I3,n3⟩:=q3;obtain⟨m',hm,w3⟩:=hN σ3 H3 n3;exact⟨m',hm,σ3,H3,I3,w3⟩
  |cont=>
   obtain⟨σ3,H3,I3,n3⟩:=q3;obtain⟨m',hm,w3⟩:=hN σ3 H3 n3;exact⟨m',hm,σ3,H3,I3,w3⟩
  |brk=>exact q3
  |ret v=>exact q3
 |false=>
  rw [if_neg Bool.false_ne_true];exact wpAny_execs_nil ⟨σ1,H2,I2,q2⟩
end
structure It where
 go:Nat→Hp→Prop
 yld:Nat→Hp→V→Hp→Prop
 stop:Nat→Hp→Prop
noncomputable def qbS(X:Cx)(pins:List (Addr×Obj))(H:Hp)(b:Addr):Prop:=
 H b=none∧b≠X.env.locals∧b∉X.fs∧(b∈X.ex∨X.s₀.heap.objs.size≤b)∧(∀x c,X.env.cells.lookup x=some c→c≠b)∧∀p∈X.pn++pins,p.1≠b
theorem Inv.fpOk{X:Cx}{pins:List (Addr×Obj)}{σ:St}{H H':Hp}{s:Shared}{b:Addr}(I:Inv X pins σ H s)(hb:s.heap.objs.size≤b)(hn:H' b=none):qbS X pins H' b:=by
 refine⟨hn,Nat.ne_of_gt (Nat.lt_of_lt_of_le I.lt hb),I.nofs hb,.inr (Nat.le_trans I.sz hb),fun x c e z=>?_,fun p hp z=>?_⟩
 ·obtain⟨v,q⟩:=I.cell x c e;exact absurd (Nat.lt_of_lt_of_le q.lt (by rw [z];exact hb)) (Nat.lt_irrefl _)
 ·exact absurd (Nat.lt_of_lt_of_le (Heap.lt_size (I.pin p hp).1) (by rw [z];exact hb)) (Nat.lt_irrefl _)
structure Turn(P:Program)(w:World)(K:PySem.W.Frag)(tg:Expr)(J:It)(fp:List Addr)(it:Addr)(tn:Nat→Heap→Prop):Prop where
 mem:it∈fp
 obj:∀i h,tn i h→∀b∈fp,∃o,h.get? b=some o∧∀v,o.data≠.cell v
 keep:∀i h h',tn i h→(∀b∈fp,∀o,h.get? b=some o→h'.get? b=some o)→tn i h'
 item:∀(X:Cx),X.prog=P→X.w=w→X.K=K→X.calm=true→∀(i:Nat) (pins:List (Addr×Obj)) (s:Shared) (σ:St) (H:Hp) (E:Value→Shared→Prop),Inv X pins σ H s→(∀b∈fp,qbS X pins H b)→tn i s.heap→J.go i H →
  wpAny (model P w) X.A (pyNext (.ref it)) (fun r s1=>∃u,r=some u ∧
   wpAny (model P w) X.A (letOwnedTupleGo tg (.ref it) u) (fun _ s2=>∃x H',Inv X pins σ H' s2∧RelV x u∧J.yld i H x H'∧tn (i+1) s2.heap∧∀b∈fp,H' b=none) E s1) E s
 done:∀(X:Cx),X.prog=P→X.w=w→X.K=K→X.calm=true→∀(i:Nat) (pins:List (Addr×Obj)) (s:Shared) (σ:St) (H:Hp) (E:Value→Shared→Prop),Inv X pins σ H s→(∀b∈fp,qbS X pins H b)→tn i s.heap→J.stop i H →
  wpAny (model P w) X.A (pyNext (.ref it)) (fun r s1=>r=none∧Inv X pins σ H s1) E s
 self:∀(A:Around) (i:Nat) (s:Shared) (Q:Value→Shared→Prop) (E:Value→Shared→Prop),tn i s.heap→Q (.ref it) s→wpAny (model P w) A (pyIter (.ref it)) Q E s
abbrev TI:=St→Hp→(It→Hp→Prop)→Prop
noncomputable def PIE(X:Cx)(pins:List (Addr×Obj))(σ:St)(tg:Expr)(R:It→Hp→Prop)(itv:Value)(s2:Shared):Prop:=
 ∃(it:Addr) (fp:List Addr) (tn:Nat→Heap→Prop) (J:It) (H':Hp),itv=.ref it∧Inv X pins σ H' s2∧Turn X.prog X.w X.K tg J fp it tn∧tn 0 s2.heap∧(∀b∈fp,qbS X pins H' b)∧R J H'
noncomputable def PI(X:Cx)(tg iter:Expr)(wi:TI):Prop:=
 ∀(pins:List (Addr×Obj)) (s:Shared) (σ:St) (H:Hp) (R:It→Hp→Prop),Inv X pins σ H s→wi σ H R →
  wpAny (model X.prog X.w) X.A (eval iter X.env) (fun v s1=>wpAny (model X.prog X.w) X.A (pyIter v) (PIE X pins σ tg R) X.xe s1) X.xe s
theorem qjJ{M:Model}{A:Around}{E:Value→Shared→Prop}{s:Shared}{tg:Expr}{it:Addr}{u:Value}{o:Obj}{n:String}{vs:Array Value}{Q:Unit→Shared→Prop}(ho:s.heap.get? it=some o)(hc:o.cls=.type n)(hd:o.data=.fields vs)
  (hn:["enumerate","zip","dict_itemiterator","dict_reverseitemiterator","odict_iterator","itertools.zip_longest","itertools.pairwise"].contains n=false) (hQ:Q () s):wpAny M A (letOwnedTupleGo tg (.ref it) u) Q E s:=by
 unfold letOwnedTupleGo;cases tg<;>first
  |exact wpAny_pure hQ
  | (cases u<;>first
    |exact wpAny_pure hQ
    | (refine wpAny_bind (wpAny_load ho ?_)
       rw [hc,hd];show wpAny M A (if (["enumerate","zip","dict_itemiterator","dict_reverseitemiterator","odict_iterator","itertools.zip_longest","itertools.pairwise"].contains n&&vs[0]? == some (rawInt _))=true then _ else _) Q E s;rw [if_neg (by intro h;rw [hn,Bool.false_and]at h;cases h)];exact wpAny_pure hQ))
noncomputable def Itl(K:PySem.W.Frag)(a:Addr):It:=
 ⟨fun i H=>∃xs x,SqL K H a xs∧xs[i]? = some x,fun i H x H'=>H'=H∧∀xs,SqL K H a xs→xs[i]? = some x,fun i H=>∃xs,SqL K H a xs∧xs.length≤i⟩
noncomputable def Itt(K:PySem.W.Frag)(a:Addr):It:=
 ⟨fun i H=>∃xs x,SqT K H a xs∧xs[i]? = some x,fun i H x H'=>H'=H∧∀xs,SqT K H a xs→xs[i]? = some x,fun i H=>∃xs,SqT K H a xs∧xs.length≤i⟩
noncomputable def Itr(lo:Int)(n:Nat):It:=⟨fun i _=>i<n,fun i H x H'=>H'=H∧x=.int (lo+i),fun i _=>n≤i⟩
theorem qlr{P:Program}{w:World}{K:PySem.W.Frag}{tg:Expr}(a it:Addr):Turn P w K tg (Itl K a) [it] it (fun i h=>h.IsListIter it a i) where
 mem:=by simp
 obj:=fun i h st b hb=>by
  have e:b=it:=by simpa using hb
  subst e;obtain⟨o,e,c,d⟩:=st;exact⟨o,e,fun v z=>by rw [d]at z;cases z⟩
 keep:=fun i h h' st k=>st.at fun o e=>k it (by simp) o e
 item:=by
  intro X hP hw hK hc i pins s σ H E I hf st hg;subst hP hw hK;obtain⟨xs,x,hq,hx⟩:=hg;obtain⟨its,rv,p,hz⟩:=I.list hq;obtain⟨u,hu,ru⟩:=rv.get hx;obtain⟨f0,f1,f2,f3,f4,f5⟩:=hf it (by simp);refine wpAny_pyNext_list_item st p.isList (x:=u) (by simpa using hu) fun h' st' sb=>?_
  have I1:Inv X pins σ H {s with heap:=h'}:=I.turned (t':=s.toks) (fun b o hb e=>(sb.2 b hb).trans e) f0 f1 f3 f4 f5;obtain⟨o,e,c,d⟩:=id st';exact⟨u,rfl,qjJ (s:={s with heap:=h'}) e c d (by decide) ⟨x,H,I1,ru,⟨rfl,fun ys hy=>by rw [I.list_inj hy hq];exact hx⟩,st',fun b hb=>(hf b hb).1⟩⟩
 done:=by
  intro X hP hw hK hc i pins s σ H E I hf st hg;subst hP hw hK;obtain⟨xs,hq,hx⟩:=hg;obtain⟨its,rv,p,hz⟩:=I.list hq;obtain⟨f0,f1,f2,f3,f4,f5⟩:=hf it (by simp);have hl:=rv.length;exact wpAny_pyNext_list_end (I.ok.hd hc) st p.isList (by simp;lia) fun h' eb=>⟨rfl,I.turned (t':=s.toks) (fun b o hb e=>eb b o hb e) f0 f1 f3 f4 f5⟩
 self:=fun _ _ _ _ _ st h=>wpAny_pyIter_listiter st h
theorem qjx{P:Program}{w:World}{K:PySem.W.Frag}{tg:Expr}(a it:Addr):Turn P w K tg (Itt K a) [it] it (fun i h=>h.IsTupleIter it a i) where
 mem:=by simp
 obj:=fun i h st b hb=>by
  have e:b=it:=by simpa using hb
  subst e;obtain⟨o,e,c,d⟩:=st;exact⟨o,e,fun v z=>by rw [d]at z;cases z⟩
 keep:=fun i h h' st k=>st.at fun o e=>k it (by simp) o e
 item:=by
  intro X hP hw hK hc i pins s σ H E I hf st hg;subst hP hw hK;obtain⟨xs,x,hq,hx⟩:=hg;obtain⟨its,rv,p,hz⟩:=I.tuple hq;obtain⟨u,hu,ru⟩:=rv.get hx;obtain⟨f0,f1,f2,f3,f4,f5⟩:=hf it (by simp);refine wpAny_pyNext_tuple_item st (show s.heap.IsTuple a its.toArray from p) (x:=u) (by simpa using hu) fun h' st' sb=>?_
  have I1:Inv X pins σ H {s with heap:=h'}:=I.turned (t':=s.toks) (fun b o hb e=>(sb.2 b hb).trans e) f0 f1 f3 f4 f5;obtain⟨o,e,c,d⟩:=id st';exact⟨u,rfl,qjJ (s:={s with heap:=h'}) e c d (by decide) ⟨x,H,I1,ru,⟨rfl,fun ys hy=>by rw [I.tuple_inj hy hq];exact hx⟩,st',fun b hb=>(hf b hb).1⟩⟩
 done:=by
  intro X hP hw hK hc i pins s σ H E I hf st hg;subst hP hw hK;obtain⟨xs,hq,hx⟩:=hg;obtain⟨its,rv,p,hz⟩:=I.tuple hq;obtain⟨f0,f1,f2,f3,f4,f5⟩:=hf it (by simp);have hl:=rv.length;exact wpAny_pyNext_tuple_end (I.ok.hd hc) st (show s.heap.IsTuple a its.toArray from p) (by simp;lia) fun h' eb=>⟨rfl,I.turned (t':=s.toks) (fun b o hb e=>eb b o hb e) f0 f1 f3 f4 f5⟩
 self:=fun _ _ _ _ _ st h=>wpAny_pyIter_tupleiter st h
theorem qjL{P:Program}{w:World}{K:PySem.W.Frag}{tg:Expr}(it:Addr)(lo:Int)(n:Nat):Turn P w K tg (Itr lo n) [it] it (fun i h=>IsRangeIter h it (lo+(i:Nat) * 1) ((n:Int)-(i:Nat)) 1) where
 mem:=by simp
 obj:=fun i h st b hb=>by
  have e:b=it:=by simpa using hb
  subst e;exact⟨_,st,fun v z=>by
   have z':Data.fields _=Data.cell v:=z;cases z'⟩
 keep:=fun i h h' st k=>k it (by simp) _ st
 item:=by
  intro X hP hw hK hc i pins s σ H E I hf st hg;subst hP hw hK;obtain⟨f0,f1,f2,f3,f4,f5⟩:=hf it (by simp);have W:=Walks.range (prog:=X.prog) (w:=X.w) (I.ok.hd hc) it lo 1 n;refine W.item i s _ _ hg st fun v h' tk hv st' kk=>?_
  obtain⟨t,rfl⟩:=hv;have I1:Inv X pins σ H {s with heap:=h',toks:=tk}:=I.turned (fun b o hb e=>kk b o (by simpa using hb) e) f0 f1 f3 f4 f5;refine⟨_,rfl,qjJ (s:={s with heap:=h',toks:=tk}) (n:="range_iterator") st' rfl rfl (by decide) ⟨.int (lo+i),H,I1,⟨t,?_⟩,⟨rfl,rfl⟩,st',fun b hb=>(hf b hb).1⟩⟩;rw [Int.mul_one]
 done:=by
  intro X hP hw hK hc i pins s σ H E I hf st hg;subst hP hw hK;obtain⟨f0,f1,f2,f3,f4,f5⟩:=hf it (by simp);exact wpAny_pyNext_range_end (I.ok.hd hc) st (by have:n≤i:=hg;lia) fun h' eb=>⟨rfl,I.turned (t':=s.toks) (fun b o hb e=>eb b o hb e) f0 f1 f3 f4 f5⟩
 self:=fun _ _ _ _ _ st h=>wpAny_pyIter_rangeiter st h
section
variable{X:Cx}{tg:Expr}
noncomputable def qsu(K:PySem.W.Frag)(tl:TE):TI:=fun σ H R=>tl σ H fun x H1=>∃a,x=.ref a∧(∃xs,SqL K H1 a xs)∧R (Itl K a) H1
noncomputable def qtY(K:PySem.W.Frag)(tl:TE):TI:=fun σ H R=>tl σ H fun x H1=>∃a,x=.ref a∧(∃xs,SqT K H1 a xs)∧R (Itt K a) H1
theorem qoB{l:Expr}{tl:TE}(hl:PE X l tl):PI X tg l (qsu X.K tl):=by
 intro pins s σ H R I h;refine thn (hl pins s σ H _ I h) fun v s1 ⟨x,H1,I1,r1,q1⟩=>?_
 obtain⟨a,e,⟨xs,hq⟩,q⟩:=q1;subst e;cases r1;obtain⟨its,rv,p,hz⟩:=I1.list hq;refine wpAny_pyIter_list p.isList ?_;refine⟨s1.heap.objs.size,[s1.heap.objs.size],_,_,H1,rfl,I1.kept (t':=s1.toks) fun b o e=>Heap.get?_push_of_some _ e,qlr a _,⟨_,Heap.get?_push_size _ rfl,rfl,rfl⟩,fun b hb=>?_,q⟩;have e:b=s1.heap.objs.size:=by simpa using hb
 subst e;exact I1.fpOk (Nat.le_refl _) (I1.hok.fresh (Nat.le_refl _))
theorem qqf{l:Expr}{tl:TE}(hl:PE X l tl):PI X tg l (qtY X.K tl):=by
 intro pins s σ H R I h;refine thn (hl pins s σ H _ I h) fun v s1 ⟨x,H1,I1,r1,q1⟩=>?_
 obtain⟨a,e,⟨xs,hq⟩,q⟩:=q1;subst e;cases r1;obtain⟨its,rv,p,hz⟩:=I1.tuple hq;refine wpAny_pyIter_tuple (show s1.heap.IsTuple a its.toArray from p) ?_;refine⟨s1.heap.objs.size,[s1.heap.objs.size],_,_,H1,rfl,I1.kept (t':=s1.toks) fun b o e=>Heap.get?_push_of_some _ e,qjx a _,⟨_,Heap.get?_push_size _ rfl,rfl,rfl⟩,fun b hb=>?_,q⟩;have e:b=s1.heap.objs.size:=by simpa using hb
 subst e;exact I1.fpOk (Nat.le_refl _) (I1.hok.fresh (Nat.le_refl _))
theorem qhH{pins:List (Addr×Obj)}{σ:St}{H:Hp}{s:Shared}{R:It→Hp→Prop}{E:Value→Shared→Prop}{lo hi:Int}{t u v:Tok}{tk:Nat}(I:Inv X pins σ H s)(h1:-(2^62)≤lo)(h2:lo<2^62)(h3:-(2^62)≤hi)(h4:hi<2^62)
  (q:R (Itr lo (hi-lo).toNat) H):wpAny (model X.prog X.w) X.A (pyIter (.ref s.heap.objs.size)) (PIE X pins σ tg R) E {s with heap:=s.heap.push {cls:=.type "range",data:=.fields #[.int lo t,.int hi u,.int 1 v]},toks:=tk}:=by
 refine wpAny_pyIter_range (IsRange.new ..) (small_one h1 h2 h3 h4) ?_;have I1:Inv X pins σ H {s with heap:=s.heap.push {cls:=.type "range",data:=.fields #[.int lo t,.int hi u,.int 1 v]},toks:=tk}:=I.kept fun b o e=>Heap.get?_push_of_some _ e
 refine⟨(s.heap.push {cls:=.type "range",data:=.fields #[.int lo t,.int hi u,.int 1 v]}).objs.size,[(s.heap.push {cls:=.type "range",data:=.fields #[.int lo t,.int hi u,.int 1 v]}).objs.size],_,_,H,rfl,
  I1.kept (t':=tk) fun b o e=>Heap.get?_push_of_some _ e,qjL _ lo (hi-lo).toNat,?_,fun b hb=>?_,q⟩
 ·have e1:lo+((0:Nat):Int) * 1=lo:=by simp
  have e2:(((hi-lo).toNat:Nat):Int)-((0:Nat):Int)=Builtin.Range.rangeSize lo hi 1:=by rw [rangeSize_one];split<;>lia
  show IsRangeIter _ _ (lo+((0:Nat):Int) * 1) ((((hi-lo).toNat:Nat):Int)-((0:Nat):Int)) 1;rw [e1,e2];exact Heap.get?_push_size _ rfl
 ·have e:b=(s.heap.push {cls:=.type "range",data:=.fields #[.int lo t,.int hi u,.int 1 v]}).objs.size:=by simpa using hb
  subst e;exact I1.fpOk (Nat.le_refl _) (I1.hok.fresh (Nat.le_refl _))
noncomputable def qtw(ta:TA):TI:=fun σ H R=>ta σ H fun vs H1=>∃j:Int,vs=[.int j]∧-(2^62)≤j∧j<2^62∧R (Itr 0 j.toNat) H1
noncomputable def qsz(ta:TA):TI:=fun σ H R=>ta σ H fun vs H1=>∃i j:Int,vs=[.int i,.int j]∧(-(2^62)≤i∧i<2^62∧-(2^62)≤j∧j<2^62)∧R (Itr i (j-i).toNat) H1
theorem qlI{a:Expr}{ta:TA}{p pos:Pos}(hg:Gl X "range")(hm:X.mg "range" = none)(ha:PA X [a] ta)(hs:starEach [a] X.env=[(false,eval a X.env)]:=by rfl):PI X tg (.Call (.Name "range" p) [a] [] pos) (qtw ta):=by
 intro pins s σ H R I h;refine Call_ (qcg I hg hm boot_range (PyProof.Rows.callWith_type1 (thn (ha pos pins s σ H _ I h) fun us s1 ⟨vs,H1,I1,r1,q1⟩=>?_) hs rfl));obtain⟨j,e,q1,q2,q⟩:=q1;subst e;cases r1 with
 |cons r rr=>
  cases rr;obtain⟨t,rfl⟩:=r;exact call_range_1 (qhH I1 (by lia) (by lia) q1 q2 (by simpa using q))
theorem qkR{a b:Expr}{ta:TA}{p pos:Pos}(hg:Gl X "range")(hm:X.mg "range" = none)(ha:PA X [a,b] ta)(hs:starEach [a,b] X.env=[(false,eval a X.env),(false,eval b X.env)]:=by rfl)(hs2:starEach [b] X.env=[(false,eval b X.env)]:=by rfl) :
  PI X tg (.Call (.Name "range" p) [a,b] [] pos) (qsz ta):=by
 intro pins s σ H R I h;refine Call_ (qcg I hg hm boot_range (PyProof.Rows.callWith_type1 (thn (ha pos pins s σ H _ I h) fun us s1 ⟨vs,H1,I1,r1,q1⟩=>?_) (by rw [hs,hs2]) (by rw [hs2];rfl)));obtain⟨i,j,e,⟨q1,q2,q3,q4⟩,q⟩:=q1;subst e;cases r1 with
 |cons r rr=>
  cases rr with
  |cons r' rr=>
   cases rr;obtain⟨t,rfl⟩:=r;obtain⟨t',rfl⟩:=r';exact call_range_2 (qhH I1 q1 q2 q3 q4 q)
noncomputable def quj(wi:TI)(g:TG)(tb:TS):TS:=fun D σ H=>wi σ H fun J H1=>∃W:Nat→Nat→St→Hp→Prop,(∃m,W 0 m σ H1)∧∀i m σ H,W i m σ H →
 (J.stop i H∧D.nx σ H)∨(J.go i H∧∃N:St→Hp→Prop,(∀σ' H',N σ' H'→∃m',m'<m∧W (i+1) m' σ' H')∧∀x H',J.yld i H x H'→g x σ H' fun σ2 H2=>tb {D with nx:=N,ct:=N,bk:=D.nx} σ2 H2)
noncomputable def qeb(fp:List Addr)(h:Heap):List (Addr×Obj):=fp.filterMap fun b=>(h.get? b).map fun o=>(b,o)
theorem qcu{fp:List Addr}{h:Heap}{b:Addr}{o:Obj}(hb:b∈fp)(e:h.get? b=some o):(b,o)∈qeb fp h:=List.mem_filterMap.mpr ⟨b,hb,by rw [e];rfl⟩
theorem qlL{fp:List Addr}{h:Heap}{p:Addr×Obj}(hp:p∈qeb fp h):p.1∈fp∧h.get? p.1=some p.2:=by
 obtain⟨b,hb,e⟩:=List.mem_filterMap.mp hp;cases q:h.get? b with
 |none=>rw [q]at e;cases e
 |some o=>
  rw [q]at e;have e':(b,o)=p:=Option.some.inj e;subst e';exact⟨hb,q⟩
theorem Inv.pinned{pins:List (Addr×Obj)}{σ:St}{H:Hp}{s:Shared}{fp:List Addr}(I:Inv X pins σ H s)(hf:∀b∈fp,qbS X pins H b)(ho:∀b∈fp,∃o,s.heap.get? b=some o∧∀v,o.data≠.cell v):Inv X (pins++qeb fp s.heap) σ H s:=
 I.pins_of fun p hp=>(List.mem_append.mp hp).elim (fun z=>I.pin p (List.mem_append_right _ z)) fun z=>by
  obtain⟨hb,e⟩:=qlL z;obtain⟨f0,f1,f2,_⟩:=hf p.1 hb;obtain⟨o,e',d⟩:=ho p.1 hb;rw [e]at e';cases e';exact⟨e,f0,f1,f2,d⟩
theorem Inv.unpinned{pins pl:List (Addr×Obj)}{σ:St}{H:Hp}{s:Shared}(I:Inv X (pins++pl) σ H s):Inv X pins σ H s:=I.pins_of fun p hp=>I.pin p (List.mem_append_right _ (List.mem_append_left _ hp))
theorem qqO{iter:Expr}{body:List Stmt}{wi:TI}{g:TG}{tb:TS}{pos:Pos}(hp:PassesOwn (model X.prog X.w) X.A X.env X.xe)(hc:X.calm=true)(hi:PI X tg iter wi)(hg:PG X tg g)(hb:PSs X body tb)
  (hs:∀x,foldedSetIterable iter X.env x=pure x:=by intro _;rfl):PS X (.For tg iter body [] pos) (quj wi g tb):=by
 intro pins s σ H D I h;refine wpAny_For (thn (hi pins s σ H _ I h) fun v s1 h1=>thn h1 fun itv s2 h2=>?_) hs;obtain⟨it,fp,tn,J,H2,e,I2,T,st2,f2,W,⟨m0,w0⟩,turn⟩:=h2;subst e
 -- what stays true of the iterator's objects through the loop
 have stat:∀{H':Hp},(∀b∈fp,H' b=none)→∀b∈fp,qbS X pins H' b:=fun hn b hb=>⟨hn b hb,(f2 b hb).2⟩
 refine codeAny_forLoop_any (fun n s'=>∃i σ' H',Inv X pins σ' H' s'∧tn i s'.heap∧(∀b∈fp,H' b=none)∧W i n σ' H') ?_ m0 ⟨0,σ,H2,I2,st2,fun b hb=>(f2 b hb).1,w0⟩;rintro n s3 ⟨i,σ3,H3,I3,st3,fr3,w3⟩;rcases turn i n σ3 H3 w3 with ⟨stop,qn⟩|⟨go,N,hN,step⟩
 ·refine wpAny_passesOwn hp (thn (T.done X rfl rfl rfl hc i pins s3 σ3 H3 X.xe I3 (stat fr3) st3 stop) fun r s4 ⟨hr,I4⟩=>?_);subst hr;exact wpAny_execs_nil ⟨σ3,H3,I4,qn⟩
 ·refine wpAny_passesOwn hp (thn (T.item X rfl rfl rfl hc i pins s3 σ3 H3 X.xe I3 (stat fr3) st3 go) fun r s4 ⟨u,hr,h4⟩=>?_);subst hr;refine wpAny_passesOwn hp (thn h4 fun _ s5 ⟨x,H5,I5,r5,y5,st5,fr5⟩=>?_);have I5':=I5.pinned (stat fr5) (T.obj _ _ st5);refine wpAny_passesOwn hp (thn (hg _ s5 σ3 H5 x u _ I5' r5 (step x H5 y5)) fun _ s6 ⟨σ6,H6,I6,q6⟩=>?_);refine wpAny_passesOwn hp (thn (hb _ s6 σ6 H6 _ I6 q6) fun f s7 q7=>?_);have again:∀{σ7:St}{H7:Hp},Inv X (pins++qeb fp s5.heap) σ7 H7 s7→N σ7 H7→∃m,m<n∧∃i σ' H',Inv X pins σ' H' s7∧tn i s7.heap∧(∀b∈fp,H' b=none)∧W i m σ' H':=fun {σ7 H7} I7 n7=>by
   obtain⟨m',hm,w7⟩:=hN σ7 H7 n7;refine⟨m',hm,i+1,σ7,H7,I7.unpinned,T.keep _ _ _ st5 fun b hb o e=>(I7.pin (b,o) (List.mem_append_right _ (List.mem_append_right _ (qcu hb e)))).1,fun b hb=>?_,w7⟩;obtain⟨o,e,d⟩:=T.obj _ _ st5 b hb;exact(I7.pin (b,o) (List.mem_append_right _ (List.mem_append_right _ (qcu hb e)))).2.1
  cases f with
  |next=>obtain⟨σ7,H7,I7,n7⟩:=q7;exact again I7 n7
  |cont=>obtain⟨σ7,H7,I7,n7⟩:=q7;exact again I7 n7
  |brk=>obtain⟨σ7,H7,I7,q7⟩:=q7;exact⟨σ7,H7,I7.unpinned,q7⟩
  |ret v=>obtain⟨x7,σ7,H7,I7,r7,q7⟩:=q7;exact⟨x7,σ7,H7,I7.unpinned,r7,q7⟩
end
abbrev R2:=V→V→Hp→VK→Prop
noncomputable def OpR(X:Cx)(f:Value→Value→Sem Value)(r:R2):Prop:=
 ∀(pins:List (Addr×Obj)) (s:Shared) (σ:St) (H:Hp) (x y:V) (v u:Value) (Q:VK),Inv X pins σ H s→RelV x v→RelV y u→r x y H Q →
  wpAny (model X.prog X.w) X.A (f v u) (EP X pins σ Q) X.xe s
noncomputable def UnR(X:Cx)(f:Value→Sem Value)(r:V→Hp→VK→Prop):Prop:=
 ∀(pins:List (Addr×Obj)) (s:Shared) (σ:St) (H:Hp) (x:V) (v:Value) (Q:VK),Inv X pins σ H s→RelV x v→r x H Q →
  wpAny (model X.prog X.w) X.A (f v) (EP X pins σ Q) X.xe s
noncomputable def qx(X:Cx)(f:Value)(r:List V→Hp→VK→Prop):Prop:=
 ∀(pins:List (Addr×Obj)) (s:Shared) (σ:St) (H:Hp) (xs:List V) (us:List Value) (Q:VK),Inv X pins σ H s→Vals xs us→r xs H Q →
  wpAny (model X.prog X.w) X.A (call f us) (EP X pins σ Q) X.xe s
noncomputable def qtT(X:Cx)(r:V→Hp→(Bool→Hp→Prop)→Prop):Prop:=
 ∀(pins:List (Addr×Obj)) (s:Shared) (σ:St) (H:Hp) (x:V) (v:Value) (Q:Bool→Hp→Prop),Inv X pins σ H s→RelV x v→r x H Q →
  wpAny (model X.prog X.w) X.A (truthy v) (TP X pins σ Q) X.xe s
noncomputable def tOp(r:R2)(ta tb:TE):TE:=fun σ H Q=>ta σ H fun x H1=>tb σ H1 fun y H2=>r x y H2 Q
noncomputable def tUn(r:V→Hp→VK→Prop)(ta:TE):TE:=fun σ H Q=>ta σ H fun x H1=>r x H1 Q
noncomputable def rI(C:Int→Int→Prop)(g:Int→Int→V):R2:=fun x y H Q=>∃i j,x=.int i∧y=.int j∧C i j∧Q (g i j) H
noncomputable def rI0(g:Int→Int→V):R2:=fun x y H Q=>∃i j,x=.int i∧y=.int j∧Q (g i j) H
noncomputable def rU(g:Int→V):V→Hp→VK→Prop:=fun x H Q=>∃i,x=.int i∧Q (g i) H
section
variable{X:Cx}{a b c:Expr}{ta tb tc:TE}{pos:Pos}
theorem qmd(ha:PE X a ta)(hb:PE X b tb){pins:List (Addr×Obj)}{s:Shared}{σ:St}{H:Hp}{R:V→V→Hp→Prop}(I:Inv X pins σ H s)
  (h:ta σ H fun x H1=>tb σ H1 fun y H2=>R x y H2) {Q:Value→Shared→Prop}{f:Value→Value→Sem Value}
  (hf:∀v u s2 x y H2,Inv X pins σ H2 s2→RelV x v→RelV y u→R x y H2→wpAny (model X.prog X.w) X.A (f v u) Q X.xe s2) :
  wpAny (model X.prog X.w) X.A (eval a X.env) (fun v s₁=>wpAny (model X.prog X.w) X.A (eval b X.env) (fun u s₂=>wpAny (model X.prog X.w) X.A (f v u) Q X.xe s₂) X.xe s₁) X.xe s:=by
 refine thn (ha pins s σ H _ I h) fun v s1 ⟨x,H1,I1,r1,q1⟩=>?_
 refine thn (hb pins s1 σ H1 _ I1 q1) fun u s2 ⟨y,H2,I2,r2,q2⟩=>?_
 exact hf v u s2 x y H2 I2 r1 r2 q2
theorem qsZ{op:Operator}{r:R2}(ho:OpR X (binaryOp op) r)(ha:PE X a ta)(hb:PE X b tb):PE X (.BinOp a op b pos) (tOp r ta tb):=by
 intro pins s σ H Q I h;exact wpAny_BinOp (qmd ha hb I h fun v u s2 x y H2 I2 rx ry q=>ho pins s2 σ H2 x y v u Q I2 rx ry q)
theorem qti{op:UnaryOp}{r:V→Hp→VK→Prop}(ho:UnR X (unaryOp op) r)(ha:PE X a ta):PE X (.UnaryOp op a pos) (tUn r ta):=by
 intro pins s σ H Q I h;exact UnaryOp_ (thn (ha pins s σ H _ I h) fun v s1 ⟨x,H1,I1,r1,q1⟩=>ho pins s1 σ H1 x v Q I1 r1 q1)
theorem opI{f:Value→Value→Sem Value}{C:Int→Int→Prop}{g:Int→Int→Int}
  (rule:∀(i j:Int) (t u:Tok) (s:Shared) (Q:Value→Shared→Prop) (E:Value→Shared→Prop),C i j→Q (.int (g i j) s.toks) {s with toks:=s.toks+1}→wpAny (model X.prog X.w) X.A (f (.int i t) (.int j u)) Q E s) :
  OpR X f (rI C fun i j=>.int (g i j)):=by
 intro pins s σ H x y v u Q I rx ry h;obtain⟨i,j,rfl,rfl,hc,q⟩:=h;obtain⟨t,rfl⟩:=rx;obtain⟨t',rfl⟩:=ry;exact rule i j t t' s _ _ hc ⟨.int (g i j),H,I.tok _,⟨_,rfl⟩,q⟩
theorem qkt{f:Value→Value→Sem Value}{g:Int→Int→Int}
  (rule:∀(i j:Int) (t u:Tok) (s:Shared) (Q:Value→Shared→Prop) (E:Value→Shared→Prop),Q (.int (g i j) s.toks) {s with toks:=s.toks+1}→wpAny (model X.prog X.w) X.A (f (.int i t) (.int j u)) Q E s) :
  OpR X f (rI0 fun i j=>.int (g i j)):=by
 intro pins s σ H x y v u Q I rx ry h;obtain⟨i,j,rfl,rfl,q⟩:=h;obtain⟨t,rfl⟩:=rx;obtain⟨t',rfl⟩:=ry;exact rule i j t t' s _ _ ⟨.int (g i j),H,I.tok _,⟨_,rfl⟩,q⟩
theorem qjM{f:Value→Value→Sem Value}{g:Int→Int→Bool}
  (rule:∀(i j:Int) (t u:Tok) (s:Shared) (Q:Value→Shared→Prop) (E:Value→Shared→Prop),Q (.bool (g i j)) s→wpAny (model X.prog X.w) X.A (f (.int i t) (.int j u)) Q E s) :
  OpR X f (rI0 fun i j=>.bl (g i j)):=by
 intro pins s σ H x y v u Q I rx ry h;obtain⟨i,j,rfl,rfl,q⟩:=h;obtain⟨t,rfl⟩:=rx;obtain⟨t',rfl⟩:=ry;exact rule i j t t' s _ _ ⟨.bl (g i j),H,I,rfl,q⟩
noncomputable def qtU(i j:Int):Prop:=0≤j∧j≤1000000∧i.natAbs<2^64
noncomputable def qrb(i j:Int):Prop:=(-(2^64)<i∧i<2^64)∨(-(2^64)<j∧j<2^64)
theorem qrb.ok{i j:Int}(h:qrb i j):IntMulOk i j:=by
 rcases h with ⟨h1,h2⟩|⟨h1,h2⟩
 ·exact .of_left (intBits_le_64 h1 h2)
 ·exact .of_right (intBits_le_64 h1 h2)
theorem qky(k:Nat):(0:Int)≤2^k:=by
 rw [two_pow_cast];exact Int.natCast_nonneg _
theorem quu:OpR X (binaryOp .Add) (rI0 fun i j=>.int (i+j)):=qkt fun _ _ _ _ _ _ _ q=>add_int q
theorem qqw:OpR X (binaryOp .Sub) (rI0 fun i j=>.int (i-j)):=qkt fun _ _ _ _ _ _ _ q=>sub_int q
theorem qus:OpR X (binaryOp .Mult) (rI qrb fun i j=>.int (i * j)):=opI fun _ _ _ _ _ _ _ hc q=>mul_int q hc.ok
theorem qrh:OpR X (binaryOp .Mod) (rI (fun _ j=>0<j) fun i j=>.int (i%j)):=opI fun i j _ _ _ _ _ hc q=>by
 have h1:(0:Int)<j:=hc;exact mod_int' (by lia) (by rw [Int.fmod_eq_emod_of_nonneg i (by lia)];exact q)
theorem qqB:OpR X (binaryOp .LShift) (rI qtU fun i j=>.int (i * 2^j.toNat)):=opI fun _ _ _ _ _ _ _ hc q=>lshift_int_small hc.1 hc.2.1 hc.2.2 q
theorem qqL:OpR X (binaryOp .RShift) (rI (fun _ j=>0≤j) fun i j=>.int (i/2^j.toNat)):=opI fun i j _ _ _ _ _ hc q=>
 rshift_int hc (by rw [Int.fdiv_eq_ediv_of_nonneg i (qky _)];exact q)
theorem qsh:OpR X (binaryOp .BitAnd) (rI0 fun i j=>.int (Builtin.bitAnd i j)):=qkt fun _ _ _ _ _ _ _ q=>and_int q
theorem qsF:OpR X (binaryOp .BitOr) (rI0 fun i j=>.int (Builtin.bitOr i j)):=qkt fun _ _ _ _ _ _ _ q=>or_int q
theorem unI{f:Value→Sem Value}{g:Int→Int}
  (rule:∀(i:Int) (t:Tok) (s:Shared) (Q:Value→Shared→Prop) (E:Value→Shared→Prop),Q (.int (g i) s.toks) {s with toks:=s.toks+1}→wpAny (model X.prog X.w) X.A (f (.int i t)) Q E s) :
  UnR X f (rU fun i=>.int (g i)):=by
 intro pins s σ H x v Q I rx h;obtain⟨i,rfl,q⟩:=h;obtain⟨t,rfl⟩:=rx;exact rule i t s _ _ ⟨.int (g i),H,I.tok _,⟨_,rfl⟩,q⟩
theorem qrt:UnR X (unaryOp .USub) (rU fun i=>.int (-i)):=unI fun _ _ _ _ _ q=>neg_int q
end
section
variable{X:Cx}{a b c:Expr}{ta tb tc:TE}{pos:Pos}
theorem qfo{pins:List (Addr×Obj)}{σ:St}{H:Hp}{s:Shared}{Q:VK}{k k':Bool}(I:Inv X pins σ H s)(q:Q (.bl k) H)(e:k=k'):EP X pins σ Q (.bool k') s:=by
 subst e;exact⟨.bl k,H,I,rfl,q⟩
theorem quw:OpR X (compareOp .Lt) (rI0 fun i j=>.bl (decide (i<j))):=qjM fun _ _ _ _ _ _ _ q=>lt_int q
theorem qsK:OpR X (compareOp .LtE) (rI0 fun i j=>.bl (decide (i≤j))):=qjM fun _ _ _ _ _ _ _ q=>le_int q
theorem qte:OpR X (compareOp .Gt) (rI0 fun i j=>.bl (decide (j<i))):=qjM fun _ _ _ _ _ _ _ q=>gt_int q
theorem qtx:OpR X (compareOp .GtE) (rI0 fun i j=>.bl (decide (j≤i))):=qjM fun _ _ _ _ _ _ _ q=>ge_int q
theorem qut:OpR X (compareOp .Is) (fun x y H Q=>y=.non∧Q (.bl (decide (x=.non))) H):=by
 intro pins s σ H x y v u Q I rx ry h;obtain⟨rfl,q⟩:=h;cases ry;refine is_none_gen (qfo I q ?_);cases x<;>first
  | (cases rx;rfl)
  | (obtain⟨t,rfl⟩:=rx;rfl)
theorem qur:OpR X (compareOp .IsNot) (fun x y H Q=>y=.non∧Q (.bl (!decide (x=.non))) H):=by
 intro pins s σ H x y v u Q I rx ry h;obtain⟨rfl,q⟩:=h;cases ry;refine isnot_none_gen (qfo I q ?_);cases x<;>first
  | (cases rx;rfl)
  | (obtain⟨t,rfl⟩:=rx;rfl)
theorem OpR.or{f:Value→Value→Sem Value}{r r':R2}(h:OpR X f r)(h':OpR X f r'):OpR X f (fun x y H Q=>r x y H Q∨r' x y H Q):=by
 intro pins s σ H x y v u Q I rx ry q;rcases q with q|q
 ·exact h pins s σ H x y v u Q I rx ry q
 ·exact h' pins s σ H x y v u Q I rx ry q
theorem qom{op:CmpOp}{r:R2}(ho:OpR X (compareOp op) r)(ha:PE X a ta)(hb:PE X b tb)(hm:behindInMarks op b=false):PE X (.Compare a [op] [b] pos) (tOp r ta tb):=by
 intro pins s σ H Q I h;exact wpAny_Compare1 (qmd ha hb I h fun v u s2 x y H2 I2 rx ry q=>ho pins s2 σ H2 x y v u Q I2 rx ry q) hm
noncomputable def qnR(t:TE):TT:=fun σ H Q=>t σ H fun x H'=>∃k,x=.bl k∧Q k H'
theorem qpb{op:CmpOp}{r:R2}(ho:OpR X (compareOp op) r)(ha:PE X a ta)(hb:PE X b tb)(hm:behindInMarks op b=false):PT X (.Compare a [op] [b] pos) (qnR (tOp r ta tb)):=by
 intro pins s σ H Q I h;refine wpAny_isTrue_Compare1 (thn (ha pins s σ H _ I h) fun v s1 ⟨x,H1,I1,r1,q1⟩=>thn (hb pins s1 σ H1 _ I1 q1) fun u s2 ⟨y,H2,I2,r2,q2⟩=>
  thn (ho pins s2 σ H2 x y v u _ I2 r1 r2 q2) fun c s3 ⟨z,H3,I3,r3,k,e,q3⟩=>?_) hm
 subst e;cases r3;exact wpAny_truthy_bool ⟨H3,I3,q3⟩
noncomputable def qlW(r r':R2)(ta tb tc:TE):TE:=fun σ H Q=>ta σ H fun x H1=>tb σ H1 fun y H2=>r x y H2 fun z H3=>∃k,z=.bl k ∧
 (if k=true then tc σ H3 fun w' H4=>r' y w' H4 Q else Q (.bl false) H3)
theorem qng{op op':CmpOp}{r r':R2}(ho:OpR X (compareOp op) r)(ho':OpR X (compareOp op') r')(ha:PE X a ta)(hb:PE X b tb)(hc:PE X c tc)
  (hm:lastMarks [op,op'] [b,c]=false:=by with_unfolding_all rfl):PE X (.Compare a [op,op'] [b,c] pos) (qlW r r' ta tb tc):=by
 intro pins s σ H Q I h;refine Compare_chain (thn (ha pins s σ H _ I h) fun v s1 ⟨x,H1,I1,r1,q1⟩=>chain_link (thn (hb pins s1 σ H1 _ I1 q1) fun u s2 ⟨y,H2,I2,r2,q2⟩=>
  thn (ho pins s2 σ H2 x y v u _ I2 r1 r2 q2) fun d s3 ⟨z,H3,I3,r3,k,e,q3⟩=>?_)) hm
 subst e;cases r3;refine wpAny_truthy_bool ?_;cases k with
 |false=>exact ite_ff ⟨.bl false,H3,I3,rfl,q3⟩
 |true=>exact ite_tt (chain_last (thn (hc pins s3 σ H3 _ I3 q3) fun w' s4 ⟨z',H4,I4,r4,q4⟩=>ho' pins s4 σ H4 y z' u w' Q I4 r2 r4 q4))
theorem qnh{op op':CmpOp}{r r':R2}(ho:OpR X (compareOp op) r)(ho':OpR X (compareOp op') r')(ha:PE X a ta)(hb:PE X b tb)(hc:PE X c tc)
  (hm:lastMarks [op,op'] [b,c]=false:=by with_unfolding_all rfl):PT X (.Compare a [op,op'] [b,c] pos) (qnR (qlW r r' ta tb tc)):=by
 intro pins s σ H Q I h;refine isTrue_chain (thn (ha pins s σ H _ I h) fun v s1 ⟨x,H1,I1,r1,q1⟩=>test_link (thn (hb pins s1 σ H1 _ I1 q1) fun u s2 ⟨y,H2,I2,r2,q2⟩=>
  thn (ho pins s2 σ H2 x y v u _ I2 r1 r2 q2) fun d s3 ⟨z,H3,I3,r3,k,e,q3⟩=>?_)) hm
 subst e;cases r3;refine wpAny_truthy_bool ?_;cases k with
 |false=>
  obtain⟨k',e',q'⟩:=q3;cases e';exact ite_ff ⟨H3,I3,q'⟩
 |true=>
  refine ite_tt (test_last (thn (hc pins s3 σ H3 _ I3 q3) fun w' s4 ⟨z',H4,I4,r4,q4⟩=>thn (ho' pins s4 σ H4 y z' u w' _ I4 r2 r4 q4) fun d' s5 ⟨z2,H5,I5,r5,k2,e2,q5⟩=>?_));subst e2;cases r5;exact wpAny_truthy_bool ⟨H5,I5,q5⟩
noncomputable def qnA(K:PySem.W.Frag)(x:V)(H:Hp)(k:Bool):Prop:=
 match x with
 | .non=>k=false
 | .bl b=>k=b
 | .int i=>k=(i != 0)
 | .str y=>y.length≤sizeLine∧k=((y.length:Int) != 0)
 | .byt y=>y.size≤sizeLine∧k=((y.size:Int) != 0)
 | .ref p=>(∃xs,SqL K H p xs∧k = !xs.isEmpty)∨(∃xs,SqT K H p xs∧k = !xs.isEmpty)∨∃kvs,H p=some (.dK kvs)∧k = !kvs.isEmpty
 |_=>False
theorem qjC{κ:Type}{kvs:List (κ×V)}{vs:List (κ×Value)}(r:KV kvs vs):(!vs.isEmpty) = !kvs.isEmpty:=by
 cases r<;>rfl
theorem qfp{xs:List V}{its:List Value}(r:Vals xs its):(!its.toArray.isEmpty) = !xs.isEmpty:=by
 cases r<;>simp
theorem qdb:(sizeLine:Nat)<2^63:=by rw [sizeLine_eq];decide
theorem qqX:qtT X (fun x H Q=>∃k,qnA X.K x H k∧Q k H):=by
 intro pins s σ H x v Q I rx h;obtain⟨k,e,q⟩:=h;have hl:=qdb;have hs:sizeLine=16777216:=sizeLine_eq;cases x with
 |non=>
  cases rx;have e':k=false:=e;subst e';exact truthy_none ⟨H,I,q⟩
 |bl b=>
  cases rx;have e':k=b:=e;subst e';exact wpAny_truthy_bool ⟨H,I,q⟩
 |int i=>
  obtain⟨t,rfl⟩:=rx;have e':k=(i != 0):=e;subst e';exact PySem.P.truthy_int ⟨H,I,q⟩
 |str y=>
  obtain⟨t,rfl⟩:=rx;obtain⟨hy,e'⟩:y.length≤sizeLine∧k=((y.length:Int) != 0):=e;subst e';exact PySem.P.truthy_str (by lia) ⟨H,I.tok _,q⟩
 |byt y=>
  obtain⟨t,rfl⟩:=rx;obtain⟨hy,e'⟩:y.size≤sizeLine∧k=((y.size:Int) != 0):=e;subst e';exact PySem.W.truthy_bytes (by lia) ⟨H,I.tok _,q⟩
 |ref p=>
  cases rx;have e':(∃xs,SqL X.K H p xs∧k = !xs.isEmpty)∨(∃xs,SqT X.K H p xs∧k = !xs.isEmpty)∨∃kvs,H p=some (.dK kvs)∧k = !kvs.isEmpty:=e;rcases e' with ⟨xs,hx,e'⟩|⟨xs,hx,e'⟩|⟨kvs,hx,e'⟩
  ·subst e';obtain⟨its,r,pl,hz⟩:=I.list hx;have hlen:=r.length;exact wpAny_truthy_list pl.isList (by simp only [List.size_toArray];lia) ⟨H,I.tok _,by rw [qfp r];exact q⟩
  ·subst e';obtain⟨its,r,pl,hz⟩:=I.tuple hx;have hlen:=r.length;exact truthy_tuple pl (by simp only [List.size_toArray];lia) ⟨H,I.tok _,by rw [qfp r];exact q⟩
  ·subst e';obtain⟨hz,hS,vs,r,m⟩:kvs.length≤sizeLine∧(p==sysModules)=false∧∃vs,KV kvs vs∧s.heap.DictOf (qfV X.prog X.w) p vs:=I.hok p _ hx;have hlen:kvs.length=vs.length:=Paired.length r;exact wpAny_truthy_dict hS m (by lia) ⟨H,I.tok _,by rw [qjC r];exact q⟩
 |_=>exact(show False from e).elim
theorem qmh(ha:PE X a ta)(he:∀whole,isTrue a X.env whole=(do let v ←whole;standAt a.pos;holding [v] (truthy v))) :
  PT X a (fun σ H Q=>ta σ H fun x H'=>∃k,qnA X.K x H' k∧Q k H'):=by
 intro pins s σ H Q I h;exact isTrue_plain (thn (ha pins s σ H _ I h) fun v s1 ⟨x,H1,I1,r1,q1⟩=>qqX pins s1 σ H1 x v Q I1 r1 q1) (he _)
theorem vals1{x:V}{us:List Value}(r:Vals [x] us):∃u,us=[u]∧RelV x u:=by
 cases r with
 |cons r1 r2=>cases r2;exact⟨_,rfl,r1⟩
theorem vals2{x y:V}{us:List Value}(r:Vals [x,y] us):∃u w',us=[u,w']∧RelV x u∧RelV y w':=by
 cases r with
 |cons r1 r2=>
  cases r2 with
  |cons r3 r4=>cases r4;exact⟨_,_,rfl,r1,r3⟩
theorem qnm:qx X (.builtin "abs") (fun xs H Q=>∃i,xs=[.int i]∧Q (.int (if i<0 then -i else i)) H):=by
 intro pins s σ H xs us Q I r h;obtain⟨i,rfl,q⟩:=h;obtain⟨u,rfl,t,rfl⟩:=vals1 r;exact call_abs_int fun u tk=>⟨.int (if i<0 then -i else i),H,I.tok _,⟨_,rfl⟩,q⟩
theorem qlm(hc:X.calm=true):qx X (.builtin "max") (fun xs H Q=>∃i j,xs=[.int i,.int j]∧Q (.int (if j>i then j else i)) H):=by
 intro pins s σ H xs us Q I r h;obtain⟨i,j,rfl,q⟩:=h;obtain⟨u,w',rfl,⟨t,rfl⟩,⟨t',rfl⟩⟩:=vals2 r;refine max_two_ints (I.ok.hd hc) fun h' tk k=>⟨_,H,I.kept k,?_,q⟩
 by_cases hj:j>i
 ·rw [if_pos hj,if_pos hj];exact⟨_,rfl⟩
 ·rw [if_neg hj,if_neg hj];exact⟨_,rfl⟩
theorem qkJ(hc:X.calm=true):qx X (.builtin "min") (fun xs H Q=>∃i j,xs=[.int i,.int j]∧Q (.int (if j<i then j else i)) H):=by
 intro pins s σ H xs us Q I r h;obtain⟨i,j,rfl,q⟩:=h;obtain⟨u,w',rfl,⟨t,rfl⟩,⟨t',rfl⟩⟩:=vals2 r;refine min_two_ints (I.ok.hd hc) fun h' tk k=>⟨_,H,I.kept k,?_,q⟩
 by_cases hj:j<i
 ·rw [if_pos hj,if_pos hj];exact⟨_,rfl⟩
 ·rw [if_neg hj,if_neg hj];exact⟨_,rfl⟩
theorem qkE:qx X (.type "int") (fun xs H Q=>(∃i,xs=[.int i]∧Q (.int i) H)∨∃k,xs=[.bl k]∧Q (.int (if k then 1 else 0)) H):=by
 intro pins s σ H xs us Q I r h;rcases h with ⟨i,rfl,q⟩|⟨k,rfl,q⟩
 ·obtain⟨u,rfl,t,rfl⟩:=vals1 r;exact call_int_int ⟨.int i,H,I,⟨_,rfl⟩,q⟩
 ·obtain⟨u,rfl,r1⟩:=vals1 r;cases r1;exact call_int_bool ⟨.int (if k then 1 else 0),H,I.tok _,⟨_,rfl⟩,q⟩
theorem qkv:qx X (.type "bool") (fun xs H Q=>(∃i,xs=[.int i]∧Q (.bl (i != 0)) H)∨∃k,xs=[.bl k]∧Q (.bl k) H):=by
 intro pins s σ H xs us Q I r h;rcases h with ⟨i,rfl,q⟩|⟨k,rfl,q⟩
 ·obtain⟨u,rfl,t,rfl⟩:=vals1 r;exact call_bool_int ⟨.bl (i != 0),H,I,rfl,q⟩
 ·obtain⟨u,rfl,r1⟩:=vals1 r;cases r1;exact call_bool_bool ⟨.bl k,H,I,rfl,q⟩
end
structure qsd(h:Heap)(x dx C:Addr)(mA:Str→Option Value):Prop where
 obj:h.get? x=some (PySem.W.instObj C dx)
 ns:h.Ns1 dx mA
 ne:dx≠x
theorem qlq{h:Heap}{dx:Addr}{mA:Str→Option Value}(n:h.Ns1 dx mA):∃od,h.get? dx=some od∧∀name,PySem.W.lookIn name od=some (mA name):=by
 obtain⟨o,es,ep,ho,hd,hk,_,hm⟩:=n;refine⟨o,ho,fun name=>?_⟩;have e:=hm name;unfold nsFind findBy at e;rw [←Array.find?_toList]at e;unfold PySem.W.lookIn;rw [hd];dsimp only;split
 ·rename_i y q
  rw [q]at e;exact congrArg some e
 ·rename_i q
  rw [q]at e;have a:es.toList.any (·.refKey)=false:=by
   rw [List.any_eq_false];intro y hy;obtain⟨z,t,hkey⟩:=hk y (Array.mem_toList_iff.mp hy);simp [DictEntry.refKey,hkey]
  have a':¬ es.toList.any (·.refKey)=true:=by rw [a];exact Bool.false_ne_true
  rw [if_neg a'];exact congrArg some e
theorem qsd.look{h:Heap}{x dx C:Addr}{mA:Str→Option Value}(I:qsd h x dx C mA):∃od,PySem.W.InstAt h x (PySem.W.instObj C dx) C (some od)∧∀name,PySem.W.lookIn name od=some (mA name):=
 let ⟨od,ho,hl⟩:=qlq I.ns
 ⟨od,⟨I.obj,rfl,rfl,ho⟩,hl⟩
section
variable{prog:Program}{w:World}{A:Around}{E:Value→Shared→Prop}{s:Shared}{K:PySem.W.Frag}{x dx C f:Addr}{mA:Str→Option Value}{name:Str}{v:Value}
end
section
variable{P:Program}{w:World}{H H':Hp}{h h':Heap}{a C dx:Addr}{fs fs':List (Str×V)}
theorem qpg(hok:HOk P w H h)(e:H a=some (.ins C dx fs)):∃mA,qsd h a dx C mA∧(∀f,qml (fs.lookup f) (mA f))∧PySem.Within mA (fs.map (·.1))∧fs.length≤1000∧H dx=some (.own a):=by
 obtain⟨d,z,ne,ob,mA,n,r,q⟩:=(show zI P w H h a (.ins C dx fs)from hok a _ e)
 exact⟨mA,⟨ob,n,ne⟩,r,q,z,d⟩
end
structure Cls(K:PySem.W.Frag)(C:Addr):Prop where
 pg:PySem.W.plainGet K C Str.empty=true
 hd:PySem.W.hasDictIn K C=true
 po:PySem.W.plainOver K C=true
 sa:PySem.W.findIn K (.ref C) "__setattr__" = some (some (.builtin "object.__setattr__"))
theorem Cls.get{K:PySem.W.Frag}{C:Addr}(c:Cls K C)(f:Str):PySem.W.plainGet K C f=true:=c.pg
section
variable{X:Cx}{pins:List (Addr×Obj)}{σ:St}{H:Hp}{s:Shared}{a C dx:Addr}{fs:List (Str×V)}{f:Str}{v:V}{A:Around}{E:Value→Shared→Prop}
end
section
variable{X:Cx}{o e value:Expr}{f:Str}{pos pos' tpos:Pos}{ta tv:TE}
end
section
variable{X:Cx}{pins:List (Addr×Obj)}{σ:St}{H:Hp}{s:Shared}{A:Around}{E:Value→Shared→Prop}{Q:Value→Shared→Prop}{c:Value}{b:Bool}
inductive qbR(K:PySem.W.Frag)(H:Hp):V→Value→Prop where
 |non:qbR K H .non (.type "NoneType")
 |bl (x:Bool):qbR K H (.bl x) (.type "bool")
 |int (i:Int):qbR K H (.int i) (.type "int")
 |str (x:Str):qbR K H (.str x) (.type "str")
 |flt (x:UInt64):qbR K H (.flt x) (.type "float")
 |lst {a:Addr}{xs:List V} (e:H a=some (.lst xs)):qbR K H (.ref a) (.type "list")
 |frz {a:Addr}{o:Obj}{xs:List V} (e:H a=some (.frz o (.lst xs))):qbR K H (.ref a) (.type "list")
 |tup {a:Addr}{xs:List V} (e:H a=some (.tup xs)):qbR K H (.ref a) (.type "tuple")
 |dK {a:Addr}{kvs:List (Key×V)} (e:H a=some (.dK kvs)):qbR K H (.ref a) (.type "dict")
 |dT {a:Addr}{kvs:List (List Key×V)} (e:H a=some (.dT kvs)):qbR K H (.ref a) (.type "dict")
 |ins {a C dx:Addr}{fs:List (Str×V)} (e:H a=some (.ins C dx fs)) (cl:Cls K C) (ha:PySem.W.findIn K (.ref C) "__class__" = some (some (.builtin "object.__class__")))
   (hn:PySem.W.specialIn K (.builtin "object.__class__") "__get__" = some (some (.builtin "getset_descriptor.__get__"))) (htk:PySem.W.takesIn K (.builtin "object.__class__")=some true)
   (hm:PySem.W.mroIn K C (.type "object")=some true):qbR K H (.ref a) (.ref C)
theorem qbj{x:V}{u t:Value}(I:Inv X pins σ H s)(rx:RelV x u)(ty:qbR X.K H x t)(e:PySem.W.kitOne X.K t c=some b)(h:∀tk,Q (.bool b) {s with toks:=tk}) :
  wpAny (model X.prog X.w) A (call (.builtin "isinstance") [u,c]) Q E s:=by
 cases ty with
 |non=>cases (show u=Value.none from rx);exact PySem.W.kia_one PySem.W.kitx_none I.kIn True.intro e (fun z=>nomatch z) h
 |bl y=>cases (show u=Value.bool y from rx);exact PySem.W.kia_one PySem.W.kitx_bool I.kIn True.intro e (fun z=>nomatch z) h
 |int i=>obtain⟨t,q⟩:=(show ∃t,u=Value.int i t from rx);cases q;exact PySem.W.kia_one PySem.W.kitx_int I.kIn True.intro e (fun z=>nomatch z) h
 |str y=>obtain⟨t,q⟩:=(show ∃t,u=Value.str y t from rx);cases q;exact PySem.W.kia_one PySem.W.kitx_str I.kIn True.intro e (fun z=>nomatch z) h
 |flt y=>obtain⟨t,q⟩:=(show ∃t,u=Value.float y t from rx);cases q;exact PySem.W.kia_one PySem.W.kitx_float I.kIn True.intro e (fun z=>nomatch z) h
 | @lst a xs ea=>
  cases (show u=Value.ref a from rx);obtain⟨_,_,n,_,h1⟩:=(show zI X.prog X.w H s.heap a (.lst xs)from I.hok a _ ea)
  exact PySem.W.kia_one PySem.W.kitx_list I.kIn ⟨_,h1,rfl⟩ e (fun z=>nomatch z) h
 | @frz a ob xs ea=>
  cases (show u=Value.ref a from rx);obtain⟨_,_,_,n,_,h1⟩:=(show zI X.prog X.w H s.heap a (.frz ob (.lst xs))from I.hok a _ ea)
  exact PySem.W.kia_one PySem.W.kitx_list I.kIn ⟨_,h1,rfl⟩ e (fun z=>nomatch z) h
 | @tup a xs ea=>
  cases (show u=Value.ref a from rx);obtain⟨_,_,_,p⟩:=(show zI X.prog X.w H s.heap a (.tup xs)from I.hok a _ ea)
  obtain⟨o,h1,h2,_⟩:=p;exact PySem.W.kia_one PySem.W.kitx_tuple I.kIn ⟨o,h1,h2⟩ e (fun z=>nomatch z) h
 | @dK a kvs ea=>
  cases (show u=Value.ref a from rx);obtain⟨_,_,vs,_,p⟩:=(show zI X.prog X.w H s.heap a (.dK kvs)from I.hok a _ ea)
  obtain⟨o,es,ep,h1,h2,_⟩:=p;exact PySem.W.kia_one PySem.W.kitx_dict I.kIn ⟨o,h1,h2.1⟩ e (fun z=>nomatch z) h
 | @dT a kvs ea=>
  cases (show u=Value.ref a from rx);obtain⟨_,_,xs,_,o,es,ep,h1,h2,_⟩:=(show zI X.prog X.w H s.heap a (.dT kvs)from I.hok a _ ea)
  exact PySem.W.kia_one PySem.W.kitx_dict I.kIn ⟨o,h1,h2.1⟩ e (fun z=>nomatch z) h
 | @ins a C dx fs ea cl ha hn htk hm=>
  cases (show u=Value.ref a from rx);obtain⟨mA,O,_⟩:=qpg I.hok ea;obtain⟨od,J,_⟩:=O.look;exact PySem.W.kia_one (PySem.W.kitx_own (cl.get _) cl.hd ha hn htk hm) I.kIn J e (fun z=>nomatch z) h
end
structure qbB(k:Nat)(A:Around):Prop where
 hd:A.handled=none
 dp:A.depth+3 * k+5<recursionLimit
 un:A.units+16 * k+200<cLine
theorem qbB.deeper{k:Nat}{A:Around}(r:qbB (k+1) A)(env:Env):qbB k (A.deeper env):=
 ⟨r.hd,by have:=r.dp;show A.depth+1+3 * k+5<_;lia,by have:=r.un;show A.units+3+16 * k+200<_;lia⟩
theorem qbB.depth{k:Nat}{A:Around}(r:qbB k A):A.depth<recursionLimit:=by have:=r.dp;lia
theorem qbB.units{k:Nat}{A:Around}(r:qbB k A):A.units+64<cLine:=by have:=r.un;lia
noncomputable def qjQ:TA:=fun _ H Q=>Q [] H
noncomputable def qfl(ta:TE)(tr:TA):TA:=fun σ H Q=>ta σ H fun x H1=>tr σ H1 fun xs H2=>Q (x::xs) H2
section
variable{X:Cx}{e:Expr}{es:List Expr}{te:TE}{t:TA}{pos:Pos}
theorem qau:PA X [] qjQ:=fun _ _ _ _ H Q I h=>Calls.spliced_nil ⟨[],H,I,.nil,h⟩
theorem zA(ha:PE X e te)(hr:PA X es t)(hs:starEach (e::es) X.env=(false,eval e X.env)::starEach es X.env:=by rfl):PA X (e::es) (qfl te t):=by
 intro pos pins s σ H Q I h;rw [hs];show wpAny _ _ (spliced ((false,eval e X.env)::backTo pos (starEach es X.env))) _ _ s;refine Calls.spliced_cons (thn (ha pins s σ H _ I h) fun u s1 ⟨x,H1,I1,r1,q1⟩=>?_);exact thn (hr pos pins s1 σ H1 _ I1 q1) fun us s2 ⟨xs,H2,I2,r2,q2⟩=>⟨x::xs,H2,I2,.cons r1 r2,q2⟩
noncomputable def qtV(t:TA):TE:=fun σ H Q=>t σ H fun xs H1=>xs.length≤sizeLine∧∀p,H1 p=none→Q (.ref p) (upd H1 p (.tup xs))
noncomputable def qug(t:TA):TE:=fun σ H Q=>t σ H fun xs H1=>xs.length≤sizeLine∧∀p,H1 p=none→Q (.ref p) (upd H1 p (.lst xs))
theorem qrQ{x1}(h:PA X es t):PE X (.Tuple es x1 pos) (qtV t):=by
 intro pins s σ H Q I hq;refine wpAny_Tuple_spliced (thn (h pos pins s σ H _ I hq) fun us s1 ⟨xs,H1,I1,r,z,q⟩=>⟨by rw [←r.length];exact z,?_⟩);have hf:H1 s1.heap.objs.size=none:=I1.hok.fresh (Nat.le_refl _);refine⟨.ref s1.heap.objs.size,upd H1 s1.heap.objs.size (.tup xs),I1.laid (t':=s1.toks) (fun b u e=>Heap.get?_push_of_some _ e) (Nat.le_refl _) ?_,rfl,q _ hf⟩;exact⟨z,us,r,⟨_,Heap.get?_push_size _ rfl,rfl,_,rfl⟩⟩
theorem qqE(h:PA X es t):PE X (.List es pos) (qug t):=by
 intro pins s σ H Q I hq;refine wpAny_List_spliced (thn (h pos pins s σ H _ I hq) fun us s1 ⟨xs,H1,I1,r,z,q⟩=>⟨by rw [←r.length];exact z,?_⟩);have hf:H1 s1.heap.objs.size=none:=I1.hok.fresh (Nat.le_refl _);refine⟨.ref s1.heap.objs.size,upd H1 s1.heap.objs.size (.lst xs),I1.laid (t':=s1.toks) (fun b u e=>Heap.get?_push_of_some _ e) (Nat.le_refl _) ?_,rfl,q _ hf⟩;exact⟨z,us,0,r,Heap.get?_push_size _ rfl⟩
end
abbrev Sp:=List V→Hp→VK→XK→Prop
abbrev CXT:=List Env→Hp→Shared→XK→Value→Shared→Prop
structure qhZ(P:Program)(w:World)(K:PySem.W.Frag)(mg:Str→Option Value)(base:Heap)(A:Around)(outer:List Env)(s:Shared)(H:Hp):Prop where
 frames:A.frames=some outer
 mod:Mod K mg base
 bs:∀b o,base.get? b=some o→s.heap.get? b=some o∧H b=none
 bsz:base.objs.size≤s.heap.objs.size
 funs:s.heap.FunFrames base outer
 frf:∀b∈frs outer,H b=none
 hok:HOk P w H s.heap
 bare:AllBare s.gens
noncomputable def CE(outer:List Env)(P:Program)(w:World)(H:Hp)(s:Shared)(Q:VK)(u:Value)(s':Shared):Prop:=
 ∃v H',s'.os=s.os∧AllBare s'.gens∧Un (frs outer) [] H H' s.heap s'.heap∧HOk P w H' s'.heap∧RelV v u∧Q v H'
noncomputable def CR(CX:CXT)(outer:List Env)(P:Program)(w:World)(H:Hp)(s:Shared)(Q:VK)(E:XK)(r:Result)(s':Shared):Prop:=
 match r with
 | .ok (.ret u)=>CE outer P w H s Q u s'
 | .ok _=>False
 | .error e=>CX outer H s E e s'
structure qdZ(P:Program)(w:World)(K:PySem.W.Frag)(mg:Str→Option Value)(base:Heap)(CX:CXT)(k:Nat)(f:Addr)(fd:FuncData)(ps:List Str)(sp:Sp):Prop where
 len:∀vs H Q E,sp vs H Q E→vs.length=ps.length
 run:∀(A:Around) (outer:List Env) (s:Shared) (H:Hp) (args:Args) (us:List Value) (vs:List V) (Q:VK) (E:XK),qbB k A→qhZ P w K mg base A outer s H→BindsTo s fd args (ps.zip us)→Vals vs us→sp vs H Q E →
  codeAny (model P w) A (.call (.ref f) args) (CR CX outer P w H s Q E) s
section
variable{X:Cx}{pins:List (Addr×Obj)}{σ:St}{H:Hp}{s s':Shared}
theorem Inv.env0(I:Inv X pins σ H s):qhZ X.prog X.w X.K X.mg X.base X.A X.stack s H:=
 ⟨I.ok.frames,I.ok.mod,I.bs,Nat.le_trans I.ok.bsz I.sz,I.stack,I.stkFree,I.hok,I.bare⟩
theorem Inv.after{Q:VK}{u:Value}(I:Inv X pins σ H s)(h:CE X.stack X.prog X.w H s Q u s'):EP X pins σ Q u s':=by
 obtain⟨v,H',os,bare,un,hok,r,q⟩:=h;obtain⟨hh,g,d,t,os'⟩:=s';obtain rfl:os'=s.os:=os;exact⟨v,H',I.call (h':=hh) (g':=g) (d':=d) (t':=t) (ch:=[]) un hok bare (fun b z=>absurd z (by simp)),r,q⟩
end
noncomputable def qjT(sp:Sp)(dvs:List V)(E:XK)(t:TA):TE:=fun σ H Q=>t σ H fun vs H1=>sp (vs++dvs) H1 Q E
noncomputable def Binds(K:PySem.W.Frag)(fd:FuncData)(ps:List Str)(ds:List Value):Prop:=
 ∀(s:Shared) (us:List Value),K.In s.heap→(us++ds).length=ps.length→BindsTo s fd ⟨us,[]⟩ (ps.zip (us++ds))
theorem Binds.all{K:PySem.W.Frag}{fd:FuncData}{ps:List Str}(h:∀us:List Value,us.length=ps.length→bindArgs fd ⟨us,[]⟩=pure (ps.zip us)):Binds K fd ps []:=fun s us _ hl=>by
 rw [List.append_nil]at hl ⊢;exact .of_eq (h us hl)
noncomputable def Passes(CX:CXT)(X:Cx)(E:XK):Prop:=∀(pins:List (Addr×Obj)) (σ:St) (H:Hp) (s:Shared) (e:Value) (s':Shared),Inv X pins σ H s→CX X.stack H s E e s'→X.xe e s'
section
variable{X:Cx}{CX:CXT}{k:Nat}{f C:Addr}{fd:FuncData}{ps:List Str}{sp:Sp}{dvs:List V}{ds:List Value}{E:XK}{x m:Str}{p pos apos:Pos}{e o:Expr}{es:List Expr}{ta:TE}{t:TA}
theorem qrL{pins:List (Addr×Obj)}{σ:St}{H:Hp}{s:Shared}{Q:VK}{us:List Value}{vs:List V}(F:qdZ X.prog X.w X.K X.mg X.base CX k f fd ps sp)(hr:qbB k X.A)(hb:Binds X.K fd ps ds)(hd:Vals dvs ds)(hx:Passes CX X E)
  (I:Inv X pins σ H s) (r:Vals vs us) (h:sp (vs++dvs) H Q E):wpAny (model X.prog X.w) X.A (call (.ref f) us) (EP X pins σ Q) X.xe s:=by
 have r2:Vals (vs++dvs) (us++ds):=r.append hd;have hl:(us++ds).length=ps.length:=by rw [←r2.length];exact F.len _ _ _ _ h
 refine wpAny_call (codeAny_mono (F.run X.A X.stack s H ⟨us,[]⟩ (us++ds) (vs++dvs) Q E hr I.env0 (hb s us I.kIn hl) r2 h) fun r s' hq=>?_);cases r with
 |error e=>exact hx pins σ H s e s' I hq
 |ok fl=>
  cases fl with
  |ret u=>exact I.after hq
  |next=>exact False.elim hq
  |brk=>exact False.elim hq
  |cont=>exact False.elim hq
theorem qpD(F:qdZ X.prog X.w X.K X.mg X.base CX k f fd ps sp)(hr:qbB k X.A)(hg:Gl X x)(hm:X.mg x=some (.ref f))(hk:PySem.W.keepIn X.K (.ref f)=true)(hb:Binds X.K fd ps ds)(hd:Vals dvs ds)(hx:Passes CX X E)
  (ha:PA X (e::es) t) (hdb:(x==("__debug__" : Str))=false:=by decide) (he:starEach (e::es) X.env=(false,eval e X.env)::starEach es X.env:=by rfl) (hpl:(backTo pos (starEach es X.env)).any (·.1)=false:=by rfl) :
  PE X (.Call (.Name x p) (e::es) [] pos) (qjT sp dvs E t):=by
 intro pins s σ H Q I h;refine wpAny_Call_Name_kw (qfB I hg hm ?_ hdb);refine PySem.W.callWith_K (h₀:=X.base) I.ok.mod.kin hk (thn (ha pos pins s σ H _ I h) fun us s1 ⟨vs,H1,I1,r,q⟩=>⟨I1.kIn,?_⟩) he hpl;exact qrL F hr hb hd hx I1 r q
end
section
variable{X:Cx}{CX:CXT}{k:Nat}{f C:Addr}{fd:FuncData}{ps ks:List Str}{sp:Sp}{E:XK}{x m:Str}{p pos apos kpos:Pos}{e o:Expr}{es:List Expr}{kws:List Keyword}{te ta:TE}{t tk:TA}{nm:Option Str}
variable{g:List Value→List Value→List Value}{gV:List V→List V→List V}
end
structure qda(N P:List Str)(sc:Scope):Prop where
 kind:sc.kind=.function
 co:sc.isCoroutine=false
 gen:sc.isGenerator=false
 nd:N.Nodup
 pre:N.take P.length=P
 par:∀x∈P,sc.names.lookup x=some .local∨sc.names.lookup x=some .cell
 nofree:∀y∈sc.names,y.2≠.free
theorem qgx{kindOf:Str→Option NameKind}{x:Str}:∀{binds:List (Str×Value)}{m:Str→Option Value},(∀v,(x,v)∉binds)→bindL kindOf binds m x=m x
 | [],_,_=>rfl
 | (n,v)::r,m,h=>by
  unfold bindL;rw [qgx fun w hw=>h w (List.mem_cons_of_mem _ hw)];split
  ·have:x≠n:=by rintro rfl;exact h v List.mem_cons_self
   simp [this]
  ·rfl
theorem qgr{kindOf:Str→Option NameKind}{x:Str}:∀{binds:List (Str×Value)}{m:Str→Option Value},(∀v,(x,v)∉binds)→bindC kindOf binds m x=m x
 | [],_,_=>rfl
 | (n,v)::r,m,h=>by
  unfold bindC;rw [qgr fun w hw=>h w (List.mem_cons_of_mem _ hw)];split
  ·rfl
  ·have:x≠n:=by rintro rfl;exact h v List.mem_cons_self
   simp [this]
theorem qgA{kindOf:Str→Option NameKind}{x:Str}{v:Value}:∀{P:List Str}{vs:List Value}{i:Nat}{m:Str→Option Value},P.Nodup→P[i]? = some x→vs[i]? = some v→kindOf x=some .local →
  bindL kindOf (P.zip vs) m x=some v
 | [],_,_,_,_,h,_,_=>by simp at h
 |_::_,[],_,_,_,_,h,_=>by simp at h
 |p::P,w::vs,0,m,nd,h1,h2,hk=>by
  simp at h1 h2;subst h1;subst h2;show bindL kindOf ((p,w)::P.zip vs) m p=_;unfold bindL;rw [qgx fun v hv=>(List.nodup_cons.mp nd).1 (List.of_mem_zip hv).1,if_pos hk];simp
 |p::P,w::vs,i+1,m,nd,h1,h2,hk=>by
  show bindL kindOf ((p,w)::P.zip vs) m x=_;unfold bindL;exact qgA (i:=i) (List.nodup_cons.mp nd).2 (by simpa using h1) (by simpa using h2) hk
theorem qgQ{kindOf:Str→Option NameKind}{x:Str}{v:Value}:∀{P:List Str}{vs:List Value}{i:Nat}{m:Str→Option Value},P.Nodup→P[i]? = some x→vs[i]? = some v→kindOf x≠some .local →
  bindC kindOf (P.zip vs) m x=some v
 | [],_,_,_,_,h,_,_=>by simp at h
 |_::_,[],_,_,_,_,h,_=>by simp at h
 |p::P,w::vs,0,m,nd,h1,h2,hk=>by
  simp at h1 h2;subst h1;subst h2;show bindC kindOf ((p,w)::P.zip vs) m p=_;unfold bindC;rw [qgr fun v hv=>(List.nodup_cons.mp nd).1 (List.of_mem_zip hv).1,if_neg hk];simp
 |p::P,w::vs,i+1,m,nd,h1,h2,hk=>by
  show bindC kindOf ((p,w)::P.zip vs) m x=_;unfold bindC;exact qgQ (i:=i) (List.nodup_cons.mp nd).2 (by simpa using h1) (by simpa using h2) hk
noncomputable def start(N:List Str)(vs:List V):St:=vs.map some++List.replicate (N.length-vs.length) none
noncomputable def qdI(CX:CXT)(P:Program)(w:World)(K:PySem.W.Frag)(mg:Str→Option Value)(base:Heap)(N:List Str)(qual:Str)(scope:Scope)(f:Addr)(cd:Value)(A:Around)(outer:List Env)(s:Shared)(H:Hp)(E:XK):Cx where
 prog:=P
 w:=w
 K:=K
 mg:=mg
 base:=base
 A:=A.deeper (envOfC qual scope s.heap.objs.size f cd)
 N:=N
 s₀:=s
 H₀:=H
 env:=envOfC qual scope s.heap.objs.size f cd
 outer:=outer
 stack:=envOfC qual scope s.heap.objs.size f cd::outer
 ex:=[]
 calm:=true
 fn:=fun _=>true
 pn:=[]
 xe:=fun e s'=>wpAny (model P w) (A.deeper (envOfC qual scope s.heap.objs.size f cd)) (leaving (envOfC qual scope s.heap.objs.size f cd) e) (fun _ s''=>CX outer H s E e s'') (fun e' s''=>CX outer H s E e' s'') s'
theorem qdr{sc:Scope}{n:Nat}{x:Str}(h:sc.names.lookup x=some .cell):∃c,(cellsFrom n sc.names []).lookup x=some c:=by
 have q:=PySem.W.cellsFrom_some sc.names n [] (.inl h);exact Option.isSome_iff_exists.mp q
theorem qlG{CX:CXT}{P:Program}{w:World}{K:PySem.W.Frag}{mg:Str→Option Value}{base:Heap}{N ps:List Str}{qual:Str}{scope:Scope}{f:Addr}{cd:Value}{A:Around}{outer:List Env}{s s1:Shared}{H:Hp}{E:XK}{us:List Value}{vs:List V}
  (S:qda N ps scope) (hd:A.handled=none) (e0:qhZ P w K mg base A outer s H) (hl:vs.length=ps.length) (r:Vals vs us)
  (x:InCallC s s.heap.objs.size (bindL (envOfC qual scope s.heap.objs.size f cd).kindOf (ps.zip us) fun _=>none) (cellsFrom (s.heap.objs.size+1) scope.names []) (bindC (envOfC qual scope s.heap.objs.size f cd).kindOf (ps.zip us) fun _=>none) s1) :
  Inv (qdI CX P w K mg base N qual scope f cd A outer s H E) [] (start N vs) H s1:=by
 have hpl:ps.length≤N.length:=by have:=congrArg List.length S.pre;rw [List.length_take]at this;lia
 obtain⟨h1,tk,rfl,hk⟩:=x.done;have noA:∀b:Addr,b∉(qdI CX P w K mg base N qual scope f cd A outer s H E).ex:=fun b z=>absurd (show b∈([]:List Addr)from z) (by simp)
 refine⟨⟨e0.mod,S.kind,rfl,rfl,Nat.le_refl _,fun y z c h1 h2=>?_,fun y hy=>?_,fun y c _ h=>?_,fun _=>hd,Around.frames_deeper e0.frames,.inr ⟨rfl,rfl⟩,fun b z=>absurd z (noA b),e0.bs,e0.bsz,fun b _ _=>noA b,fun b z=>absurd z (noA b),e0.funs,e0.frf⟩,
  rfl,e0.bare,Un.kept hk,⟨_,x.toInCall.ns,fun i y v h1 h2 h3=>?_⟩,fun y c h=>⟨_,x.cell y c h⟩,e0.hok.fresh (Nat.le_refl _),fun y c h=>?_,fun p hp=>absurd (show p∈([]:List (Addr×Obj))from hp) (by simp),e0.hok.kept hk,?_⟩
 ·exact name_of_addr x.apart (PySem.mem_of_lookup h1) (PySem.mem_of_lookup h2)
 ·have hy:scope.names.lookup y=some .cell∨scope.names.lookup y=some .free:=hy;rcases hy with hy|hy
  ·exact qdr hy
  ·exact absurd rfl (S.nofree _ (PySem.mem_of_lookup hy))
 ·exact Nat.le_of_lt (x.above y c (PySem.mem_of_lookup h))
 ·have hi:i<vs.length:=by
   unfold start at h2;by_cases hi:i<vs.length
   ·exact hi
   ·rw [List.getElem?_append_right (by simpa using hi)]at h2;rw [List.getElem?_replicate]at h2;split at h2<;>cases h2
  have ha:vs[i]? = some v:=by
   unfold start at h2;rw [List.getElem?_append_left (by simpa using hi),List.getElem?_map]at h2;cases e:vs[i]? with
   |none=>rw [e]at h2;cases h2
   |some a=>rw [e]at h2;cases h2;rfl
  obtain⟨u,hu,rv⟩:=r.get ha;have hp:ps[i]? = some y:=by
   rw [←S.pre,List.getElem?_take_of_lt (by lia)];exact h1
  have ndP:ps.Nodup:=by rw [←S.pre];exact S.nd.sublist (List.take_sublist _ _)
  refine⟨u,rv,?_⟩;rcases S.par y (List.mem_of_getElem? hp)with k|k
  ·exact .inl ⟨k,qgA ndP hp hu k⟩
  ·obtain⟨c,e⟩:=qdr (n:=s.heap.objs.size+1) k;refine .inr ⟨.inl k,c,e,?_⟩;have q:=x.cell y c e;rw [qgQ ndP hp hu (by show scope.names.lookup y≠_;rw [k];decide)]at q;exact q
 ·exact e0.hok.fresh (Nat.le_of_lt (x.above y c (PySem.mem_of_lookup h)))
 ·unfold start;show _=N.length;rw [List.length_append,List.length_map,List.length_replicate];lia
theorem qtb{CX:CXT}{P:Program}{w:World}{K:PySem.W.Frag}{mg:Str→Option Value}{base:Heap}{k:Nat}{f:Addr}{name qual:Str}{params:Arguments}{body:List Stmt}{scope:Scope}{dV kV doc pm cdv ct oc:Value}{an od:Option Addr}
  {osl:Array (Option Value)}{N ps:List Str}{sp:Sp} (lk:K.lookup f=some ⟨oc,od,.func (PySem.W.fnOf name qual params body scope dV kV doc pm an cdv ct),osl⟩) (hcd:PySem.W.codeIn K cdv qual=true) (S:qda N ps scope)
  (len:∀vs H Q E,sp vs H Q E→vs.length=ps.length)
  (hbody:∀(A:Around) (outer:List Env) (s:Shared) (H:Hp) (vs:List V) (Q:VK) (E:XK),qbB k (A.deeper (envOfC qual scope s.heap.objs.size f cdv))→sp vs H Q E →
   ∃t,PSs (qdI CX P w K mg base N qual scope f cdv A outer s H E) body t∧t {nx:=fun _ H'=>Q .non H',rt:=Q} (start N vs) H) :
  qdZ P w K mg base CX (k+1) f (PySem.W.fnOf name qual params body scope dV kV doc pm an cdv ct) ps sp:=by
 refine⟨len,fun A outer s H args us vs Q E hr e0 hb r hsp=>?_⟩;have hl:=len _ _ _ _ hsp;have KX:K.In s.heap:=e0.mod.kin.keeps fun b o e=>(e0.bs b o e).1
 have lim:s.heap.NoLimit:=e0.mod.nolimit.keeps fun b o e=>(e0.bs b o e).1
 have hkind:∀y∈ps.zip us,scope.names.lookup y.1=some .local∨(scope.names.lookup y.1=some .cell∧((cellsFrom (s.heap.objs.size+1) scope.names []).lookup y.1).isSome=true):=fun⟨n,v⟩ hy=>by
  rcases S.par n (List.of_mem_zip hy).1 with q|q
  ·exact .inl q
  ·exact .inr ⟨q,PySem.W.cellsFrom_some _ _ _ (.inl q)⟩
 refine codeAny_call_function hr.depth (KX _ _ lk) rfl S.co S.gen rfl (PySem.W.codeRec_of KX hcd) (hb _ _ _ _ ?_);refine wpAny_newFunctionEnv_cells S.kind hkind fun env he s1 x=>?_
 subst he;refine⟨lim.keeps x.toInCall.keep,codeAny_func ?_⟩;obtain⟨t,ht,hq⟩:=hbody A outer s H vs Q E (hr.deeper _) hsp;have I:Inv (qdI CX P w K mg base N qual scope f cdv A outer s H E) [] (start N vs) H s1:=qlG S hr.hd e0 hl r x;refine wpAny_mono (ht [] s1 (start N vs) H _ I hq) (fun fl s' hs=>?_) fun e s' hs=>hs
 have fin:∀{σ':St}{H':Hp}{v:V}{u:Value},Inv (qdI CX P w K mg base N qual scope f cdv A outer s H E) [] σ' H' s'→RelV v u→Q v H'→CE outer P w H s Q u s':=
  fun {σ' H' v u} J rv q=>⟨v,H',J.os,J.bare,J.base,J.hok,rv,q⟩
 cases fl with
 |ret u=>
  obtain⟨v,σ',H',J,rv,q⟩:=hs;exact fin J rv q
 |next=>
  obtain⟨σ',H',J,q⟩:=hs;exact fin (v:=V.non) (u:=Value.none) J rfl q
 |brk=>
  obtain⟨_,_,_,q⟩:=hs;exact False.elim q
 |cont=>
  obtain⟨_,_,_,q⟩:=hs;exact False.elim q
section
variable{X:Cx}{x:Str}{p pos:Pos}{e:Expr}{es:List Expr}{t:TA}{id T:String}{r:List V→Hp→VK→Prop}
noncomputable def tCB(r:List V→Hp→VK→Prop)(t:TA):TE:=fun σ H Q=>t σ H fun vs H1=>r vs H1 Q
theorem qhs(hc:qx X (.builtin id) r)(hg:Gl X x)(hm:X.mg x=none)(hv:bootBuiltins x=some (.builtin id))(ha:PA X (e::es) t)(hn:x≠"__name__":=by decide)(hdb:(x==("__debug__" : Str))=false:=by decide)
  (he:starEach (e::es) X.env=(false,eval e X.env)::starEach es X.env:=by rfl) (hpl:(backTo pos (starEach es X.env)).any (·.1)=false:=by rfl):PE X (.Call (.Name x p) (e::es) [] pos) (tCB r t):=by
 intro pins s σ H Q I h;refine wpAny_Call_Name_kw (qcg I hg hm hv ?_ hn hdb);exact PyProof.Rows.callWith_builtin1 (thn (ha pos pins s σ H _ I h) fun us s1 ⟨vs,H1,I1,r1,q1⟩=>hc pins s1 σ H1 vs us Q I1 r1 q1) he hpl
theorem qcT(hc:qx X (.type T) r)(hg:Gl X x)(hm:X.mg x=none)(hv:bootBuiltins x=some (.type T))(ha:PA X (e::es) t)(hn:x≠"__name__":=by decide)(hdb:(x==("__debug__" : Str))=false:=by decide)
  (he:starEach (e::es) X.env=(false,eval e X.env)::starEach es X.env:=by rfl) (hpl:(backTo pos (starEach es X.env)).any (·.1)=false:=by rfl):PE X (.Call (.Name x p) (e::es) [] pos) (tCB r t):=by
 intro pins s σ H Q I h;refine wpAny_Call_Name_kw (qcg I hg hm hv ?_ hn hdb);exact PyProof.Rows.callWith_type1 (thn (ha pos pins s σ H _ I h) fun us s1 ⟨vs,H1,I1,r1,q1⟩=>hc pins s1 σ H1 vs us Q I1 r1 q1) he hpl
end
end L2
namespace HT
open PySem PyProof.Rows
noncomputable def lexLt:List Int→List Int→Bool
 | [],[]=>false
 | [],_::_=>true
 |_::_,[]=>false
 |x::xs,y::ys=>if x=y then lexLt xs ys else decide (x<y)
theorem qfn(x y:Int)(xs ys:List Int):lexLt (x::xs) (y::ys)=if x=y then lexLt xs ys else decide (x<y):=rfl
theorem qdN:lexLt [] []=false:=rfl
theorem qdg(y:Int)(ys:List Int):lexLt [] (y::ys)=true:=rfl
theorem qdj(x:Int)(xs:List Int):lexLt (x::xs) []=false:=rfl
theorem qmI(A:Around)(s:Shared)(a:Int)(t:Tok)(c:Int)(u:Tok):∃e,SeqAt.EqAt A s (.int a t) (.int c u) e∧(e=true↔a=c):=
 ⟨(a==c),SeqAt.EqAt.int_int a t c u,by simp⟩
theorem qnc(A:Around)(s:Shared)(a:Int)(t:Tok)(c:Int)(u:Tok)(prog:Program)(w:World)(E:Value→Shared→Prop)(Q:Value→Shared→Prop)(h:Q (.bool (decide (a<c))) s) :
  wpAny (model prog w) A (richCompare .Lt (.int a t) (.int c u)) Q E s:=
 (PyProof.Rows.lt_int h:wpAny (model prog w) A (compareOp .Lt (.int a t) (.int c u)) Q E s)
section
open PySem.SeqAt
open PySem.AutoSeq1 (wpAny_loadPart')
open PySem.MeetsSeq PySem.MeetsSeq2 PySem.MeetsSeq3
theorem qdM(l b:Addr)(items items2:Array Value)(n n2:Nat)(dd dd2:Option Addr)(sl sl2:Array (Option Value))(ns ms:List Int)(hi:IntsAre items.toList ns)(hj:IntsAre items2.toList ms) :
  Meets (Builtin.«tuple.__lt__» ⟨[.ref l,.ref b],[]⟩)
   (fun _ R s=>s.heap.get? l=some {cls:=.type "tuple",dict:=dd,data:=.seq items n,slots:=sl}∧s.heap.get? b=some {cls:=.type "tuple",dict:=dd2,data:=.seq items2 n2,slots:=sl2} ∧
    R (.ok (.ret (.bool (lexLt ns ms)))) s):=
 .of_wp fun prog w A R s h=>by
  obtain⟨hp,g,d,tk,os⟩:=s;obtain⟨hl,hb,h⟩:=h;have f2:=AutoSeq1.sub_tuple_tuple;have z1:items.size=ns.length:=by rw [←hi.length];simp
  have z2:items2.size=ms.length:=by rw [←hj.length];simp
  wp_walk using wpAny_loadPart' hl,wpAny_loadPart' hb,wpAny_forIn_list _ (fun rest b s'=>b.1=none∧s'=⟨hp,g,d,tk,os⟩∧∃(vs ws:List Value) (ns' ms':List Int),rest=vs.zip ws ∧
   IntsAre vs ns'∧IntsAre ws ms'∧ns'.length+items2.size=ms'.length+items.size∧R (.ok (.ret (.bool (lexLt ns' ms')))) ⟨hp,g,d,tk,os⟩) _
  case turn=>
   rintro⟨y,x⟩ rest b s' ⟨hb',rfl,vs,ws,ns',ms',hz,hvi,hwi,hlen,hR⟩;cases hvi with
   |nil=>rw [List.zip_nil_left]at hz;cases hz
   |cons a t hvi'=>
    cases hwi with
    |nil=>rw [List.zip_nil_right]at hz;cases hz
    |cons c u hwi'=>
     rw [List.zip_cons_cons]at hz;injection hz with hyx hrest
     injection hyx with hy hx
     subst hy hx;rw [qfn]at hR;simp only [List.length_cons]at hlen;obtain⟨e,he,hiff⟩:=qmI A.in1 ⟨hp,g,d,tk,os⟩ a t c u;refine wpAny_bind (he prog w _ _ ?_);cases e with
     |true=>
      rw [if_pos (hiff.mp rfl)]at hR
      wp_walk
      exact⟨rfl,rfl,_,_,_,_,hrest,hvi',hwi',by lia,hR⟩
     |false=>
      rw [if_neg (fun q=>absurd (hiff.mpr q) Bool.false_ne_true)]at hR;have hri:=qnc A.in1 ⟨hp,g,d,tk,os⟩ a t c u prog w
      wp_walk using hri
      exact⟨_,rfl,by simpa using hR⟩
  case fin=>
   rintro⟨b1,b2⟩ s' ⟨hb',rfl,vs,ws,ns',ms',hz,hvi,hwi,hlen,hR⟩;simp only at hb';subst hb';have hv:lexLt ns' ms'=decide (items.size<items2.size):=by
    cases hvi with
    |nil=>
     cases hwi with
     |nil=>
      simp only [List.length_nil]at hlen;rw [qdN];exact(decide_eq_false (by lia)).symm
     |cons c u hw=>
      simp only [List.length_nil,List.length_cons]at hlen;rw [qdg];exact(decide_eq_true (by lia)).symm
    |cons a t hv=>
     cases hwi with
     |nil=>
      simp only [List.length_nil,List.length_cons]at hlen;rw [qdj];exact(decide_eq_false (by lia)).symm
     |cons c u hw=>
      rw [List.zip_cons_cons]at hz;cases hz
   rw [hv]at hR
   wp_walk
   exact⟨_,rfl,by simpa [Builtin.Tuple.tupleCompareSizes]using hR⟩
  case h=>
   exact⟨rfl,rfl,items.toList,items2.toList,ns,ms,rfl,hi,hj,by lia,h⟩
end
section
variable{prog:Program}{w:World}{A:Around}{E:Value→Shared→Prop}{s:Shared}
theorem qjO{l b:Addr}{items items2:Array Value}{ns ms:List Int}{Q:Value→Shared→Prop}(hl:IsTup s.heap l items)(hb:IsTup s.heap b items2)(hi:IntsAre items.toList ns)(hj:IntsAre items2.toList ms)
  (hu:A.units<cLine) (h:Q (.bool (lexLt ns ms)) s):wpAny (model prog w) A (compareOp .Lt (.ref l) (.ref b)) Q E s:=by
 obtain⟨⟨cls,dd,data,sl⟩,ho,hc,n,hd⟩:=id hl;obtain⟨⟨cls2,dd2,data2,sl2⟩,ho2,hc2,n2,hd2⟩:=id hb;simp only at hc hd hc2 hd2;subst hc hd hc2 hd2;exact richCompare_meets_room (op:=.Lt) ⟨_,ho,rfl⟩ ⟨_,ho2,rfl⟩ PySem.F.slot_tuple_lt PySem.F.entry_tuple_lt (PySem.F.args_tuple_lt_2 _ _) (qdM l b items items2 n n2 dd dd2 sl sl2 ns ms hi hj)
  ⟨ho,ho2,show Value.bool (lexLt ns ms)≠Value.notImplemented∧Q (.bool (lexLt ns ms)) s from ⟨(fun x=>nomatch x),h⟩⟩ hu
theorem qoM{t b:Addr}{vs ws:List Value}{Q:Value→Shared→Prop}(ht:IsTup s.heap t vs.toArray)(hb:IsTup s.heap b ws.toArray)(hv:vs≠[])
  (h1:ws=[]→Q (.ref t) s) (h2:ws≠[]→Q (.ref s.heap.objs.size) {s with heap:=s.heap.push {cls:=.type "tuple",data:=.seq (vs++ws).toArray}})
  (hsz:vs.length+ws.length≤sizeLine):wpAny (model prog w) A (binaryOp .Add (.ref t) (.ref b)) Q E s:=by
 obtain⟨⟨cls,dd,data,sl⟩,ho,hc,n,hd⟩:=id ht;obtain⟨⟨cls2,dd2,data2,sl2⟩,ho2,hc2,n2,hd2⟩:=id hb;simp only at hc hd hc2 hd2;subst hc hd hc2 hd2;have e:vs.toArray++ws.toArray=(vs++ws).toArray:=by simp
 by_cases hw:ws=[]
 ·exact concat_meets ⟨_,ho,rfl⟩ ⟨_,ho2,rfl⟩ noFill_tuple_add seq_tuple_add PySem.F.slot_tuple_add PySem.F.entry_tuple_add (PySem.F.args_tuple_add_2 _ _)
   (tuple_addW1 t b vs.toArray ws.toArray n n2 dd dd2 sl sl2 (by simpa using hv) (by simp [hw])) ⟨ho,ho2,h1 hw⟩
 ·refine concat_meets ⟨_,ho,rfl⟩ ⟨_,ho2,rfl⟩ noFill_tuple_add seq_tuple_add PySem.F.slot_tuple_add PySem.F.entry_tuple_add (PySem.F.args_tuple_add_2 _ _)
   (tuple_addW2 t b vs.toArray ws.toArray n n2 dd dd2 sl sl2 (by simpa using hv) (by simpa using hw) (by rw [List.size_toArray,List.size_toArray];exact hsz)) ⟨ho,ho2,?_⟩
  rw [e];exact h2 hw
noncomputable def sIx(n d:Nat):Option Int→Nat
 |none=>d
 |some v=>if v<0 then (v+(n:Int)).toNat else min v.toNat n
theorem qqC(n d:Nat)(hd:d≤n)(o:Option Int):sIx n d o≤n:=by
 cases o with
 |none=>exact hd
 |some v=>
  show (if v<0 then (v+(n:Int)).toNat else min v.toNat n)≤n;by_cases hv:v<0
  ·rw [if_pos hv];lia
  ·rw [if_neg hv];exact Nat.min_le_right _ _
theorem qjj(v:Int)(n d:Nat):(if v<0 then max (v+(n:Int)) 0 else min v (n:Int))=((sIx n d (some v):Nat):Int):=by
 show (if v<0 then max (v+(n:Int)) 0 else min v (n:Int))=(((if v<0 then (v+(n:Int)).toNat else min v.toNat n):Nat):Int)
 by_cases hv:v<0
 ·simp only [if_pos hv];lia
 ·simp only [if_neg hv];lia
theorem qkh(lo hi:Option Int)(n:Nat):Builtin.Slice.sliceAdjust lo hi 1 (n:Int)=(((sIx n 0 lo:Nat):Int),((sIx n n hi:Nat):Int)):=by
 have h1:¬ ((1:Int)<0):=by lia
 unfold Builtin.Slice.sliceAdjust;simp only [h1,if_false];refine Prod.ext ?_ ?_
 ·cases lo with
  |none=>rfl
  |some v=>exact qjj v n 0
 ·cases hi with
  |none=>rfl
  |some v=>exact qjj v n n
theorem qjG(i j:Nat):Builtin.Slice.slicePlaces (i:Int) (j:Int) 1=j-i:=by
 unfold Builtin.Slice.slicePlaces;have h1:(1:Int)>0:=by lia
 simp only [h1,if_true,Int.ediv_one];split<;>lia
theorem qeV{v:Value}{o:Option Int}{Q:Option Int→Shared→Prop}(p:IsPart v o)(h:Q o s):wpAny (model prog w) A (Builtin.Slice.slicePartIndex v) Q E s:=by
 cases p with
 |none=>exact slicePart_none h
 |int i t=>exact slicePart_int h
theorem qcJ{sl:Addr}{vl vu:Value}{lo hi:Option Int}{n:Nat}{Q:Int×Int×Nat→Shared→Prop}(hs:s.heap.IsSliceOf sl vl vu .none)(pl:IsPart vl lo)(pu:IsPart vu hi)
  (h:Q (((sIx n 0 lo:Nat):Int),1,sIx n n hi-sIx n 0 lo) s):wpAny (model prog w) A (Builtin.Slice.sliceApplied (.ref sl) (pure (n:Int))) Q E s:=by
 obtain⟨os,hos,hcs,hds⟩:=id hs;unfold Builtin.Slice.sliceApplied Builtin.Slice.sliceFields;refine wpAny_bind (wpAny_bind (wpAny_field hos hds (x:=vl) rfl (wpAny_bind (wpAny_field hos hds (x:=vu) rfl (wpAny_bind (wpAny_field hos hds (x:=.none) rfl (wpAny_pure ?_)))))));refine wpAny_bind (slicePart_none ?_);show wpAny _ _ (if ((1:Int)==0)=true then _ else _) _ _ s;rw [if_neg (by decide)];refine wpAny_bind (qeV pl (wpAny_bind (qeV pu (wpAny_bind (wpAny_pure ?_)))));show wpAny _ _ (match Builtin.Slice.sliceAdjust lo hi 1 (n:Int)with|(lo,hi)=>pure (lo,(1:Int),Builtin.Slice.slicePlaces lo hi 1)) _ _ s;rw [qkh lo hi n];show wpAny _ _ (pure (((sIx n 0 lo:Nat):Int),(1:Int),Builtin.Slice.slicePlaces ((sIx n 0 lo:Nat):Int) ((sIx n n hi:Nat):Int) 1)) _ _ s;rw [qjG];exact wpAny_pure h
theorem qnt(xs:Array Value)(i k:Nat):((List.range k).filterMap fun(m:Nat)=>xs[((i:Int)+(m:Int) * 1).toNat]?).toArray=((xs.toList.drop i).take k).toArray:=by
 have e:(fun(m:Nat)=>xs[((i:Int)+(m:Int) * 1).toNat]?)=fun m=>xs[i+m]?:=by
  funext m;have:((i:Int)+(m:Int) * 1).toNat=i+m:=by lia
  rw [this]
 rw [e];have:=pick_run xs i k;rw [List.filterMap_map]at this;have e2:((fun x=>xs[x]?)∘fun x=>i+x)=fun m=>xs[i+m]?:=rfl
 rw [e2]at this;rw [this]
theorem qer{t sl:Addr}{items:Array Value}{vl vu:Value}{lo hi:Option Int}{Q:Value→Shared→Prop}(ht:IsTup s.heap t items)(hs:s.heap.IsSliceOf sl vl vu .none)(pl:IsPart vl lo)(pu:IsPart vu hi)
  (hw:¬ (sIx items.size 0 lo=0∧sIx items.size items.size hi=items.size))
  (h:Q (.ref s.heap.objs.size) {s with heap:=s.heap.push {cls:=.type "tuple",data:=.seq ((items.toList.drop (sIx items.size 0 lo)).take (sIx items.size items.size hi-sIx items.size 0 lo)).toArray}})
  (hsz:items.size≤sizeLine):wpAny (model prog w) A (getItem (.ref t) (.ref sl)) Q E s:=by
 have htake:sizeOk (.seq ((items.toList.drop (sIx items.size 0 lo)).take (sIx items.size items.size hi-sIx items.size 0 lo)).toArray):=by
  show ((items.toList.drop (sIx items.size 0 lo)).take (sIx items.size items.size hi-sIx items.size 0 lo)).toArray.size≤sizeLine;rw [List.size_toArray,List.length_take,List.length_drop,Array.length_toList];lia
 have hj:sIx items.size items.size hi≤items.size:=qqC _ _ (Nat.le_refl _) hi;obtain⟨os,hos,hcs,hds⟩:=id hs;have hTs:s.TypeIs (.ref sl) "slice":=⟨os,hos,hcs⟩
 unfold getItem
 try with_reducible refine wpAny_holding ?_
 first|refine wpAny_bind (wpAny_pure ?_)|skip
 refine wpAny_bind (wpAny_sequenceKey ht.typeIs (by decide) ?_);refine wpAny_bind (wpAny_callSpecial?_slot (name:=Str.ofString "__getitem__") ht.typeIs PyProof.Rows.slot_tuple_getitem
  (wpAny_call_entry PyProof.Rows.slot_tuple_getitem ht.typeIs entry_tuple_getitem ?_ (args_tuple_getitem _ _)))
 show wpAny _ _ (Builtin.Tuple.tupleItemsOf (.ref t)>>=_) _ _ s;refine wpAny_bind (tupleItemsOf_ ht ?_);refine wpAny_bind (wpAny_typeOf hTs ?_);rw [if_pos (by decide)];refine wpAny_bind (qcJ hs pl pu ?_);have hno:¬ ((((sIx items.size 0 lo:Nat):Int)==0&&(1:Int)==1&&(sIx items.size items.size hi-sIx items.size 0 lo)==items.size)=true):=by
  intro q;rw [Bool.and_eq_true,Bool.and_eq_true]at q;have q1:((sIx items.size 0 lo:Nat):Int)=0:=eq_of_beq q.1.1;have q2:sIx items.size items.size hi-sIx items.size 0 lo=items.size:=eq_of_beq q.2;exact hw ⟨by lia,by lia⟩
 show wpAny _ _ (if (((sIx items.size 0 lo:Nat):Int)==0&&(1:Int)==1&&(sIx items.size items.size hi-sIx items.size 0 lo)==items.size)=true then _ else _) _ _ s;rw [if_neg hno,qnt]
 first
  |exact wpAny_bind (m:=Builtin.Tuple.tupleExact _) (wpAny_newObj_type (wpAny_pure ⟨_,rfl,wpAny_pure h⟩) htake)
  |exact wpAny_bind (m:=Builtin.Tuple.tupleExact _) (wpAny_newObj_type (wpAny_bind (wpAny_pure (wpAny_pure ⟨_,rfl,wpAny_pure h⟩))) htake)
  |exact wpAny_bind (wpAny_bind (m:=Builtin.Tuple.tupleExact _) (wpAny_newObj_type (wpAny_pure (wpAny_pure ⟨_,rfl,wpAny_pure h⟩)) htake))
  |exact wpAny_bind (wpAny_bind (m:=Builtin.Tuple.tupleExact _) (wpAny_newObj_type (wpAny_pure ⟨_,rfl,wpAny_pure h⟩) htake))
end
end HT
namespace L2
open PySem PySem.Spec PyProof.Rows
abbrev TO:=St→Hp→(Option Int→Hp→Prop)→Prop
noncomputable def PO(X:Cx)(e:Option Expr)(t:TO):Prop:=
 ∀(pins:List (Addr×Obj)) (s:Shared) (σ:St) (H:Hp) (Q:Option Int→Hp→Prop),Inv X pins σ H s→t σ H Q →
  wpAny (model X.prog X.w) X.A (evalPart e X.env) (fun u s'=>∃o H',Inv X pins σ H' s'∧IsPart u o∧Q o H') X.xe s
noncomputable def qpl:TO:=fun _ H Q=>Q none H
noncomputable def qsN(t:TE):TO:=fun σ H Q=>t σ H fun x H1=>∃i,x=.int i∧Q (some i) H1
theorem intsAre_of{ns:List Int}:∀{us:List Value},Vals (ns.map V.int) us→IntsAre us ns:=by
 induction ns with
 |nil=>intro us r;rw [List.map_nil]at r;cases r;exact .nil
 |cons n ns ih=>
  intro us r;rw [List.map_cons]at r;cases r with
  |cons r1 r2=>
   obtain⟨t,e⟩:=r1;subst e;exact .cons n t (ih r2)
section
variable{X:Cx}{e:Expr}{te:TE}{lo hi:Option Expr}{tl th:TO}{pos p2:Pos}
theorem qpu:PO X none qpl:=by
 intro pins s σ H Q I h;rw [evalPart_none];exact wpAny_pure ⟨none,H,I,.none,h⟩
theorem qoK(h:PE X e te):PO X (some e) (qsN te):=by
 intro pins s σ H Q I hw;rw [evalPart_some];refine thn (h pins s σ H _ I hw) fun u s1 ⟨x,H1,I1,r1,q1⟩=>?_
 obtain⟨i,rfl,q⟩:=q1;obtain⟨t,rfl⟩:=r1;exact⟨some i,H1,I1,.int i t,q⟩
noncomputable def SlR(X:Cx)(r:V→Option Int→Option Int→Hp→VK→Prop):Prop:=
 ∀(pins:List (Addr×Obj)) (s:Shared) (σ:St) (H:Hp) (x:V) (v vl vu:Value) (lo hi:Option Int) (sl:Addr) (Q:VK),Inv X pins σ H s→RelV x v→s.heap.IsSliceOf sl vl vu .none→IsPart vl lo→IsPart vu hi→r x lo hi H Q →
  ∃T id,typeLookup (.type T) "__getitem__" = pure (some (.builtin id))∧s.TypeIs v T∧wpAny (model X.prog X.w) X.A (getItem v (.ref sl)) (EP X pins σ Q) X.xe s
noncomputable def tSl(r:V→Option Int→Option Int→Hp→VK→Prop)(te:TE)(tl th:TO):TE:=fun σ H Q=>te σ H fun x H1=>tl σ H1 fun l H2=>th σ H2 fun u H3=>r x l u H3 Q
theorem qmm{r:V→Option Int→Option Int→Hp→VK→Prop}(hr:SlR X r)(he:PE X e te)(hl:PO X lo tl)(hu:PO X hi th):PE X (.Subscript e (.Slice lo hi none p2) pos) (tSl r te tl th):=by
 intro pins s σ H Q I h;refine Subscript_ (thn (he pins s σ H _ I h) fun v s1 ⟨x,H1,I1,r1,q1⟩=>?_);refine wpAny_Slice (thn (hl pins s1 σ H1 _ I1 q1) fun vl s2 ⟨l,H2,I2,pl,q2⟩=>thn (hu pins s2 σ H2 _ I2 q2) fun vu s3 ⟨u,H3,I3,pu,q3⟩=>?_);rw [evalPart_none];refine wpAny_pure ?_;have I4:Inv X pins σ H3 {s3 with heap:=s3.heap.push {cls:=.type "slice",data:=.fields #[vl,vu,.none]}}:=I3.kept (t':=s3.toks) fun b ob q=>Heap.get?_push_of_some _ q
 obtain⟨T,id,hT,ht,hg⟩:=hr pins {s3 with heap:=s3.heap.push {cls:=.type "slice",data:=.fields #[vl,vu,.none]}} σ H3 x v vl vu l u s3.heap.objs.size Q I4 r1 (Heap.IsSliceOf.new ..) pl pu q3;show wpAny (model X.prog X.w) X.A (subscriptTail e (.Slice lo hi none p2) v (.ref s3.heap.objs.size)) (EP X pins σ Q) X.xe {s3 with heap:=s3.heap.push {cls:=.type "slice",data:=.fields #[vl,vu,.none]}};exact tail_any (ops:=[.ref s3.heap.objs.size,v]) ht hT hg (by with_unfolding_all rfl)
noncomputable def qdY(xs:List V)(lo hi:Option Int):List V:=(xs.drop (HT.sIx xs.length 0 lo)).take (HT.sIx xs.length xs.length hi-HT.sIx xs.length 0 lo)
theorem qev(xs:List V)(lo hi:Option Int):(qdY xs lo hi).length≤xs.length:=by
 unfold qdY;rw [List.length_take,List.length_drop];lia
noncomputable def qub(K:PySem.W.Frag):V→Option Int→Option Int→Hp→VK→Prop:=fun x lo hi H Q=>∃a xs,x=.ref a∧SqT K H a xs ∧
 ¬ (HT.sIx xs.length 0 lo=0∧HT.sIx xs.length xs.length hi=xs.length)∧∀p,H p=none→Q (.ref p) (upd H p (.tup (qdY xs lo hi)))
theorem qpW:SlR X (qub X.K):=by
 intro pins s σ H x v vl vu lo hi sl Q I rx hs pl pu h;obtain⟨a,xs,rfl,hx,hw,q⟩:=h;cases rx;obtain⟨its,r,ht,hz⟩:=I.tuple hx;have hlen:its.toArray.size=xs.length:=by rw [List.size_toArray];exact r.length.symm
 refine⟨"tuple",_,PyProof.Rows.slot_tuple_getitem.lookup,ht.typeIs,?_⟩;refine HT.qer ht hs pl pu (by rw [hlen];exact hw) ?_ (by rw [hlen];exact hz);rw [hlen];refine⟨.ref s.heap.objs.size,_,I.laid (t':=s.toks) (o:=.tup (qdY xs lo hi)) (fun b ob q=>Heap.get?_push_of_some _ q) (Nat.le_refl _) ?_,rfl,q _ (I.hok.fresh (Nat.le_refl _))⟩;exact⟨Nat.le_trans (qev xs lo hi) hz,_,(r.drop (HT.sIx xs.length 0 lo)).take (HT.sIx xs.length xs.length hi-HT.sIx xs.length 0 lo),IsTup.new _ _⟩
noncomputable def qud(K:PySem.W.Frag):R2:=fun x y H Q=>∃a b ns ms,x=.ref a∧y=.ref b∧SqT K H a (ns.map V.int)∧SqT K H b (ms.map V.int)∧Q (.bl (HT.lexLt ns ms)) H
theorem qqb(hu:X.A.units<cLine):OpR X (compareOp .Lt) (qud X.K):=by
 intro pins s σ H x y v u Q I rx ry h;obtain⟨a,b,ns,ms,rfl,rfl,ha,hb,q⟩:=h;cases rx;cases ry;obtain⟨its,r1,p1,_⟩:=I.tuple ha;obtain⟨its2,r2,p2,_⟩:=I.tuple hb;have i1:IntsAre its.toArray.toList ns:=intsAre_of r1;have i2:IntsAre its2.toArray.toList ms:=intsAre_of r2;exact HT.qjO p1 p2 i1 i2 hu ⟨.bl (HT.lexLt ns ms),H,I,rfl,q⟩
noncomputable def qsS(K:PySem.W.Frag):R2:=fun x y H Q=>∃a b xs ys,x=.ref a∧y=.ref b∧SqT K H a xs∧SqT K H b ys∧xs≠[]∧xs.length+ys.length≤sizeLine ∧
 (ys=[]→Q (.ref a) H)∧(ys≠[]→∀p,H p=none→Q (.ref p) (upd H p (.tup (xs++ys))))
theorem Vals.nil_iff{xs:List V}{us:List Value}(r:Vals xs us):us=[]↔xs=[]:=by
 cases r with
 |nil=>simp
 |cons _ _=>simp
theorem qoX:OpR X (binaryOp .Add) (qsS X.K):=by
 intro pins s σ H x y v u Q I rx ry h;obtain⟨a,b,xs,ys,rfl,rfl,ha,hb,hx,hz,q1,q2⟩:=h;cases rx;cases ry;obtain⟨its,r1,p1,_⟩:=I.tuple ha;obtain⟨its2,r2,p2,_⟩:=I.tuple hb;refine HT.qoM p1 p2 (fun z=>hx (r1.nil_iff.mp z)) (fun z=>⟨.ref a,H,I,rfl,q1 (r2.nil_iff.mp z)⟩) (fun z=>?_) (by rw [←r1.length,←r2.length];exact hz);refine⟨.ref s.heap.objs.size,_,I.laid (t':=s.toks) (o:=.tup (xs++ys)) (fun b ob q=>Heap.get?_push_of_some _ q) (Nat.le_refl _) ?_,rfl,q2 (fun w=>z (r2.nil_iff.mpr w)) _ (I.hok.fresh (Nat.le_refl _))⟩;exact⟨by rw [List.length_append];exact hz,_,r1.append r2,IsTup.new _ _⟩
end
noncomputable def ixN(n:Nat)(i:Int):Option Nat:=if 0≤i then (if i<n then some i.toNat else none)else if -(n:Int)≤i then some (i+n).toNat else none
noncomputable def atI{α:Type}(xs:List α)(i:Int):Option α:=(ixN xs.length i).bind fun j=>xs[j]?
theorem qiQ{n:Nat}{i:Int}{j:Nat}(h:ixN n i=some j):seqIndex? i n=some j∧j<n∧-(n:Int)≤i∧i<n:=by
 unfold ixN at h;by_cases h0:0≤i
 ·rw [if_pos h0]at h;by_cases h1:i<n
  ·rw [if_pos h1]at h;have e:i.toNat=j:=Option.some.inj h;exact⟨by rw [seqIndex_of h0 h1,e],by lia,by lia,h1⟩
  ·rw [if_neg h1]at h;cases h
 ·rw [if_neg h0]at h;by_cases h1:-(n:Int)≤i
  ·rw [if_pos h1]at h;have e:(i+n).toNat=j:=Option.some.inj h;exact⟨by rw [seqIndex_neg (by lia) h1,e],by lia,h1,by lia⟩
  ·rw [if_neg h1]at h;cases h
theorem qiP{α:Type}{xs:List α}{i:Int}{v:α}(h:atI xs i=some v):∃j,seqIndex? i xs.length=some j∧xs[j]? = some v∧j<xs.length∧-(xs.length:Int)≤i∧i<xs.length:=by
 unfold atI at h;cases e:ixN xs.length i with
 |none=>rw [e]at h;cases h
 |some j=>
  rw [e]at h;obtain⟨h1,h2,h3,h4⟩:=qiQ e;exact⟨j,h1,h,h2,h3,h4⟩
noncomputable def qjc(b:Expr):Prop:=∀o i,subscripted b false o i=operate [o,i] (getItem o i)
noncomputable def IxR(X:Cx)(r:R2):Prop:=
 ∀(value slice:Expr) (pins:List (Addr×Obj)) (s:Shared) (σ:St) (H:Hp) (x y:V) (v u:Value) (Q:VK),Inv X pins σ H s→RelV x v→RelV y u→r x y H Q →
  subscripted slice false v u=operate [v,u] (getItem v u)→wpAny (model X.prog X.w) X.A (subscriptTail value slice v u) (EP X pins σ Q) X.xe s
noncomputable def MtR(X:Cx)(id:String)(r:V→List V→Hp→VK→Prop):Prop:=
 ∀(pins:List (Addr×Obj)) (s:Shared) (σ:St) (H:Hp) (x:V) (xs:List V) (v:Value) (us:List Value) (Q:VK),Inv X pins σ H s→RelV x v→Vals xs us→r x xs H Q →
  wpAny (model X.prog X.w) X.A (call (.builtin id) (v::us)) (EP X pins σ Q) X.xe s
section
variable{X:Cx}{a b:Expr}{ta tb:TE}{pos:Pos}
theorem IxR.or{r r':R2}(h:IxR X r)(h':IxR X r'):IxR X (fun x y H Q=>r x y H Q∨r' x y H Q):=by
 intro value slice pins s σ H x y v u Q I rx ry q hs;rcases q with q|q
 ·exact h value slice pins s σ H x y v u Q I rx ry q hs
 ·exact h' value slice pins s σ H x y v u Q I rx ry q hs
theorem qtq{r:R2}(hr:IxR X r)(ha:PE X a ta)(hb:PE X b tb)(hs:qjc b):PE X (.Subscript a b pos) (tOp r ta tb):=by
 intro pins s σ H Q I h;exact Subscript_ (qmd ha hb I h fun v u s2 x y H2 I2 rx ry q=>hr a b pins s2 σ H2 x y v u Q I2 rx ry q (hs _ _))
noncomputable def qqN(K:PySem.W.Frag):R2:=fun x y H Q=>∃p xs i v,x=.ref p∧y=.int i∧SqL K H p xs∧atI xs i=some v∧Q v H
noncomputable def qrv(K:PySem.W.Frag):R2:=fun x y H Q=>∃p xs i v,x=.ref p∧y=.int i∧SqT K H p xs∧atI xs i=some v∧Q v H
theorem qup:IxR X (qqN X.K):=by
 intro value slice pins s σ H x y v u Q I rx ry h hs;obtain⟨p,xs,i,z,rfl,rfl,hq,he,q⟩:=h;cases rx;obtain⟨t,rfl⟩:=ry;obtain⟨its,r,pl,hz⟩:=I.list hq;obtain⟨j,h1,h2,h3,h4,h5⟩:=qiP he;obtain⟨w,ew,rw'⟩:=r.get h2;have hl:=r.length;have hn:=qdb;have fin:EP X pins σ Q w s:=⟨z,H,I,rw',q⟩
 by_cases h0:0≤i
 ·have hj:i.toNat=j:=by
   rw [seqIndex_of h0 h5]at h1;exact Option.some.inj h1
  exact item_listR pl.isList h0 (by lia) (by rw [hj];simpa using ew) fin hs
 ·have hj:(i+(its.toArray.size:Int)).toNat=j:=by
   rw [seqIndex_neg (by lia) h4]at h1;rw [List.size_toArray,←hl];exact Option.some.inj h1
  exact subscriptTail_builtinR (x:=w) pl.isList.typeIs slot_list_getitem.lookup
   (wpAny_getItem_list_neg (Q:=fun r s'=>r=w∧EP X pins σ Q r s') pl.isList (by lia) (by rw [List.size_toArray]<;>lia) (by lia) (by rw [hj];simpa using ew) ⟨rfl,fin⟩) hs
theorem qqG:IxR X (qrv X.K):=by
 intro value slice pins s σ H x y v u Q I rx ry h hs;obtain⟨p,xs,i,z,rfl,rfl,hq,he,q⟩:=h;cases rx;obtain⟨t,rfl⟩:=ry;obtain⟨its,r,pl,hz⟩:=I.tuple hq;obtain⟨j,h1,h2,h3,h4,h5⟩:=qiP he;obtain⟨w,ew,rw'⟩:=r.get h2;have hl:=r.length;have hn:=qdb;have fin:EP X pins σ Q w s:=⟨z,H,I,rw',q⟩
 exact subscriptTail_builtinR (x:=w) pl.typeIs slot_tuple_getitem.lookup
  (getItem_tuple (j:=j) (Q:=fun r s'=>r=w∧EP X pins σ Q r s') pl (by lia) (by lia) (by rw [List.size_toArray,←hl];exact h1) (by simpa using ew) ⟨rfl,fin⟩) hs
theorem qjE(its:List Value)(n j:Nat)(u:Value):Obj.mapSeq (·.setIfInBounds j u) {cls:=.type "list",data:=.seq its.toArray n}={cls:=.type "list",data:=.seq (its.set j u).toArray n}:=by
 simp [Obj.mapSeq]
theorem Inv.lst{pins:List (Addr×Obj)}{σ:St}{H:Hp}{s:Shared}{p:Addr}{xs:List V}(I:Inv X pins σ H s)(h:H p=some (.lst xs)) :
  ∃(its:List Value) (n:Nat),Vals xs its∧s.heap.get? p=some {cls:=.type "list",data:=.seq its.toArray n}∧xs.length≤sizeLine:=by
 obtain⟨z,its,n,r,e⟩:=I.hok p _ h;exact⟨its,n,r,e,z⟩
theorem Inv.lstUpd{pins:List (Addr×Obj)}{σ:St}{H:Hp}{s:Shared}{p:Addr}{xs ys:List V}{its its':List Value}{n n':Nat}{f:Obj→Obj}(I:Inv X pins σ H s)(h:H p=some (.lst xs))
  (ho:s.heap.get? p=some {cls:=.type "list",data:=.seq its.toArray n}) (hf:f {cls:=.type "list",data:=.seq its.toArray n}={cls:=.type "list",data:=.seq its'.toArray n'}) (r:Vals ys its') (hz:ys.length≤sizeLine) (t:Nat) :
  Inv X pins σ (upd H p (.lst ys)) {s with heap:=s.heap.update p f,toks:=t}:=by
 have e:(s.heap.update p f).get? p=some {cls:=.type "list",data:=.seq its'.toArray n'}:=by
  rw [Heap.get?_update_self f ho (by rw [hf]<;>rfl),hf]
 refine I.write (x:=p) (e:=p) (by rw [h];trivial) (.inl rfl) (fun b u hb q=>(Heap.get?_update_other _ _ (Ne.symm hb)).trans q) ⟨_,e⟩ ?_;exact⟨hz,its',n',r,e⟩
noncomputable def qoi:V→V→V→Hp→(Hp→Prop)→Prop:=fun o i v H Q=>∃p xs k j,o=.ref p∧i=.int k∧H p=some (.lst xs)∧ixN xs.length k=some j∧Q (upd H p (.lst (xs.set j v)))
theorem set_list:qsm X qoi:=by
 intro pins s σ H o i v ov iv u Q I ro ri rv h;obtain⟨p,xs,k,j,rfl,rfl,hp,hj,q⟩:=h;cases ro;obtain⟨t,rfl⟩:=ri;obtain⟨its,n,r,ho,hz⟩:=I.lst hp;obtain⟨h1,h2,h3,h4⟩:=qiQ hj;have hl:=r.length;have hn:=qdb;have I':Inv X pins σ (upd H p (.lst (xs.set j v))) {s with heap:=s.heap.update p (Obj.mapSeq (·.setIfInBounds j u))}:=
  I.lstUpd hp ho (qjE its n j u) (r.set rv j) (by rw [List.length_set];exact hz) s.toks
 by_cases h0:0≤k
 ·have hk:k.toNat=j:=by
   rw [seqIndex_of h0 h4]at h1;exact Option.some.inj h1
  exact PySem.W.ki_setAt ho h0 (by lia) (by rw [List.size_toArray,←hl];exact h4) (by rw [hk];exact⟨_,I',q⟩)
 ·have hk:(k+(its.toArray.size:Int)).toNat=j:=by
   rw [seqIndex_neg (by lia) h3]at h1;rw [List.size_toArray,←hl];exact Option.some.inj h1
  exact PySem.W.ki_setBack ho (by lia) (by rw [List.size_toArray,←hl];exact h3) (by lia) (by rw [hk];exact⟨_,I',q⟩)
theorem qhO(lo hi:Option Int)(n:Nat):(sliceBounds lo hi none n).1=((HT.sIx n 0 lo:Nat):Int)∧(sliceBounds lo hi none n).2.1=((HT.sIx n n hi:Nat):Int)∧(sliceBounds lo hi none n).2.2=1:=by
 refine⟨?_,?_,rfl⟩
 ·cases lo with
  |none=>simp [sliceBounds,HT.sIx]
  |some i=>
   simp only [sliceBounds,HT.sIx,Option.getD_none,show (1:Int)>0 by decide,if_true];by_cases h:i<0
   ·simp only [h,if_true]<;>lia
   ·simp only [h,if_false]<;>lia
 ·cases hi with
  |none=>simp [sliceBounds,HT.sIx]
  |some i=>
   simp only [sliceBounds,HT.sIx,Option.getD_none,show (1:Int)>0 by decide,if_true];by_cases h:i<0
   ·simp only [h,if_true]<;>lia
   ·simp only [h,if_false]<;>lia
theorem qgS(its:List Value)(lo hi:Option Int):slicePick its.toArray lo hi none=((its.drop (HT.sIx its.length 0 lo)).take (HT.sIx its.length its.length hi-HT.sIx its.length 0 lo)).toArray:=by
 obtain⟨h1,h2,h3⟩:=qhO lo hi its.toArray.size;unfold slicePick;rw [h1,h2,h3];simp only [sliceRange_one,pick_run,List.size_toArray]<;>rfl
noncomputable def qtX(K:PySem.W.Frag):V→Option Int→Option Int→Hp→VK→Prop:=fun x lo hi H Q=>∃a xs,x=.ref a∧SqL K H a xs∧∀p,H p=none→Q (.ref p) (upd H p (.lst (qdY xs lo hi)))
theorem qpk:SlR X (qtX X.K):=by
 intro pins s σ H x v vl vu lo hi sl Q I rx hs pl pu h;obtain⟨a,xs,rfl,hx,q⟩:=h;cases rx;obtain⟨its,r,ht,hz⟩:=I.list hx;have hlen:=r.length;refine⟨"list",_,slot_list_getitem.lookup,ht.isList.typeIs,?_⟩;refine wpAny_getItem_list_slice ht.isList hs pl pu .none (by simp) ?_ (by rw [List.size_toArray]<;>lia);rw [qgS,←hlen];refine⟨.ref s.heap.objs.size,_,I.laid (t':=s.toks) (o:=.lst (qdY xs lo hi)) (fun b ob q=>Heap.get?_push_of_some _ q) (Nat.le_refl _) ?_,rfl,q _ (I.hok.fresh (Nat.le_refl _))⟩;exact⟨Nat.le_trans (qev xs lo hi) hz,_,0,(r.drop (HT.sIx xs.length 0 lo)).take (HT.sIx xs.length xs.length hi-HT.sIx xs.length 0 lo),Heap.get?_push_size _ rfl⟩
theorem qhq:qx X (.builtin "len") (fun xs H Q=>∃p ys,xs=[.ref p]∧(SqL X.K H p ys∨SqT X.K H p ys)∧Q (.int ys.length) H):=by
 intro pins s σ H xs us Q I r h;obtain⟨p,ys,rfl,hq,q⟩:=h;obtain⟨u,rfl,rx⟩:=vals1 r;cases rx;have hn:=qdb;rcases hq with hq|hq
 ·obtain⟨its,r',pl,hz⟩:=I.list hq;have hlen:=r'.length;exact Calls.call_len_list pl.isList (by simp only [List.size_toArray]<;>lia) ⟨.int ys.length,H,I.tok _,⟨s.toks+1,by rw [List.size_toArray,hlen]⟩,q⟩
 ·obtain⟨its,r',pl,hz⟩:=I.tuple hq;have hlen:=r'.length;exact len_tuple pl (by simp only [List.size_toArray]<;>lia) ⟨.int ys.length,H,I.tok _,⟨s.toks+1,by rw [List.size_toArray,hlen]⟩,q⟩
theorem qx.or{f:Value}{r r':List V→Hp→VK→Prop}(h:qx X f r)(h':qx X f r'):qx X f (fun xs H Q=>r xs H Q∨r' xs H Q):=by
 intro pins s σ H xs us Q I rs q;rcases q with q|q
 ·exact h pins s σ H xs us Q I rs q
 ·exact h' pins s σ H xs us Q I rs q
theorem qhT:qx X (.type "list") (fun xs H Q=>∃p ys,xs=[.ref p]∧(SqL X.K H p ys∨SqT X.K H p ys)∧∀l,H l=none→Q (.ref l) (upd H l (.lst ys))):=by
 intro pins s σ H xs us Q I r h;obtain⟨p,ys,rfl,hq,q⟩:=h;obtain⟨u,rfl,rx⟩:=vals1 r;cases rx;have fin:∀(its:List Value),Vals ys its→ys.length≤sizeLine→∀(h':Heap) (c':Nat),(∀b o',s.heap.get? b=some o'→h'.get? b=some o') →
   h'.get? s.heap.objs.size=some {cls:=.type "list",dict:=none,data:=.seq its.toArray c',slots:=#[]}→EP X pins σ Q (.ref s.heap.objs.size) {s with heap:=h'}:=fun its r' hz h' c' kp e=>
  ⟨.ref s.heap.objs.size,_,I.laid (t':=s.toks) kp (Nat.le_refl _) (show zI X.prog X.w _ h' _ (.lst ys)from ⟨hz,its,c',r',e⟩),rfl,q _ (I.hok.fresh (Nat.le_refl _))⟩
 rcases hq with hq|hq
 ·obtain⟨its,r',pl,hz⟩:=I.list hq;have hlen:=r'.length;obtain⟨o,ho,hc,n,hd⟩:=pl.isList;exact call_list_seq p (.inl rfl) ho hc hd (fun h' c' kp e=>fin its r' hz h' c' kp e) (by simp only [List.size_toArray]<;>lia)
 ·obtain⟨its,r',pl,hz⟩:=I.tuple hq;have hlen:=r'.length;obtain⟨o,ho,hc,n,hd⟩:=pl;exact call_list_seq p (.inr rfl) ho hc hd (fun h' c' kp e=>fin its r' hz h' c' kp e) (by simp only [List.size_toArray]<;>lia)
theorem qgW:qx X (.type "tuple") (fun xs H Q=>∃p ys,xs=[.ref p]∧((SqL X.K H p ys∧∀l,H l=none→Q (.ref l) (upd H l (.tup ys)))∨(SqT X.K H p ys∧Q (.ref p) H))):=by
 intro pins s σ H xs us Q I r h;obtain⟨p,ys,rfl,h⟩:=h;obtain⟨u,rfl,rx⟩:=vals1 r;cases rx;rcases h with ⟨hq,q⟩|⟨hq,q⟩
 ·obtain⟨its,r',pl,hz⟩:=I.list hq;have hlen:=r'.length;refine call_tuple_list pl.isList (fun h' kp=>?_) (by simp only [List.size_toArray]<;>lia);have I1:Inv X pins σ H {s with heap:=h'}:=I.kept (t':=s.toks) kp;have I2:Inv X pins σ (upd H h'.objs.size (.tup ys)) {s with heap:=h'.push {cls:=.type "tuple",data:=.seq its.toArray}}:=
   I1.laid (t':=s.toks) (fun b o e=>Heap.get?_push_of_some _ e) (Nat.le_refl _) (show zI X.prog X.w _ _ _ (.tup ys)from ⟨hz,its,r',IsTup.new _ _⟩)
  exact⟨.ref h'.objs.size,_,I2,rfl,q _ (I1.hok.fresh (Nat.le_refl _))⟩
 ·obtain⟨its,r',pl,hz⟩:=I.tuple hq;exact call_tuple_same pl ⟨.ref p,H,I,rfl,q⟩
noncomputable def tyV(K:PySem.W.Frag)(T:String)(x:V)(H:Hp):Prop:=match x with
 | .str _=>T = "str"
 | .int _=>T = "int"
 | .ref p=>(T = "list"∧∃xs,SqL K H p xs)∨(T = "tuple"∧∃o,K.lookup p=some o∧o.cls=.type "tuple"∧o.dict=none) ∨
   (T = "dict"∧((∃kvs,H p=some (.dK kvs))∨∃kvs,H p=some (.dT kvs)))∨(T = "set"∧∃S n,H p=some (.set S n))
 |_=>False
theorem qrP{pins:List (Addr×Obj)}{σ:St}{H:Hp}{s:Shared}{T:String}{x:V}{v:Value}(I:Inv X pins σ H s)(r:RelV x v)(ty:tyV X.K T x H) :
  s.TypeIs v T∧∀a,v=.ref a→∃ob,s.heap.get? a=some ob∧ob.dict=none:=by
 cases x with
 |str z=>
  obtain⟨t,rfl⟩:=r;cases (show T = "str" from ty);exact⟨typeIs_str s z t,fun _ e=>nomatch e⟩
 |int i=>
  obtain⟨t,rfl⟩:=r;cases (show T = "int" from ty);exact⟨typeIs_int s i t,fun _ e=>nomatch e⟩
 |ref p=>
  cases r;rcases ty with ⟨rfl,xs,hq⟩|⟨rfl,o,hk,hc,hd⟩|⟨rfl,hk⟩|⟨rfl,S,n,hk⟩
  ·obtain⟨its,_,pl,_⟩:=I.list hq;refine⟨pl.isList.typeIs,fun a e=>?_⟩;cases e;obtain⟨o,n,e,c,hd,_⟩:=pl;exact⟨o,e,hd⟩
  ·refine⟨⟨o,I.kIn p o hk,hc⟩,fun a e=>?_⟩;cases e;exact⟨o,I.kIn _ o hk,hd⟩
  ·have z:∃o,s.heap.get? p=some o∧o.ExactDict:=by
    rcases hk with ⟨kvs,hk⟩|⟨kvs,hk⟩
    ·obtain⟨_,_,_,_,o,_,_,e,ex,_⟩:=I.hok p _ hk;exact⟨o,e,ex⟩
    ·obtain⟨_,_,_,_,o,_,_,e,ex,_⟩:=I.hok p _ hk;exact⟨o,e,ex⟩
   obtain⟨o,e,ex⟩:=z;refine⟨⟨o,e,ex.1⟩,fun a e2=>?_⟩;cases e2;exact⟨o,e,ex.2.1⟩
  ·obtain⟨o,_,_,_,e,ex,_⟩:=I.hok p _ hk;refine⟨⟨o,e,ex.1⟩,fun a e2=>?_⟩;cases e2;exact⟨o,e,ex.2.1⟩
 |_=>exact False.elim ty
noncomputable def tBM(K:PySem.W.Frag)(T:String)(r:V→List V→Hp→VK→Prop)(to:TE)(t:TA):TE:=fun σ H Q=>to σ H fun x H1=>tyV K T x H1∧t σ H1 fun xs H2=>r x xs H2 Q
variable{o e:Expr}{es:List Expr}{to:TE}{t:TA}{name:Str}{apos cpos:Pos}{T id:String}{r:V→List V→Hp→VK→Prop}
theorem qtr(pa:PlainAttrs T)(slot:Slot T name id)(hty:typeOf (.builtin id)=pure (.type "method_descriptor"))(hm:MtR X id r)(ho:PE X o to)(ha:PA X (e::es) t)
  (hbase:attributeBase o name X.env (eval o X.env)=eval o X.env:=by rfl)
  (hfew:((backTo cpos (starEach (e::es) X.env)).all (fun x=>!x.1)&&(backToKw cpos (keywordEach [] X.env)).all (fun x=>x.1.isSome)
   && decide ((e::es).length+([]:List Keyword).length+(if ([]:List Keyword).isEmpty then 0 else 1)<30))=true:=by rfl)
  (hline:(apos.endLine==cpos.line)=true:=by rfl) (hs:starEach (e::es) X.env=(false,eval e X.env)::starEach es X.env:=by rfl) (hplain:(backTo cpos (starEach es X.env)).any (·.1)=false:=by rfl) :
  PE X (.Call (.Attribute o name apos) (e::es) [] cpos) (tBM X.K T r to t):=by
 intro pins s σ H Q I h;refine wpAny_Call_method_late hbase hfew hline rfl (thn (ho pins s σ H _ I h) fun v s1 ⟨x,H1,I1,r1,ty,q1⟩=>?_);obtain⟨h1,h2⟩:=qrP I1 r1 ty;refine⟨T,id,pa,slot,hty,h1,h2,?_⟩;have hA:=ha cpos pins s1 σ H1 _ I1 q1;rw [hs]at hA ⊢;refine Calls.callWith_builtin (by show (false||(backTo cpos (starEach es X.env)).any (·.1))=false;rw [hplain]<;>rfl) (Calls.evalArgs_plain ?_);exact thn hA fun us s2 ⟨vs,H2,I2,r2,q2⟩=>hm pins s2 σ H2 x vs v us Q I2 r1 r2 q2
/- xs.append(e), list.index on a module's tuple .. are MtR facts of 06m -/
end
noncomputable def MtM(X:Cx)(id:String)(r:V→List V→Hp→VK→Prop):Prop:=
 ∀(pins:List (Addr×Obj)) (s:Shared) (σ:St) (H:Hp) (x:V) (xs:List V) (v:Value) (us:List Value) (Q:VK),Inv X pins σ H s→RelV x v→Vals xs us→r x xs H Q →
  wpAny (model X.prog X.w) X.A (call (.builtin id) (v::us)) (EP X pins σ Q) X.xe s
theorem Vals.one:∀{x:V}{us:List Value},Vals [x] us→∃u,us=[u]∧RelV x u
 |_,_,.cons r .nil=>⟨_,rfl,r⟩
theorem Vals.two:∀{x y:V}{us:List Value},Vals [x,y] us→∃u v,us=[u,v]∧RelV x u∧RelV y v
 |_,_,_,.cons r (.cons q .nil)=>⟨_,_,rfl,r,q⟩
theorem Vals.zero:∀{us:List Value},Vals [] us→us=[]
 |_,.nil=>rfl
section
variable{X:Cx}{pins:List (Addr×Obj)}{σ:St}{H:Hp}{s:Shared}{l b:Addr}{xs ys zs:List V}
theorem Inv.lset{its its':List Value}{n:Nat}{f:Array Value→Array Value}{t':Nat}(I:Inv X pins σ H s)(hH:H l=some (.lst xs))
  (e:s.heap.get? l=some {cls:=.type "list",data:=.seq its.toArray n}) (hf:f its.toArray=its'.toArray) (hv:Vals ys its') (hz:ys.length≤sizeLine) :
  Inv X pins σ (upd H l (.lst ys)) {s with heap:=s.heap.update l (Obj.mapSeq f),toks:=t'}:=by
 have q:=PySem.IsL.update e f;rw [hf]at q;refine I.write (x:=l) (e:=l) (by rw [hH];exact trivial) (.inl rfl) (fun b' u hb hu=>(Heap.get?_update_other s.heap (Obj.mapSeq f) (Ne.symm hb)).trans hu) ⟨_,q⟩ ?_;exact⟨hz,its',_,hv,q⟩
theorem Inv.lnew{its:List Value}{t':Nat}(I:Inv X pins σ H s)(hv:Vals ys its)(hz:ys.length≤sizeLine) :
  Inv X pins σ (upd H s.heap.objs.size (.lst ys)) {s with heap:=s.heap.push {cls:=.type "list",data:=.seq its.toArray},toks:=t'}:=
 I.laid (fun _ _ q=>Heap.get?_push_of_some _ q) (Nat.le_refl _) ⟨hz,its,0,hv,Heap.get?_push_size _ rfl⟩
theorem Inv.fresh(I:Inv X pins σ H s):H s.heap.objs.size=none:=I.hok.fresh (Nat.le_refl _)
theorem Inv.lstM(I:Inv X pins σ H s)(hH:H l=some (.lst xs)):xs.length≤sizeLine∧∃(its:List Value) (n:Nat),Vals xs its∧xs.length=its.length∧s.heap.get? l=some {cls:=.type "list",data:=.seq its.toArray n}:=by
 obtain⟨z,its,n,r,e⟩:=I.hok l _ hH;exact⟨z,its,n,r,r.length,e⟩
end
section
variable{X:Cx}
noncomputable def qop:V→List V→Hp→VK→Prop:=fun x vs H Q=>∃l xs y,x=.ref l∧vs=[y]∧H l=some (.lst xs)∧xs.length<sizeLine∧Q .non (upd H l (.lst (xs++[y])))
theorem qgM:MtM X "list.append" qop:=by
 intro pins s σ H x vs v us Q I rx rv h;obtain⟨l,xs,y,rfl,rfl,hH,hz,q⟩:=h;cases rx;obtain⟨u,rfl,ru⟩:=rv.one;obtain⟨z,its,n,r,hl,e⟩:=I.lstM hH;refine call_meets F.slot_list_append ⟨_,e,rfl⟩ F.entry_list_append (F.args_list_append_2 _ _) (PySem.list_append l its.toArray n u (by rw [List.size_toArray];lia)) ⟨e,?_⟩;refine⟨.non,_,I.lset (its':=its++[u]) hH e (by simp) (r.append (.cons ru .nil)) ?_,rfl,q⟩;rw [List.length_append,List.length_singleton];lia
end
section
variable{prog:Program}{w:World}{A:Around}{E:Value→Shared→Prop}{s:Shared}
set_option maxRecDepth 100000 in
end
section
variable{X:Cx}
end
end L2
namespace Att
open PySem PySem.W PySem.Calls PyProof.Rows
theorem qeZ{P:Params}{h:Heap}:∀(ns:List Int) (vs:List Value),WellAll P h vs (ns.map WData.int)→IntsAre vs ns:=by
 intro ns
 induction ns with
 |nil=>
  intro vs w;rw [List.map_nil]at w;cases w;exact .nil
 |cons n ns ih=>
  intro vs w;rw [List.map_cons]at w;cases w with
  |cons a b=>
   cases a;exact .cons _ _ (ih _ b)
theorem qlu{l:OpenLaw}{n:Nat}(hn:l.most=some n){P:Params}{h:Heap}{args:List WData}{vals:List Value}
  (hpre:l.row.toRowW.claim.pre args=true) (hwl:WellAll P h vals args) :
  ∃a vs ns,vals=[Value.ref a]∧args=[WData.list (ns.map WData.int)]∧h.get? a=some {cls:=.type "list",data:=.seq vs.toArray}∧IntsAre vs ns∧ns.length≤n:=by
 have hsh:WShape.hasAll [] args [.list .int]=true:=(pre_splitW hpre).1;have hc:l.pre.holds [] {args:=args}=true:=(pre_splitW hpre).2;obtain⟨d,r,rfl,h1,h2⟩:=hasAllW_cons hsh;obtain rfl:=hasAllW_nil h2;obtain⟨xs,rfl,h3⟩:=hasW_list h1;obtain⟨ns,rfl⟩:=items_int h3;have hlen:ns.length≤n:=by
  unfold OpenLaw.pre at hc;have h4:(WTm.not (.lt (.lit (.int (n:Int))) (.len (.arg 0)))).holds [] {args:=[.list (ns.map .int)]}=true:=by
   have h4:=(holds_andW hc).1;rw [hn]at h4;exact h4
  have h5:=condW_of h4 (w_not (w_lt w_lit (w_len_list (w_arg rfl))));rw [List.length_map]at h5;refine Nat.le_of_not_lt fun q=>?_
  have q':(n:Int)<((ns.length:Nat):Int):=by lia
  first
   | (rw [decide_eq_true q']at h5;exact absurd h5 (by decide))
   | (simp at h5;lia)
 cases hwl with
 |cons w1 w2=>
  cases w2;cases w1 with
  |list ho hall=>exact⟨_,_,ns,rfl,rfl,ho,qeZ ns _ hall,hlen⟩
theorem qlj(l:OpenLaw)(args:List WData):l.row.toRowW.claim.post args (.bool true) args=true:=
 postW_of (r:=l.row.toRowW) (X:=(true==true))
  (show WShape.has [] (.bool true) .bool=true by first|rfl|decide|simp [WShape.has,WShape.arms,WShape.armsAll])
  (show (WTm.eq .res (.lit (.bool true))).value [] {args:=args,res:=some (.bool true),after:=args}=some (.bool (true==true))from w_eq_bool (w_res rfl) w_lit) rfl
theorem qiG{l:OpenLaw}{n:Nat}{q:Program}{loose:List Str}{XP:(Str→Option Value)→Heap→Prop}{YP:World→Heap→Prop}{d:DefRec}
  (hn:l.most=some n) (hdf:d.params.defaults=[])
  (call:∀(w:World) (s₀ s₁:Shared) (mg mb:Str→Option Value) (fa:Addr) (o:Obj) (pm cd doc:Value) (a:Addr) (vs:List Value) (ns:List Int),
   Ground q loose [] XP w s₀ mg mb s₁.heap→YP w s₁.heap →
   s₁.heap.get? fa=some o→o.data=.func (docDef d.name d.params d.body d.scope pm cd doc)→s₁.heap.CodeRec cd d.name→mg d.name=some (.ref fa) →
   s₁.heap.get? a=some {cls:=.type "list",data:=.seq vs.toArray}→IntsAre vs ns→ns.length≤n→s₁.gens = #[] →
   codeAny (model l.prog w) callerA (.call (.ref fa) ⟨[.ref a],[]⟩) (fun r s'=>r=.ok (.ret (.bool true))∧OldK s₁.heap s'.heap∧s'.os=s₁.os∧AllBare s'.gens) s₁) :
  WalkO q loose XP YP l.row.toRowW d [] (fun f vs=>PySem.call f vs):=by
 intro w s₀ s₁ mg mb G Y fa o pm cd doc dV kV ho hd hcd hD hmg hg args vals as hpre hlay hrd hwl hlo;obtain rfl:dV=.none:=Dflts.none hD hdf;obtain rfl:kV=.none:=Dflts.noKw hD;obtain⟨a,vs,ns,rfl,rfl,hobj,hints,hlen⟩:=qlu hn hpre hwl;refine enter_call (codeAny_mono (call w s₀ s₁ mg mb fa o pm cd doc a vs ns G Y ho (fd_plain hd) hcd hmg hobj hints hlen hg) fun r s' hq=>?_);obtain⟨rfl,h2,h3,h4⟩:=hq;exact⟨.inl ⟨.bool true,.bool true,[],rfl,fun _=>rfl,.bool true,qlj l _,fun _=>⟨List.Pairwise.nil,fun _ hm=>(nomatch hm)⟩⟩,h2,h3,h4⟩
section
variable{prog:Program}{w:World}{A:Around}{E:Value→Shared→Prop}{s:Shared}{K:Frag}
end
end Att
namespace L2
open PySem PySem.Spec PyProof.Rows
theorem qgk:∀{vs:List Value}{ns:List Int},IntsAre vs ns→Vals (ns.map V.int) vs
 |_,_,.nil=>.nil
 |_,_,.cons n t h=>.cons ⟨t,rfl⟩ (qgk h)
noncomputable def qmB(H:Hp):Prop:=∀b,H b=none∨∃o xs,H b=some (.frz o (.lst xs))
theorem qnI{P:Program}{w:World}{K:PySem.W.Frag}{mg mb:Str→Option Value}{CX:CXT}{k:Nat}{fa a:Addr}{fd:FuncData}{x:Str}{sp:Sp}{s₁:Shared}{vs:List Value}{ns:List Int}
  (KX:K.In s₁.heap) (hns:s₁.heap.Ns mainGlobals mg) (hb:s₁.heap.Ns builtinsNs mb) (hbb:∀x:Str,x≠"__name__"→mb x=bootBuiltins x) (hlim:s₁.heap.NoLimit) (hg:s₁.gens = #[])
  (ha:s₁.heap.get? a=some {cls:=.type "list",data:=.seq vs.toArray}) (hi:IntsAre vs ns) (hl:ns.length≤sizeLine) (hr:qbB k callerA)
  (F:∀base:Heap,K.In base→base.Ns mainGlobals mg→qdZ P w K mg base CX k fa fd [x] sp) (hbind:∀(s:Shared) (u:Value),BindsTo s fd ⟨[u],[]⟩ [(x,u)])
  (hsp:∀H:Hp,qmB H→SqL K H a (ns.map V.int)→sp [.ref a] H (fun v _=>v=.bl true) fun _ _ _=>False)
  (hCX:∀H e s',CX [] H s₁ (fun _ _ _=>False) e s'→False) :
  codeAny (model P w) callerA (.call (.ref fa) ⟨[.ref a],[]⟩) (fun r s'=>r=.ok (.ret (.bool true))∧OldK s₁.heap s'.heap∧s'.os=s₁.os∧AllBare s'.gens) s₁:=by
 have rv:=qgk hi;have lenV:=hi.length
 -- from an abstract heap in which nothing but the script may be tracked
 have core:∀H:Hp,qmB H→SqL K H a (ns.map V.int)→HOk P w H s₁.heap→(∀b,H b≠none→b=a)→(H a≠none→K.lookup a=none) →
   codeAny (model P w) callerA (.call (.ref fa) ⟨[.ref a],[]⟩) (fun r s'=>r=.ok (.ret (.bool true))∧OldK s₁.heap s'.heap∧s'.os=s₁.os∧AllBare s'.gens) s₁:=by
  intro H hO hS hok hA hK;have base_of:∀{b:Addr}{o:Obj},s₁.heap.get? b=some o→H b=none→(qdp s₁.heap H).get? b=some o:=fun e n=>qnj e n
  have noA:∀{b:Addr}{o:Obj}{es:Array DictEntry}{ep:Nat},s₁.heap.get? b=some o→o.data=.dict es ep→H b=none:=fun {b o es ep} e d=>by
   cases q:H b with
   |none=>rfl
   |some u=>
    have e':b=a:=hA b (by rw [q];simp);subst e';rw [ha]at e;cases e;have d':Data.seq vs.toArray _=Data.dict es ep:=d;cases d'
  have nsK:∀{b:Addr}{m:Str→Option Value},s₁.heap.Ns b m→(qdp s₁.heap H).Ns b m:=fun {b m} ⟨o,es,ep,e,d,r⟩=>⟨o,es,ep,base_of e (noA e d),d,r⟩
  have hKb:K.In (qdp s₁.heap H):=fun b o e=>base_of (KX b o e) (by
   cases q:H b with
   |none=>rfl
   |some u=>
    have e':b=a:=hA b (by rw [q];simp);subst e';rw [hK (by rw [q];simp)]at e;cases e)
  have hM:Mod K mg (qdp s₁.heap H):=⟨hKb,nsK hns,⟨mb,nsK hb,hbb⟩,let ⟨mc,h1,h2⟩:=hlim;⟨mc,nsK h1,h2⟩⟩
  have e0:qhZ P w K mg (qdp s₁.heap H) callerA [] s₁ H:=⟨rfl,hM,fun b o e=>qoU e,Nat.le_of_eq (qlU _ _),trivial,fun b hb=>absurd (show b∈([]:List Addr)from hb) (by simp),hok,.of_eq hg⟩
  refine codeAny_mono ((F _ hKb (nsK hns)).run callerA [] s₁ H ⟨[.ref a],[]⟩ [.ref a] [.ref a] _ _ hr e0 (hbind s₁ (.ref a)) (.cons rfl .nil) (hsp H hO hS)) fun r s' h=>?_
  cases r with
  |error e=>exact(hCX H e s' h).elim
  |ok fl=>
   cases fl with
   |next=>exact False.elim h
   |brk=>exact False.elim h
   |cont=>exact False.elim h
   |ret u=>
    obtain⟨v,H',os,bare,un,hok',r',q⟩:=h;have q':v=.bl true:=q;subst q';obtain rfl:u=Value.bool true:=r';refine⟨rfl,OldK.of_keep fun b o e=>?_,os,bare⟩;cases q:H b with
    |none=>exact un.keep b o e q (by intro z;exact absurd (show b∈([]:List Addr)from z) (by simp)) (by simp)
    |some u=>
     rcases hO b with z|⟨ob,xs,z⟩
     ·rw [q]at z;cases z
     ·have z2:=un.frzs b ob _ z;obtain⟨e1,_⟩:=hok b _ z;obtain⟨e2,_⟩:=hok' b _ z2;rw [e]at e1;cases e1;exact e2
 cases hk:K.lookup a with
 |some o=>
  -- the script is one of the module's own objects
  have e:=KX a o hk;rw [ha]at e;cases e;refine core (fun _=>none) (fun _=>.inl rfl) (.inr ⟨_,vs.toArray,_,hk,rfl,rfl,rfl,by rw [List.size_toArray,lenV];exact hl,by simpa using rv⟩) (fun b u z=>by have z':(none:Option HO)=some u:=z;cases z') (fun b z=>absurd rfl z) fun z=>absurd rfl z
 |none=>
  refine core (fun b=>if b=a then some (.frz {cls:=.type "list",data:=.seq vs.toArray} (.lst (ns.map V.int)))else none) (fun b=>?_) (.inl (.inr ⟨{cls:=.type "list",data:=.seq vs.toArray},if_pos rfl⟩)) (fun b u z=>?_) (fun b z=>?_) fun _=>hk
  ·by_cases hb:b=a
   ·exact .inr ⟨_,_,if_pos hb⟩
   ·exact .inl (if_neg hb)
  ·by_cases hb:b=a
   ·have z':=(if_pos hb).symm.trans z;cases z';subst hb;exact⟨ha,by rw [List.length_map];exact hl,vs,_,rv,ha⟩
   ·have z':=(if_neg hb).symm.trans z;cases z'
  ·by_cases hb:b=a
   ·exact hb
   ·exact absurd (if_neg hb) z
theorem qoo{l:PySem.W.OpenLaw}{n k:Nat}{q:Program}{loose:List Str}{XP:(Str→Option Value)→Heap→Prop}{YP:World→Heap→Prop}{d:DefRec}{K:Params→PySem.W.Frag}{CX:World→CXT}{sp:World→Sp}{x:Str}
  (hn:l.most=some n) (hn2:n≤sizeLine) (hdf:d.params.defaults=[]) (hr:qbB k callerA)
  (hY:∀(w:World) (h:Heap),YP w h→(K w.params).In h)
  (F:∀(w:World) (mg:Str→Option Value) (fa:Addr) (h:Heap),(K w.params).In h→h.Ns mainGlobals mg→mg d.name=some (.ref fa) →
   ∃fd:FuncData,(∀(s:Shared) (u:Value),BindsTo s fd ⟨[u],[]⟩ [(x,u)]) ∧
    ∀base:Heap,(K w.params).In base→base.Ns mainGlobals mg→qdZ l.prog w (K w.params) mg base (CX w) k fa fd [x] (sp w))
  (hsp:∀(w:World) (H:Hp) (a:Addr) (ns:List Int),ns.length≤n→qmB H→SqL (K w.params) H a (ns.map V.int)→sp w [.ref a] H (fun v _=>v=.bl true) fun _ _ _=>False)
  (hCX:∀(w:World) (H:Hp) (s:Shared) (e:Value) (s':Shared),CX w [] H s (fun _ _ _=>False) e s'→False) :
  PySem.W.WalkO q loose XP YP l.row.toRowW d [] (fun f vs=>PySem.call f vs):=by
 refine Att.qiG hn hdf fun w s₀ s₁ mg mb fa o pm cd doc a vs ns G Y ho hd hcd hmg hobj hints hlen hg=>?_
 have KX:=hY w _ Y;obtain⟨fd,hb,hF⟩:=F w mg fa _ KX G.T.g hmg;exact qnI KX G.T.g G.T.b G.T.builtins G.T.nolimit hg hobj hints (Nat.le_trans hlen hn2) hr hF hb (fun H hO hS=>hsp w H a ns hlen hO hS) fun H e s'=>hCX w H s₁ e s'
end L2
/- THE LAST THEOREM (shape; LID, My.* are yours):
   My.Adr: a structure of the addresses that your layer names (classes, functions); My.Txt K t: a structure (Prop) of the equations over K;
   My.txt_mk : {K} {implicit addresses ..} (e1 : nsIn K mainGlobals "law" = some (some (.ref f))) (e2 : K.lookup f = some ⟨oc, od, .func (fnOf "law" "law" params body scope dV kV doc pm an cdv ct), sl⟩) (e3 : codeIn K cdv "law" = true) .. : ∃ t, My.Txt K t
set_option maxRecDepth 100000 in
set_option maxHeartbeats 0 in
theorem PySem.Challenge.cw_LID_holds : PySem.Challenge.rw_LID.Holds := by
 w_on; o_law; k_head; (case hw => w_witness2)
 k_fill
 refine L2.walk_of (l := PySem.Challenge.rw_LID) (n := 63) (k := 40) (x := "script") (CX := fun w => ..) (sp := fun _ => My.sp_law) rfl (by decide) rfl ⟨rfl, by decide, by decide⟩ (fun w h Y => PySem.W.kIn_of Y) ?F ?S ?C
 case F =>
  intro w mg fa h KX G hmg;have T : ∃ t, My.Txt (L2.KOf KX) t := by
   dsimp only [L2.KOf]                          -- K must stand as «<heap const> w.params» for k_is
   refine' My.txt_mk ?e1 ?e2 ?e3 ..
   (case e1 => PySem.W.k_is)                    -- in the order: a name -> its address -> its object -> its parts
   (case e2 => PySem.W.k_is)
   ..
  obtain ⟨t, T⟩ := T;have e0 := hmg.symm.trans (PySem.W.mg_of KX G T.law);cases e0                                       -- fa is the law's own address
  exact ⟨_, fun s u => .of_eq rfl, fun base kb nb => My.law_fn T kb nb⟩     -- if «.of_eq rfl» comes too early: refine' ⟨_, ?b, fun base kb nb => My.law_fn T kb nb⟩; exact fun s u => .of_eq rfl
 case S => exact fun w H a ns hl hO hS => ..
 case C => exact ..
(the tactic k_is has no namespace: write k_is) -/
namespace L2
open PySem PySem.Spec PyProof.Rows
noncomputable def zc(s:Stmt):Arguments:=match s with
 | .FunctionDef _ a _ _ _ _ _ _ _ _=>a
 |_=>{posonlyargs:=[],args:=[],vararg:=none,kwonlyargs:=[],kw_defaults:=[],kwarg:=none,defaults:=[]}
noncomputable def qal(s:Stmt):List Stmt:=match s with
 | .FunctionDef _ _ b _ _ _ _ _ _ _=>b
 |_=>[]
noncomputable def qZ(s:Stmt):Scope:=match s with
 | .FunctionDef _ _ _ _ _ _ sc _ _ _=>sc
 |_=>{kind:=.function,names:=[],isGenerator:=false,isCoroutine:=false}
abbrev E0:XK:=fun _ _ _=>False
structure Fun(K:PySem.W.Frag)(x qual:Str)(st:Stmt)(f:Addr)(fd:FuncData):Prop where
 ex:∃(oc:Value) (od:Option Addr) (kV doc pm:Value) (an:Option Addr) (cdv ct:Value) (osl:Array (Option Value)),
  fd=PySem.W.fnOf x qual (zc st) (qal st) (qZ st) .none kV doc pm an cdv ct∧K.lookup f=some ⟨oc,od,.func fd,osl⟩∧PySem.W.codeIn K cdv qual=true
 kp:PySem.W.keepIn K (.ref f)=true
section
variable{P:Program}{w:World}{K:PySem.W.Frag}{mg:Str→Option Value}{base:Heap}
theorem Fun.binds{x qual:Str}{st:Stmt}{f:Addr}{fd:FuncData}{ps:List Str}(F:Fun K x qual st f fd)
  (h:∀(kV doc pm:Value) (an:Option Addr) (cdv ct:Value) (us:List Value),us.length=ps.length→bindArgs (PySem.W.fnOf x qual (zc st) (qal st) (qZ st) .none kV doc pm an cdv ct) ⟨us,[]⟩=pure (ps.zip us)):Binds K fd ps []:=by
 obtain⟨oc,od,kV,doc,pm,an,cdv,ct,osl,rfl,lk,hcd⟩:=F.ex;exact .all (h kV doc pm an cdv ct)
theorem qls{x qual:Str}{st:Stmt}{f:Addr}{oc:Value}{od an:Option Addr}{osl:Array (Option Value)}{kV doc pm cdv ct:Value}(l:K.lookup f=some ⟨oc,od,.func (PySem.W.fnOf x qual (zc st) (qal st) (qZ st) .none kV doc pm an cdv ct),osl⟩)
  (c:PySem.W.codeIn K cdv qual=true) (k:PySem.W.keepIn K (.ref f)=true):Fun K x qual st f (PySem.W.fnOf x qual (zc st) (qal st) (qZ st) .none kV doc pm an cdv ct):=⟨⟨oc,od,kV,doc,pm,an,cdv,ct,osl,rfl,l,c⟩,k⟩
end
section
variable{X:Cx}
end
noncomputable def qf(H H':Hp):Prop:=∀b o,H b=some o→H' b=some o
theorem qf.refl(H:Hp):qf H H:=fun _ _ h=>h
theorem qf.trans{H H1 H2:Hp}(a:qf H H1)(b:qf H1 H2):qf H H2:=fun c o h=>b c o (a c o h)
theorem qf.free{H H':Hp}(e:qf H H'){l:Addr}(h:H' l=Option.none):H l=Option.none:=by
 cases q:H l with
 |none=>rfl
 |some o=>
  rw [e l o q]at h;cases h
theorem qf.seq{K:PySem.W.Frag}{H H':Hp}{a:Addr}{xs:List V}(e:qf H H')(h:SqL K H a xs):SqL K H' a xs:=by
 rcases h with (h|⟨o,h⟩)|h
 ·exact .inl (.inl (e _ _ h))
 ·exact .inl (.inr ⟨o,e _ _ h⟩)
 ·exact .inr h
noncomputable def qaP(elt:Expr)(gens:List Comprehension)(scope:Scope)(pos:Pos)(d:Nat)(acc:Value)(env:Env):Sem Unit:=
 match gens[d+1]? with
 |some g'=>do
  let x ←eval g'.iter env
  standAt g'.iter.pos
  let x ←foldedSetIterable g'.iter env x
  let _ ←runOwn (.compStart (.ListComp elt gens scope pos) (d+1) (←holding [x] (pyIter x)) acc env) env
  pure ()
 |none=>do
  let _ ←call (.builtin "list.append") [acc,←eval elt env]
  pure ()
theorem qhn{elt:Expr}{gens:List Comprehension}{scope:Scope}{pos:Pos}{d:Nat}{g:Comprehension}{it acc:Value}{env:Env}(hg:gens[d]? = some g)(ha:g.is_async=0)
  (hn:∀g',gens[d+1]? = some g'→g'.is_async=0) :
  compTurn (.ListComp elt gens scope pos) d it acc env=(do
   standAt g.iter.pos
   match ←pyNext it with
   |none=>pure (.done .next)
   |some v=>
    letOwnedTupleGo g.target it v
    assign g.target env v
    let ok ←(forIn g.ifs true fun c r=>if r=true then do let ok ←isTrue c env (eval c env);pure (ForInStep.yield ok)else pure (ForInStep.yield r))
    if ok then
     qaP elt gens scope pos d acc env
     again (.compLoop (.ListComp elt gens scope pos) d it acc env)
    else again (.compLoop (.ListComp elt gens scope pos) d it acc env)):=by
 unfold compTurn;cases e:gens[d+1]? with
 |none=>
  simp only [hg,ha,e,qaP]
  rfl
 |some g'=>
  have ha':=hn g' e;simp only [hg,ha,e,ha',qaP];simp only [bne_self_eq_false,Bool.false_eq_true,if_false,bind_assoc,pure_bind]
  rfl
theorem qdo{prog:Program}{w:World}{A:Around}{R:Result→Shared→Prop}{s:Shared}{elt:Expr}{gens:List Comprehension}{scope:Scope}{pos:Pos}{d:Nat}{g:Comprehension}{it acc:Value}{env:Env}
  (hg:gens[d]? = some g) (ha:g.is_async=0)
  (h0:codeAny (model prog w) A (.compLoop (.ListComp elt gens scope pos) d it acc env) R s)
  (h:wpAny (model prog w) A (pyIter it) (fun it' s'=>codeAny (model prog w) A (.compLoop (.ListComp elt gens scope pos) d it' acc env) R s')
   (notedBy (model prog w) A env fun x s'=>R (.error x) s') s) :
  codeAny (model prog w) A (.compStart (.ListComp elt gens scope pos) d it acc env) R s:=by
 refine codeAny_of_tree ?_;show wpAny _ _ ((compStart (.ListComp elt gens scope pos) d it acc env).onRaise (fun x=>do noteFrame x env;standAt theWindowsPlace)) _ _ s;refine wpAny_notedAt ?_;unfold compStart;have e2:(clausesOf (.ListComp elt gens scope pos))[d]? = some g:=hg;simp only [e2];rw [if_neg (by show ¬ (g.is_async != 0)=true;simp [ha])];show wpAny _ _ (ask>>=_) _ _ s;refine wpAny_bind (wpAny_askSetting (wpAny_ite ?_));split
 ·first
   |exact wpAny_bind (wpAny_pure (wpAny_pure (And.intro rfl h0)))
   |exact wpAny_pure (And.intro rfl h0)
 ·first
   |exact wpAny_bind (wpAny_rule (wpAny_bind (wpAny_standAt (wpAny_bind (wpAny_mono h (fun it' s' h'=>wpAny_pure (And.intro rfl h')) fun _ _ x=>x)))))
   | (refine wpAny_bind (wpAny_rule ?_);show wpAny _ _ (standAt g.iter.pos>>=_) _ _ s;exact wpAny_bind (wpAny_standAt (wpAny_bind (wpAny_mono h (fun it' s' h'=>wpAny_pure (And.intro rfl h')) fun _ _ x=>x))))
noncomputable def PTs(Y:Cx)(ifs:List Expr)(t:TT):Prop:=
 ∀(pins:List (Addr×Obj)) (s:Shared) (σ:St) (H:Hp) (Q:Bool→Hp→Prop),Inv Y pins σ H s→t σ H Q →
  wpAny (model Y.prog Y.w) Y.A (forIn ifs true fun c r=>if r=true then do let ok ←isTrue c Y.env (eval c Y.env);pure (ForInStep.yield ok)else pure (ForInStep.yield r)) (TP Y pins σ Q) Y.xe s
noncomputable def qun:TT:=fun _ H Q=>Q true H
theorem qpU{Y:Cx}:PTs Y [] qun:=fun _ _ _ H _ I h=>wpAny_tests_nil ⟨H,I,h⟩
theorem qpI{Y:Cx}{c:Expr}{t:TT}(hc:PT Y c t):PTs Y [c] t:=fun pins s σ H Q I h=>wpAny_tests_one (hc pins s σ H Q I h)
noncomputable def PB(Y:Cx)(m:Sem Unit)(t:TS):Prop:=
 ∀(pins:List (Addr×Obj)) (s:Shared) (σ:St) (H:Hp) (D:Ends),Inv Y pins σ H s→t D σ H →
  wpAny (model Y.prog Y.w) Y.A m (fun _ s'=>∃σ' H',Inv Y pins σ' H' s'∧D.nx σ' H') Y.xe s
section
variable{Y:Cx}{elt:Expr}{gens:List Comprehension}{scope:Scope}{pos:Pos}{d:Nat}
noncomputable def qhg(acc:Addr)(te:TE):TS:=fun D σ H=>te σ H fun y H1=>∃xs,H1 acc=some (.lst xs)∧xs.length<sizeLine∧D.nx σ (upd H1 acc (.lst (xs++[y])))
theorem qji{acc:Addr}{te:TE}(hn:gens[d+1]? = none)(he:PE Y elt te):PB Y (qaP elt gens scope pos d (.ref acc) Y.env) (qhg acc te):=by
 intro pins s σ H D I h;unfold qaP;rw [hn];refine wpAny_bind (thn (he pins s σ H _ I h) fun u s1 ⟨y,H1,I1,r1,xs,hx,hz,q⟩=>?_);refine wpAny_bind (thn (qgM pins s1 σ H1 (.ref acc) [y] (.ref acc) [u] (fun _ H'=>D.nx σ H') I1 rfl (.cons r1 .nil) ⟨acc,xs,y,rfl,rfl,hx,hz,q⟩) fun _ s2 ⟨_,H2,I2,_,q2⟩=>?_);exact wpAny_pure ⟨σ,H2,I2,q2⟩
theorem qle{g:Comprehension}{it:Addr}{acc:Value}{fp:List Addr}{tn:Nat→Heap→Prop}{J:It}{tg:TG}{tt:TT}{tb:TS}(hc:Y.calm=true)(hx:∀e s,¬ Y.xe e s)(hg:gens[d]? = some g)(ha:g.is_async=0)
  (hn:∀g',gens[d+1]? = some g'→g'.is_async=0) (T:Turn Y.prog Y.w Y.K g.target J fp it tn) (pg:PG Y g.target tg) (pt:PTs Y g.ifs tt) (pb:PB Y (qaP elt gens scope pos d acc Y.env) tb)
  {pins:List (Addr×Obj)}{s:Shared}{σ:St}{H:Hp}{D:Ends} (I:Inv Y pins σ H s) (st:tn 0 s.heap) (fr:∀b∈fp,qbS Y pins H b)
  (h:∃W:Nat→Nat→St→Hp→Prop,(∃m,W 0 m σ H)∧∀i m σ H,W i m σ H →
   (J.stop i H∧D.nx σ H)∨(J.go i H∧∃N:St→Hp→Prop,(∀σ' H',N σ' H'→∃m',m'<m∧W (i+1) m' σ' H')∧∀x H',J.yld i H x H'→tg x σ H' fun σ2 H2=>qkw tt tb qfc {D with nx:=N,ct:=N,bk:=D.nx} σ2 H2)) :
  codeAny (model Y.prog Y.w) Y.A (.compLoop (.ListComp elt gens scope pos) d (.ref it) acc Y.env) (fun r s'=>r=.ok .next∧∃σ' H',Inv Y pins σ' H' s'∧D.nx σ' H') s:=by
 obtain⟨W,⟨m0,w0⟩,turn⟩:=h;have stat:∀{H':Hp},(∀b∈fp,H' b=none)→∀b∈fp,qbS Y pins H' b:=fun hn b hb=>⟨hn b hb,(fr b hb).2⟩
 refine codeAny_loop rfl (fun n s'=>∃i σ' H',Inv Y pins σ' H' s'∧tn i s'.heap∧(∀b∈fp,H' b=none)∧W i n σ' H') ?_ m0 ⟨0,σ,H,I,st,fun b hb=>(fr b hb).1,w0⟩;rintro n s3 ⟨i,σ3,H3,I3,st3,fr3,w3⟩;show wpAny _ Y.A ((compTurn (.ListComp elt gens scope pos) d (.ref it) acc Y.env).onRaise (fun x=>do noteFrame x Y.env;theTreesLotGoes x)) _ _ s3;refine wpAny_noted ?_;rw [qhn hg ha hn];have nox:∀{E:Value→Shared→Prop} (e:Value) (s:Shared),Y.xe e s→E e s:=fun e s z=>absurd z (hx e s)
 refine wpAny_bind (wpAny_standAt ?_);rcases turn i n σ3 H3 w3 with ⟨stop,qn⟩|⟨go,N,hN,step⟩
 ·refine wpAny_bind (thn (T.done Y rfl rfl rfl hc i pins s3 σ3 H3 _ I3 (stat fr3) st3 stop) fun r s4 ⟨hr,I4⟩=>?_);subst hr;exact wpAny_pure ⟨rfl,σ3,H3,I4,qn⟩
 ·refine wpAny_bind (thn (T.item Y rfl rfl rfl hc i pins s3 σ3 H3 _ I3 (stat fr3) st3 go) fun r s4 ⟨u,hr,h4⟩=>?_);subst hr;refine wpAny_bind (thn h4 fun _ s5 ⟨x,H5,I5,r5,y5,st5,fr5⟩=>?_);have I5':=I5.pinned (stat fr5) (T.obj _ _ st5);refine wpAny_bind (wpAny_mono (pg _ s5 σ3 H5 x u _ I5' r5 (step x H5 y5)) (fun _ s6 ⟨σ6,H6,I6,q6⟩=>?_) nox);have again:∀{s7:Shared}{σ7:St}{H7:Hp},Inv Y (pins++qeb fp s5.heap) σ7 H7 s7→N σ7 H7→∃m,m<n∧∃i σ' H',Inv Y pins σ' H' s7∧tn i s7.heap∧(∀b∈fp,H' b=none)∧W i m σ' H':=fun {s7 σ7 H7} I7 n7=>by
   obtain⟨m',hm,w7⟩:=hN σ7 H7 n7;refine⟨m',hm,i+1,σ7,H7,I7.unpinned,T.keep _ _ _ st5 fun b hb o e=>(I7.pin (b,o) (List.mem_append_right _ (List.mem_append_right _ (qcu hb e)))).1,fun b hb=>?_,w7⟩;obtain⟨o,e,d⟩:=T.obj _ _ st5 b hb;exact(I7.pin (b,o) (List.mem_append_right _ (List.mem_append_right _ (qcu hb e)))).2.1
  refine wpAny_bind (wpAny_mono (pt _ s6 σ6 H6 _ I6 q6) (fun b s7 ⟨H7,I7,q7⟩=>?_) nox);cases b with
  |true=>
   rw [if_pos rfl];rw [if_pos rfl]at q7;refine wpAny_bind (wpAny_mono (pb _ s7 σ6 H7 _ I7 q7) (fun _ s8 ⟨σ8,H8,I8,q8⟩=>?_) nox);exact wpAny_pure ⟨rfl,again I8 q8⟩
  |false=>
   rw [if_neg Bool.false_ne_true];rw [if_neg Bool.false_ne_true]at q7;exact wpAny_pure ⟨rfl,again I7 q7⟩
end
theorem qds{env:Env}:∀{names:List (Str×NameKind)}{cs:List (Str×Addr)},(∀x∈names,x.2=.free→∃c,env.cells.lookup x.1=some c) →
  ∃cl,(forIn names cs (fun(x:Str×NameKind) (cs:List (Str×Addr))=>if (x.2==NameKind.free)=true then do let c ←cellOf env x.1;pure (ForInStep.yield ((x.1,c)::cs))else pure (ForInStep.yield cs)):Sem (List (Str×Addr)))=pure cl ∧
   (∀x c,cl.lookup x=some c→env.cells.lookup x=some c∨cs.lookup x=some c)∧(∀x,(∃c,cs.lookup x=some c)→∃c,cl.lookup x=some c)∧∀x∈names,x.2=.free→∃c,cl.lookup x.1=some c
 | [],cs,_=>⟨cs,by rw [List.forIn_nil],fun _ _ h=>.inr h,fun _ h=>h,fun _ h=>nomatch h⟩
 | (n,k)::r,cs,h=>by
  rw [List.forIn_cons];by_cases hk:k=.free
  ·subst hk;obtain⟨c,hc⟩:=h (n,.free) List.mem_cons_self rfl;have e:cellOf env n=pure c:=by
    have hc':env.cells.lookup n=some c:=hc;unfold cellOf;rw [hc']
   obtain⟨cl,e1,e2,e3,e4⟩:=qds (names:=r) (cs:=(n,c)::cs) fun x hx=>h x (List.mem_cons_of_mem _ hx)
   refine⟨cl,?_,fun x c' q=>?_,fun x q=>e3 x ?_,fun x hx hf=>?_⟩
   ·simp only [beq_self_eq_true,if_true,e,pure_bind];exact e1
   ·rcases e2 x c' q with z|z
    ·exact .inl z
    ·rw [List.lookup_cons]at z;by_cases hxn:(x==n)=true
     ·rw [hxn]at z;have:x=n:=by simpa using hxn
      subst this;cases z;exact .inl hc
     ·have hxn':(x==n)=false:=by simpa using hxn
      rw [hxn']at z;exact .inr z
   ·rw [List.lookup_cons];by_cases hxn:(x==n)=true
    ·rw [hxn];exact⟨c,rfl⟩
    ·have hxn':(x==n)=false:=by simpa using hxn
     rw [hxn'];exact q
   ·rcases List.mem_cons.mp hx with z|z
    ·subst z;exact e3 n ⟨c,by rw [List.lookup_cons,beq_self_eq_true]⟩
    ·exact e4 x z hf
  ·have hk':(k==NameKind.free)=false:=by simpa using hk
   obtain⟨cl,e1,e2,e3,e4⟩:=qds (names:=r) (cs:=cs) fun x hx=>h x (List.mem_cons_of_mem _ hx)
   refine⟨cl,?_,e2,e3,fun x hx hf=>?_⟩
   ·simp only [hk',Bool.false_eq_true,if_false,pure_bind];exact e1
   ·rcases List.mem_cons.mp hx with z|z
    ·subst z;exact absurd hf hk
    ·exact e4 x z hf
theorem qdL{env:Env}{scope:Scope}(h:∀x∈scope.names,x.2=.free→∃c,env.cells.lookup x.1=some c) :
  ∃cl,closureFor scope env=pure cl∧(∀x c,cl.lookup x=some c→env.cells.lookup x=some c)∧∀x∈scope.names,x.2=.free→∃c,cl.lookup x.1=some c:=by
 obtain⟨cl,e1,e2,_,e4⟩:=qds (env:=env) (names:=scope.names) (cs:=[]) h;refine⟨cl,?_,fun x c q=>(e2 x c q).elim (fun z=>z) (fun z=>by simp at z),e4⟩;have e:closureFor scope env=(forIn scope.names [] (fun(x:Str×NameKind) (cs:List (Str×Addr))=>if (x.2==NameKind.free)=true then do let c ←cellOf env x.1;pure (ForInStep.yield ((x.1,c)::cs))else pure (ForInStep.yield cs))>>=fun cs=>pure cs):=rfl;rw [e,e1,pure_bind]
theorem qaV{env:Env}:∀{names:List (Str×NameKind)}{x:Str}{k:NameKind},
  (names.map fun(n,k)=>if (k==NameKind.free&&env.scope.kind==.function&&env.kindOf n==some .cell)then (n,NameKind.cell)else (n,k)).lookup x=some k →
  names.lookup x=some k∨(k=.cell∧names.lookup x=some .free)
 | [],_,_,h=>by simp at h
 | (n,k')::r,x,k,h=>by
  have ih:=@qaV env r x k;have h':List.lookup x ((if (k'==NameKind.free&&env.scope.kind==.function&&env.kindOf n==some .cell)=true then (n,NameKind.cell)else (n,k'))::r.map (fun(n,k)=>if (k==NameKind.free&&env.scope.kind==.function&&env.kindOf n==some .cell)then (n,NameKind.cell)else (n,k)))=some k:=h;cases hx:x==n with
  |true=>
   by_cases hc:(k'==NameKind.free&&env.scope.kind==.function&&env.kindOf n==some .cell)=true
   ·rw [if_pos hc]at h';simp only [List.lookup_cons,hx]at h';cases h';have:k'=.free:=by
     have z:(k'==NameKind.free)=true:=by
      cases q:(k'==NameKind.free)with
      |true=>rfl
      |false=>rw [q]at hc;simp at hc
     simpa using z
    subst this;exact .inr ⟨rfl,by simp [List.lookup_cons,hx]⟩
   ·rw [if_neg hc]at h';simp only [List.lookup_cons,hx]at h';cases h';exact .inl (by simp [List.lookup_cons,hx])
  |false=>
   have h2:(r.map (fun(n,k)=>if (k==NameKind.free&&env.scope.kind==.function&&env.kindOf n==some .cell)then (n,NameKind.cell)else (n,k))).lookup x=some k:=by
    by_cases hc:(k'==NameKind.free&&env.scope.kind==.function&&env.kindOf n==some .cell)=true
    ·rw [if_pos hc]at h';simpa only [List.lookup_cons,hx]using h'
    ·rw [if_neg hc]at h';simpa only [List.lookup_cons,hx]using h'
   rcases ih h2 with z|z
   ·exact .inl (by simpa only [List.lookup_cons,hx]using z)
   ·exact .inr ⟨z.1,by simpa only [List.lookup_cons,hx]using z.2⟩
noncomputable def qhJ(names:List (Str×NameKind)):List Str:=(names.filter fun y=>y.2==.cell).map (·.1)
theorem qcj:∀(names:List (Str×NameKind)) (n:Nat) (a b:List (Str×Addr)),cellsFrom n names (a++b)=cellsFrom n names a++b
 | [],_,_,_=>rfl
 | (x,k)::r,n,a,b=>by
  unfold cellsFrom;split
  ·exact qcj r (n+1) ((x,n)::a) b
  ·exact qcj r n a b
theorem qcm{x:Str}{c:Addr}:∀{names:List (Str×NameKind)}{n:Nat}{a:List (Str×Addr)},(x,c)∈cellsFrom n names a→(x,c)∈a∨(x,NameKind.cell)∈names
 | [],_,_,h=>.inl h
 | (y,k)::r,n,a,h=>by
  unfold cellsFrom at h;split at h
  ·rename_i hk
   rcases qcm h with z|z
   ·rcases List.mem_cons.mp z with q|q
    ·have hk:k=.cell:=by simpa using hk
     cases q;exact .inr (by rw [hk];exact List.mem_cons_self)
    ·exact .inl q
   ·exact .inr (List.mem_cons_of_mem _ z)
  ·rcases qcm h with z|z
   ·exact .inl z
   ·exact .inr (List.mem_cons_of_mem _ z)
theorem qes{M:Model}{A:Around}{E:Value→Shared→Prop}{s:Shared}{scope:Scope}{globals:Addr}{cl:List (Str×Addr)}{qual:Str}{env:Env}{Q:Env→Shared→Prop}
  (hQ:∀h₁,h₁.Ns s.heap.objs.size (fun _=>none)→(∀b o,s.heap.get? b=some o→h₁.get? b=some o)→CellsOk h₁ (s.heap.objs.size+1) (cellsFrom (s.heap.objs.size+1) scope.names []) →
   Q (newEnv scope s.heap.objs.size globals (cellsFrom (s.heap.objs.size+1) scope.names []++cl) qual none .none (some env) builtinsNs) {s with heap:=h₁}) :
  wpAny M A (newFunctionEnv scope globals cl [] qual none .none (some env)) Q E s:=by
 simp only [newFunctionEnv,Option.isSome_some,if_true];refine wpAny_bind (wpAny_alloc ?_);refine wpAny_bind (wpAny_layCells _ (fun name kind cells=>by cases hkc:kind==NameKind.cell<;>simp [hkc]) _ _ _ _ ?_);have ok:=cellsFrom_ok scope.names (s.heap.push {cls:=.type "dict",data:=.dict #[]}) (s.heap.objs.size+1) [] ⟨fun _ _ hm=>(nomatch hm),List.Pairwise.nil⟩ (by rw [Heap.size_push];exact Nat.le_refl _);rw [Heap.size_push]at ok;rw [show ({s with heap:=s.heap.push {cls:=.type "dict",data:=.dict #[]}}:Shared).heap.objs.size=s.heap.objs.size+1 from Heap.size_push ..];rw [show cl=[]++cl from rfl,qcj];rw [List.forIn_nil];exact wpAny_bind (wpAny_pure (wpAny_pure (hQ _ ((Heap.Ns.new s.heap (.type "dict")).keeps (pushCells_keeps _ _)) (fun b o e=>pushCells_keeps _ _ b o (Heap.get?_push_of_some _ e)) ok)))
noncomputable def zz(X:Cx)(NY:List Str)(scope:Scope)(cl:List (Str×Addr))(C:Addr)(s₀:Shared)(H₀:Hp)(fp:List Addr):Cx where
 prog:=X.prog
 w:=X.w
 K:=X.K
 mg:=X.mg
 base:=X.base
 A:=X.A
 N:=NY
 s₀:=s₀
 H₀:=H₀
 env:=compEnvC scope (cellsFrom (C+1) scope.names []++cl) C X.env
 outer:=X.stack
 stack:=X.stack
 ex:=fp
 fn:=fun x=>(qhJ scope.names).contains x
 calm:=X.calm
 pn:=[]
 xe:=fun _ _=>False
noncomputable def caps(cap:List (Option Nat))(σ:St):St:=cap.map fun o=>o.bind fun j=>(σ[j]?).join
noncomputable def qoc(X:Cx)(NY:List Str)(cap:List (Option Nat))(scope:Scope):Prop:=
 cap.length=NY.length∧∀(i j:Nat),cap[i]? = some (some j)→∃x,NY[i]? = some x∧X.N[j]? = some x∧scope.names.lookup x=some .free∧(X.env.kindOf x=some .cell∨X.env.kindOf x=some .free)
structure zT(X:Cx)(NY:List Str)(cap:List (Option Nat))(scope:Scope):Prop where
 kind:scope.kind=.function
 cells:∀y∈scope.names,y.2=.cell→scope.names.lookup y.1=some .cell
 names:∀y∈scope.names,y.2=.local→scope.names.lookup y.1=some .local
 free:∀y∈scope.names,y.2=.free→X.env.kindOf y.1=some .cell∨X.env.kindOf y.1=some .free
 cap:qoc X NY cap scope
theorem qmQ{cap:List (Option Nat)}{σ:St}{i:Nat}{v:V}(h:(caps cap σ)[i]? = some (some v)):∃j,cap[i]? = some (some j)∧σ[j]? = some (some v):=by
 unfold caps at h;rw [List.getElem?_map]at h;cases e:cap[i]? with
 |none=>rw [e]at h;simp at h
 |some o=>
  rw [e]at h;cases o with
  |none=>simp at h
  |some j=>
   refine⟨j,rfl,?_⟩;have h':(σ[j]?).join=some v:=by simpa using h
   cases q:σ[j]? with
   |none=>rw [q]at h';cases h'
   |some z=>rw [q]at h';exact congrArg some h'
theorem qnJ{X:Cx}{pins:List (Addr×Obj)}{σ:St}{H:Hp}{s:Shared}{NY:List Str}{cap:List (Option Nat)}{scope:Scope}{cl:List (Str×Addr)}{fp:List Addr}{h₁:Heap}{m:Str→Option Value}
  (I:Inv X pins σ H s) (S:zT X NY cap scope) (hsub:∀x c,cl.lookup x=some c→X.env.cells.lookup x=some c) (hall:∀x∈scope.names,x.2=.free→∃c,cl.lookup x.1=some c)
  (hf:∀b∈fp,qbS X pins H b) (hlt:∀b∈fp,b<s.heap.objs.size) (hn:h₁.Ns s.heap.objs.size m) (hk:∀b o,s.heap.get? b=some o→h₁.get? b=some o) (hcs:CellsOk h₁ (s.heap.objs.size+1) (cellsFrom (s.heap.objs.size+1) scope.names [])) {tk:Nat} :
  Inv (zz X NY scope cl s.heap.objs.size s H fp) [] (caps cap σ) H {s with heap:=h₁,toks:=tk}:=by
 have relx:∀x,(compEnvC scope (cellsFrom (s.heap.objs.size+1) scope.names []++cl) s.heap.objs.size X.env).kindOf x=some .cell∨(compEnvC scope (cellsFrom (s.heap.objs.size+1) scope.names []++cl) s.heap.objs.size X.env).kindOf x=some .free→scope.names.lookup x=some .free∨scope.names.lookup x=some .cell:=fun x hx=>by
  rcases hx with q|q
  ·rcases qaV (env:=X.env) (names:=scope.names) (x:=x) (k:=.cell) q with z|z
   ·exact .inr z
   ·exact .inl z.2
  ·rcases qaV (env:=X.env) (names:=scope.names) (x:=x) (k:=.free) q with z|z
   ·exact .inl z
   ·exact .inl z.2
 have cnew:∀x c,cl.lookup x=some c→c<s.heap.objs.size:=fun x c e=>by
  obtain⟨v,q⟩:=I.cell x c (hsub x c e);exact q.lt
 -- a cell is one of its own, or one from around
 have two:∀x c,(cellsFrom (s.heap.objs.size+1) scope.names []++cl).lookup x=some c→(x,c)∈cellsFrom (s.heap.objs.size+1) scope.names []∨cl.lookup x=some c:=fun x c e=>by
  rw [List.lookup_append]at e;cases q:(cellsFrom (s.heap.objs.size+1) scope.names []).lookup x with
  |none=>rw [q]at e;exact .inr e
  |some c'=>rw [q]at e;cases e;exact .inl (PySem.mem_of_lookup q)
 have own1:∀x c,(x,c)∈cellsFrom (s.heap.objs.size+1) scope.names []→scope.names.lookup x=some .cell:=fun x c e=>by
  rcases qcm e with z|z
  ·cases z
  ·exact S.cells _ z rfl
 have ownA:∀x c,(x,c)∈cellsFrom (s.heap.objs.size+1) scope.names []→s.heap.objs.size<c:=fun x c e=>(hcs.empty x c e).2
 have frl:∀x c,scope.names.lookup x=some .free→cl.lookup x=some c→(cellsFrom (s.heap.objs.size+1) scope.names []++cl).lookup x=some c:=fun x c e1 e2=>by
  rw [List.lookup_append];cases q:(cellsFrom (s.heap.objs.size+1) scope.names []).lookup x with
  |none=>rw [e2];rfl
  |some c'=>have:=own1 x c' (PySem.mem_of_lookup q);rw [e1]at this;cases this
 refine⟨⟨I.ok.mod,S.kind,I.ok.glob,I.ok.blt,Nat.le_refl _,fun x y c e1 e2=>?_,fun x hx=>?_,fun x c e e2=>?_,I.ok.hd,I.ok.frames,.inl rfl,fun b hb=>?_,fun b o e=>I.bs b o e,Nat.le_trans I.ok.bsz I.sz,fun b o e hb=>?_,fun b hb z=>?_,I.stack,I.stkFree⟩,
  rfl,I.bare,Un.kept hk,⟨m,hn,fun i x v e1 e2 e3=>?_⟩,fun x c e=>?_,I.hok.fresh (Nat.le_refl _),fun x c e=>?_,fun p hp=>absurd (show p∈([]:List (Addr×Obj))from hp) (by simp),I.hok.kept hk,?_⟩
 ·rcases two x c e1 with z1|z1<;>rcases two y c e2 with z2|z2
  ·exact name_of_addr hcs.apart z1 z2
  ·exact absurd (Nat.lt_trans (cnew y c z2) (ownA x c z1)) (Nat.lt_irrefl _)
  ·exact absurd (Nat.lt_trans (cnew x c z1) (ownA y c z2)) (Nat.lt_irrefl _)
  ·exact I.ok.inj x y c (hsub x c z1) (hsub y c z2)
 ·rcases relx x hx with z|z
  ·obtain⟨c,hc⟩:=hall (x,.free) (PySem.mem_of_lookup z) rfl;exact⟨c,frl x c z hc⟩
  ·obtain⟨c,hc⟩:=qdr (n:=s.heap.objs.size+1) z;refine⟨c,?_⟩;show (cellsFrom (s.heap.objs.size+1) scope.names []++cl).lookup x=some c;rw [List.lookup_append,hc];rfl
 ·have e:(qhJ scope.names).contains x=true:=e;have hm:scope.names.lookup x=some .cell:=by
   simp only [qhJ,List.contains_iff_mem,List.mem_map,List.mem_filter,beq_iff_eq]at e;obtain⟨y,⟨y1,y2⟩,rfl⟩:=e;exact S.cells y y1 y2
  rcases two x c e2 with z|z
  ·exact Nat.le_of_lt (ownA x c z)
  ·obtain⟨c',hc⟩:=qdr (n:=s.heap.objs.size+1) hm;have e2:(cellsFrom (s.heap.objs.size+1) scope.names []++cl).lookup x=some c:=e2;rw [List.lookup_append,hc]at e2;cases e2;exact Nat.le_of_lt (ownA x _ (PySem.mem_of_lookup hc))
 ·obtain⟨f0,f1,f2,f3,f4,f5⟩:=hf b hb;refine⟨Nat.ne_of_lt (hlt b hb),fun x c e=>?_⟩;rcases two x c e with z|z
  ·exact fun w=>absurd (Nat.lt_trans (ownA x c z) (w▸hlt b hb)) (Nat.lt_irrefl _)
  ·exact f4 x c (hsub x c z)
 ·obtain⟨f0,f1,f2,f3,f4,f5⟩:=hf b hb;rcases f3 with z|z
  ·exact I.ok.noex b o e z
  ·exact absurd (Nat.lt_of_lt_of_le (Heap.lt_size e) (Nat.le_trans I.ok.bsz z)) (Nat.lt_irrefl _)
 ·obtain⟨f0,f1,f2,f3,f4,f5⟩:=hf b hb;rcases List.mem_cons.mp (I.stkSub b z)with q|q
  ·exact f1 q
  ·exact f2 q
 ·obtain⟨j,c1,c2⟩:=qmQ e2;obtain⟨x',n1,n2,n3,n4⟩:=S.cap.2 i j c1;have ex:x'=x:=Option.some.inj (n1.symm.trans e1);subst ex;obtain⟨m',_,hl⟩:=I.loc;obtain⟨u,r,l⟩:=hl j x' v n2 c2 (n4.elim (fun z=>.inr (.inl z)) fun z=>.inr (.inr z));refine⟨u,r,.inr ⟨?_,?_⟩⟩
  ·rcases e3 with z|z|z
   ·rcases qaV (env:=X.env) (names:=scope.names) (x:=x') (k:=.local) z with q|q
    ·rw [n3]at q;cases q
    ·cases q.1
   ·exact .inl z
   ·exact .inr z
  ·rcases l with ⟨kk,_⟩|⟨_,c,ec,ic⟩
   ·rcases n4 with z|z
    ·rw [kk]at z;cases z
    ·rw [kk]at z;cases z
   ·obtain⟨c',ec'⟩:=hall (x',.free) (PySem.mem_of_lookup n3) rfl;have:=hsub x' c' ec';rw [ec]at this;cases this;obtain⟨o,ho,hd⟩:=ic;exact⟨c,frl x' c n3 ec',o,hk _ _ ho,hd⟩
 ·rcases two x c e with z|z
  ·exact⟨_,(hcs.empty x c z).1⟩
  ·obtain⟨v,o,ho,hd⟩:=I.cell x c (hsub x c z);exact⟨v,o,hk _ _ ho,hd⟩
 ·rcases two x c e with z|z
  ·exact I.hok.fresh (Nat.le_of_lt (ownA x c z))
  ·exact I.freeC x c (hsub x c z)
 ·show (caps cap σ).length=NY.length;unfold caps;rw [List.length_map];exact S.cap.1
noncomputable def qjW(cap:List (Option Nat))(wi:TI)(tg:TG)(tt:TT)(tb:Addr→TS):TE:=fun σ H Q=>wi σ H fun J H1=>∀acc,H1 acc=none →
 ∃W:Nat→Nat→St→Hp→Prop,(∃m,W 0 m (caps cap σ) (upd H1 acc (.lst [])))∧∀i m τ H,W i m τ H →
  (J.stop i H∧(Ends.mk (fun _ H=>Q (.ref acc) H) (fun _ _=>False) (fun _ _=>False) (fun _ _=>False)).nx τ H)∨(J.go i H∧∃N:St→Hp→Prop,(∀σ' H',N σ' H'→∃m',m'<m∧W (i+1) m' σ' H')∧∀x H',J.yld i H x H' →
   tg x τ H' fun σ2 H2=>qkw tt (tb acc) qfc {(Ends.mk (fun _ H=>Q (.ref acc) H) (fun _ _=>False) (fun _ _=>False) (fun _ _=>False))with nx:=N,ct:=N,bk:=(Ends.mk (fun _ H=>Q (.ref acc) H) (fun _ _=>False) (fun _ _=>False) (fun _ _=>False)).nx} σ2 H2)
structure Loose(X:Cx)(pins:List (Addr×Obj))(C:Addr):Prop where
 loc:C≠X.env.locals
 cell:∀x c,X.env.cells.lookup x=some c→c≠C
 up:X.s₀.heap.objs.size≤C
 pin:∀p∈X.pn++pins,p.1≠C
theorem Loose.turn{X:Cx}{pins:List (Addr×Obj)}{C:Addr}{σ:St}{H:Hp}{s:Shared}{h':Heap}(L:Loose X pins C)(I:Inv X pins σ H s)(hn:H C=none)(hs:Heap.SameBut C s.heap h'):Inv X pins σ H {s with heap:=h'}:=
 I.turned (t':=s.toks) (it:=C) (fun b o hb e=>(hs.2 b hb).trans e) hn L.loc (.inr L.up) L.cell L.pin
section
variable{X:Cx}{elt tgt it:Expr}{ifs:List Expr}{gs:List Comprehension}{scope:Scope}{pos:Pos}{NY:List Str}{cap:List (Option Nat)}{wi:TI}{tg:TG}{tt:TT}{tb:Addr→TS}
theorem qfi{Q:VK}{pins:List (Addr×Obj)}{σ:St}{H:Hp}{s s2:Shared}{cl:List (Str×Addr)}{itv:Value}{E:Value→Shared→Prop}{use:Option (Value→Sem Unit)}{QQ:Value→Shared→Prop}
  (hc:X.calm=true) (S:zT X NY cap scope) (hng:∀g'∈gs,g'.is_async=0)
  (hsub:∀x c,cl.lookup x=some c→X.env.cells.lookup x=some c) (hall:∀x∈scope.names,x.2=.free→∃c,cl.lookup x.1=some c)
  (hb:∀cl C s₀ H₀ fp,PG (zz X NY scope cl C s₀ H₀ fp) tgt tg∧PTs (zz X NY scope cl C s₀ H₀ fp) ifs tt∧∀acc,PB (zz X NY scope cl C s₀ H₀ fp) (qaP elt (⟨tgt,it,ifs,0⟩::gs) scope pos 0 (.ref acc) (zz X NY scope cl C s₀ H₀ fp).env) (tb acc))
  (h2:PIE X pins σ tgt (fun J H1=>∀acc,H1 acc=none →
   ∃W:Nat→Nat→St→Hp→Prop,(∃m,W 0 m (caps cap σ) (upd H1 acc (.lst [])))∧∀i m τ H,W i m τ H →
    (J.stop i H∧(Ends.mk (fun _ H=>Q (.ref acc) H) (fun _ _=>False) (fun _ _=>False) (fun _ _=>False)).nx τ H)∨(J.go i H∧∃N:St→Hp→Prop,(∀σ' H',N σ' H'→∃m',m'<m∧W (i+1) m' σ' H')∧∀x H',J.yld i H x H' →
     tg x τ H' fun σ2 H2=>qkw tt (tb acc) qfc {(Ends.mk (fun _ H=>Q (.ref acc) H) (fun _ _=>False) (fun _ _=>False) (fun _ _=>False))with nx:=N,ct:=N,bk:=(Ends.mk (fun _ H=>Q (.ref acc) H) (fun _ _=>False) (fun _ _=>False) (fun _ _=>False)).nx} σ2 H2)) itv s2)
  (fin:∀(acc C:Addr) (s':Shared) (m:Str→Option Value) (H':Hp),s'.heap.Ns C m→Loose X pins C→Inv X pins σ H' s'→H' C=none→Q (.ref acc) H'→compPost (model X.prog X.w) X.A E use QQ (.ref acc) C (.ok .next) s') :
  wpAny (model X.prog X.w) X.A (newList []) (fun acc s₃=>wpAny (model X.prog X.w) X.A (newFunctionEnv scope X.env.globals cl [] X.env.qual none .none (some X.env)) (fun cenv s₄=>
   codeAny (model X.prog X.w) X.A (.compStart (.ListComp elt (⟨tgt,it,ifs,0⟩::gs) scope pos) 0 itv acc {cenv with scope:=relabel scope X.env}) (compPost (model X.prog X.w) X.A E use QQ acc cenv.locals) s₄) E s₃) E s2:=by
 obtain⟨ia,fp,tn,J,H2,e,I2,T,st2,f2,q⟩:=h2;subst e;have hlt2:∀b∈fp,b<s2.heap.objs.size:=fun b hb=>by
  obtain⟨o,ho,_⟩:=T.obj _ _ st2 b hb;exact Heap.lt_size ho
 refine wpAny_newObj_type ?_;have hacc:H2 s2.heap.objs.size=none:=I2.hok.fresh (Nat.le_refl _);have I3:Inv X pins σ (upd H2 s2.heap.objs.size (.lst [])) {s2 with heap:=s2.heap.push {cls:=.type "list",dict:=none,data:=.seq ([]:List Value).toArray}}:=
  I2.laid (t':=s2.toks) (fun b u e=>Heap.get?_push_of_some _ e) (Nat.le_refl _) ⟨Nat.zero_le _,[],0,.nil,Heap.get?_push_size _ rfl⟩
 have hsz3:(s2.heap.push {cls:=.type "list",dict:=none,data:=.seq ([]:List Value).toArray}).objs.size=s2.heap.objs.size+1:=Heap.size_push ..;generalize hs3:({s2 with heap:=s2.heap.push {cls:=.type "list",dict:=none,data:=.seq ([]:List Value).toArray}}:Shared)=s3 at I3 ⊢;have hsz:s3.heap.objs.size=s2.heap.objs.size+1:=by rw [←hs3];exact hsz3
 have st3:tn 0 s3.heap:=T.keep _ _ _ st2 fun b hb o e=>by rw [←hs3];exact Heap.get?_push_of_some _ e
 have f3:∀b∈fp,qbS X pins (upd H2 s2.heap.objs.size (.lst [])) b:=fun b hb=>⟨by rw [qm (Nat.ne_of_lt (hlt2 b hb))];exact(f2 b hb).1,(f2 b hb).2⟩
 have hlt3:∀b∈fp,b<s3.heap.objs.size:=fun b hb=>by rw [hsz];exact Nat.lt_succ_of_lt (hlt2 b hb)
 refine qes fun h₁ hns₁ hk1 hcs=>?_
 have IY:=qnJ (tk:=s3.toks) I3 S hsub hall f3 hlt3 hns₁ hk1 hcs;have stY:tn 0 h₁:=T.keep _ _ _ st3 fun b hb o e=>hk1 b o e
 obtain⟨pg,pt,pb⟩:=hb cl s3.heap.objs.size s3 (upd H2 s2.heap.objs.size (.lst [])) fp;have fY:∀b∈fp,qbS (zz X NY scope cl s3.heap.objs.size s3 (upd H2 s2.heap.objs.size (.lst [])) fp) [] (upd H2 s2.heap.objs.size (.lst [])) b:=fun b hb=>by
  obtain⟨g0,g1,g2,g3,g4,g5⟩:=f3 b hb;refine⟨g0,Nat.ne_of_lt (hlt3 b hb),fun z=>?_,.inl hb,(IY.ok.exf b hb).2,fun p hp=>absurd (show p∈([]:List (Addr×Obj))from hp) (by simp)⟩;rcases List.mem_cons.mp (I3.stkSub b z)with w|w
  ·exact g1 w
  ·exact g2 w
 have L:=qle (elt:=elt) (gens:=⟨tgt,it,ifs,0⟩::gs) (scope:=scope) (pos:=pos) (d:=0) (Y:=zz X NY scope cl s3.heap.objs.size s3 (upd H2 s2.heap.objs.size (.lst [])) fp) (acc:=.ref s2.heap.objs.size) hc (fun _ _ z=>z) rfl rfl
  (fun g' hg'=>hng g' (List.mem_of_getElem? (i:=0) (by simpa using hg'))) T pg pt (pb s2.heap.objs.size) IY stY fY (q s2.heap.objs.size hacc)
 refine codeAny_mono (qdo (elt:=elt) (gens:=⟨tgt,it,ifs,0⟩::gs) (scope:=scope) (pos:=pos) (d:=0) (env:=compEnvC scope (cellsFrom (s3.heap.objs.size+1) scope.names []++cl) s3.heap.objs.size X.env) rfl rfl L (T.self _ 0 _ _ _ stY L)) fun r s' ⟨e,τ',H',I',q'⟩=>?_
 subst e;obtain⟨m',hn',_⟩:=id I'.loc;have hLne:s3.heap.objs.size≠X.env.locals:=Nat.ne_of_gt I3.lt;have hCne:∀x c,X.env.cells.lookup x=some c→c≠s3.heap.objs.size:=fun x c e z=>by
  obtain⟨v,qv⟩:=I3.cell x c e;exact absurd qv.lt (by rw [z];exact Nat.lt_irrefl _)
 have J1:Inv X pins σ H' s':=by
  refine I3.call' (ch:=fp) I'.os I'.base I'.hok I'.bare fun b hb=>?_
  obtain⟨g0,g1,g2,g3,g4,g5⟩:=f3 b hb;exact⟨g3,g1,g4,g5⟩
 refine fin s2.heap.objs.size s3.heap.objs.size s' m' H' hn' ⟨hLne,hCne,I3.sz,fun p hp z=>?_⟩ J1 I'.free q';have:=Heap.lt_size (I3.pin p hp).1;rw [z]at this;exact Nat.lt_irrefl _ this
theorem qor(hc:X.calm=true)(S:zT X NY cap scope)(hi:PI X tgt it wi)
  (hb:∀cl C s₀ H₀ fp,PG (zz X NY scope cl C s₀ H₀ fp) tgt tg∧PTs (zz X NY scope cl C s₀ H₀ fp) ifs tt∧∀acc,PB (zz X NY scope cl C s₀ H₀ fp) (qaP elt (⟨tgt,it,ifs,0⟩::gs) scope pos 0 (.ref acc) (zz X NY scope cl C s₀ H₀ fp).env) (tb acc))
  (hng:∀g'∈gs,g'.is_async=0:=by simp)
  (hs:∀x,foldedSetIterable it X.env x=pure x:=by intro _;rfl):PE X (.ListComp elt (⟨tgt,it,ifs,0⟩::gs) scope pos) (qjW cap wi tg tt tb):=by
 intro pins s σ H Q I h;obtain⟨cl,hcl,hsub,hall⟩:=qdL (env:=X.env) (scope:=scope) fun x hx hf=>I.ok.has x.1 (S.free x hx hf)
 rw [eval_ListComp];refine wpAny_comprehension_free (use:=none) rfl hs hcl S.kind S.names (thn (hi pins s σ H _ I h) fun v s1 h1=>thn h1 fun itv s2 h2=>?_);exact qfi (s:=s) (H:=H) (use:=none) hc S hng hsub hall hb h2 fun acc C s' m H' hn L I' hC q=>⟨m,hn,fun h' hs'=>⟨.ref acc,H',L.turn I' hC hs',rfl,q⟩⟩
theorem qjD{i:Nat}{x:Str}{pos' spos:Pos}(hN:X.N.Nodup)(hix:X.N[i]? = some x)(hx:Loc X.env.scope x)(hc:X.calm=true)(S:zT X NY cap scope)(hi:PI X tgt it wi)
  (hb:∀cl C s₀ H₀ fp,PG (zz X NY scope cl C s₀ H₀ fp) tgt tg∧PTs (zz X NY scope cl C s₀ H₀ fp) ifs tt∧∀acc,PB (zz X NY scope cl C s₀ H₀ fp) (qaP elt (⟨tgt,it,ifs,0⟩::gs) scope pos 0 (.ref acc) (zz X NY scope cl C s₀ H₀ fp).env) (tb acc))
  (hng:∀g'∈gs,g'.is_async=0:=by simp)
  (hsw:swapsWith (.ListComp elt (⟨tgt,it,ifs,0⟩::gs) scope pos) (some (.Name x pos')) spos.line X.env=pure true:=by rfl)
  (hf:X.fn x=true∨X.env.scope.names.lookup x=some .local:=by first|exact .inl rfl|exact .inr rfl|assumption)
  (hs:∀x,foldedSetIterable it X.env x=pure x:=by intro _;rfl) :
  PS X (.Assign [.Name x pos'] (.ListComp elt (⟨tgt,it,ifs,0⟩::gs) scope pos) spos) (qjt (qjW cap wi tg tt tb) (qcP i)):=by
 intro pins s σ H D I h;obtain⟨cl,hcl,hsub,hall⟩:=qdL (env:=X.env) (scope:=scope) fun x hx hf=>I.ok.has x.1 (S.free x hx hf)
 rw [exec_Assign_Name_used _ _ _ _ hsw];refine wpAny_bind (wpAny_standAt (wpAny_bind ?_));show wpAny _ _ (do let _ ←comprehension (.ListComp elt (⟨tgt,it,ifs,0⟩::gs) scope pos) scope X.env _ (newList []) false (eval it X.env) (some (assign (.Name x pos') X.env))) _ _ s;refine wpAny_bind (wpAny_mono (wpAny_comprehension_free (use:=some (assign (.Name x pos') X.env)) (Q:=fun _ s'=>SP X pins D .next s') rfl hs hcl S.kind S.names (thn (hi pins s σ H _ I h) fun v s1 h1=>thn h1 fun itv s2 h2=>?_)) (fun _ s' q=>wpAny_pure (wpAny_pure q)) fun _ _ e=>e);refine qfi (s:=s) (H:=H) (Q:=fun x H1=>qcP i x σ H1 D.nx) (use:=some (assign (.Name x pos') X.env)) hc S hng hsub hall hb h2 fun acc C s' m H' hn L I1 hC q1=>?_
 show wpAny _ _ (assign (.Name x pos') X.env (.ref acc)) _ _ _;refine wpAny_assign_Name (qgm (v:=.ref acc) I1 hN hix hx rfl (fun s3 I3 ⟨a,hsa,ha⟩=>?_) hf);have hCa:C≠a:=by
  rcases ha with z|z
  ·rw [z];exact L.loc
  ·exact Ne.symm (L.cell x a z)
 exact⟨m,hn.sameBut hsa hCa,fun h' hsb=>⟨_,H',L.turn I3 hC hsb,q1⟩⟩
end
theorem zI.there{P:Program}{w:World}{H:Hp}{h:Heap}{a:Addr}{o:HO}(x:zI P w H h a o):∃u,h.get? a=some u:=by
 cases o with
 |lst xs=>obtain⟨_,_,_,_,e⟩:=x;exact⟨_,e⟩
 |tup xs=>obtain⟨_,_,_,o,e,_⟩:=x;exact⟨_,e⟩
 |dK kvs=>obtain⟨_,_,_,_,o,_,_,e,_⟩:=x;exact⟨_,e⟩
 |dT kvs=>obtain⟨_,_,_,_,o,_,_,e,_⟩:=x;exact⟨_,e⟩
 |set S n=>obtain⟨o,_,_,_,e,_⟩:=x;exact⟨_,e⟩
 |ins C dx fs=>obtain⟨_,_,_,e,_⟩:=x;exact⟨_,e⟩
 |own y=>obtain⟨_,e⟩:=x;exact⟨_,e⟩
 |xd fs=>obtain⟨_,⟨_,_,_,e,_⟩,_⟩:=x;exact⟨_,e⟩
 |rng lo hi=>obtain⟨_,_,_,e⟩:=x;exact⟨_,e⟩
 |frz ob u=>obtain⟨e,_⟩:=x;exact⟨_,e⟩
 |tbl ps=>exact⟨_,(show h.get? a=some _ from x)⟩
 |met f y=>exact⟨_,(show h.get? a=some _ from x)⟩
 |ext φ=>obtain⟨_,e,_⟩:=x;exact e
theorem HOk.free_of{P:Program}{w:World}{H:Hp}{h:Heap}{a:Addr}(x:HOk P w H h)(e:h.get? a=none):H a=none:=by
 cases q:H a with
 |none=>rfl
 |some o=>obtain⟨u,z⟩:=(x a o q).there;rw [e]at z;cases z
structure Apart(X:Cx)(pins:List (Addr×Obj))(H:Hp)(b:Addr):Prop where
 new:X.s₀.heap.get? b=none
 free:H b=none
 pin:∀p∈X.pn++pins,p.1≠b
structure qkq(X:Cx)(pins:List (Addr×Obj))(H:Hp)(h:Heap)(x:Addr)(cls:Value):Prop where
 me:Apart X pins H x
 tr:∃oe vs T oT ts a0,h.get? x=some oe∧oe.cls=cls∧vs[0]? = some a0∧oe.data=.fields vs∧vs[1]? = some (.ref T)∧T≠x∧h.get? T=some oT∧oT.data=.fields ts∧ts[3]? = some .none∧Apart X pins H T
structure Fly(h₀ h:Heap)(H:Hp)(x:Addr)(cls:Value):Prop where
 new:h₀.get? x=none
 free:H x=none
 tr:∃oe vs T oT ts a0,h.get? x=some oe∧oe.cls=cls∧vs[0]? = some a0∧oe.data=.fields vs∧vs[1]? = some (.ref T)∧T≠x∧h.get? T=some oT∧oT.data=.fields ts∧ts[3]? = some .none∧h₀.get? T=none∧H T=none
noncomputable def CX1(P:Program)(w:World):CXT:=fun outer H s E e s'=>
 ∃x cls H',e=.ref x∧s'.os=s.os∧AllBare s'.gens∧Un (frs outer) [] H H' s.heap s'.heap∧HOk P w H' s'.heap∧Fly s.heap s'.heap H' x cls∧E cls none H'
section
variable{X:Cx}{pins:List (Addr×Obj)}{σ:St}{H:Hp}{s:Shared}{x T:Addr}{cls:Value}
theorem Inv.stepN{h':Heap}{t':Nat}{ch:List Addr}(I:Inv X pins σ H s)(hex:X.ex=[])(hch:∀b∈ch,Apart X pins H b∧b≠X.env.locals∧(∀x c,X.env.cells.lookup x=some c→c≠b)∧b∉X.fs)
  (keep:∀b o,b∉frs X.stack→b≠X.env.locals→b∉X.fs→b∉ch→s.heap.get? b=some o→h'.get? b=some o)
  (slot:∀b o,(b∈frs X.stack∨b=X.env.locals∨b∈X.fs)→s.heap.get? b=some o→∃sl,h'.get? b=some {o with slots:=sl}) (there:∀b o,b∉ch→s.heap.get? b=some o→∃o',h'.get? b=some o') :
  Inv X pins σ H {s with heap:=h',toks:=t'}:=by
 have sub:∀b,b∈frs X.stack→b=X.env.locals∨b∈X.fs:=fun b hb=>List.mem_cons.mp (I.stkSub b hb)
 have keep':∀b o,b≠X.env.locals→b∉X.fs→b∉ch→s.heap.get? b=some o→h'.get? b=some o:=fun b o h1 h2 h3 e=>keep b o (fun z=>(sub b z).elim h1 h2) h1 h2 h3 e
 have neL:∀b o,X.s₀.heap.get? b=some o→b≠X.env.locals:=fun b o e=>Nat.ne_of_lt (Nat.lt_of_lt_of_le (Heap.lt_size e) I.ok.above)
 have neC:∀b o,X.s₀.heap.get? b=some o→b∉ch:=fun b o e hb=>by
  have:=(hch b hb).1.new;rw [e]at this;cases this
 have cellK:∀x c,X.env.cells.lookup x=some c→∀v,s.heap.IsCell c v→h'.IsCell c v:=fun x c e v ⟨o,ho,hd⟩=>by
  have nch:c∉ch:=fun z=>(hch c z).2.2.1 x c e rfl
  by_cases hc:c∈X.fs
  ·obtain⟨sl,q⟩:=slot c o (.inr (.inr hc)) ho;exact⟨_,q,hd⟩
  ·exact⟨o,keep' c o (I.cne x c e) hc nch ho,hd⟩
 have nex:∀b,b∉X.ex:=fun b=>by rw [hex];simp
 refine⟨I.ok,I.os,I.bare,⟨fun b o e n hb hx=>?_,fun b o e n hb hx=>?_,I.base.free,fun b o e hx=>?_,I.base.tups,I.base.frzs,I.base.tbls⟩,?_,fun x c e=>?_,I.free,I.freeC,fun p hp=>?_,fun b u e=>?_,I.len⟩
 ·exact keep' b o (neL b o e) hb (neC b o e) (I.base.keep b o e n hb hx)
 ·obtain⟨sl,e1⟩:=I.base.slot b o e n hb hx;obtain⟨sl',e2⟩:=slot b _ (.inr (.inr hb)) e1;exact⟨sl',e2⟩
 ·obtain⟨o',e1⟩:=I.base.there b o e hx;exact there b o' (neC b o e) e1
 ·obtain⟨m,hn,hl⟩:=I.loc;obtain⟨oL,es,ep,hoL,hdL,r⟩:=id hn;obtain⟨sl,eL⟩:=slot _ _ (.inr (.inl rfl)) hoL;refine⟨m,⟨_,es,ep,eL,hdL,r⟩,fun i x v e1 e2 e3=>?_⟩;obtain⟨u,ru,l⟩:=hl i x v e1 e2 e3;refine⟨u,ru,?_⟩;rcases l with l|⟨k,c,e,z⟩
  ·exact .inl l
  ·exact .inr ⟨k,c,e,cellK x c e _ z⟩
 ·obtain⟨v,z⟩:=I.cell x c e;exact⟨v,cellK x c e v z⟩
 ·obtain⟨e,n,ne,nf,d⟩:=I.pin p hp;exact⟨keep' p.1 p.2 ne nf (fun z=>(hch p.1 z).1.pin p hp rfl) e,n,ne,nf,d⟩
 ·have nfr:∀b,(∃u,H b=some u)→b≠X.env.locals∧b∉X.fs∧b∉ch:=fun b ⟨u,e⟩=>by
   refine⟨fun z=>?_,fun z=>?_,fun z=>?_⟩
   ·rw [z,I.free]at e;cases e
   ·obtain⟨_,o,ho,_⟩:=I.ok.funs.mem z;have:=I.base.free b o ho (I.ok.frf b z) (nex b);rw [e]at this;cases this
   ·have:=(hch b z).1.free;rw [e]at this;cases this
  refine(I.hok b u e).stay (fun c v hc q=>?_) (fun _ q=>q) fun _ _ q=>q
  have hc':∃u,H c=some u:=by
   rcases hc with z|z
   ·exact⟨u,by rw [z];exact e⟩
   ·exact⟨_,z⟩
  obtain⟨n1,n2,n3⟩:=nfr c hc';exact keep' c v n1 n2 n3 q
theorem Inv.rec_ne(I:Inv X pins σ H s){b:Addr}{o:Obj}{vs:Array Value}(e:s.heap.get? b=some o)(d:o.data=.fields vs):b≠X.env.locals∧(∀x c,X.env.cells.lookup x=some c→c≠b)∧b∉X.fs∧b∉frs X.stack:=by
 have h1:b≠X.env.locals:=fun z=>by
  obtain⟨m,⟨o',es,ep,ho,hd,_⟩,_⟩:=I.loc;rw [←z,e]at ho;cases ho;rw [d]at hd;cases hd
 have h3:b∉X.fs:=fun z=>by
  obtain⟨_,o',ho,hn⟩:=I.funs.mem z;rw [e]at ho;cases ho;exact hn vs d
 refine⟨h1,fun x c ec z=>?_,h3,fun z=>(List.mem_cons.mp (I.stkSub b z)).elim h1 h3⟩;obtain⟨v,o',ho,hd⟩:=I.cell x c ec;rw [z,e]at ho;cases ho;rw [d]at hd;cases hd
theorem qkq.flying(I:Inv X pins σ H s)(F:qkq X pins H s.heap x cls):∃T oT ts a0,Heap.FlyingW (PySem.W.hideAll s.heap (x::T::frs X.stack)) X.stack x cls a0 s.heap∧s.heap.get? T=some oT∧oT.data=.fields ts∧Apart X pins H T:=by
 obtain⟨oe,vs,T,oT,ts,a0,e1,e2,e3,e4,e5,e6,e7,e8,e9,e10⟩:=F.tr;refine⟨T,oT,ts,a0,⟨fun b o q=>PySem.W.of_hideAll _ q,PySem.W.hideAll_none _ List.mem_cons_self,?_,oe,vs,T,oT,ts,e1,⟨e2,e3⟩,e4,e5,PySem.W.hideAll_none _ (List.mem_cons_of_mem _ List.mem_cons_self),e6,e7,e8,e9⟩,e7,e8,e10⟩;exact PySem.W.funFrames_hide I.stack fun env he a ha=>List.mem_cons_of_mem _ (List.mem_cons_of_mem _ (List.mem_filterMap.mpr ⟨env,he,ha⟩))
theorem qkq.back(I:Inv X pins σ H s)(hex:X.ex=[])(me:Apart X pins H x){ox:Obj}{vs:Array Value}(hx:s.heap.get? x=some ox)(hxd:ox.data=.fields vs){oT:Obj}{ts:Array Value}(hT:s.heap.get? T=some oT)(hTd:oT.data=.fields ts)(aT:Apart X pins H T)
  {l:List Env}{a0:Value}{h':Heap} (W:Heap.FlyingW (PySem.W.hideAll s.heap (x::T::frs X.stack)) l x cls a0 h') (u:s.heap.UpToSlots h') :
  Inv X pins σ H {s with heap:=h'}∧qkq X pins H h' x cls:=by
 obtain⟨w1,w2,w3,oe',vs',T',oT',ts',f1,⟨f2,f3⟩,f4,f5,f6,f7,f8,f9,f10⟩:=W;obtain⟨nx1,nx2,nx3,nx4⟩:=I.rec_ne hx hxd;obtain⟨nt1,nt2,nt3,nt4⟩:=I.rec_ne hT hTd;have frd:∀b o,(b∈frs X.stack∨b=X.env.locals∨b∈X.fs)→s.heap.get? b=some o→∀ws,o.data≠.fields ws:=fun b o hb e ws d=>by
  obtain⟨n1,n2,n3,n4⟩:=I.rec_ne e d;rcases hb with z|z|z
  ·exact n4 z
  ·exact n1 z
  ·exact n3 z
 have nch:∀b,b∉[x,T]→b∉frs X.stack→b∉(x::T::frs X.stack):=fun b h1 h2 h3=>by
  rcases List.mem_cons.mp h3 with z|h3
  ·exact h1 (by simp [z])
  ·rcases List.mem_cons.mp h3 with z|h3
   ·exact h1 (by simp [z])
   ·exact h2 h3
 refine⟨?_,me,oe',vs',T',oT',ts',a0,f1,f2,f3,f4,f5,f7,f8,f9,f10,?_⟩
 ·refine I.stepN (t':=s.toks) (ch:=[x,T]) hex (fun b hb=>?_) (fun b o h1 h2 h3 h4 e=>w1 b o (PySem.W.hideAll_get _ e (nch b h4 h1))) (fun b o hb e=>u b o e (frd b o hb e)) fun b o h4 e=>?_
  ·rcases List.mem_cons.mp hb with z|hb
   ·subst z;exact⟨me,nx1,nx2,nx3⟩
   ·have z:b=T:=by simpa using hb
    subst z;exact⟨aT,nt1,nt2,nt3⟩
  ·by_cases hb:b∈frs X.stack
   ·obtain⟨sl,q⟩:=u b o e (frd b o (.inl hb) e);exact⟨_,q⟩
   ·exact⟨o,w1 b o (PySem.W.hideAll_get _ e (nch b h4 hb))⟩
 ·by_cases hTT:T'=T
  ·rw [hTT];exact aT
  ·by_cases hTf:T'∈frs X.stack
   ·obtain⟨_,o,ho,hn⟩:=I.stack.mem hTf;obtain⟨sl,q⟩:=u T' o ho hn;rw [q]at f8;have z:({o with slots:=sl}:Obj)=oT':=Option.some.inj f8;subst z;exact absurd f9 (hn ts')
   ·have hnone:s.heap.get? T'=none:=by
     cases q:s.heap.get? T' with
     |none=>rfl
     |some o=>
      have:(PySem.W.hideAll s.heap (x::T::frs X.stack)).get? T'=some o:=PySem.W.hideAll_get _ q (nch T' (by simp [f7,hTT]) hTf);rw [f6]at this;cases this
    refine⟨?_,I.hok.free_of hnone,fun p hp z=>?_⟩
    ·cases q:X.s₀.heap.get? T' with
     |none=>rfl
     |some o=>
      obtain⟨o',e'⟩:=I.base.there T' o q (by rw [hex];simp);rw [hnone]at e';cases e'
    ·have:=(I.pin p hp).1;rw [z,hnone]at this;cases this
theorem qpd{P:Program}{w:World}(hP:X.prog=P)(hw:X.w=w)(I:Inv X pins σ H s)(hex:X.ex=[]){E:XK}{e:Value}{s':Shared}(h:CX1 P w X.stack H s E e s') :
  ∃x cls H',e=.ref x∧Inv X pins σ H' s'∧qkq X pins H' s'.heap x cls∧E cls none H':=by
 subst hP hw;obtain⟨x,cls,H',rfl,os,bare,un,hok,F,q⟩:=h;have ap:∀b,s.heap.get? b=none→H' b=none→Apart X pins H' b:=fun b h1 h2=>by
  refine⟨?_,h2,fun p hp z=>?_⟩
  ·cases q:X.s₀.heap.get? b with
   |none=>rfl
   |some o=>
    obtain⟨o',e'⟩:=I.base.there b o q (by rw [hex];simp);rw [h1]at e';cases e'
  ·have:=(I.pin p hp).1;rw [z,h1]at this;cases this
 obtain⟨oe,vs,T,oT,ts,a0,e1,e2,e3,e4,e5,e6,e7,e8,e9,e10,e11⟩:=F.tr;exact⟨x,cls,H',rfl,I.call' (ch:=[]) os un hok bare (fun b z=>absurd z (by simp)),⟨ap x F.new F.free,oe,vs,T,oT,ts,a0,e1,e2,e3,e4,e5,e6,e7,e8,e9,ap T e10 e11⟩,q⟩
theorem qkq.leaves(I:Inv X pins σ H s)(hex:X.ex=[]){env:Env}{outer:List Env}(hst:X.stack=X.env::X.outer)(hfr:X.env.frame=some X.env.locals)(F:qkq X pins H s.heap x cls){E:XK}(q:E cls none H)
  {EE:Value→Shared→Prop}:wpAny (model X.prog X.w) X.A (leaving X.env (.ref x)) (fun _ s''=>CX1 X.prog X.w X.outer X.H₀ X.s₀ E (.ref x) s'') EE s:=by
 obtain⟨oe,vs,_,_,_,_,e1,_,_,e4,_⟩:=id F.tr;obtain⟨T,oT,ts,a0,W,hT,hTd,aT⟩:=qkq.flying I F;have hfrm:=I.ok.frames;rw [hst]at hfrm W;refine wpAny_leaves_onW hfrm hfr W fun h' W' u=>?_
 rw [←hst]at W';obtain⟨I',F'⟩:=qkq.back I hex F.me e1 e4 hT hTd aT W' u;obtain⟨oe',vs',T',oT',ts',a0',f1,f2,f3,f4,f5,f6,f7,f8,f9,f10⟩:=F'.tr;have hb:=I'.base;rw [hex]at hb;exact⟨x,cls,H,rfl,I'.os,I'.bare,hb,I'.hok,⟨F'.me.new,F'.me.free,oe',vs',T',oT',ts',a0',f1,f2,f3,f4,f5,f6,f7,f8,f9,f10.new,f10.free⟩,q⟩
end
section
variable{P:Program}{w:World}{K:PySem.W.Frag}{mg:Str→Option Value}{base:Heap}{N:List Str}{qual:Str}{scope:Scope}{f:Addr}{cd:Value}{A:Around}{outer:List Env}{s₀:Shared}{H₀:Hp}{E:XK}
theorem qsY:Passes (CX1 P w) (qdI (CX1 P w) P w K mg base N qual scope f cd A outer s₀ H₀ E) E:=by
 intro pins σ H s e s' I h;obtain⟨x,cls,H',rfl,I',F,q⟩:=qpd rfl rfl I rfl h;exact qkq.leaves (env:=(qdI (CX1 P w) P w K mg base N qual scope f cd A outer s₀ H₀ E).env) (outer:=outer) I' rfl rfl rfl F q
theorem qkD{X:Cx}(hP:X.prog=P)(hw:X.w=w):Passes (CX1 P w) X E0:=by
 intro pins σ H s e s' I h;obtain⟨x,cls,H',rfl,_,_,_,_,_,q⟩:=h;exact q.elim
noncomputable def Throws(X:Cx)(E:XK):Prop:=∀(pins:List (Addr×Obj)) (σ:St) (H:Hp) (s:Shared) (h':Heap) (e:Addr) (cls:Value) (args:List Value),Inv X pins σ H s→Heap.MadeExcOf s.heap h' e cls args→E cls none H→X.xe (.ref e) {s with heap:=h'}
end
abbrev qem:List Value:=[.type "ValueError",.type "Exception",.type "BaseException",.type "object"]
noncomputable def qlT(K:PySem.W.Frag)(C:Addr):Prop:=PySem.W.excIn K C qem "ValueError.__new__" = true
section
variable{X:Cx}{C:Addr}{x:Str}{E:XK}{t:TA}{e:Expr}{es:List Expr}{np cpos pos:Pos}
end
structure qeT(k:Nat)(A:Around):Prop where
 dp:A.depth+3 * k+5<recursionLimit
 un:A.units+16 * k+200<cLine
theorem qbB.u{k:Nat}{A:Around}(r:qbB k A):qeT k A:=⟨r.dp,r.un⟩
structure qjq(P:Program)(w:World)(K:PySem.W.Frag)(mg:Str→Option Value)(base:Heap)(CX:CXT)(k:Nat)(f:Addr)(fd:FuncData)(ps:List Str)(sp:Sp):Prop where
 len:∀vs H Q E,sp vs H Q E→vs.length=ps.length
 run:∀(A:Around) (outer:List Env) (s:Shared) (H:Hp) (args:Args) (us:List Value) (vs:List V) (Q:VK) (E:XK),qeT k A→qhZ P w K mg base A outer s H→BindsTo s fd args (ps.zip us)→Vals vs us→sp vs H Q E →
  codeAny (model P w) A (.call (.ref f) args) (CR CX outer P w H s Q E) s
section
variable{CX:CXT}{P:Program}{w:World}{K:PySem.W.Frag}{mg:Str→Option Value}{base:Heap}{k:Nat}{f:Addr}{fd:FuncData}{ps:List Str}{sp:Sp}
end
section
variable{X:Cx}{CX:CXT}{k:Nat}{f:Addr}{fd:FuncData}{ps:List Str}{sp:Sp}{dvs:List V}{ds:List Value}{E:XK}{x:Str}{p pos:Pos}{e:Expr}{es:List Expr}{t:TA}
theorem qpc{pins:List (Addr×Obj)}{σ:St}{H:Hp}{s:Shared}{Q:VK}{us:List Value}{vs:List V}(F:qjq X.prog X.w X.K X.mg X.base CX k f fd ps sp)(hr:qeT k X.A)(hb:Binds X.K fd ps ds)(hd:Vals dvs ds)(hx:Passes CX X E)
  (I:Inv X pins σ H s) (r:Vals vs us) (h:sp (vs++dvs) H Q E):wpAny (model X.prog X.w) X.A (call (.ref f) us) (EP X pins σ Q) X.xe s:=by
 have r2:Vals (vs++dvs) (us++ds):=r.append hd;have hl:(us++ds).length=ps.length:=by rw [←r2.length];exact F.len _ _ _ _ h
 refine wpAny_call (codeAny_mono (F.run X.A X.stack s H ⟨us,[]⟩ (us++ds) (vs++dvs) Q E hr I.env0 (hb s us I.kIn hl) r2 h) fun r s' hq=>?_);cases r with
 |error e=>exact hx pins σ H s e s' I hq
 |ok fl=>
  cases fl with
  |ret u=>exact I.after hq
  |next=>exact False.elim hq
  |brk=>exact False.elim hq
  |cont=>exact False.elim hq
theorem qnG(F:qjq X.prog X.w X.K X.mg X.base CX k f fd ps sp)(hr:qeT k X.A)(hg:Gl X x)(hm:X.mg x=some (.ref f))(hk:PySem.W.keepIn X.K (.ref f)=true)(hb:Binds X.K fd ps ds)(hd:Vals dvs ds)(hx:Passes CX X E)
  (ha:PA X (e::es) t) (hdb:(x==("__debug__" : Str))=false:=by decide) (he:starEach (e::es) X.env=(false,eval e X.env)::starEach es X.env:=by rfl) (hpl:(backTo pos (starEach es X.env)).any (·.1)=false:=by rfl) :
  PE X (.Call (.Name x p) (e::es) [] pos) (qjT sp dvs E t):=by
 intro pins s σ H Q I h;refine wpAny_Call_Name_kw (qfB I hg hm ?_ hdb);refine PySem.W.callWith_K (h₀:=X.base) I.ok.mod.kin hk (thn (ha pos pins s σ H _ I h) fun us s1 ⟨vs,H1,I1,r,q⟩=>⟨I1.kIn,?_⟩) he hpl;exact qpc F hr hb hd hx I1 r q
end
noncomputable def qnv(x:Addr)(cls:Value):HO:=.ext fun h=>∃o vs,h.get? x=some o∧o.cls=cls∧o.data=.fields vs
section
variable{X:Cx}{pins:List (Addr×Obj)}{σ:St}{H:Hp}{s:Shared}
end
end L2
namespace L2
open PySem PySem.Spec PyProof.Rows PySem.W PySem.Calls Builtin Builtin.ObjectAttr Builtin.Getset_descriptor
structure qaL(K:Frag)(C:Addr):Prop where
 ga:findIn K (.ref C) "__getattribute__" = some (some (.builtin "BaseException.__getattribute__"))
 gt:findIn K (.ref C) "__getattr__" = some none
 gc:findIn K (.ref C) "__class__" = some (some (.builtin "object.__class__"))
 mb:mroIn K C (.type "BaseException")=some true
 mo:mroIn K C (.type "object")=some true
 cl:∃c dd cd sl,K.lookup C=some ⟨c,dd,.cls cd,sl⟩
section
variable{prog:Program}{w:World}{A:Around}{E:Value→Shared→Prop}{h:Heap}{g:Array GenState}{d:Drawn}{t:Nat}{os:OsState}{x C:Addr}{K:Frag}
theorem qgR{R:Result→Shared→Prop}{tp:Value}(Z:K.In h)(S:qaL K C)(L0:Looks (model prog w) h (typeOf (.ref x)) (.ref C))(hx:∃o,h.get? x=some o∧o.cls=.ref C)(hq:R (.ok (.ret (.ref C))) ⟨h,g,d,t,os⟩) :
  codeAny (model prog w) A (.call (.builtin "getset_descriptor.__get__") ⟨[.builtin "object.__class__",.ref x,tp],[]⟩) R ⟨h,g,d,t,os⟩:=by
 have L1:=looks_mroIn (M:=model prog w) Z S.mo;obtain⟨o,ho,hc⟩:=hx;refine codeAny_call_builtin KF.slot_gs.plain KF.entry_gs (KF.slot_gs.check _ _ _ _ _ _ _ _ KF.type_class (KF.args_gs _ _ _) ?_);unfold Builtin.«getset_descriptor.__get__» descrGet;rw [dga_obj];refine wpAny_bind (wpAny_pure ?_);unfold descrGetter descrCheckInstance descrNameAndClass isInstance;simp only [KF.owner_class]
 repeat lk
 refine⟨Code.quiet_builtin _ (by decide +kernel),codeAny_builtin KF.entry_class ?_⟩;unfold Builtin.«object.__class__» shownTypeOf
 repeat lk
 exact hq
theorem qhM{M:Model}{nameV:Value}{Q:Unit→Shared→Prop}(Z:K.In h)(S:qaL K C)(L0:Looks M h (typeOf (.ref x)) (.ref C))(hq:Q () ⟨h,g,d,t,os⟩) :
  wpAny M A (checkBuiltinCall "BaseException.__getattribute__" ⟨[.ref x,nameV],[]⟩) Q E ⟨h,g,d,t,os⟩:=by
 have hk:builtinKind "BaseException.__getattribute__" = some .slot:=by decide +kernel
 have hsplit:splitId "BaseException.__getattribute__" = some ("BaseException","__getattribute__"):=by decide +kernel
 have L1:=looks_mroIn (M:=M) Z S.mb;have ha:=F.args_bexc_ga (.ref x) nameV;simp only [checkBuiltinCall,hk,hsplit];refine wpAny_bind ?_;unfold isInstance
 repeat (first|assumption|lk|wp_step)
theorem qkI{tk:Tok}{Q:Fin→Shared→Prop}(Z:K.In h)(S:qaL K C)(L0:Looks (model prog w) h (typeOf (.ref x)) (.ref C))(hx:∃o,h.get? x=some o∧o.cls=.ref C)(hq:Q (.done (.ret (.ref C))) ⟨h,g,d,t,os⟩) :
  wpAny (model prog w) A (Builtin.«object.__getattribute__» ⟨[.ref x,.str "__class__" tk],[]⟩) Q E ⟨h,g,d,t,os⟩:=by
 have hT5:(⟨h,g,d,t,os⟩:Shared).TypeIs (.builtin "object.__class__") "getset_descriptor":=F.typeOf_object_class;have L2:=looks_findIn (M:=model prog w) Z S.gc;have f5:=F.typeOf_object_class;have f6:=F.slot_gs_get.lookup;have f7:=F.slot_gs_set.lookup
 repeat (any_goals (first|assumption|with_reducible refine L0.at ?_|with_reducible refine wpAny_bind (L0.at ?_)|with_reducible refine L2.at ?_|with_reducible refine wpAny_bind (L2.at ?_)|wp_step))
 refine qgR Z S L0 hx ?_
 repeat (any_goals (first|assumption|wp_step))
theorem qrq{tk:Tok}{Q:Value→Shared→Prop}(Z:K.In h)(S:qaL K C)(L0:Looks (model prog w) h (typeOf (.ref x)) (.ref C))(hx:∃o,h.get? x=some o∧o.cls=.ref C)(hq:Q (.ref C) ⟨h,g,d,t,os⟩) :
  wpAny (model prog w) A (getAttrBy (.ref x) (.str "__class__" tk) false) Q E ⟨h,g,d,t,os⟩:=by
 have f3:=F.attr_ValueError.ga.bind (.ref x);have hx2:(Value.builtin "BaseException.__getattribute__" == Value.builtin "object.__getattribute__")=false:=by decide +kernel
 have hx1:(onTheHeap (Value.ref C)&&Value.builtin "BaseException.__getattribute__" == Value.builtin "object.__getattribute__")=false:=by rw [hx2];rfl
 have L2:=looks_findIn (M:=model prog w) Z S.ga;have L3:=looks_findIn (M:=model prog w) Z S.gt
 repeat (any_goals (first|assumption|with_reducible refine L0.at ?_|with_reducible refine wpAny_bind (L0.at ?_)|with_reducible refine L2.at ?_|with_reducible refine wpAny_bind (L2.at ?_)|with_reducible refine L3.at ?_|with_reducible refine wpAny_bind (L3.at ?_)|wp_step))
 refine codeAny_call_builtin F.attr_ValueError.ga.plain F.entry_bexc_ga (qhM Z S L0 (qkI Z S L0 hx ?_))
 repeat (any_goals (first|assumption|wp_step))
theorem qny{Q:Option Value→Shared→Prop}(Z:K.In h)(S:qaL K C)(L0:Looks (model prog w) h (typeOf (.ref x)) (.ref C))(hx:∃o,h.get? x=some o∧o.cls=.ref C)(hq:Q (some (.ref C)) ⟨h,g,d,t+1,os⟩) :
  wpAny (model prog w) A (getAttr? (.ref x) "__class__") Q E ⟨h,g,d,t,os⟩:=by
 unfold getAttr? getAttrBy?
 repeat (any_goals (first|assumption|with_reducible apply qrq Z S L0 hx|wp_step))
end
end L2
namespace L2
open PySem PySem.Spec PyProof.Rows
structure qux(prog:Program)(w:World)(xs:Array Value)(i l:Addr)(P:Nat→Heap→Prop):Prop where
 fr:∀k h h',P k h→(∀o,h.get? i=some o→h'.get? i=some o)→(∀o,h.get? l=some o→h'.get? l=some o)→P k h'
 nx:∀{A:Around} (k:Nat) (x:Value) (s:Shared) (Q:Value→Shared→Prop) (E:Value→Shared→Prop),P k s.heap→xs[k]? = some x→(∀h',P (k+1) h'→Heap.SameBut i s.heap h'→Q x {s with heap:=h'})→wpAny (model prog w) A (Builtin.SmallTypes.nextOf (.ref i)) Q E s
 en:∀{A:Around} (k:Nat) (s:Shared) (Q:Value→Shared→Prop) (E:Value→Shared→Prop),A.handled=none→P k s.heap→xs[k]? = none →
  (∀h' e,Heap.ExtBut i s.heap h'→(∃o,h'.get? e=some o∧o.cls=.type "StopIteration")→E (.ref e) {s with heap:=h'})→wpAny (model prog w) A (Builtin.SmallTypes.nextOf (.ref i)) Q E s
 at_:∀k h,P k h→∃o,h.get? i=some o∧∃vs,o.data=.fields vs
section
variable{prog:Program}{w:World}{A:Around}{E:Value→Shared→Prop}{s:Shared}
end
section
variable{prog:Program}{w:World}{A:Around}{E:Value→Shared→Prop}{s:Shared}{z TI TO i1 i2 l1 l2:Addr}{k:Nat}{xs ys:Array Value}{P1 P2:Nat→Heap→Prop}
structure ZAp(z TI TO i1 i2 l1 l2:Addr):Prop where
 d:ZipApart z TI TO i1 i2 l1 l2
end
section
variable{X:Cx}{pins:List (Addr×Obj)}{σ:St}{H:Hp}{s:Shared}{h':Heap}{tk:Nat}
theorem Inv.turnNew{ch:List Addr}{p:Addr}{vs:List V}{its:List Value}(I:Inv X pins σ H s)(hf:∀b∈ch,qbS X pins H b)(k:∀b o,b∉ch→s.heap.get? b=some o→h'.get? b=some o)
  (hp:s.heap.objs.size≤p) (ht:IsTup h' p its.toArray) (r:Vals vs its) (hz:vs.length≤sizeLine):Inv X pins σ (upd H p (.tup vs)) {s with heap:=h',toks:=tk}:=by
 have hpn:H p=none:=I.hok.fresh hp;have nch:∀b u,H b=some u→b∉ch:=fun b u e z=>by have:=(hf b z).1;rw [e]at this;cases this
 have np:∀b u,H b=some u→b≠p:=fun b u e z=>by rw [z,hpn]at e;cases e
 refine I.step (g':=s.gens) (d':=s.drawn) (ch:=ch) (fun b hb=>?_) (fun b o _ _ hc e _=>k b o hc e) (fun b o _ _ hc e _=>⟨o.slots,k b o hc e⟩) (fun b o hc e n=>?_) (fun b o hc e=>⟨o,k b o hc e⟩)
  (fun b xs e=>by rw [qm (np b _ e)];exact e) (fun b o u e=>by rw [qm (np b _ e)];exact e) (fun b ps e=>⟨#[],by rw [qm (np b _ e),e];simp⟩) (fun m hm=>?_) (fun b u e=>?_) I.bare
 ·obtain⟨f0,f1,f2,f3,f4,f5⟩:=hf b hb;exact⟨f3,f1,f4,f5⟩
 ·rw [qm (Nat.ne_of_lt (Nat.lt_of_lt_of_le (Heap.lt_size e) hp))];exact n
 ·obtain⟨o,es,ep,ho,r⟩:=hm;exact⟨o,es,ep,k _ o (fun z=>(hf _ z).2.1 rfl) ho,r⟩
 ·by_cases hb:b=p
  ·subst hb;rw [zw]at e;cases e;exact⟨hz,its,r,ht⟩
  ·rw [qm hb]at e;refine(I.hok b u e).stay (fun c v hc q=>k c v ?_ q) (fun c q=>by rw [qm (np c _ q)];exact q) fun c xs q=>by rw [qm (np c _ q)];exact q
   rcases hc with z|z
   ·rw [z];exact nch b u e
   ·exact nch c _ z
theorem Inv.turnAll{ch:List Addr}(I:Inv X pins σ H s)(hf:∀b∈ch,qbS X pins H b)(k:∀b o,b∉ch→s.heap.get? b=some o→h'.get? b=some o):Inv X pins σ H {s with heap:=h',toks:=tk}:=by
 have nch:∀b u,H b=some u→b∉ch:=fun b u e z=>by have:=(hf b z).1;rw [e]at this;cases this
 refine I.step (g':=s.gens) (d':=s.drawn) (ch:=ch) (fun b hb=>?_) (fun b o _ _ hc e _=>k b o hc e) (fun b o _ _ hc e _=>⟨o.slots,k b o hc e⟩) (fun b o hc e n=>n) (fun b o hc e=>⟨o,k b o hc e⟩)
  (fun b xs e=>e) (fun b o u e=>e) (fun b ps e=>⟨#[],by rw [e];simp⟩) (fun m hm=>?_) (fun b u e=>?_) I.bare
 ·obtain⟨f0,f1,f2,f3,f4,f5⟩:=hf b hb;exact⟨f3,f1,f4,f5⟩
 ·obtain⟨o,es,ep,ho,r⟩:=hm;exact⟨o,es,ep,k _ o (fun z=>(hf _ z).2.1 rfl) ho,r⟩
 ·refine(I.hok b u e).stay (fun c v hc q=>k c v ?_ q) (fun c q=>q) fun c xs q=>q
  rcases hc with z|z
  ·rw [z];exact nch b u e
  ·exact nch c _ z
end
section
variable{prog:Program}{w:World}{A:Around}{E:Value→Shared→Prop}{s:Shared}
end
theorem qmv{K:PySem.W.Frag}{x C:Addr}(S:qaL K C):PySem.W.KitX K (.ref x) (.ref C) (fun h=>∃o,h.get? x=some o∧o.cls=.ref C) where
 ty:=fun M h _ ⟨o,e,c⟩=>c▸(PySem.W.Looks.ld e).andThen .now
 it:=fun _ _ Z _=>by
  obtain⟨c,dd,cd,sl,e⟩:=S.cl;intro A' Q' E' s' k q;unfold isType loadHead;exact wpAny_bind (wpAny_loadPart (k _ _ (Z _ _ e)) (wpAny_pure q))
 ne:=fun h tp dd its n sl Z htp=>by
  obtain⟨c,dd',cd,sl',e⟩:=S.cl;refine Bool.eq_false_iff.mpr fun q=>?_
  have e1:C=tp:=Value.ref.inj (beq_iff_eq.mp q);subst e1;have z:=(Z _ _ e).symm.trans htp;cases z
 ca:=fun {prog w A E Q s} Z ⟨o,e,c⟩ k=>by
  obtain⟨hh,g,d,t,os⟩:=s;exact qny Z S (c▸(PySem.W.Looks.ld e).andThen .now) ⟨o,e,c⟩ k
noncomputable def qmD:V→Option Value
 | .ty n=>some (.type n)
 | .ref a=>some (.ref a)
 |_=>none
noncomputable def TyX(K:PySem.W.Frag)(H:Hp)(x:V)(t:Value):Prop:=qbR K H x t∨∃a C,x=.ref a∧t=.ref C∧H a=some (qnv a (.ref C))∧qaL K C
theorem qnu{X:Cx}:qx X (.builtin "isinstance") (fun xs H Q=>∃x c cv t b,xs=[x,c]∧qmD c=some cv∧TyX X.K H x t∧PySem.W.kitOne X.K t cv=some b∧Q (.bl b) H):=by
 intro pins s σ H xs us Q I r h;obtain⟨x,c,cv,t,b,rfl,hc,ty,hk,q⟩:=h;obtain⟨u,cu,rfl,rx,rc⟩:=r.two;have e:cu=cv:=by
  cases c with
  |ty n=>cases hc;exact rc
  |ref a=>cases hc;exact rc
  |_=>cases hc
 subst e;rcases ty with ty|⟨a,C,rfl,rfl,ha,S⟩
 ·exact qbj I rx ty hk fun tk=>⟨.bl b,H,I.tok tk,rfl,q⟩
 ·cases rx;obtain⟨⟨o,vs,e1,e2,e3⟩,_⟩:=(show zI X.prog X.w H s.heap a (qnv a (.ref C))from I.hok a _ ha)
  exact PySem.W.kia_one (qmv S) I.kIn ⟨o,e1,e2⟩ hk (fun z=>nomatch z) fun tk=>⟨.bl b,H,I.tok tk,rfl,q⟩
theorem qsg{K:PySem.W.Frag}{T:String}:PySem.W.kitOne K (.type T) (.type T)=some true:=by unfold PySem.W.kitOne;rw [if_pos (by simp)]
theorem qrR{K:PySem.W.Frag}{a T:String}{b:Bool}(hne:(Value.type a==Value.type T)=false)(hm:PySem.W.kitMeta T=true)(hf:(fastBuiltinMro a).map (·.contains (.type T))=some b):PySem.W.kitOne K (.type a) (.type T)=some b:=by
 unfold PySem.W.kitOne PySem.W.kitCls PySem.W.subIn;rw [if_neg (by rw [hne];exact Bool.false_ne_true)];dsimp only;rw [if_pos hm];exact hf
noncomputable def qeG(a T:String):Bool:=a==T||(a == "bool" && T == "int")
theorem qrD{K:PySem.W.Frag}{a T:String}(ha:a∈["NoneType","bool","int","str","list","tuple","dict"])(hT:T∈["int","bool","str","list","tuple"]):PySem.W.kitOne K (.type a) (.type T)=some (qeG a T):=by
 simp only [List.mem_cons,List.not_mem_nil,or_false]at ha hT;rcases ha with rfl|rfl|rfl|rfl|rfl|rfl|rfl<;>rcases hT with rfl|rfl|rfl|rfl|rfl<;>first|exact qsg|exact qrR (by decide +kernel) (by decide +kernel) (by decide +kernel)
noncomputable def ltP(p q:Int×Int):Bool:=if p.1=q.1 then decide (p.2<q.2)else decide (p.1<q.1)
section
variable{prog:Program}{w:World}{A:Around}{E:Value→Shared→Prop}{s:Shared}
end
theorem qpv{h:Heap}{a:Addr}{m m':Str→Option Value}(x:h.Ns a m)(y:h.Ns a m'):m=m':=by
 obtain⟨o,es,ep,e1,e2,_,e4⟩:=x;obtain⟨o',es',ep',f1,f2,_,f4⟩:=y;rw [e1]at f1;cases f1;rw [e2]at f2;cases f2;funext n;rw [←e4,←f4]
theorem Inv.newList{X:Cx}{pins:List (Addr×Obj)}{σ:St}{H:Hp}{s s':Shared}{D:Addr}{out:List V}{its:List Value}{c:Nat}(I:Inv X pins σ H s)(hos:s'.os=s.os)(hg:s'.gens=s.gens)
  (k:∀b o,b≠X.env.locals→s.heap.get? b=some o→s'.heap.get? b=some o) (ns:∀m,s.heap.Ns X.env.locals m→s'.heap.Ns X.env.locals m) (hD:s.heap.get? D=none) (hDL:D≠X.env.locals)
  (hl:s'.heap.get? D=some {cls:=.type "list",data:=.seq its.toArray c}) (r:Vals out its) (hz:out.length≤sizeLine):Inv X pins σ (upd H D (.lst out)) s':=by
 obtain⟨h',g',d',t',o'⟩:=s';have eo:o'=s.os:=hos;have eg:g'=s.gens:=hg;subst eo eg;have hpn:H D=none:=I.hok.free_of hD;have np:∀b u,H b=some u→b≠D:=fun b u e z=>by rw [z,hpn]at e;cases e
 obtain⟨m0,n0,_⟩:=id I.loc;obtain⟨oL,es,ep,hoL,_⟩:=id n0;obtain⟨oL',es',ep',hoL',_⟩:=ns _ n0;refine I.step (g':=s.gens) (d':=d') (ch:=[]) (fun b hb=>absurd hb (by simp)) (fun b o hL _ _ e _=>k b o hL e) (fun b o hL _ _ e _=>⟨o.slots,k b o hL e⟩) (fun b o _ e n=>?_) (fun b o _ e=>?_)
  (fun b xs e=>by rw [qm (np b _ e)];exact e) (fun b o u e=>by rw [qm (np b _ e)];exact e) (fun b ps e=>⟨#[],by rw [qm (np b _ e),e];simp⟩) ns (fun b u e=>?_) I.bare
 ·rw [qm (fun z=>by rw [z,hD]at e;cases e)];exact n
 ·by_cases hL:b=X.env.locals
  ·exact⟨oL',by rw [hL];exact hoL'⟩
  ·exact⟨o,k b o hL e⟩
 ·by_cases hb:b=D
  ·subst hb;rw [zw]at e;cases e;exact⟨hz,its,c,r,hl⟩
  ·rw [qm hb]at e;have nl:∀c,(∃u,H c=some u)→c≠X.env.locals:=fun c ⟨u,e⟩ z=>by rw [z,I.free]at e;cases e
   refine(I.hok b u e).stay (fun c v hc q=>k c v (nl c ?_) q) (fun c q=>by rw [qm (np c _ q)];exact q) fun c xs q=>by rw [qm (np c _ q)];exact q
   rcases hc with z|z
   ·exact⟨u,by rw [z];exact e⟩
   ·exact⟨_,z⟩
section
variable{prog:Program}{w:World}{A:Around}{E:Value→Shared→Prop}{s:Shared}
theorem qjR{l:Addr}{vs:List Value}{Q:Value→Shared→Prop}(hl:s.heap.IsList l vs.toArray)(h2:vs.length<2)(h:Q (.ref (s.heap.objs.size+1)) {s with heap:=sortedAll s.heap vs vs.toArray}):wpAny (model prog w) A (call (.builtin "sorted") [.ref l]) Q E s:=by
 refine Calls.call_function_entry kind_sorted plain_sorted entry_sorted (args_sorted1 _) ?_;unfold Builtin.«sorted»;refine wpAny_bind (m:=checkCount "sorted" 1 1 _) (wpAny_pure ?_);refine wpAny_bind (collect_list hl ?_ (by rw [sizeLine_eq];lia));refine wpAny_bind (wpAny_newList ?_ (by rw [sizeLine_eq];lia));have hsz:((s.heap.push (seqObj "list" #[] 0)).update s.heap.objs.size (Obj.mapSeq (· ++ vs.toArray))).objs.size=s.heap.objs.size+1:=by rw [Heap.size_update,size_push']
 have hoL:(((s.heap.push (seqObj "list" #[] 0)).update s.heap.objs.size (Obj.mapSeq (· ++ vs.toArray))).push (seqObj "list" vs.toArray 0)).get? (s.heap.objs.size+1)=some (seqObj "list" vs.toArray 0):=by rw [←hsz];exact Heap.get?_push_size _ rfl
 show wpAny _ _ _ _ _ {s with heap:=((s.heap.push (seqObj "list" #[] 0)).update s.heap.objs.size (Obj.mapSeq (· ++ vs.toArray))).push (seqObj "list" vs.toArray 0)};rw [hsz];refine wpAny_bind (wpAny_holding (wpAny_call_entry slot_list_sort ⟨_,hoL,rfl⟩ entry_list_sort ?body (args_list_sort _)))
 case body=>
  generalize hh:((s.heap.push (seqObj "list" #[] 0)).update s.heap.objs.size (Obj.mapSeq (· ++ vs.toArray))).push (seqObj "list" vs.toArray 0)=hp at hoL ⊢;generalize ha:s.heap.objs.size+1=a at hoL ⊢;rw [list_sort_plain];refine wpAny_bind (listItems_at (s:={s with heap:=hp}) hoL rfl ?_);refine wpAny_bind (listUpdate_at (s:={s with heap:=hp}) hoL rfl ?_ (by rw [List.size_toArray,sizeLine_eq];lia) (Nat.zero_le _));obtain⟨e1,ho1⟩:∃e1,(hp.update a (Obj.mapSeq fun _=>#[])).get? a=some (seqObj "list" #[] e1):=⟨_,get?_update_seq hoL (fun _=>#[])⟩
  refine wpAny_bind (seqEpoch_at ho1 rfl ?_);refine wpAny_bind (wpAny_newTuple ?_ (by show vs.length≤_;rw [sizeLine_eq];lia));refine wpAny_bind (wpAny_newList ?_ (Nat.zero_le _));refine wpAny_holding ?_;have hlt:a<hp.objs.size:=Heap.lt_size hoL;have ho6:(((hp.update a (Obj.mapSeq fun _=>#[])).push (seqObj "tuple" vs.toArray 0)).push (seqObj "list" #[] 0)).get? a=some (seqObj "list" #[] e1):=by
   rw [Heap.get?_push_ne _ _ _ (by rw [size_push',Heap.size_update];exact Nat.ne_of_lt (Nat.lt_succ_of_lt hlt)),Heap.get?_push_ne _ _ _ (by rw [Heap.size_update];exact Nat.ne_of_lt hlt)];exact ho1
  show wpAny (model prog w) _ _ _ _ {s with heap:=((hp.update a (Obj.mapSeq fun _=>#[])).push (seqObj "tuple" vs.toArray 0)).push (seqObj "list" #[] 0)};dsimp only;have h2':vs.toArray.size<2:=by rw [List.size_toArray];exact h2
  rw [if_pos h2',if_pos h2'];refine wpAny_bind (wpAny_pure ?_);rw [StateT.run_pure];refine wpAny_bind (wpAny_pure ?_);dsimp only;refine wpAny_bind (seqEpoch_at ho6 rfl ?_);have hout:(arrOf (SortSt.mk' general' (vs.toArray.zip vs.toArray) #[] 7 none)).map (·.2)=vs.toArray:=by
   show (vs.toArray.zip vs.toArray).map (·.2)=vs.toArray;apply Array.toList_inj.mp;simp [List.map_snd_zip]
  refine wpAny_bind (listUpdate_at ho6 rfl ?_ (Nat.zero_le _) (by rw [hout,List.size_toArray,sizeLine_eq];lia));simp only [bne_self_eq_false,Bool.false_eq_true,if_false];refine wpAny_pure ⟨_,rfl,wpAny_pure ⟨_,rfl,?_⟩⟩;rw [←ha]at *;rw [hout];subst hh;exact h
end
section
variable{X:Cx}{pins:List (Addr×Obj)}{σ:St}{H:Hp}{s:Shared}
theorem qpM{A:Around}{bs:List Bool}{us:List Value}(r:Vals (bs.map V.bl) us):us=bs.map Value.bool:=by
 induction bs generalizing us with
 |nil=>cases r;rfl
 |cons b bs ih=>cases r with
  |cons h t=>rw [ih t,show _=Value.bool b from h];rfl
end
section
variable{X:Cx}
noncomputable def qoP(r r' r'':R2)(ta tb tc td:TE):TE:=fun σ H Q=>ta σ H fun x H1=>tb σ H1 fun y H2=>r x y H2 fun z H3=>∃k,z=.bl k ∧
 (if k=true then tc σ H3 fun w' H4=>r' y w' H4 fun z H5=>∃k,z=.bl k∧(if k=true then td σ H5 fun w'' H6=>r'' w' w'' H6 Q else Q (.bl false) H5)else Q (.bl false) H3)
theorem qlh{a b c d:Expr}{ta tb tc td:TE}{pos:Pos}{op op' op'':CmpOp}{r r' r'':R2}(ho:OpR X (compareOp op) r)(ho':OpR X (compareOp op') r')(ho'':OpR X (compareOp op'') r'')(ha:PE X a ta)(hb:PE X b tb)(hc:PE X c tc)(hd:PE X d td)
  (hm:lastMarks [op,op',op''] [b,c,d]=false:=by with_unfolding_all rfl):PE X (.Compare a [op,op',op''] [b,c,d] pos) (qoP r r' r'' ta tb tc td):=by
 intro pins s σ H Q I h;refine Compare_chain (thn (ha pins s σ H _ I h) fun v s1 ⟨x,H1,I1,r1,q1⟩=>chain_link (thn (hb pins s1 σ H1 _ I1 q1) fun u s2 ⟨y,H2,I2,r2,q2⟩=>
  thn (ho pins s2 σ H2 x y v u _ I2 r1 r2 q2) fun d s3 ⟨z,H3,I3,r3,k,e,q3⟩=>?_)) hm
 subst e;cases r3;refine wpAny_truthy_bool ?_;cases k with
 |false=>exact ite_ff ⟨.bl false,H3,I3,rfl,q3⟩
 |true=>
  refine ite_tt (chain_link (thn (hc pins s3 σ H3 _ I3 q3) fun w' s4 ⟨z',H4,I4,r4,q4⟩=>thn (ho' pins s4 σ H4 y z' u w' _ I4 r2 r4 q4) fun d' s5 ⟨z2,H5,I5,r5,k2,e2,q5⟩=>?_));subst e2;cases r5;refine wpAny_truthy_bool ?_;cases k2 with
  |false=>exact ite_ff ⟨.bl false,H5,I5,rfl,q5⟩
  |true=>exact ite_tt (chain_last (thn (hd pins s5 σ H5 _ I5 q5) fun w'' s6 ⟨z3,H6,I6,r6,q6⟩=>ho'' pins s6 σ H6 z' z3 w' w'' Q I6 r4 r6 q6))
noncomputable def qsA(K:PySem.W.Frag):R2:=fun x y H Q=>∃a b xs ys,x=.ref a∧y=.ref b∧SqT K H a xs∧SqT K H b ys∧xs.length+ys.length≤sizeLine ∧
 (xs=[]→Q (.ref b) H)∧(xs≠[]→ys=[]→Q (.ref a) H)∧(xs≠[]→ys≠[]→∀p,H p=none→Q (.ref p) (upd H p (.tup (xs++ys))))
theorem quq:OpR X (binaryOp .Add) (qsA X.K):=by
 intro pins s σ H x y v u Q I rx ry h;obtain⟨a,b,xs,ys,rfl,rfl,ha,hb,hz,q0,q1,q2⟩:=h;by_cases hx:xs=[]
 ·subst hx;cases rx;cases ry;obtain⟨its,r1,p1,_⟩:=I.tuple ha;obtain⟨its2,r2,p2,_⟩:=I.tuple hb;cases r1;obtain⟨⟨cls,dd,data,sl⟩,ho,hc,n,hd⟩:=id p1;obtain⟨⟨cls2,dd2,data2,sl2⟩,ho2,hc2,n2,hd2⟩:=id p2;simp only at hc hd hc2 hd2;subst hc hd hc2 hd2;exact concat_meets ⟨_,ho,rfl⟩ ⟨_,ho2,rfl⟩ noFill_tuple_add seq_tuple_add PySem.F.slot_tuple_add PySem.F.entry_tuple_add (PySem.F.args_tuple_add_2 _ _)
   (tuple_addW0 a b _ its2.toArray n n2 dd dd2 sl sl2 (by simp)) ⟨ho,ho2,⟨.ref b,H,I,rfl,q0 rfl⟩⟩
 ·exact qoX pins s σ H (.ref a) (.ref b) v u Q I rx ry ⟨a,b,xs,ys,rfl,rfl,ha,hb,hx,hz,q1 hx,q2 hx⟩
end
noncomputable def Ite(K:PySem.W.Frag)(l:Addr):It:=
 ⟨fun i H=>∃xs x,SqL K H l xs∧xs[i]? = some x,
  fun i H v H'=>∃p x,H p=none∧v=.ref p∧H'=upd H p (.tup [.int i,x])∧∀xs,SqL K H l xs→xs[i]? = some x,
  fun i H=>∃xs,SqL K H l xs∧xs.length≤i⟩
theorem qlf{P:Program}{w:World}{K:PySem.W.Frag}{es:List Expr}{ek:Nat}{epos:Pos}{e it l:Addr}(n1:e≠it)(n2:l≠e)(n3:l≠it) :
  Turn P w K (.Tuple es ek epos) (Ite K l) [e,it] e (fun i h=>(∃old,IsEnum h e it ((i:Nat):Int) old)∧h.IsListIter it l i) where
 mem:=by simp
 obj:=fun i h st b hb=>by
  obtain⟨⟨old,hz⟩,o1,e1,_,d1⟩:=st;have hb':b=e∨b=it:=by simpa using hb
  rcases hb' with q|q
  ·subst q;exact⟨_,hz,fun v q=>by cases q⟩
  ·subst q;exact⟨o1,e1,fun v q=>by rw [d1]at q;cases q⟩
 keep:=fun i h h' st k=>by
  obtain⟨⟨old,hz⟩,h1⟩:=st;exact⟨⟨old,k e (by simp) _ hz⟩,h1.at fun o q=>k it (by simp) o q⟩
 item:=by
  intro X hP hw hK hc i pins s σ H E I hf st hg;subst hP hw hK;obtain⟨⟨old,hz⟩,h1⟩:=st;obtain⟨xs,x,q1,hx⟩:=hg;obtain⟨its,r1,p1,z1⟩:=I.list q1;obtain⟨u1,hu1,ru1⟩:=r1.get hx;refine wpAny_pyNext_enum_item hz h1 p1.isList (x:=u1) (by simpa using hu1) n1 fun h' a1 a2 a3 a4 hk=>?_
  have hkc:∀b o,b∉[e,it]→s.heap.get? b=some o→h'.get? b=some o:=fun b o hb q=>hk b o (fun z=>hb (by simp [z])) (fun z=>hb (by simp [z])) q
  have I1:Inv X pins σ (upd H s.heap.objs.size (.tup [.int i,x])) {s with heap:=h',toks:=s.toks+1}:=I.turnNew (tk:=s.toks+1) (its:=[.int i s.toks,u1]) hf hkc (Nat.le_refl _) ⟨_,a3,rfl,_,rfl⟩ (.cons ⟨_,rfl⟩ (.cons ru1 .nil)) (by show 2≤sizeLine;decide);have hpn:H s.heap.objs.size=none:=I.hok.fresh (Nat.le_refl _);have hfp:∀b∈[e,it],b≠s.heap.objs.size:=fun b hb q=>by
   have hb':b=e∨b=it:=by simpa using hb
   obtain⟨o1,e1,_,d1⟩:=h1;have:b<s.heap.objs.size:=by
    rcases hb' with q|q
    ·subst q;exact Heap.lt_size hz
    ·subst q;exact Heap.lt_size e1
   rw [q]at this;exact Nat.lt_irrefl _ this
  have hnone:∀b∈[e,it],(upd H s.heap.objs.size (.tup [.int i,x])) b=none:=fun b hb=>by rw [qm (hfp b hb)];exact(hf b hb).1
  refine⟨_,rfl,?_⟩;refine wpAny_letOwnedTupleGo_enum (s:={s with heap:=h',toks:=s.toks+1}) a1 fun h2' hz' hs'=>?_
  obtain⟨f0,f1,f2,f3,f4,f5⟩:=hf e (by simp);refine⟨.ref s.heap.objs.size,_,I1.turned (t':=s.toks+1) (it:=e) (fun b o hb q=>(hs'.2 b hb).trans q) (hnone e (by simp)) f1 f3 f4 f5,rfl,⟨_,x,hpn,rfl,rfl,fun zs hq=>by rw [I.list_inj hq q1];exact hx⟩,⟨⟨u1,?_⟩,a2.at fun o q=>(hs'.2 it (Ne.symm n1)).trans q⟩,hnone⟩
  ·have:((i+1:Nat):Int)=(i:Int)+1:=by push_cast;rfl
   rw [this];exact hz'
 done:=by
  intro X hP hw hK hc i pins s σ H E I hf st hg;subst hP hw hK;obtain⟨⟨old,hz⟩,h1⟩:=st;obtain⟨xs,q1,hx⟩:=hg;obtain⟨its,r1,p1,z1⟩:=I.list q1;have hl:=r1.length;exact wpAny_pyNext_enum_end (I.ok.hd hc) hz h1 p1.isList (by simp;lia) fun h' eb=>⟨rfl,I.turnAll (tk:=s.toks) hf fun b o hb q=>eb b o (fun z=>hb (by simp [z])) q⟩
 self:=fun _ _ _ _ _ st h=>by
  obtain⟨⟨old,hz⟩,_⟩:=st;exact wpAny_pyIter_enum hz h
noncomputable def qsU(K:PySem.W.Frag)(ta:TA):TI:=fun σ H R=>ta σ H fun vs H1=>∃(l:Addr),vs=[.ref l]∧(∃xs,SqL K H1 l xs)∧R (Ite K l) H1
theorem qpF{X:Cx}{es:List Expr}{ek:Nat}{epos p pos:Pos}{a:Expr}{ta:TA}(hg:Gl X "enumerate")(hm:X.mg "enumerate" = none)(hv:bootBuiltins "enumerate" = some (.type "enumerate"))(ha:PA X [a] ta)
  (hs:starEach [a] X.env=[(false,eval a X.env)]:=by rfl):PI X (.Tuple es ek epos) (.Call (.Name "enumerate" p) [a] [] pos) (qsU X.K ta):=by
 intro pins s σ H R I h;refine Call_ (qcg I hg hm hv (PyProof.Rows.callWith_type1 (thn (ha pos pins s σ H _ I h) fun us s1 ⟨vs,H1,I1,r1,q1⟩=>?_) (by rw [hs];rfl) (by rfl)));obtain⟨l,e,⟨xs,q2⟩,q⟩:=q1;subst e;cases r1 with
 |cons r rr=>
  cases rr;cases r;obtain⟨its1,v1,p1,_⟩:=I1.list q2;have lt1:l<s1.heap.objs.size:=by obtain⟨_,e,_⟩:=p1.isList;exact Heap.lt_size e
  refine call_enumerate_list p1.isList fun h' hE hI hsz k=>?_
  have I2:Inv X pins σ H1 {s1 with heap:=h'}:=I1.kept (t':=s1.toks) k;refine wpAny_pyIter_enum hE ?_;refine⟨_,_,_,_,H1,rfl,I2,qlf (P:=X.prog) (w:=X.w) (K:=X.K) (e:=s1.heap.objs.size+1) (it:=s1.heap.objs.size) (l:=l) (Nat.succ_ne_self _) (Nat.ne_of_lt (Nat.lt_succ_of_lt lt1)) (Nat.ne_of_lt lt1),⟨⟨_,hE⟩,hI⟩,fun b hb=>?_,q⟩;have hb':b=s1.heap.objs.size+1∨b=s1.heap.objs.size:=by simpa using hb
  have:s1.heap.objs.size≤b:=by
   rcases hb' with q|q
   ·rw [q];exact Nat.le_succ _
   ·rw [q];exact Nat.le_refl _
  exact I1.fpOk this (I1.hok.fresh this)
end L2
namespace L2
open PySem PySem.Spec PyProof.Rows PySem.SeqAt
mutual
inductive qbw(K:PySem.W.Frag)(H:Hp):V→PyData→Prop
 |non:qbw K H .non .none
 |bl (b:Bool):qbw K H (.bl b) (.bool b)
 |int (i:Int):qbw K H (.int i) (.int i)
 |str (x:Str):qbw K H (.str x) (.str x)
 |lst {a:Addr}{xs:List V}{ds:List PyData}:SqL K H a xs→qbU K H xs ds→qbw K H (.ref a) (.list ds)
 |tup {a:Addr}{xs:List V}{ds:List PyData}:SqT K H a xs→qbU K H xs ds→qbw K H (.ref a) (.tuple ds)
inductive qbU(K:PySem.W.Frag)(H:Hp):List V→List PyData→Prop
 |nil:qbU K H [] []
 |cons {x:V}{xs:List V}{d:PyData}{ds:List PyData}:qbw K H x d→qbU K H xs ds→qbU K H (x::xs) (d::ds)
end
section
variable{X:Cx}{pins:List (Addr×Obj)}{σ:St}{H:Hp}{s:Shared}
mutual
theorem Inv.reads(I:Inv X pins σ H s):∀{x:V}{d:PyData},qbw X.K H x d→∀{u:Value},RelV x u→∃as,Reads s.heap u d as
 |_,_,.non,_,r=>by cases r;exact⟨_,.none⟩
 |_,_,.bl b,_,r=>by cases r;exact⟨_,.bool b⟩
 |_,_,.int i,_,r=>by obtain⟨t,rfl⟩:=r;exact⟨_,.int i t⟩
 |_,_,.str x,_,r=>by obtain⟨t,rfl⟩:=r;exact⟨_,.str x t⟩
 |_,_,.lst h g,_,r=>by
  cases r;obtain⟨its,rv,pl,_⟩:=I.list h;obtain⟨as,ra⟩:=Inv.readsAll I g rv;obtain⟨o,ho,hc,n,hd⟩:=pl.isList;exact⟨_,Reads.list ho hc hd (by simpa using ra)⟩
 |_,_,.tup h g,_,r=>by
  cases r;obtain⟨its,rv,pl,_⟩:=I.tuple h;obtain⟨as,ra⟩:=Inv.readsAll I g rv;obtain⟨o,ho,hc,n,hd⟩:=pl;exact⟨_,Reads.tuple ho hc hd (by simpa using ra)⟩
theorem Inv.readsAll(I:Inv X pins σ H s):∀{xs:List V}{ds:List PyData},qbU X.K H xs ds→∀{us:List Value},Vals xs us→∃as,ReadsAll s.heap us ds as
 |_,_,.nil,_,r=>by cases r;exact⟨_,.nil⟩
 |_,_,.cons h g,_,r=>by
  cases r with
  |cons r1 r2=>
   obtain⟨as,ra⟩:=Inv.reads I h r1;obtain⟨bs,rb⟩:=Inv.readsAll I g r2;exact⟨_,.cons ra rb⟩
end
end
section
variable{X:Cx}
end
end L2
namespace L2
open PySem PySem.Spec PyProof.Rows
section
variable{lt:Nat→Nat→Bool}
noncomputable def Asc(lt:Nat→Nat→Bool)(p:Array Nat)(m:Nat):Prop:=∀i j,i<j→j<m→lt (p.getD j 0) (p.getD i 0)=false
end
section
variable{lt:Nat→Nat→Bool}
structure Part(lt:Nat→Nat→Bool)(p:Array Nat)(r:Nat×Array Nat):Prop where
 perm:r.2.Perm p
 size:r.2.size=p.size
 lo:1≤r.1
 hi:r.1≤p.size
 asc:Asc lt r.2 r.1
end
end L2
namespace HT
open PySem PySem.Spec PyProof.Rows L2
section
variable{prog:Program}{w:World}{A:Around}{E:Value→Shared→Prop}{s:Shared}
theorem qiz{t sl:Addr}{items:Array Value}{vl vu:Value}{lo hi:Option Int}{Q:Value→Shared→Prop}(ht:IsTup s.heap t items)(hs:s.heap.IsSliceOf sl vl vu .none)(pl:IsPart vl lo)(pu:IsPart vu hi)
  (h0:sIx items.size 0 lo=0) (h1:sIx items.size items.size hi=items.size) (h:Q (.ref t) s):wpAny (model prog w) A (getItem (.ref t) (.ref sl)) Q E s:=by
 have sk:s.TypeIs (.ref sl) "slice":=by obtain⟨o,a,b,_⟩:=id hs;exact⟨o,a,b⟩
 unfold getItem
 try with_reducible refine wpAny_holding ?_
 first|refine wpAny_bind (wpAny_pure ?_)|skip
 have ty:=ht.typeIs;apply wpAny_bind;apply wpAny_sequenceKey ty (by decide);apply wpAny_bind;apply wpAny_callSpecial?_slot (name:=Str.ofString "__getitem__") ty slot_tuple_getitem;refine wpAny_call_entry slot_tuple_getitem ty entry_tuple_getitem ?_ (args_tuple_getitem _ _);show wpAny _ _ (Builtin.Tuple.tupleItemsOf (.ref t)>>=_) _ _ s;apply wpAny_bind;apply tupleItemsOf_ ht;apply wpAny_bind;apply wpAny_typeOf sk;rw [if_pos (by decide)];apply wpAny_bind;apply qcJ hs pl pu;have yes:(((sIx items.size 0 lo:Nat):Int)==0&&(1:Int)==1&&(sIx items.size items.size hi-sIx items.size 0 lo)==items.size)=true:=by
  rw [h0,h1];simp
 show wpAny _ _ (if (((sIx items.size 0 lo:Nat):Int)==0&&(1:Int)==1&&(sIx items.size items.size hi-sIx items.size 0 lo)==items.size)=true then _ else _) _ _ s;rw [if_pos yes];apply wpAny_bind;unfold Builtin.Tuple.tupleIsExact;refine wpAny_bind (wpAny_typeOf ty (wpAny_pure ?_));rw [if_pos (by rfl)];exact wpAny_bind (wpAny_rule (wpAny_pure ⟨_,rfl,wpAny_pure h⟩))
end
end HT
namespace L2
open PySem PySem.Spec PyProof.Rows
noncomputable def qul(K:PySem.W.Frag):V→Option Int→Option Int→Hp→VK→Prop:=fun x lo hi H Q=>∃a xs,x=.ref a∧SqT K H a xs∧HT.sIx xs.length 0 lo=0∧HT.sIx xs.length xs.length hi=xs.length∧Q x H
theorem qmG{X:Cx}:SlR X (qul X.K):=by
 intro pins s σ H x v vl vu lo hi sl Q I rx hs pl pu ⟨a,xs,e,hx,h0,h1,q⟩;subst e;have rx':=rx;cases rx;obtain⟨its,r,ht,hz⟩:=I.tuple hx;have hl:its.toArray.size=xs.length:=by rw [List.size_toArray];exact r.length.symm
 exact⟨"tuple",_,slot_tuple_getitem.lookup,ht.typeIs,HT.qiz ht hs pl pu (by rw [hl];exact h0) (by rw [hl];exact h1) ⟨.ref a,H,I,rx',q⟩⟩
noncomputable def qdf(kX:Str→Option NameKind)(NX NY:List Str)(cap:List (Option Nat))(scope:Scope):Bool:=
 (scope.kind==.function)&&(scope.names.all fun y=>(y.2 != .cell||scope.names.lookup y.1==some .cell)&&(y.2 != .local||scope.names.lookup y.1==some .local)&&(y.2 != .free||kX y.1==some .cell||kX y.1==some .free)) &&
 (cap.length==NY.length)&&(List.range cap.length).all fun i=>match cap[i]? with
  |some (some j)=>(match NY[i]?,NX[j]? with
   |some x,some y=>x==y&&scope.names.lookup x==some .free&&(kX x==some .cell||kX x==some .free)
   |_,_=>false)
  |_=>true
theorem zT.of{X:Cx}{NY:List Str}{cap:List (Option Nat)}{scope:Scope}(h:qdf X.env.kindOf X.N NY cap scope=true):zT X NY cap scope:=by
 unfold qdf at h;simp only [Bool.and_eq_true,List.all_eq_true,beq_iff_eq]at h;obtain⟨⟨⟨h1,h2⟩,h3⟩,h4⟩:=h;refine⟨h1,fun y hy e=>?_,fun y hy e=>?_,fun y hy e=>?_,h3,fun i j hc=>?_⟩
 ·have:=(h2 y hy).1.1;rw [e]at this
  simpa using this
 ·have:=(h2 y hy).1.2;rw [e]at this
  simpa using this
 ·have:=(h2 y hy).2;rw [e]at this
  simpa using this
 ·have hi:i<cap.length:=(List.getElem?_eq_some_iff.mp hc).1;have:=h4 i (List.mem_range.mpr hi);rw [hc]at this;dsimp only at this;split at this
  ·rename_i x y e1 e2
   simp only [Bool.and_eq_true,beq_iff_eq,Bool.or_eq_true]at this;obtain⟨⟨e3,e4⟩,e5⟩:=this;subst e3;exact⟨x,e1,e2,e4,e5⟩
  ·cases this
end L2
namespace WB
open PySem PySem.Spec PyProof.Rows L2
section
variable{P:Program}{w:World}{K:PySem.W.Frag}{mg:Str→Option Value}{base:Heap}{f g:Addr}{fd gd:FuncData}
theorem _root_.L2.Fun.ok1{x qual:Str}{st:Stmt}{f:Addr}{fd:FuncData}{N ps:List Str}{k:Nat}{sp:Sp}(F:Fun K x qual st f fd)(S:qda N ps (qZ st))(len:∀vs H Q E,sp vs H Q E→vs.length=ps.length)
  (hbody:∀(cdv:Value) (A:Around) (outer:List Env) (s:Shared) (H:Hp) (vs:List V) (Q:VK) (E:XK),qbB k (A.deeper (envOfC qual (qZ st) s.heap.objs.size f cdv))→sp vs H Q E →
   ∃t,PSs (qdI (CX1 P w) P w K mg base N qual (qZ st) f cdv A outer s H E) (qal st) t∧t {nx:=fun _ H'=>Q .non H',rt:=Q} (start N vs) H):qdZ P w K mg base (CX1 P w) (k+1) f fd ps sp:=by
 obtain⟨oc,od,kV,doc,pm,an,cdv,ct,osl,rfl,lk,hcd⟩:=F.ex;exact qtb lk hcd S len fun A outer s H vs Q E hr hsp=>hbody cdv A outer s H vs Q E hr hsp
end
noncomputable def qoT(H:Hp)(ps:List Addr)(ks:List (Int×Int)):Prop:=ps.length=ks.length∧∀(i:Nat) p k,ps[i]? = some p→ks[i]? = some k→H p=some (.tup [.int k.1,.int k.2])
structure Built(H0:Hp)(acc:Addr)(ks:List (Int×Int))(H:Hp):Prop where
 ex:∃ps:List Addr,H acc=some (.lst (ps.map V.ref))∧qoT H ps ks
 same:∀b o,b≠acc→H0 b=some o→H b=some o
end WB
set_option genSizeOf false
set_option genSizeOfSpec false
namespace EV
open PySem L2
inductive D where
 |non|bl (b:Bool)|int (i:Int)|str (x:Str)|tup (xs:List D)|lst (xs:List D)|fn (x:Str)|exn (c:Str)|dic
inductive R(α:Type) where
 |ok (a:α)|ex (c:Str)|no
noncomputable def R.bind{α β:Type}:R α→(α→R β)→R β
 | .ok a,f=>f a
 | .ex c,_=>.ex c
 | .no,_=>.no
@[simp] theorem R.bind_ok{α β:Type}(a:α)(f:α→R β):(R.ok a).bind f=f a:=rfl
@[simp] theorem R.bind_ex{α β:Type}(c:Str)(f:α→R β):(R.ex c:R α).bind f=.ex c:=rfl
@[simp] theorem R.bind_no{α β:Type}(f:α→R β):(R.no:R α).bind f=.no:=rfl
inductive O2 where
 |add|sub|mul|fdiv|mod|pow|shl|shr|band|bor|bxor
 deriving DecidableEq
inductive C2 where
 |eq|ne|lt|le|gt|ge|isin|notin|is|isnot
 deriving DecidableEq
inductive B1 where
 |len|tuple|list|sorted|all|any|sum|min|max|abs|int|bool
 deriving DecidableEq
inductive Cl where
 |ty (n:String)|ex (x:Str)
 deriving DecidableEq
inductive Tg where
 |nm (i:Nat)|tp (is:List Nat)
mutual
inductive E where
 |var (i:Nat)|own (i:Nat)|con (d:D)|glb (x:Str)|fnv (x:Str)
 |op (o:O2) (a b:E)|neg (a:E)|inv (a:E)|not (a:E)|and (a b:E)|or (a b:E)
 |cmp (c:C2) (a b:E)|cmp2 (c c':C2) (a b d:E)|cmp3 (c c' c'':C2) (a b d e:E)
 |ite (t:T) (a b:E)
 |tup (es:Es)|lst (es:Es)
 |ix (a b:E)|sl (a:E) (lo hi:OE)
 |call (f:Str) (es:Es)|callE (f:E) (es:Es)
 |bi (b:B1) (es:Es)
 |rtup (a:It)|rlst (a:It)
 |isi (a:E) (c:Cl)
 |comp (it:It) (cap:List (Option Nat)) (tg:Tg) (t:T) (elt:E)
 |mth (ix:Bool) (a:E)
 |cnt (a b:E)
 |mxk (mx:Bool) (a:E)
 |dic
 |callo (f:Str) (es:Es)
inductive OE where
 |none|some (e:E)
inductive Es where
 |nil|cons (e:E) (es:Es)
inductive It where
 |seq (e:E)|rng (a:E)|rng2 (a b:E)|enum (e:E)|zip (a b:E)
inductive T where
 |yes|val (e:E)|cmp (c:C2) (a b:E)|cmp2 (c c':C2) (a b d:E)|and (a b:T)|or (a b:T)|not (a:T)
end
noncomputable def SZ:Nat:=1000000
noncomputable def small(j:Int):Bool:=decide (-(2^64)<j)&&decide (j<2^64)
noncomputable def opI:O2→Int→Int→R D
 | .add,i,j=>.ok (.int (i+j))
 | .sub,i,j=>.ok (.int (i-j))
 | .mul,i,j=>if small i||small j then .ok (.int (i * j))else .no
 | .fdiv,i,j=>if 0<j∧j<1000000000000000000000000000000 then .ok (.int (i/j))else .no
 | .mod,i,j=>if 0<j then .ok (.int (i%j))else .no
 | .pow,i,j=>if 0≤j∧j≤1000000∧i.natAbs<2^64 then .ok (.int (i^j.toNat))else .no
 | .shl,i,j=>if 0≤j∧j≤1000000∧i.natAbs<2^64 then .ok (.int (i * 2^j.toNat))else .no
 | .shr,i,j=>if 0≤j then .ok (.int (i/2^j.toNat))else .no
 | .band,i,j=>.ok (.int (Builtin.bitAnd i j))
 | .bor,i,j=>.ok (.int (Builtin.bitOr i j))
 | .bxor,i,j=>.ok (.int (Builtin.bitXor i j))
noncomputable def qok:D→Bool
 | .lst _=>true
 |_=>false
noncomputable def op2(o:O2):D→D→R D
 | .int i,.int j=>opI o i j
 | .tup xs,.tup ys=>if o=.add∧xs.length+ys.length≤SZ then .ok (.tup (xs++ys))else .no
 | .lst xs,.lst ys=>if o=.add∧xs.length+ys.length≤SZ then .ok (.lst (xs++ys))else .no
 | .lst xs,.int j=>if o=.mul∧0≤j∧xs.length * j.toNat≤SZ∧j≤1000000 then .ok (.lst (List.replicate j.toNat xs).flatten)else .no
 | .tup xs,.int j=>if o=.mul∧0≤j∧xs.length * j.toNat≤SZ∧j≤1000000 then .ok (.tup (List.replicate j.toNat xs).flatten)else .no
 |_,_=>.no
mutual
noncomputable def D.plain:D→Bool
 | .non=>true
 | .bl _=>true
 | .int _=>true
 | .str x=>PyData.strOk x
 | .tup xs=>plainAll xs
 | .lst xs=>plainAll xs
 | .fn _=>false
 | .exn _=>false
 | .dic=>false
noncomputable def plainAll:List D→Bool
 | []=>true
 |x::xs=>x.plain&&plainAll xs
end
mutual
noncomputable def D.deep:D→Nat
 | .tup xs=>qbk xs+1
 | .lst xs=>qbk xs+1
 |_=>0
noncomputable def qbk:List D→Nat
 | []=>0
 |x::xs=>max x.deep (qbk xs)
end
mutual
noncomputable def D.eqv:D→D→Bool
 | .non,.non=>true
 | .bl a,.bl b=>a==b
 | .bl a,.int j=>(if a then 1 else 0)==j
 | .int i,.bl b=>i==(if b then 1 else 0)
 | .int i,.int j=>i==j
 | .str x,.str y=>x==y
 | .tup xs,.tup ys=>eqvAll xs ys
 | .lst xs,.lst ys=>eqvAll xs ys
 |_,_=>false
noncomputable def eqvAll:List D→List D→Bool
 | [],[]=>true
 |x::xs,y::ys=>x.eqv y&&eqvAll xs ys
 |_,_=>false
end
noncomputable def D.asks(d:D):Bool:=d.plain&&decide (d.deep≤20)
mutual
noncomputable def D.noL:D→Bool
 | .non=>true
 | .bl _=>true
 | .int _=>true
 | .str _=>true
 | .tup xs=>qkk xs
 |_=>false
noncomputable def qkk:List D→Bool
 | []=>true
 |x::xs=>x.noL&&qkk xs
end
noncomputable def ints?:List D→Option (List Int)
 | []=>some []
 | .int i::r=>(ints? r).map (i :: ·)
 |_=>none
noncomputable def bools?:List D→Option (List Bool)
 | []=>some []
 | .bl i::r=>(bools? r).map (i :: ·)
 |_=>none
noncomputable def pairs?:List D→Option (List (Int×Int))
 | []=>some []
 | .tup [.int i,.int j]::r=>(pairs? r).map ((i,j) :: ·)
 |_=>none
noncomputable def seq?:D→Option (List D)
 | .tup xs=>some xs
 | .lst xs=>some xs
 |_=>none
noncomputable def qbp:List Int→List Int→Bool
 | [],[]=>false
 | [],_::_=>true
 |_::_,[]=>false
 |a::r,b::t=>if a=b then qbp r t else decide (a<b)
noncomputable def qhi(c:C2)(i j:Int):Option Bool:=
 match c with
 | .lt=>some (decide (i<j))
 | .le=>some (decide (i≤j))
 | .gt=>some (decide (j<i))
 | .ge=>some (decide (j≤i))
 | .eq=>some (decide (i=j))
 | .ne=>some (!decide (i=j))
 |_=>none
noncomputable def inD(x:D)(xs:List D):Bool:=xs.any fun y=>y.eqv x
noncomputable def qeU:D→Bool
 | .non=>true
 |_=>false
noncomputable def isB(n:Bool):D→D→R Bool
 | .bl a,.bl b=>.ok (n != (a==b))
 |_,_=>.no
noncomputable def qg:C2→D→D→R Bool
 | .is,a,b=>if qeU b then .ok (qeU a)else isB false a b
 | .isnot,a,b=>if qeU b then .ok (!qeU a)else isB true a b
 | .isin,a,b=>match seq? b with
  |some xs=>if a.asks&&xs.all D.asks then .ok (inD a xs)else .no
  |none=>.no
 | .notin,a,b=>match seq? b with
  |some xs=>if a.asks&&xs.all D.asks then .ok (!inD a xs)else .no
  |none=>.no
 | .eq,a,b=>if a.asks&&b.asks then .ok (a.eqv b)else .no
 | .ne,a,b=>if a.asks&&b.asks then .ok (!a.eqv b)else .no
 | .lt,.tup xs,.tup ys=>match ints? xs,ints? ys with
  |some ns,some ms=>.ok (qbp ns ms)
  |_,_=>.no
 |c,.int i,.int j=>match qhi c i j with
  |some b=>.ok b
  |none=>.no
 |_,_,_=>.no
noncomputable def truth:D→R Bool
 | .non=>.ok false
 | .bl b=>.ok b
 | .int i=>.ok (i != 0)
 | .tup xs=>.ok (!xs.isEmpty)
 | .lst xs=>.ok (!xs.isEmpty)
 |_=>.no
noncomputable def ixD:D→D→R D
 | .tup xs,.int i=>match atI xs i with|some d=>.ok d|none=>.no
 | .lst xs,.int i=>match atI xs i with|some d=>.ok d|none=>.no
 |_,_=>.no
noncomputable def cutD(xs:List D)(lo hi:Option Int):List D:=(xs.drop (HT.sIx xs.length 0 lo)).take (HT.sIx xs.length xs.length hi-HT.sIx xs.length 0 lo)
noncomputable def slD:D→Option Int→Option Int→R D
 | .tup xs,lo,hi=>.ok (.tup (cutD xs lo hi))
 | .lst xs,lo,hi=>.ok (.lst (cutD xs lo hi))
 |_,_,_=>.no
noncomputable def insI(i:Int):List Int→List Int
 | []=>[i]
 |j::r=>if i≤j then i::j::r else j::insI i r
noncomputable def sortI:List Int→List Int
 | []=>[]
 |i::r=>insI i (sortI r)
noncomputable def qdn(p:Int×Int):List (Int×Int)→List (Int×Int)
 | []=>[p]
 |q::r=>if ltP q p then q::qdn p r else p::q::r
noncomputable def zp:List (Int×Int)→List (Int×Int)
 | []=>[]
 |p::r=>qdn p (zp r)
noncomputable def pairD(p:Int×Int):D:=.tup [.int p.1,.int p.2]
noncomputable def qab(d:D)(k:List D→R D):R D:=match d with | .lst xs=>k xs|_=>.no
noncomputable def ibR(d:D)(f:Int→R D)(q:Bool→R D):R D:=match d with | .int i=>f i | .bl b=>q b|_=>.no
noncomputable def iiR(d e:D)(k:Int→Int→R D):R D:=match d,e with | .int i,.int j=>k i j|_,_=>.no
noncomputable def qai{α β:Type}(o:Option α)(k:α→R β):R β:=match o with|some a=>k a|none=>.no
noncomputable def tups?:List D→Option (List (List Int))
 | []=>some []
 | .tup xs::r=>(ints? xs).bind fun n=>(tups? r).map (n :: ·)
 |_=>none
noncomputable def qck(p:List Int):List (List Int)→List (List Int)
 | []=>[p]
 |q::r=>if qbp q p then q::qck p r else p::q::r
noncomputable def zr:List (List Int)→List (List Int)
 | []=>[]
 |p::r=>qck p (zr r)
noncomputable def qfG(l:List Int):D:=.tup (l.map D.int)
noncomputable def qbL:List (List Int)→Bool
 |p::q::r=>p.isEmpty||(p::q::r).all fun t=>!t.isEmpty
 |_=>false
noncomputable def qcc(xs:List D):R D:=qai (tups? xs) fun ts=>if qbL ts then .ok (.lst ((zr ts).map qfG))else .no
noncomputable def zm(mx:Bool)(i:Int):List Int→Int
 | []=>i
 |j::r=>zm mx (if mx then (if i<j then j else i)else (if j<i then j else i)) r
noncomputable def qfb(mx:Bool):List Int→R D
 | []=>.no
 |i::r=>.ok (.int (zm mx i r))
noncomputable def lens?:List D→Option (List Int)
 | []=>some []
 |x::r=>(seq? x).bind fun xs=>(lens? r).map ((xs.length:Int) :: ·)
noncomputable def pickK(n:Int):List D→List Int→R D
 |d::ds,m::ms=>if m=n then .ok d else pickK n ds ms
 |_,_=>.no
noncomputable def qdt(mx:Bool)(x:D):R D:=qab x fun xs=>qai (lens? xs) fun ns=>match ns with
 | []=>.no
 |i::r=>pickK (zm mx i r) xs ns
noncomputable def b11(b:B1)(d:D):R D:=match b with
 | .len=>qai (seq? d) fun xs=>.ok (.int xs.length)
 | .tuple=>qai (seq? d) fun xs=>.ok (.tup xs)
 | .list=>qai (seq? d) fun xs=>.ok (.lst xs)
 | .all=>qab d fun xs=>qai (bools? xs) fun bs=>.ok (.bl (bs.all id))
 | .any=>qab d fun xs=>qai (bools? xs) fun bs=>.ok (.bl (bs.any id))
 | .sorted=>qab d fun xs=>if xs.length<64 then (match pairs? xs with
    |some ps=>.ok (.lst ((zp ps).map pairD))
    |none=>qcc xs)else qcc xs
 | .abs=>ibR d (fun i=>.ok (.int (if i<0 then -i else i))) fun _=>.no
 | .int=>ibR d (fun i=>.ok (.int i)) fun b=>.ok (.int (if b then 1 else 0))
 | .bool=>ibR d (fun i=>.ok (.bl (i != 0))) fun b=>.ok (.bl b)
 | .min=>qab d fun xs=>qai (ints? xs) fun ns=>qfb false ns
 | .max=>qab d fun xs=>qai (ints? xs) fun ns=>qfb true ns
 | .sum=>qab d fun xs=>qai (ints? xs) fun ns=>.ok (.int ns.sum)
noncomputable def b12(b:B1)(d e:D):R D:=match b with
 | .min=>iiR d e fun i j=>.ok (.int (if j<i then j else i))
 | .max=>iiR d e fun i j=>.ok (.int (if j>i then j else i))
 |_=>.no
noncomputable def b1(b:B1):List D→R D
 | [d]=>b11 b d
 | [d,e]=>b12 b d e
 |_=>.no
noncomputable def tyD:D→Option String
 | .non=>some "NoneType"
 | .bl _=>some "bool"
 | .int _=>some "int"
 | .str _=>some "str"
 | .tup _=>some "tuple"
 | .lst _=>some "list"
 | .dic=>some "dict"
 |_=>none
noncomputable def qS(lo:Int)(n:Nat):List D:=(List.range n).map fun(i:Nat)=>.int (lo+(i:Int))
noncomputable def zO:Nat→List D→List D
 |_,[]=>[]
 |k,x::r=>.tup [.int k,x]::zO (k+1) r
noncomputable def qh(j:Int):Bool:=decide (-1000000≤j)&&decide (j≤1000000)
abbrev Env:=List (Option D)
structure W where
 call:Str→List D→R D
 glb:Str→Option D
 sub:Str→Cl→Option Bool
 cat:Str→Str→Bool
noncomputable def qbA(w:W)(x:D)(c:Cl):R D:=match tyD x,c with
 |some t,.ty n=>if n = "ValueError" then .no else .ok (.bl (qeG t n))
 |none,c=>match x with
  | .exn k=>match w.sub k c with|some b=>.ok (.bl b)|none=>.no
  |_=>.no
 |_,_=>.no
noncomputable def zE(τ:Env)(i:Nat):R D:=match τ[i]? with
 |some (some d)=>.ok d
 |_=>.no
noncomputable def setAll:List Nat→List D→Env→R Env
 | [],[],τ=>.ok τ
 |i::is,d::ds,τ=>setAll is ds (τ.set i (some d))
 |_,_,_=>.no
noncomputable def store:Tg→D→Env→R Env
 | .nm i,d,τ=>.ok (τ.set i (some d))
 | .tp is,.tup ds,τ=>if ds.length=is.length then setAll is ds τ else .no
 |_,_,_=>.no
noncomputable def qaT(cap:List (Option Nat))(τ:Env):Env:=cap.map fun o=>o.bind fun j=>(τ[j]?).join
noncomputable def noEx{α:Type}:R α→R α
 | .ok a=>.ok a
 |_=>.no
noncomputable def zJ(body:D→Env→R (Env×List D)):List D→Env→List D→R (List D)
 | [],_,acc=>.ok acc
 |x::r,τ,acc=>(body x τ).bind fun p=>zJ body r p.1 (acc++p.2)
mutual
noncomputable def evE(w:W):E→Env→R D
 | .var i,τ=>zE τ i
 | .own i,τ=>zE τ i
 | .con d,_=>.ok d
 | .glb x,_=>match w.glb x with|some d=>.ok d|none=>.no
 | .fnv x,_=>.ok (.fn x)
 | .op o a b,τ=>(evE w a τ).bind fun x=>(evE w b τ).bind fun y=>op2 o x y
 | .neg a,τ=>(evE w a τ).bind fun x=>match x with | .int i=>.ok (.int (-i))|_=>.no
 | .inv a,τ=>(evE w a τ).bind fun x=>match x with | .int i=>.ok (.int (Builtin.bitNot i))|_=>.no
 | .not a,τ=>(evE w a τ).bind fun x=>match x with | .bl b=>.ok (.bl (!b))|_=>.no
 | .and a b,τ=>(evE w a τ).bind fun x=>match x with | .bl true=>evE w b τ | .bl false=>.ok (.bl false)|_=>.no
 | .or a b,τ=>(evE w a τ).bind fun x=>match x with | .bl true=>.ok (.bl true) | .bl false=>evE w b τ|_=>.no
 | .cmp c a b,τ=>(evE w a τ).bind fun x=>(evE w b τ).bind fun y=>(qg c x y).bind fun r=>.ok (.bl r)
 | .cmp2 c c' a b d,τ=>(evE w a τ).bind fun x=>(evE w b τ).bind fun y=>(qg c x y).bind fun r=>if r then (evE w d τ).bind fun z=>(qg c' y z).bind fun r'=>.ok (.bl r')else .ok (.bl false)
 | .cmp3 c c' c'' a b d e,τ=>(evE w a τ).bind fun x=>(evE w b τ).bind fun y=>(qg c x y).bind fun r=>if r then (evE w d τ).bind fun z=>(qg c' y z).bind fun r'=>if r' then (evE w e τ).bind fun u=>(qg c'' z u).bind fun r''=>.ok (.bl r'')else .ok (.bl false)else .ok (.bl false)
 | .ite t a b,τ=>(evT w t τ).bind fun r=>if r then evE w a τ else evE w b τ
 | .tup es,τ=>(qC w es τ).bind fun ds=>.ok (.tup ds)
 | .lst es,τ=>(qC w es τ).bind fun ds=>.ok (.lst ds)
 | .ix a b,τ=>(evE w a τ).bind fun x=>(evE w b τ).bind fun y=>ixD x y
 | .sl a lo hi,τ=>(evE w a τ).bind fun x=>(evO w lo τ).bind fun l=>(evO w hi τ).bind fun h=>slD x l h
 | .call f es,τ=>(qC w es τ).bind fun ds=>w.call f ds
 | .callE f es,_=>.no
 | .bi b es,τ=>(qC w es τ).bind fun ds=>b1 b ds
 | .rtup a,τ=>(evI w a τ).bind fun ds=>.ok (.tup ds)
 | .rlst a,τ=>(evI w a τ).bind fun ds=>.ok (.lst ds)
 | .isi a c,τ=>(evE w a τ).bind fun x=>qbA w x c
 | .comp it cap tg t elt,τ=>(evI w it τ).bind fun ds=>if SZ<ds.length then .no else (zJ (fun x σ=>noEx ((store tg x σ).bind fun σ'=>(evT w t σ').bind fun r=>if r then (evE w elt σ').bind fun d=>.ok (σ',[d])else .ok (σ',[]))) ds (qaT cap τ) []).bind fun out=>.ok (.lst out)
 | .mth ix a,_=>.no
 | .cnt a b,_=>.no
 | .mxk mx a,τ=>(evE w a τ).bind fun x=>qdt mx x
 | .dic,_=>.ok .dic
 | .callo f es,_=>.no
noncomputable def evO(w:W):OE→Env→R (Option Int)
 | .none,_=>.ok none
 | .some e,τ=>(evE w e τ).bind fun x=>match x with | .int i=>.ok (some i)|_=>.no
noncomputable def qC(w:W):Es→Env→R (List D)
 | .nil,_=>.ok []
 | .cons e es,τ=>(evE w e τ).bind fun d=>(qC w es τ).bind fun ds=>.ok (d::ds)
noncomputable def evI(w:W):It→Env→R (List D)
 | .seq e,τ=>(evE w e τ).bind fun x=>match seq? x with|some xs=>.ok xs|none=>.no
 | .rng a,τ=>(evE w a τ).bind fun x=>match x with | .int j=>if qh j then .ok (qS 0 j.toNat)else .no|_=>.no
 | .rng2 a b,τ=>(evE w a τ).bind fun x=>(evE w b τ).bind fun y=>match x,y with | .int i,.int j=>if qh i&&qh j then .ok (qS i (j-i).toNat)else .no|_,_=>.no
 | .enum e,τ=>(evE w e τ).bind fun x=>match x with | .lst xs=>.ok (zO 0 xs)|_=>.no
 | .zip a b,_=>.no
noncomputable def evT(w:W):T→Env→R Bool
 | .yes,_=>.ok true
 | .val e,τ=>(evE w e τ).bind fun x=>truth x
 | .cmp c a b,τ=>(evE w a τ).bind fun x=>(evE w b τ).bind fun y=>qg c x y
 | .cmp2 c c' a b d,τ=>(evE w a τ).bind fun x=>(evE w b τ).bind fun y=>(qg c x y).bind fun r=>if r then (evE w d τ).bind fun z=>qg c' y z else .ok false
 | .and a b,τ=>(evT w a τ).bind fun r=>if r then evT w b τ else .ok false
 | .or a b,τ=>(evT w a τ).bind fun r=>if r then .ok true else evT w b τ
 | .not a,τ=>(evT w a τ).bind fun r=>.ok (!r)
end
theorem qw:∀{w i τ},@Eq (R D) (evE w (.var i) τ) (zE τ i):=rfl
theorem ze:∀{w i τ},@Eq (R D) (evE w (.own i) τ) (zE τ i):=rfl
theorem zd:∀{w d τ},@Eq (R D) (evE w (.con d) τ) (.ok d):=rfl
theorem zi:∀{w x τ},@Eq (R D) (evE w (.glb x) τ) (match w.glb x with|some d=>.ok d|none=>.no):=rfl
theorem zj:∀{w x τ},@Eq (R D) (evE w (.fnv x) τ) (.ok (.fn x)):=rfl
theorem qV:∀{w o a b τ},@Eq (R D) (evE w (.op o a b) τ) ((evE w a τ).bind fun x=>(evE w b τ).bind fun y=>op2 o x y):=rfl
theorem zf:∀{w a τ},@Eq (R D) (evE w (.neg a) τ) ((evE w a τ).bind fun x=>match x with | .int i=>.ok (.int (-i))|_=>.no):=rfl
theorem zo:∀{w a τ},@Eq (R D) (evE w (.inv a) τ) ((evE w a τ).bind fun x=>match x with | .int i=>.ok (.int (Builtin.bitNot i))|_=>.no):=rfl
theorem zg:∀{w a τ},@Eq (R D) (evE w (.not a) τ) ((evE w a τ).bind fun x=>match x with | .bl b=>.ok (.bl (!b))|_=>.no):=rfl
theorem qI:∀{w a b τ},@Eq (R D) (evE w (.and a b) τ) ((evE w a τ).bind fun x=>match x with | .bl true=>evE w b τ | .bl false=>.ok (.bl false)|_=>.no):=rfl
theorem qG:∀{w a b τ},@Eq (R D) (evE w (.or a b) τ) ((evE w a τ).bind fun x=>match x with | .bl true=>.ok (.bl true) | .bl false=>evE w b τ|_=>.no):=rfl
theorem qO:∀{w c a b τ},@Eq (R D) (evE w (.cmp c a b) τ) ((evE w a τ).bind fun x=>(evE w b τ).bind fun y=>(qg c x y).bind fun r=>.ok (.bl r)):=rfl
theorem qP:∀{w c c' a b d τ},@Eq (R D) (evE w (.cmp2 c c' a b d) τ) ((evE w a τ).bind fun x=>(evE w b τ).bind fun y=>(qg c x y).bind fun r=>if r then (evE w d τ).bind fun z=>(qg c' y z).bind fun r'=>.ok (.bl r')else .ok (.bl false)):=rfl
theorem qL:∀{w c c' c'' a b d e τ},@Eq (R D) (evE w (.cmp3 c c' c'' a b d e) τ) ((evE w a τ).bind fun x=>(evE w b τ).bind fun y=>(qg c x y).bind fun r=>if r then (evE w d τ).bind fun z=>(qg c' y z).bind fun r'=>if r' then (evE w e τ).bind fun u=>(qg c'' z u).bind fun r''=>.ok (.bl r'')else .ok (.bl false)else .ok (.bl false)):=rfl
theorem qB:∀{w t a b τ},@Eq (R D) (evE w (.ite t a b) τ) ((evT w t τ).bind fun r=>if r then evE w a τ else evE w b τ):=rfl
theorem qF:∀{w es τ},@Eq (R D) (evE w (.tup es) τ) ((qC w es τ).bind fun ds=>.ok (.tup ds)):=rfl
theorem qM:∀{w es τ},@Eq (R D) (evE w (.lst es) τ) ((qC w es τ).bind fun ds=>.ok (.lst ds)):=rfl
theorem qy:∀{w a b τ},@Eq (R D) (evE w (.ix a b) τ) ((evE w a τ).bind fun x=>(evE w b τ).bind fun y=>ixD x y):=rfl
theorem qN:∀{w a lo hi τ},@Eq (R D) (evE w (.sl a lo hi) τ) ((evE w a τ).bind fun x=>(evO w lo τ).bind fun l=>(evO w hi τ).bind fun h=>slD x l h):=rfl
theorem qz:∀{w f es τ},@Eq (R D) (evE w (.call f es) τ) ((qC w es τ).bind fun ds=>w.call f ds):=rfl
theorem qW:∀{w f es τ},@Eq (R D) (evE w (.callE f es) τ) (.no):=rfl
theorem qo:∀{w b es τ},@Eq (R D) (evE w (.bi b es) τ) ((qC w es τ).bind fun ds=>b1 b ds):=rfl
theorem qJ:∀{w a τ},@Eq (R D) (evE w (.rtup a) τ) ((evI w a τ).bind fun ds=>.ok (.tup ds)):=rfl
theorem qX:∀{w a τ},@Eq (R D) (evE w (.rlst a) τ) ((evI w a τ).bind fun ds=>.ok (.lst ds)):=rfl
theorem qH:∀{w a c τ},@Eq (R D) (evE w (.isi a c) τ) ((evE w a τ).bind fun x=>qbA w x c):=rfl
theorem qA:∀{w it cap tg t elt τ},@Eq (R D) (evE w (.comp it cap tg t elt) τ) ((evI w it τ).bind fun ds=>if SZ<ds.length then .no else (zJ (fun x σ=>noEx ((store tg x σ).bind fun σ'=>(evT w t σ').bind fun r=>if r then (evE w elt σ').bind fun d=>.ok (σ',[d])else .ok (σ',[]))) ds (qaT cap τ) []).bind fun out=>.ok (.lst out)):=rfl
theorem qR:∀{w ix a τ},@Eq (R D) (evE w (.mth ix a) τ) (.no):=rfl
theorem qT:∀{w a b τ},@Eq (R D) (evE w (.cnt a b) τ) (.no):=rfl
theorem qK:∀{w mx a τ},@Eq (R D) (evE w (.mxk mx a) τ) ((evE w a τ).bind fun x=>qdt mx x):=rfl
theorem qU:∀{w τ},@Eq (R D) (evE w (.dic) τ) (.ok .dic):=rfl
theorem qY:∀{w f es τ},@Eq (R D) (evE w (.callo f es) τ) (.no):=rfl
theorem qdu:∀{w τ},@Eq (R Bool) (evT w (.yes) τ) (.ok true):=rfl
theorem qce:∀{w e τ},@Eq (R Bool) (evT w (.val e) τ) ((evE w e τ).bind fun x=>truth x):=rfl
theorem qcN:∀{w c a b τ},@Eq (R Bool) (evT w (.cmp c a b) τ) ((evE w a τ).bind fun x=>(evE w b τ).bind fun y=>qg c x y):=rfl
theorem qdB:∀{w c c' a b d τ},@Eq (R Bool) (evT w (.cmp2 c c' a b d) τ) ((evE w a τ).bind fun x=>(evE w b τ).bind fun y=>(qg c x y).bind fun r=>if r then (evE w d τ).bind fun z=>qg c' y z else .ok false):=rfl
theorem qdC:∀{w a b τ},@Eq (R Bool) (evT w (.and a b) τ) ((evT w a τ).bind fun r=>if r then evT w b τ else .ok false):=rfl
theorem qdz:∀{w a b τ},@Eq (R Bool) (evT w (.or a b) τ) ((evT w a τ).bind fun r=>if r then .ok true else evT w b τ):=rfl
theorem qdD:∀{w a τ},@Eq (R Bool) (evT w (.not a) τ) ((evT w a τ).bind fun r=>.ok (!r)):=rfl
mutual
inductive S where
 |set (tg:Tg) (e:E)
 |app (i:Nat) (e:E)
 |seti (i:Nat) (k e:E)
 |exp (e:E)
 |ret (e:E)|retN
 |ite (t:T) (a b:Ss)
 |for (tg:Tg) (it:It) (b:Ss)
 |while (t:T) (b:Ss)
 |raise (c:Str) (es:Es)
 |try (b:Ss) (c:Str) (i:Option Nat) (h:Ss)
 |ins (i:Nat) (k e:E)
 |pass|brk|cnt|unk
 |par (i j:Nat) (a b:E)
inductive Ss where
 |nil|cons (s:S) (r:Ss)
end
inductive O where
 |nx (τ:Env)|rt (d:D)|bk (τ:Env)|ct (τ:Env)|ex (c:Str)|no
noncomputable def R.out{α:Type}:R α→(α→O)→O
 | .ok a,f=>f a
 | .ex c,_=>.ex c
 | .no,_=>.no
@[simp] theorem R.out_ok{α:Type}(a:α)(f:α→O):(R.ok a).out f=f a:=rfl
@[simp] theorem R.out_ex{α:Type}(c:Str)(f:α→O):(R.ex c:R α).out f=.ex c:=rfl
@[simp] theorem R.out_no{α:Type}(f:α→O):(R.no:R α).out f=.no:=rfl
noncomputable def qbd(tg:Tg)(body:Env→O):List D→Env→O
 | [],τ=>.nx τ
 |x::r,τ=>(store tg x τ).out fun τ'=>match body τ' with
  | .nx σ=>qbd tg body r σ
  | .ct σ=>qbd tg body r σ
  | .bk σ=>.nx σ
  |o=>o
noncomputable def qbC(test:Env→R Bool)(body:Env→O):Nat→Env→O
 | 0,_=>.no
 |n+1,τ=>(test τ).out fun b=>if b then (match body τ with
  | .nx σ=>qbC test body n σ
  | .ct σ=>qbC test body n σ
  | .bk σ=>.nx σ
  |o=>o)else .nx τ
noncomputable def qeS:Nat:=100000
noncomputable def O.noEx:O→O
 | .ex _=>.no
 |o=>o
mutual
noncomputable def evS(w:W):S→Env→O
 | .set tg e,τ=>(evE w e τ).out fun d=>(store tg d τ).out .nx
 | .app i e,τ=>(zE τ i).out fun x=>(evE w e τ).out fun d=>match x with
  | .lst xs=>if xs.length<SZ then .nx (τ.set i (some (.lst (xs++[d]))))else .no
  |_=>.no
 | .seti i k e,τ=>(evE w e τ).out fun d=>(zE τ i).out fun x=>(evE w k τ).out fun n=>match x,n with
  | .lst xs,.int j=>match ixN xs.length j with
   |some m=>.nx (τ.set i (some (.lst (xs.set m d))))
   |none=>.no
  |_,_=>.no
 | .exp e,τ=>(evE w e τ).out fun _=>.nx τ
 | .ret e,τ=>(evE w e τ).out .rt
 | .retN,_=>.rt .non
 | .ite t a b,τ=>(evT w t τ).out fun r=>if r then qe w a τ else qe w b τ
 | .for tg it b,τ=>((evI w it τ).out fun ds=>qbd tg (fun σ=>qe w b σ) ds τ).noEx
 | .while t b,τ=>(qbC (fun σ=>evT w t σ) (fun σ=>qe w b σ) qeS τ).noEx
 | .raise c es,_=>.no
 | .try b c i h,_=>.no
 | .ins i k e,_=>.no
 | .unk,_=>.no
 | .pass,τ=>.nx τ
 | .brk,τ=>.bk τ
 | .cnt,τ=>.ct τ
 | .par i j a b,τ=>(evE w a τ).out fun x=>(evE w b τ).out fun y=>.nx ((τ.set i (some x)).set j (some y))
noncomputable def qe(w:W):Ss→Env→O
 | .nil,τ=>.nx τ
 | .cons s r,τ=>match evS w s τ with
  | .nx σ=>qe w r σ
  |o=>o
end
theorem zH:∀{w tg e τ},@Eq (O) (evS w (.set tg e) τ) ((evE w e τ).out fun d=>(store tg d τ).out .nx):=rfl
theorem qaJ:∀{w i e τ},@Eq (O) (evS w (.app i e) τ) ((zE τ i).out fun x=>(evE w e τ).out fun d=>match x with
  | .lst xs=>if xs.length<SZ then .nx (τ.set i (some (.lst (xs++[d]))))else .no
  |_=>.no):=rfl
theorem qas:∀{w i k e τ},@Eq (O) (evS w (.seti i k e) τ) ((evE w e τ).out fun d=>(zE τ i).out fun x=>(evE w k τ).out fun n=>match x,n with
  | .lst xs,.int j=>match ixN xs.length j with
   |some m=>.nx (τ.set i (some (.lst (xs.set m d))))
   |none=>.no
  |_,_=>.no):=rfl
theorem qaI:∀{w e τ},@Eq (O) (evS w (.exp e) τ) ((evE w e τ).out fun _=>.nx τ):=rfl
theorem zt:∀{w e τ},@Eq (O) (evS w (.ret e) τ) ((evE w e τ).out .rt):=rfl
theorem qaG:∀{w τ},@Eq (O) (evS w (.retN) τ) (.rt .non):=rfl
theorem zU:∀{w t a b τ},@Eq (O) (evS w (.ite t a b) τ) ((evT w t τ).out fun r=>if r then qe w a τ else qe w b τ):=rfl
theorem qaE:∀{w tg it b τ},@Eq (O) (evS w (.for tg it b) τ) (((evI w it τ).out fun ds=>qbd tg (fun σ=>qe w b σ) ds τ).noEx):=rfl
theorem qaF:∀{w t b τ},@Eq (O) (evS w (.while t b) τ) ((qbC (fun σ=>evT w t σ) (fun σ=>qe w b σ) qeS τ).noEx):=rfl
theorem zR:∀{w c es τ},@Eq (O) (evS w (.raise c es) τ) (.no):=rfl
theorem qaf:∀{w b c i h τ},@Eq (O) (evS w (.try b c i h) τ) (.no):=rfl
theorem qap:∀{w i k e τ},@Eq (O) (evS w (.ins i k e) τ) (.no):=rfl
theorem qah:∀{w τ},@Eq (O) (evS w (.unk) τ) (.no):=rfl
theorem qag:∀{w τ},@Eq (O) (evS w (.pass) τ) (.nx τ):=rfl
theorem qak:∀{w τ},@Eq (O) (evS w (.brk) τ) (.bk τ):=rfl
theorem qac:∀{w τ},@Eq (O) (evS w (.cnt) τ) (.ct τ):=rfl
theorem zM:∀{w i j a b τ},@Eq (O) (evS w (.par i j a b) τ) ((evE w a τ).out fun x=>(evE w b τ).out fun y=>.nx ((τ.set i (some x)).set j (some y))):=rfl
structure Fn where
 ps:Nat
 N:Nat
 fr:Bool
 body:Ss
noncomputable def zS(w:W)(f:Fn)(ds:List D):R D:=if ds.length=f.ps then (match qe w f.body (ds.map some++List.replicate (f.N-f.ps) none)with
  | .nx _=>if f.fr then .no else .ok .non
  | .rt d=>.ok d
  | .ex c=>.ex c
  |_=>.no)else .no
structure Pr where
 fns:Str→Option Fn
 glb:Str→Option D
 sub:Str→Cl→Option Bool
 cat:Str→Str→Bool
noncomputable def qc(p:Pr):Nat→Str→List D→R D
 | 0,_,_=>.no
 |k+1,x,ds=>match p.fns x with
  |some f=>zS ⟨qc p k,p.glb,p.sub,p.cat⟩ f ds
  |none=>.no
inductive GK where
  |fn (fresh:Bool)|val|bi (b:B1)|rng|enum|zip|isi|ty (n:String) (b:Option B1)|exc|exk
  deriving DecidableEq
structure Cc where
  nm:List (Str×NameKind)
  N:List Str
  own:List Str
  G:List (Str×GK)
  calm:Bool
  fnc:Bool
  thr:Bool
  GH:List (Str×GK)
  oc:List Str
  frz:Bool
noncomputable def loc(c:Cc)(x:Str):Option Nat:=
  if x == "__debug__" ||x == "__classdict__" then none else
  match c.nm.lookup x with
  |some .local|some .cell|some .free=>let i:=c.N.findIdx (· == x);if c.N[i]? = some x then some i else none
  |_=>none
noncomputable def qaW(c:Cc)(x:Str):Option Nat:=
  match c.nm.lookup x with
  |some .local=>loc c x
  |some .cell=>if c.fnc||c.oc.contains x then loc c x else none
  |_=>none
noncomputable def glob(c:Cc)(x:Str):Option GK:=
  if x == "__debug__" ||x == "__name__" then none else
  match c.nm.lookup x with
  |some .globalImplicit=>c.G.lookup x
  |_=>none
noncomputable def esc:E→Bool
  | .own _=>false
  |_=>true
noncomputable def qcU:Es→Bool
  | .nil=>true
  | .cons e es=>esc e&&qcU es
noncomputable def isL:E→Bool
  | .lst _=>true
  | .rlst _=>true
  | .comp .. => true
  |_=>false
noncomputable def qsX:O2→Bool
  | .add=>true
  | .mul=>true
  |_=>false
noncomputable def fresh(c:Cc):E→Bool
  | .op o a _=>qsX o&&isL a
  | .lst _=>true
  | .rlst _=>true
  | .comp .. => true
  | .bi .list _=>true
  | .bi .sorted _=>true
  | .call f _=>c.G.lookup f==some (.fn true)
  |_=>false
noncomputable def o2:Operator→Option O2
  | .Add=>some .add
  | .Sub=>some .sub
  | .Mult=>some .mul
  | .FloorDiv=>some .fdiv
  | .Mod=>some .mod
  | .LShift=>some .shl
  | .RShift=>some .shr
  | .BitAnd=>some .band
  | .BitOr=>some .bor
  |_=>none
noncomputable def c2:CmpOp→C2
  | .Eq=>.eq
  | .NotEq=>.ne
  | .Lt=>.lt
  | .LtE=>.le
  | .Gt=>.gt
  | .GtE=>.ge
  | .Is=>.is
  | .IsNot=>.isnot
  | .In=>.isin
  | .NotIn=>.notin
noncomputable def qbs:Expr→Bool
  | .ListComp .. => true
  | .SetComp .. => true
  | .DictComp .. => true
  |_=>false
noncomputable def zv:Expr→Bool
  | .Set .. => false
  |_=>true
noncomputable def qhc(names nm:List (Str×NameKind)):List (Str×NameKind):=names.map fun(n,k)=>if k==NameKind.free&&(nm.lookup n==some .cell)then (n,NameKind.cell)else (n,k)
noncomputable def zY(names:List (Str×NameKind)):List Str:=(names.filter fun p=>p.2==.local||p.2==.free||p.2==.cell).map (·.1)
noncomputable def qel(c:Cc)(names:List (Str×NameKind)):List (Option Nat):=(zY names).map fun x=>if names.lookup x==some .free then loc c x else none
noncomputable def qcx:List Expr→Option (List Str)
  | []=>some []
  | .Name x _::r=>(qcx r).map (x :: ·)
  |_=>none
noncomputable def cTg(c:Cc):Expr→Option Tg
  | .Name x _=>if c.own.contains x then none else (qaW c x).map .nm
  | .Tuple es _ _=>if c.calm then do
      let xs ←qcx es
      if xs.any c.own.contains then none else
      let is ←xs.mapM (qaW c)
      if is.Nodup then some (.tp is)else none
    else none
  |_=>none
noncomputable def isStar:Expr→Bool
  | .Starred .. => true
  |_=>false
noncomputable def isSlice:Expr→Bool
  | .Slice .. => true
  |_=>false
noncomputable def isTup:Expr→Bool
  | .Tuple .. => true
  |_=>false
noncomputable def qgc(it:It)(tg:Expr):Bool:=match it with
  | .enum _=>isTup tg
  | .zip .. => isTup tg
  |_=>true
noncomputable def qjv(c:Cc):Expr→Option Cl
  | .Name x _=>match glob c x with
    |some (.ty n _)=>some (.ty n)
    |some .exc=>some (.ex x)
    |some .exk=>some (.ex x)
    |_=>none
  |_=>none
noncomputable def vr(c:Cc)(x:Str)(i:Nat):E:=if c.own.contains x then .own i else .var i
noncomputable def baseOk:Expr→Bool
  | .Call (.Name _ _) (_::_) _ _=>true
  | .Name .. => true
  |_=>false
mutual
noncomputable def cE:Nat→Cc→Expr→Option E
  | 0,_,_=>none
  |n+1,c,e=>match e with
    | .Name x _=>match loc c x with
      |some i=>if c.own.contains x then some (.own i)else some (.var i)
      |none=>match glob c x with
        |some .val=>some (.glb x)
        |_=>none
    | .Constant k _ _=>match k with
      | .int i=>some (.con (.int i))
      | .bool i=>some (.con (.bl i))
      | .none=>some (.con .non)
      | .str x=>some (.con (.str x))
      |_=>none
    | .BinOp a op b _=>do
      let o ←o2 op
      let a ←cE n c a
      let b ←cE n c b
      some (.op o a b)
    | .UnaryOp op a _=>do
      let a ←cE n c a
      match op with
      | .USub=>some (.neg a)
      | .Not=>some (.not a)
      |_=>none
    | .BoolOp op vs _=>cBo n c op vs
    | .Compare a ops bs _=>match ops,bs with
      | [o],[b]=>do
        let a ←cE n c a
        let b' ←cE n c b
        if zv b then some (.cmp (c2 o) a b')else none
      | [o,o'],[b,d]=>do
        let a ←cE n c a
        let b' ←cE n c b
        let d' ←cE n c d
        if zv b&&zv d then some (.cmp2 (c2 o) (c2 o') a b' d')else none
      | [o,o',o''],[b,d,f]=>do
        let a ←cE n c a
        let b' ←cE n c b
        let d' ←cE n c d
        let f' ←cE n c f
        if zv b&&zv d&&zv f then some (.cmp3 (c2 o) (c2 o') (c2 o'') a b' d' f')else none
      |_,_=>none
    | .IfExp t a b _=>do
      let t ←cT n c t
      let a ←cE n c a
      let b ←cE n c b
      if esc a&&esc b then some (.ite t a b)else none
    | .Tuple es _ _=>do
      let es ←cEs n c es
      if qcU es then some (.tup es)else none
    | .List es _=>do
      let es ←cEs n c es
      if qcU es then some (.lst es)else none
    | .Subscript a b _=>match b with
      | .Slice lo hi st _=>do
        if !st.isNone then none else
        let a ←cE n c a
        let lo ←cO n c lo
        let hi ←cO n c hi
        some (.sl a lo hi)
      |b=>do
        if isSlice b then none else
        let a ←cE n c a
        let b ←cE n c b
        some (.ix a b)
    | .ListComp elt gs sc _=>match gs with
     | [⟨tgt,it,ifs,asy⟩]=>do
      if !(asy==0) || !c.calm || !zv it then none else
      let c':Cc:={c with nm:=qhc sc.names c.nm,N:=zY sc.names,fnc:=false,oc:=qhJ sc.names}
      let cap:=qel c sc.names
      if !qdf (fun x=>c.nm.lookup x) c.N (zY sc.names) cap sc || !decide (zY sc.names).Nodup then none else
      let it ←cI n c it
      let tg ←cTg c' tgt
      let t ←qdS n c' ifs
      let elt ←cE n c' elt
      if esc elt&&qgc it tgt then some (.comp it cap tg t elt)else none
     |_=>none
    | .Call fe as ks cp=>match ks with
     | []=>match fe with
      | .Name f _=>match loc c f with
        |some _=>none
        |none=>match glob c f with
          |some (.fn _)=>do
            let es ←cEs n c as
            if qcU es && !as.isEmpty then some (.call f es)else if !as.isEmpty then some (.callo f es)else none
          |some (.bi b)=>do
            let es ←cEs n c as
            if !as.isEmpty&&(c.calm||b==.len||b==.abs)then some (.bi b es)else none
          |some (.ty t (some b))=>match as with
            | [.Call (.Name g p) as' [] q]=>if loc c g==none&&glob c g==some .rng then (if c.calm&&(t == "tuple" ||t == "list")then (match as' with
                | [a]=>if isStar a then none else do
                  let a ←cE n c a
                  some (if t = "tuple" then .rtup (.rng a)else .rlst (.rng a))
                | [a,d]=>if isStar a||isStar d then none else do
                  let a ←cE n c a
                  let d ←cE n c d
                  some (if t = "tuple" then .rtup (.rng2 a d)else .rlst (.rng2 a d))
                |_=>none)
                else none)
              else do
                let es ←cEs n c as
                some (.bi b es)
            |_=>do
              let es ←cEs n c as
              if !as.isEmpty then some (.bi b es)else none
          |some .isi=>match as with
            | [a,k]=>do
              if isStar a then none else
              let a ←cE n c a
              let k ←qjv c k
              some (.isi a k)
            |_=>none
          |_=>none
      |_=>none
     | [⟨kn,kv,_⟩]=>match fe with
      | .Name f _=>match kv with
        | .Name y _=>match as with
          | [a]=>do
            if isStar a || !c.calm || !(kn==some "key") || !(loc c f==none) || !(glob c y==some (.bi .len)) || !(loc c y==none)then none else
            let a' ←cE n c a
            if glob c f==some (.bi .max)then some (.mxk true a')else if glob c f==some (.bi .min)then some (.mxk false a')else none
          |_=>none
        |_=>none
      |_=>none
     |_=>none
    |_=>none
noncomputable def qdS:Nat→Cc→List Expr→Option T
  | 0,_,_=>none
  |n+1,c,ifs=>match ifs with
    | []=>some .yes
    | [t]=>cT n c t
    |_=>none
noncomputable def cBo:Nat→Cc→BoolOp→List Expr→Option E
  | 0,_,_,_=>none
  |n+1,c,op,vs=>match vs with
    | []=>none
    | [a]=>do
      let a ←cE n c a
      if esc a then some a else none
    |a::b::r=>do
      let a ←cE n c a
      let r ←cBo n c op (b::r)
      match op with
      | .And=>some (.and a r)
      | .Or=>some (.or a r)
noncomputable def cO:Nat→Cc→Option Expr→Option OE
  | 0,_,_=>none
  |n+1,c,o=>match o with
    |none=>some .none
    |some e=>(cE n c e).map .some
noncomputable def cEs:Nat→Cc→List Expr→Option Es
  | 0,_,_=>none
  |n+1,c,es=>match es with
    | []=>some .nil
    |e::r=>do
      if isStar e then none else
      let e ←cE n c e
      let r ←cEs n c r
      some (.cons e r)
noncomputable def cI:Nat→Cc→Expr→Option It
  | 0,_,_=>none
  |n+1,c,e=>match e with
    | .Call (.Name f p) as [] q=>match loc c f with
      |some _=>(cE n c (.Call (.Name f p) as [] q)).map .seq
      |none=>match glob c f with
        |some .rng=>(match as with
          | [a]=>if isStar a then none else (cE n c a).map .rng
          | [a,b]=>if isStar a||isStar b then none else do
            let a ←cE n c a
            let b ←cE n c b
            some (.rng2 a b)
          |_=>none)
        |some .enum=>(match as with
          | [a]=>if isStar a then none else (cE n c a).map .enum
          |_=>none)
        |some .zip=>(match as with
          | [a,b]=>if isStar a||isStar b then none else do
            let a ←cE n c a
            let b ←cE n c b
            some (.zip a b)
          |_=>none)
        |_=>(cE n c (.Call (.Name f p) as [] q)).map .seq
    |e=>(cE n c e).map .seq
noncomputable def cT:Nat→Cc→Expr→Option T
  | 0,_,_=>none
  |n+1,c,e=>match e with
    | .UnaryOp .Not a _=>(cT n c a).map .not
    | .BoolOp op vs _=>cTs n c op vs
    | .IfExp .. => none
    | .Compare a ops bs _=>match ops,bs with
      | [o],[b]=>do
        let a ←cE n c a
        let b' ←cE n c b
        if zv b then some (.cmp (c2 o) a b')else none
      | [o,o'],[b,d]=>do
        let a ←cE n c a
        let b' ←cE n c b
        let d' ←cE n c d
        if zv b&&zv d then some (.cmp2 (c2 o) (c2 o') a b' d')else none
      |_,_=>none
    |e=>(cE n c e).map .val
noncomputable def cTs:Nat→Cc→BoolOp→List Expr→Option T
  | 0,_,_,_=>none
  |n+1,c,op,vs=>match vs with
    | []=>none
    | [a]=>cT n c a
    |a::b::r=>do
      let a ←cT n c a
      let r ←cTs n c op (b::r)
      match op with
      | .And=>some (.and a r)
      | .Or=>some (.or a r)
end
noncomputable def owned:It→Bool
  | .seq (.own _)=>true
  | .enum (.own _)=>true
  | .zip (.own _) _=>true
  | .zip _ (.own _)=>true
  |_=>false
noncomputable def qjX:Expr→Option (Str×Str×Pos×Expr×Pos)
  | .Call f as ks cp=>match f with
    | .Attribute o m ap=>match o with
      | .Name x _=>match as with
        | [a]=>if ks.isEmpty then some (x,m,ap,a,cp)else none
        |_=>none
      |_=>none
    |_=>none
  |_=>none
noncomputable def qog(_:Expr):Option (Str×Pos×Expr×Expr×Pos):=none
noncomputable def qkz:Expr→Bool
  | .Tuple es _ _=>es.all (foldedForSure 8)
  |_=>false
noncomputable def qnk(ts:List Expr)(e:Expr):Option (Str×Str×Expr×Expr):=match ts with
  | [.Name x px,.Name y py]=>match e with
    | .Tuple [a,b] _ _=>if !isStar a && !isStar b && !([a,b].all (foldedForSure 8)) && !([a,b].all (constantsAlone 8))&&(px.line==py.line)then some (x,y,a,b)else none
    |_=>none
  |_=>none
mutual
noncomputable def cS:Nat→Cc→Bool→Stmt→Option S
  | 0,_,_,_=>none
  |n+1,c,fr,s=>match s with
    | .Assign ts e _=>match ts with
      | [t]=>match t with
        | .Name x _=>do
          let i ←qaW c x
          let e' ←cE n c e
          if c.own.contains x then (if fresh c e' && !c.frz then some (.set (.nm i) e')else none)else if esc e' then some (.set (.nm i) e')else none
        | .Tuple ts k p=>match qnk ts e with
          |some (x,y,a,b)=>do
            let i ←qaW c x
            let j ←qaW c y
            let a' ←cE n c a
            let b' ←cE n c b
            if !c.calm || !(c.nm.lookup x==some .local) || !(c.nm.lookup y==some .local)||(i==j)||c.own.contains x || !esc a'||isStar a||isStar b then none else
            if c.own.contains y then (if fresh c b' && !c.frz then some (.par i j a' b')else none)else if esc b' then some (.par i j a' b')else none
          |none=>do
            let tg ←cTg c (.Tuple ts k p)
            let e' ←cE n c e
            if (isTup e && !qkz e)||qbs e || !esc e' then none else some (.set tg e')
        | .Subscript a k _=>match a with
          | .Name x _=>do
            let i ←qaW c x
            let e' ←cE n c e
            let k' ←cE n c k
            if c.own.contains x&&esc e' && !isSlice k && !qbs e && !c.frz then some (.seti i k' e')else none
          |_=>none
        |_=>none
      |_=>none
    | .Expr e _=>match qog e with
      |some (x,ap,k,a,cp)=>do
        let i ←qaW c x
        let k' ←cE n c k
        let a' ←cE n c a
        if c.own.contains x&&esc a' && !isStar k && !isStar a&&ap.endLine==cp.line && !c.frz then some (.ins i k' a')else none
      |none=>match qjX e with
      |some (x,m,ap,a,cp)=>do
        let i ←qaW c x
        let a' ←cE n c a
        if m == "append" && c.own.contains x&&esc a' && !isStar a&&ap.endLine==cp.line && !c.frz then some (.app i a')else none
      |none=>do
        if qbs e then none else
        let e' ←cE n c e
        some (.exp e')
    | .Return o _=>match o with
      |some e=>do
        let e' ←cE n c e
        if fr then (match e with
          | .Name y _=>if c.own.contains y then (loc c y).map (fun i=>.ret (.own i))else none
          |_=>if fresh c e' then some (.ret e')else none)
        else some (.ret e')
      |none=>if fr then none else some .retN
    | .If t a b _=>do
      let t ←cT n c t
      let a ←cSs n c fr a
      let b ←cSs n c fr b
      some (.ite t a b)
    | .For tg it b els _=>do
      if !els.isEmpty || !c.calm || !zv it then none else
      let tg' ←cTg c tg
      let it ←cI n c it
      if !qgc it tg then none else
      let b ←cSs n {c with frz:=c.frz||owned it} fr b
      some (.for tg' it b)
    | .While t b els _=>do
      if !els.isEmpty || !c.calm then none else
      let t ←cT n c t
      let b ←cSs n c fr b
      some (.while t b)
    | .Pass _=>some .pass
    | .Break _=>some .brk
    | .Continue _=>some .cnt
    |_=>none
noncomputable def cSs:Nat→Cc→Bool→List Stmt→Option Ss
  | 0,_,_,_=>none
  |n+1,c,fr,ss=>match ss with
    | []=>some .nil
    |s::r=>do
      let r ←cSs n c fr r
      some (.cons ((cS n c fr s).getD .unk) r)
end
noncomputable def qrk(c:Cc):Stmt→Bool
  | .For _ (.Name x _) _ _ _=>c.own.contains x
  |_=>false
noncomputable def qou(n:Nat)(c:Cc):Stmt→Bool
  | .For _ _ (.Assign [.Name x _] e _::_) _ _=>c.own.contains x&&(match cE n c e with
    |some e'=>!fresh c e'
    |none=>false)
  |_=>false
noncomputable def noOwn(c:Cc):Cc:={c with own:=[],frz:=false}
noncomputable def qgb(n:Nat)(c:Cc)(fr:Bool):List Stmt→Option Ss
  | []=>some .nil
  |s::r=>if qrk c s||qou n c s then cSs n (noOwn c) fr (s::r)else do
    let r' ←qgb n c fr r
    some (.cons ((cS n c fr s).getD .unk) r')
noncomputable def argNames(a:Arguments):List Str:=a.args.map (·.arg)
noncomputable def qdc(a:Arguments)(sc:Scope):List Str:=argNames a++((sc.names.filter fun p=>p.2==.local||p.2==.cell).map (·.1)).filter fun x=>!(argNames a).contains x
noncomputable def qhe(N ps:List Str)(sc:Scope):Bool:=
  sc.kind==.function && !sc.isCoroutine && !sc.isGenerator&&decide N.Nodup&&decide (N.take ps.length=ps)&&ps.all (fun x=>sc.names.lookup x==some .local||sc.names.lookup x==some .cell)&&sc.names.all fun y=>y.2 != .free
noncomputable def qhY:Nat:=60
noncomputable def cFn(G GH:List (Str×GK))(own:List Str)(fr:Bool)(st:Stmt):Option Fn:=do
  let a:=zc st
  let sc:=qZ st
  let N:=qdc a sc
  if !qhe N (argNames a) sc||(argNames a).any own.contains then none else
  let b ←qgb qhY ⟨sc.names,N,own,G,true,true,false,GH,[],false⟩ fr (qal st)
  some ⟨(argNames a).length,N.length,fr,b⟩
noncomputable def qrj(GU:List (Str×GK))(own:List Str)(fr:Bool)(st:Stmt):Option Fn:=none
end EV

namespace EV
open PySem PySem.Spec PyProof.Rows L2
structure Gc where
 K:PySem.W.Frag
 fnA:Str→Option Addr
 clA:Str→Option Addr
mutual
inductive Rep(g:Gc)(H:Hp):D→V→Prop
 |non:Rep g H .non .non
 |bl (b:Bool):Rep g H (.bl b) (.bl b)
 |int (i:Int):Rep g H (.int i) (.int i)
 |str (x:Str):Rep g H (.str x) (.str x)
 |tup {a:Addr}{xs:List V}{ds:List D}:SqT g.K H a xs→qq g H ds xs→Rep g H (.tup ds) (.ref a)
 |lst {a:Addr}{xs:List V}{ds:List D}:SqL g.K H a xs→qq g H ds xs→Rep g H (.lst ds) (.ref a)
 |fn {x:Str}{a:Addr}:g.fnA x=some a→Rep g H (.fn x) (.ref a)
 |exn {c:Str}{a C:Addr}:g.clA c=some C→H a=some (qnv a (.ref C))→Rep g H (.exn c) (.ref a)
 |dic {a:Addr}:H a=some (.dK [])→Rep g H .dic (.ref a)
inductive qq(g:Gc)(H:Hp):List D→List V→Prop
 |nil:qq g H [] []
 |cons {d:D}{ds:List D}{x:V}{xs:List V}:Rep g H d x→qq g H ds xs→qq g H (d::ds) (x::xs)
end
theorem qar{K:PySem.W.Frag}{H H':Hp}{a:Addr}{xs:List V}(e:qf H H')(h:SqT K H a xs):SqT K H' a xs:=by
 rcases h with (h|⟨o,h⟩)|h
 ·exact .inl (.inl (e _ _ h))
 ·exact .inl (.inr ⟨o,e _ _ h⟩)
 ·exact .inr h
section
variable{g:Gc}{H H':Hp}
mutual
theorem Rep.mono(e:qf H H'):∀{d:D}{v:V},Rep g H d v→Rep g H' d v
 |_,_,.non=>.non
 |_,_,.bl b=>.bl b
 |_,_,.int b=>.int b
 |_,_,.str b=>.str b
 |_,_,.tup h r=>.tup (qar e h) (qq.mono e r)
 |_,_,.lst h r=>.lst (e.seq h) (qq.mono e r)
 |_,_,.fn h=>.fn h
 |_,_,.exn h r=>.exn h (e _ _ r)
 |_,_,.dic h=>.dic (e _ _ h)
theorem qq.mono(e:qf H H'):∀{d:List D}{v:List V},qq g H d v→qq g H' d v
 |_,_,.nil=>.nil
 |_,_,.cons h r=>.cons (Rep.mono e h) (qq.mono e r)
end
theorem qq.length:∀{ds:List D}{vs:List V},qq g H ds vs→ds.length=vs.length
 |_,_,.nil=>rfl
 |_,_,.cons _ r=>by simp [qq.length r]
theorem qq.get:∀{ds:List D}{vs:List V}{i:Nat}{d:D},qq g H ds vs→ds[i]? = some d→∃v,vs[i]? = some v∧Rep g H d v
 |_,_,_,_,.nil,e=>by simp at e
 |_,_,0,_,.cons h _,e=>by simp at e;subst e;exact⟨_,rfl,h⟩
 |_,_,i+1,d,.cons _ t,e=>by
  obtain⟨u,h1,h2⟩:=qq.get (i:=i) (d:=d) t (by simpa using e);exact⟨u,by simpa using h1,h2⟩
theorem qq.append:∀{ds es:List D}{vs us:List V},qq g H ds vs→qq g H es us→qq g H (ds++es) (vs++us)
 |_,_,_,_,.nil,s=>s
 |_,_,_,_,.cons r t,s=>.cons r (qq.append t s)
theorem qq.take:∀{ds:List D}{vs:List V} (n:Nat),qq g H ds vs→qq g H (ds.take n) (vs.take n)
 |_,_,0,_=>.nil
 |_,_,_+1,.nil=>.nil
 |_,_,n+1,.cons r t=>.cons r (qq.take n t)
theorem qq.drop:∀{ds:List D}{vs:List V} (n:Nat),qq g H ds vs→qq g H (ds.drop n) (vs.drop n)
 |_,_,0,r=>r
 |_,_,_+1,.nil=>.nil
 |_,_,n+1,.cons _ t=>qq.drop n t
theorem qq.set{d:D}{v:V}(r:Rep g H d v):∀{ds:List D}{vs:List V} (i:Nat),qq g H ds vs→qq g H (ds.set i d) (vs.set i v)
 |_,_,_,.nil=>.nil
 |_,_,0,.cons _ t=>.cons r t
 |_,_,i+1,.cons q t=>.cons q (qq.set r i t)
theorem qq.ints:∀{ds:List D}{vs:List V}{ns:List Int},qq g H ds vs→ints? ds=some ns→vs=ns.map V.int∧ds=ns.map D.int
 | [],_,_,.nil,e=>by simp [ints?]at e;subst e;exact⟨rfl,rfl⟩
 | .int i::r,_,_,.cons h t,e=>by
  simp only [ints?,Option.map_eq_some_iff]at e;obtain⟨ms,e1,rfl⟩:=e;obtain⟨h1,h2⟩:=qq.ints t e1;cases h;exact⟨by rw [h1];rfl,by rw [h2];rfl⟩
 | .non::_,_,_,_,e | .bl _::_,_,_,_,e | .str _::_,_,_,_,e | .tup _::_,_,_,_,e | .lst _::_,_,_,_,e | .fn _::_,_,_,_,e | .exn _::_,_,_,_,e | .dic::_,_,_,_,e=>by simp [ints?]at e
theorem qq.bools:∀{ds:List D}{vs:List V}{ns:List Bool},qq g H ds vs→bools? ds=some ns→vs=ns.map V.bl
 | [],_,_,.nil,e=>by simp [bools?]at e;subst e;rfl
 | .bl i::r,_,_,.cons h t,e=>by
  simp only [bools?,Option.map_eq_some_iff]at e;obtain⟨ms,e1,rfl⟩:=e;have h1:=qq.bools t e1;cases h;rw [h1];rfl
 | .non::_,_,_,_,e | .int _::_,_,_,_,e | .str _::_,_,_,_,e | .tup _::_,_,_,_,e | .lst _::_,_,_,_,e | .fn _::_,_,_,_,e | .exn _::_,_,_,_,e | .dic::_,_,_,_,e=>by simp [bools?]at e
theorem qq.ofInts:∀(ns:List Int),qq g H (ns.map D.int) (ns.map V.int)
 | []=>.nil
 |i::r=>.cons (.int i) (qq.ofInts r)
end
structure Sh where
 o:Addr→Bool
 h:Addr→Bool
 z:L2.St
 y:Hp
noncomputable def hid(H:Hp)(S:Sh):Hp:=fun b=>if S.h b=true then none else H b
noncomputable def zV(S:Sh)(a:Addr):Sh:=⟨S.o,fun b=>S.h b||b==a,S.z,S.y⟩
theorem qtZ{H:Hp}{S:Sh}{b:Addr}{o:HO}:hid H S b=some o↔S.h b=false∧H b=some o:=by
 unfold hid;cases h:S.h b<;>simp
theorem qad{H:Hp}{S:Sh}:qf (hid H S) H:=fun _ _ h=>(qtZ.mp h).2
theorem qr{H H':Hp}{S:Sh}(e:qf H H'):qf (hid H S) (hid H' S):=fun b o h=>qtZ.mpr ⟨(qtZ.mp h).1,e _ _ (qtZ.mp h).2⟩
noncomputable def Sub(S:Sh)(H:Hp):Prop:=∀a,(S.h a=true∨S.o a=true)→H a≠none
theorem Sub.same{S:Sh}{H H':Hp}(h:Sub S H)(e:qf H H'):Sub S H':=fun a s n=>by
 cases q:H a with
 |none=>exact h a s q
 |some o=>rw [e _ _ q]at n;cases n
theorem Sub.free{S:Sh}{H:Hp}(h:Sub S H){p:Addr}(n:H p=none):S.h p=false:=by
 cases q:S.h p with
 |false=>rfl
 |true=>exact absurd n (h p (.inl q))
theorem Sub.freeO{S:Sh}{H:Hp}(h:Sub S H){p:Addr}(n:H p=none):S.o p=false:=by
 cases q:S.o p with
 |false=>rfl
 |true=>exact absurd n (h p (.inr q))
theorem za{H:Hp}{p:Addr}{o:HO}(n:H p=none):qf H (upd H p o):=fun b u h=>by
 rw [qm (fun z=>by rw [z,n]at h;cases h)];exact h
theorem qjg{H:Hp}{S:Sh}{p:Addr}{o:HO}(hs:Sub S H)(n:H p=none):hid (upd H p o) S p=some o:=qtZ.mpr ⟨hs.free n,zw⟩
theorem qdv{H:Hp}{S:Sh}{p:Addr}{o:HO}(n:H p=none):qf (hid H S) (hid (upd H p o) (zV S p)):=fun b u h=>by
 obtain⟨h1,h2⟩:=qtZ.mp h;have hb:b≠p:=fun z=>by rw [z,n]at h2;cases h2
 refine qtZ.mpr ⟨?_,by rw [qm hb];exact h2⟩;show (S.h b||b==p)=false;rw [h1]
 simpa using hb
theorem qgp{H:Hp}{S:Sh}{p:Addr}:qf (hid H (zV S p)) (hid H S):=fun b u h=>by
 obtain⟨h1,h2⟩:=qtZ.mp h;refine qtZ.mpr ⟨?_,h2⟩;have h1:(S.h b||b==p)=false:=h1;simp at h1;exact h1.1
noncomputable def zu(g:Gc)(H:Hp)(S:Sh)(d:D)(v:V):Prop:=
 Rep g (hid H S) d v∨∃a vs ds,S.o a=true∧v=.ref a∧d=.lst ds∧H a=some (.lst vs)∧qq g (hid H S) ds vs
noncomputable def Fr(g:Gc)(H0:Hp)(S:Sh)(H:Hp)(d:D)(v:V):Prop:=
 ∃a vs ds,v=.ref a∧d=.lst ds∧H0 a=none∧H a=some (.lst vs)∧qq g (hid H (zV S a)) ds vs
section
variable{g:Gc}{H H' H0:Hp}{S:Sh}{d:D}{v:V}
theorem zu.mono(e:qf H H')(h:zu g H S d v):zu g H' S d v:=by
 rcases h with h|⟨a,vs,ds,h1,h2,h3,h4,h5⟩
 ·exact .inl (h.mono (qr e))
 ·exact .inr ⟨a,vs,ds,h1,h2,h3,e _ _ h4,h5.mono (qr e)⟩
theorem zu.rep(h:zu g H S d v):Rep g H d v:=by
 rcases h with h|⟨a,vs,ds,h1,rfl,rfl,h4,h5⟩
 ·exact h.mono qad
 ·exact .lst (SqL.of h4) (h5.mono qad)
theorem zu.lst{ds:List D}(h:zu g H S (.lst ds) v):∃a vs,v=.ref a∧SqL g.K H a vs∧qq g (hid H S) ds vs:=by
 rcases h with h|⟨a,vs,ds',h1,rfl,h3,h4,h5⟩
 ·cases h with
  |lst h r=>exact⟨_,_,rfl,qad.seq h,r⟩
 ·cases h3;exact⟨a,vs,rfl,SqL.of h4,h5⟩
theorem zu.strong(h:zu g H S d v)(n:∀ds,d≠.lst ds):Rep g (hid H S) d v:=by
 rcases h with h|⟨a,vs,ds',h1,rfl,h3,h4,h5⟩
 ·exact h
 ·exact absurd h3 (n _)
theorem zu.tup{ds:List D}(h:zu g H S (.tup ds) v):∃a vs,v=.ref a∧SqT g.K H a vs∧qq g (hid H S) ds vs:=by
 cases h.strong (by intro _ z;cases z)with
 |tup h2 r=>exact⟨_,_,rfl,qar qad h2,r⟩
theorem zu.seq{ds:List D}(h:zu g H S d v)(e:seq? d=some ds):∃a vs,v=.ref a∧(SqL g.K H a vs∨SqT g.K H a vs)∧qq g (hid H S) ds vs:=by
 cases d with
 |tup xs=>cases e;obtain⟨a,vs,h1,h2,h3⟩:=h.tup;exact⟨a,vs,h1,.inr h2,h3⟩
 |lst xs=>cases e;obtain⟨a,vs,h1,h2,h3⟩:=h.lst;exact⟨a,vs,h1,.inl h2,h3⟩
 |_=>cases e
theorem zu.int{i:Int}(h:zu g H S (.int i) v):v=.int i:=by cases h.strong (by intro _ z;cases z);rfl
theorem zu.bl{b:Bool}(h:zu g H S (.bl b) v):v=.bl b:=by cases h.strong (by intro _ z;cases z);rfl
theorem qbO{ds:List D}{vs:List V}{p:Addr}(hs:Sub S H)(n:H p=none)(r:qq g (hid H S) ds vs):Rep g (hid (upd H p (.tup vs)) S) (.tup ds) (.ref p):=
 .tup (SqT.of (qjg hs n)) (r.mono (qr (za n)))
theorem qbm{ds:List D}{vs:List V}{p:Addr}(hs:Sub S H)(n:H p=none)(r:qq g (hid H S) ds vs):Rep g (hid (upd H p (.lst vs)) S) (.lst ds) (.ref p):=
 .lst (SqL.of (qjg hs n)) (r.mono (qr (za n)))
theorem qcC{ds:List D}{vs:List V}{p:Addr}(e:qf H0 H)(n:H p=none)(r:qq g (hid H S) ds vs):Fr g H0 S (upd H p (.lst vs)) (.lst ds) (.ref p):=
 ⟨p,vs,ds,rfl,rfl,e.free n,zw,r.mono (qdv n)⟩
end
end EV
namespace HT
open PySem PySem.Spec PyProof.Rows L2
section
variable{prog:Program}{w:World}{A:Around}{E:Value→Shared→Prop}{s:Shared}
end
end HT
namespace L2
open PySem PySem.Spec PyProof.Rows
variable{X:Cx}
theorem qoW:fillsNumberSlot (.type "tuple") "mul" = pure false:=
 PySem.fillsNumberSlot_seq (id:="tuple.__mul__") (r:=some (.builtin "tuple.__rmul__")) PySem.F.slot_tuple_mul.lookup (by decide +kernel) PySem.F.slot_tuple_rmul.lookup (by decide +kernel)
theorem qpX:seqRepeat? (.type "tuple")=pure (some (.builtin "tuple.__mul__")):=by
 unfold seqRepeat?;rw [PySem.seqSlot_of (T:="tuple") (name:="__mul__") (id:="tuple.__mul__") PySem.F.slot_tuple_mul.lookup (by decide +kernel),PySem.seqSlot_of (T:="tuple") (name:="__rmul__") (id:="tuple.__rmul__") PySem.F.slot_tuple_rmul.lookup (by decide +kernel)]
 rfl
theorem qov(a:Int)(t:Tok)(l:Addr)(items:Array Value)(n:Nat)(d:Option Addr)(sl:Array (Option Value)) :
  Meets (Builtin.«int.__rmul__» ⟨[.int a t,.ref l],[]⟩) (fun _ R s=>s.heap.get? l=some ⟨.type "tuple",d,.seq items n,sl⟩∧R (.ok (.ret Value.notImplemented)) s):=
 .of_wp fun prog w A R s h=>by
  obtain⟨hp,g,d,tk,os⟩:=s;obtain⟨hl,h⟩:=h
  wp_walk
  exact⟨_,rfl,h⟩
theorem qha{M:Model}{A:Around}{α:Type}{b:Bool}{x y:Sem α}{Q:α→Shared→Prop}{E:Value→Shared→Prop}{s:Shared}(h:b=false)(k:wpAny M A y Q E s):wpAny M A (if b=true then x else y) Q E s:=by subst h;exact k
theorem qsv{M:Model}{A:Around}{α:Type}{b:Bool}{x y:Sem α}{Q:α→Shared→Prop}{E:Value→Shared→Prop}{s:Shared}(h:b=true)(k:wpAny M A x Q E s):wpAny M A (if b=true then x else y) Q E s:=by subst h;exact k
theorem qoF(l:Addr)(items:Array Value)(n:Nat)(d:Option Addr)(sl:Array (Option Value))(x:Int)(u:Tok)(h0:0≤x)(h1:x<2^63)(h2:(items.isEmpty||x==1)=true) :
  Meets (Builtin.«tuple.__mul__» ⟨[.ref l,.int x u],[]⟩) (fun _ R s=>s.heap.get? l=some ⟨.type "tuple",d,.seq items n,sl⟩∧R (.ok (.ret (.ref l))) s):=
 .of_wp fun prog w A R s h=>by
  obtain⟨hp,g,d,tk,os⟩:=s;obtain⟨hl,h⟩:=h
  wp_walk
  refine qha (by simp;lia) ?_
  wp_walk
  exact⟨_,rfl,h⟩
theorem qrH(l:Addr)(items:Array Value)(n:Nat)(d:Option Addr)(sl:Array (Option Value))(x:Int)(u:Tok)(h0:0≤x)(h1:x≤1000000)(hz:items.size * x.toNat≤16777216)(h2:(items.isEmpty||x==1)=false) :
  Meets (Builtin.«tuple.__mul__» ⟨[.ref l,.int x u],[]⟩) (fun _ R s=>s.heap.get? l=some ⟨.type "tuple",d,.seq items n,sl⟩∧R (.ok (.ret (.ref s.heap.objs.size))) {s with heap:=s.heap.push ⟨.type "tuple",none,.seq (List.foldl (fun a b=>a++b) #[] (List.replicate x.toNat items)) 0,#[]⟩}):=
 .of_wp fun prog w A R s h=>by
  obtain⟨hp,g,d,tk,os⟩:=s;obtain⟨hl,h⟩:=h;have hz':(items.size:Int) * x≤16777216:=by
   have:((items.size * x.toNat:Nat):Int)≤16777216:=by lia
   rwa [Int.natCast_mul,Int.toNat_of_nonneg h0]at this
  wp_walk
  refine qha (by simp;lia) ?_
  wp_walk
  have he:items.isEmpty=false:=by
   cases q:items.isEmpty with
   |false=>rfl
   |true=>rw [q]at h2;cases h2
  by_cases hx:x≤0
  ·have:x=0:=by lia
   subst this;refine qsv rfl ?_
   wp_walk
   exact⟨_,rfl,h⟩
  ·refine qha (by rw [he,decide_eq_false hx];rfl) ?_
   wp_walk
   refine wpAny_ite_false (decide_eq_false (by lia)) ?_
   wp_walk
   refine qha (by simp [Builtin.Tuple.tupleTooMany,sizeLine_eq];exact hz') ?_
   wp_walk
   refine wpAny_ite_false (decide_eq_false (by rw [listMul_foldl,List.size_toArray,Array.toList_empty,List.nil_append,lm_len_rep_flat,sizeLine_eq,Array.length_toList,Nat.mul_comm];lia)) ?_
   wp_walk
   exact⟨_,rfl,h⟩
noncomputable def qsO(K:PySem.W.Frag):R2:=fun x y H Q=>∃l xs j,x=.ref l∧y=.int j∧SqT K H l xs∧0≤j∧xs.length * j.toNat≤16777216∧j≤1000000∧((xs=[]∨j=1)→Q (.ref l) H)∧∀p,H p=none→Q (.ref p) (upd H p (.tup (List.replicate j.toNat xs).flatten))
theorem qgP{xs:List V}{its:List Value}(r:Vals xs its):∀n,Vals (List.replicate n xs).flatten (List.replicate n its).flatten
 | 0=>.nil
 |n+1=>by rw [List.replicate_succ,List.replicate_succ];exact r.append (qgP r n)
section
variable{X:Cx}
theorem qpH:OpR X (binaryOp .Mult) (qsO X.K):=by
 intro pins s σ H x y v u Q I rx ry h;obtain⟨l,xs,j,rfl,rfl,hH,h0,hz,hj,q0,q1⟩:=h;cases rx;obtain⟨t,rfl⟩:=ry;obtain⟨its,r,p1,_⟩:=I.tuple hH;have l1:=r.length;obtain⟨⟨cls,dd,data,sl⟩,ho,hc,n,hd⟩:=id p1;simp only at hc hd;subst hc hd;refine wpAny_binaryOp_repeat_ref (T:="tuple") (U:="int") (by decide) ⟨_,ho,rfl⟩ (fun s'=>typeIs_int s' j t) qoW PySem.F.fills_int_mul PySem.F.slot_int_rmul qpX PySem.F.slot_int_index.lookup
  (call_meets PySem.F.slot_int_rmul (typeIs_int s j t) PySem.F.entry_int_rmul (PySem.F.args_int_rmul_2 _ _) (qov j t l its.toArray n dd sl) ⟨ho,rfl,⟨_,ho,rfl⟩,?_⟩)
 cases e:(its.toArray.isEmpty||j==1)with
 |true=>
  refine call_meets PySem.F.slot_tuple_mul ⟨_,ho,rfl⟩ PySem.F.entry_tuple_mul (PySem.F.args_tuple_mul_2 _ _) (qoF l its.toArray n dd sl j t h0 (by lia) e) ⟨ho,.ref l,H,I,rfl,q0 ?_⟩;rw [Bool.or_eq_true]at e;rcases e with e|e
  ·refine .inl (List.length_eq_zero_iff.mp ?_);rw [l1];simpa using e
  ·exact .inr (by simpa using e)
 |false=>
  refine call_meets PySem.F.slot_tuple_mul ⟨_,ho,rfl⟩ PySem.F.entry_tuple_mul (PySem.F.args_tuple_mul_2 _ _) (qrH l its.toArray n dd sl j t h0 hj (by rw [List.size_toArray,←l1];exact hz) e) ⟨ho,?_⟩;rw [listMul_foldl];rw [Array.toList_empty,List.nil_append];refine⟨.ref s.heap.objs.size,_,I.laid (t':=s.toks) (o:=.tup (List.replicate j.toNat xs).flatten) (fun b ob q=>Heap.get?_push_of_some _ q) (Nat.le_refl _) ?_,rfl,q1 _ (I.hok.fresh (Nat.le_refl _))⟩;exact⟨by rw [lm_len_rep_flat,sizeLine_eq,Nat.mul_comm];exact hz,_,qgP r j.toNat,IsTup.new _ _⟩
end
end L2
namespace EV
open PySem PySem.Spec PySem.P PyProof.Rows L2
mutual
noncomputable def D.py:D→PyData
 | .non=>.none
 | .bl b=>.bool b
 | .int i=>.int i
 | .str x=>.str x
 | .tup xs=>.tuple (pys xs)
 | .lst xs=>.list (pys xs)
 | .fn _=>.none
 | .exn _=>.none
 | .dic=>.none
noncomputable def pys:List D→List PyData
 | []=>[]
 |x::xs=>x.py::pys xs
end
mutual
theorem qkO:∀{d:D},d.plain=true→d.py.canLay0=true
 | .non,_ | .bl _,_ | .int _,_=>by simp [D.py,PyData.canLay0]
 | .str x,h=>by simpa [D.py,PyData.canLay0,D.plain]using h
 | .tup xs,h=>by simp only [D.py,PyData.canLay0];exact qfA (by simpa [D.plain]using h)
 | .lst xs,h=>by simp only [D.py,PyData.canLay0];exact qfA (by simpa [D.plain]using h)
 | .fn _,h | .exn _,h | .dic,h=>by simp [D.plain]at h
theorem qfA:∀{ds:List D},plainAll ds=true→PyData.canLayAll0 (pys ds)=true
 | [],_=>by simp [pys,PyData.canLayAll0]
 |x::xs,h=>by
  simp only [plainAll,Bool.and_eq_true]at h;simp only [pys,PyData.canLayAll0,Bool.and_eq_true];exact⟨qkO h.1,qfA h.2⟩
end
mutual
theorem qiR:∀(d:D),d.py.depth=d.deep
 | .non | .bl _ | .int _ | .str _ | .fn _ | .exn _ | .dic=>by simp [D.py,PyData.depth,D.deep]
 | .tup xs=>by simp only [D.py,PyData.depth,D.deep];rw [qeJ xs]
 | .lst xs=>by simp only [D.py,PyData.depth,D.deep];rw [qeJ xs]
theorem qeJ:∀(ds:List D),PyData.depthAll (pys ds)=qbk ds
 | []=>by simp [pys,PyData.depthAll,qbk]
 |x::xs=>by simp only [pys,PyData.depthAll,qbk];rw [qiR x,qeJ xs]
end
mutual
theorem qij:∀(a b:D),a.plain=true→b.plain=true→PyData.eqv a.py b.py=a.eqv b
 | .tup xs,.tup ys,h,h'=>by simp only [D.py,PyData.eqv,D.eqv];exact qfP xs ys (by simpa [D.plain]using h) (by simpa [D.plain]using h')
 | .lst xs,.lst ys,h,h'=>by simp only [D.py,PyData.eqv,D.eqv];exact qfP xs ys (by simpa [D.plain]using h) (by simpa [D.plain]using h')
 | .fn _,_,h,_=>by simp [D.plain]at h
 | .exn _,_,h,_=>by simp [D.plain]at h
 | .dic,_,h,_=>by simp [D.plain]at h
 | .non,b,_,h' | .bl _,b,_,h' | .int _,b,_,h' | .str _,b,_,h'=>by cases b<;>simp [D.py,PyData.eqv,D.eqv,D.plain]at h' ⊢
 | .tup _,.non,_,_ | .tup _,.bl _,_,_ | .tup _,.int _,_,_ | .tup _,.str _,_,_ | .tup _,.lst _,_,_=>by simp [D.py,PyData.eqv,D.eqv]
 | .lst _,.non,_,_ | .lst _,.bl _,_,_ | .lst _,.int _,_,_ | .lst _,.str _,_,_ | .lst _,.tup _,_,_=>by simp [D.py,PyData.eqv,D.eqv]
 | .tup _,.fn _,_,h' | .tup _,.exn _,_,h' | .lst _,.fn _,_,h' | .lst _,.exn _,_,h' | .tup _,.dic,_,h' | .lst _,.dic,_,h'=>by simp [D.plain]at h'
theorem qfP:∀(xs ys:List D),plainAll xs=true→plainAll ys=true→PyData.eqvAll (pys xs) (pys ys)=eqvAll xs ys
 | [],[],_,_=>by simp [pys,PyData.eqvAll,eqvAll]
 |x::xs,y::ys,h,h'=>by
  simp only [plainAll,Bool.and_eq_true]at h h';simp only [pys,PyData.eqvAll,eqvAll];rw [qij x y h.1 h'.1,qfP xs ys h.2 h'.2]
 | [],_::_,_,_=>by simp [pys,PyData.eqvAll,eqvAll]
 |_::_,[],_,_=>by simp [pys,PyData.eqvAll,eqvAll]
end
mutual
theorem Rep.data{g:Gc}{H:Hp}:∀{d:D}{v:V},Rep g H d v→d.plain=true→qbw g.K H v d.py
 |_,_,.non,_=>by simp only [D.py];exact .non
 |_,_,.bl b,_=>by simp only [D.py];exact .bl b
 |_,_,.int i,_=>by simp only [D.py];exact .int i
 |_,_,.str x,_=>by simp only [D.py];exact .str x
 |_,_,.tup h r,p=>by simp only [D.py];exact .tup h (qq.datas r (by simpa [D.plain]using p))
 |_,_,.lst h r,p=>by simp only [D.py];exact .lst h (qq.datas r (by simpa [D.plain]using p))
 |_,_,.fn h,p=>by simp [D.plain]at p
 |_,_,.exn h r,p=>by simp [D.plain]at p
 |_,_,.dic h,p=>by simp [D.plain]at p
theorem qq.datas{g:Gc}{H:Hp}:∀{ds:List D}{vs:List V},qq g H ds vs→plainAll ds=true→qbU g.K H vs (pys ds)
 |_,_,.nil,_=>by simp only [pys];exact .nil
 |_,_,.cons h r,p=>by
  simp only [plainAll,Bool.and_eq_true]at p;simp only [pys];exact .cons (Rep.data h p.1) (qq.datas r p.2)
end
theorem qtI{d:D}:d.asks=true↔d.plain=true∧d.deep≤20:=by simp [D.asks]
section
variable{X:Cx}{g:Gc}
theorem OpR.imp{f:Value→Value→Sem Value}{r r':R2}(h:OpR X f r)(i:∀x y H Q,r' x y H Q→r x y H Q):OpR X f r':=
 fun pins s σ H x y v u Q I rx ry q=>h pins s σ H x y v u Q I rx ry (i _ _ _ _ q)
noncomputable def qsx(K:PySem.W.Frag):R2:=fun x y H Q=>∃l b xs zs,x=.ref l∧y=.ref b∧SqL K H l xs∧SqL K H b zs∧xs.length+zs.length≤sizeLine∧∀p,H p=none→Q (.ref p) (upd H p (.lst (xs++zs)))
theorem qpm:OpR X (binaryOp .Add) (qsx X.K):=by
 intro pins s σ H x y v u Q I rx ry h;obtain⟨l,b,xs,zs,rfl,rfl,hH,hB,hz,q⟩:=h;cases rx;cases ry;obtain⟨its,r,pl,z⟩:=I.list hH;obtain⟨its2,r2,pl2,z2⟩:=I.list hB;have l1:=r.length;have l2:=r2.length;obtain⟨⟨cls,dd,data,sl⟩,ho,hc,n,hd⟩:=pl.isList;obtain⟨⟨cls2,dd2,data2,sl2⟩,ho2,hc2,n2,hd2⟩:=pl2.isList;simp only at hc hd hc2 hd2;subst hc hd hc2 hd2;refine concat_meets ⟨_,ho,rfl⟩ ⟨_,ho2,rfl⟩ noFill_list_add seq_list_add PySem.F.slot_list_add PySem.F.entry_list_add (PySem.F.args_list_add_2 _ _) (list_addW l b its.toArray its2.toArray n n2 dd dd2 sl sl2 (by rw [List.size_toArray,List.size_toArray];lia)) ⟨ho,ho2,?_⟩;have ea:its.toArray++its2.toArray=(its++its2).toArray:=by simp
 rw [ea];exact⟨.ref _,_,I.lnew (t':=s.toks) (r.append r2) (by rw [List.length_append];lia),rfl,q _ I.fresh⟩
noncomputable def qtm(K:PySem.W.Frag):R2:=fun x y H Q=>∃l xs j,x=.ref l∧y=.int j∧SqL K H l xs∧0≤j∧xs.length * j.toNat≤16777216∧j≤1000000∧∀p,H p=none→Q (.ref p) (upd H p (.lst (List.replicate j.toNat xs).flatten))
theorem qhD{xs:List V}{its:List Value}(r:Vals xs its):∀n,Vals (List.replicate n xs).flatten (List.replicate n its).flatten
 | 0=>.nil
 |n+1=>by rw [List.replicate_succ,List.replicate_succ];exact r.append (qhD r n)
theorem quo:OpR X (binaryOp .Mult) (qtm X.K):=by
 intro pins s σ H x y v u Q I rx ry h;obtain⟨l,xs,j,rfl,rfl,hH,h0,hz,hj,q⟩:=h;cases rx;obtain⟨t,rfl⟩:=ry;obtain⟨its,r,pl,z⟩:=I.list hH;have l1:=r.length;obtain⟨⟨cls,dd,data,sl⟩,ho,hc,n,hd⟩:=pl.isList;simp only at hc hd;subst hc hd;have hz':its.toArray.size * j.toNat≤16777216:=by rw [List.size_toArray,←l1];exact hz
 refine wpAny_binaryOp_repeat_ref (T:="list") (U:="int") (by decide) ⟨_,ho,rfl⟩ (fun s'=>typeIs_int s' j t) noFill_list_mul PySem.F.fills_int_mul PySem.F.slot_int_rmul repeat_list PySem.F.slot_int_index.lookup
  (call_meets PySem.F.slot_int_rmul (typeIs_int s j t) PySem.F.entry_int_rmul (PySem.F.args_int_rmul_2 _ _) (lm_int_rmul_list_any j t l its.toArray n dd sl) ⟨ho,rfl,⟨_,ho,rfl⟩,call_meets PySem.F.slot_list_mul ⟨_,ho,rfl⟩ PySem.F.entry_list_mul (PySem.F.args_list_mul_2 _ _) (lm_list_mul_any l its.toArray n dd sl j t (by simp [Builtin.List.listFitsIndex];lia) (by lia) (by simp [Builtin.List.listTooLong,sizeLine];lia)) ⟨ho,?_⟩⟩)
 rw [listMul_foldl_if];exact⟨.ref _,_,I.lnew (t':=s.toks) (qhD r j.toNat) (by rw [lm_len_rep_flat,sizeLine_eq,Nat.mul_comm];exact hz),rfl,q _ I.fresh⟩
theorem qq.rep{H:Hp}{ds:List D}{vs:List V}(r:qq g H ds vs):∀n,qq g H (List.replicate n ds).flatten (List.replicate n vs).flatten
 | 0=>.nil
 |n+1=>by rw [List.replicate_succ,List.replicate_succ];exact r.append (qq.rep r n)
noncomputable def rOp(g:Gc)(o:O2):R2:=fun x y H Q=>∃S da db,Sub S H∧zu g H S da x∧zu g H S db y ∧
 match op2 o da db with
 | .ok d=>∀v H',qf H H'→Rep g (hid H' S) d v→(qok da=true→Fr g H S H' d v)→Q v H'
 |_=>False
theorem qbQ{o:O2}(ho:o≠.add)(hm:o≠.mul){da db d:D}(h:op2 o da db=.ok d):∃i j,da=.int i∧db=.int j∧opI o i j=.ok d:=by
 unfold op2 at h;split at h
 ·exact⟨_,_,rfl,rfl,h⟩
 ·rw [if_neg (fun z=>ho z.1)]at h;cases h
 ·rw [if_neg (fun z=>ho z.1)]at h;cases h
 ·rw [if_neg (fun z=>hm z.1)]at h;cases h
 ·rw [if_neg (fun z=>hm z.1)]at h;cases h
 ·cases h
theorem qis{j:Int}(h:small j=true):-(2^64)<j∧j<2^64:=by simpa [small]using h
theorem qoa{n:Nat}(h:n≤SZ):n≤sizeLine:=Nat.le_trans h (by rw [sizeLine_eq];decide)
theorem log2_small{j:Int}(h1:0<j)(h2:j<1000000000000000000000000000000):j.natAbs.log2<9000:=by
 have h3:j.natAbs<2^100:=by
  have:(2:Nat)^100=1267650600228229401496703205376:=by decide +kernel
  rw [this];lia
 have:=(Nat.log2_lt (n:=j.natAbs) (k:=100) (by lia)).mpr h3;lia
theorem qmV:OpR X (binaryOp .FloorDiv) (rI (fun _ j=>0<j∧j<1000000000000000000000000000000) fun i j=>.int (i/j)):=L2.opI fun i j _ _ _ _ _ hc q=>by
 have h1:(0:Int)<j:=hc.1;exact floordiv_int (by lia) (by rw [Int.fdiv_eq_ediv_of_nonneg i (by lia)];exact q) (.inl (PyProof.noPylong_of_log2 (log2_small hc.1 hc.2)))
theorem qrA(hK:X.K=g.K){op:Operator}{o:O2}(h:o2 op=some o):OpR X (binaryOp op) (rOp g o):=by
 have two:∀{f:Value→Value→Sem Value}{C:Int→Int→Prop}{q:Int→Int→Int} (o:O2),OpR X f (rI C fun i j=>.int (q i j))→(∀da db d,op2 o da db=.ok d→∃i j,da=.int i∧db=.int j∧C i j∧d=.int (q i j))→OpR X f (rOp g o):=fun o k e=>by
  refine OpR.imp k fun x y H Q ⟨S,da,db,hs,ra,rb,m⟩=>?_
  cases e1:op2 o da db with
  |ok d=>
   rw [e1]at m;obtain⟨i,j,rfl,rfl,c,rfl⟩:=e da db d e1;exact⟨i,j,ra.int,rb.int,c,m _ _ (qf.refl _) (.int _) (fun z=>nomatch z)⟩
  |ex c=>rw [e1]at m;exact m.elim
  |no=>rw [e1]at m;exact m.elim
 have two0:∀{f:Value→Value→Sem Value}{q:Int→Int→Int} (o:O2),OpR X f (rI0 fun i j=>.int (q i j))→(∀da db d,op2 o da db=.ok d→∃i j,da=.int i∧db=.int j∧d=.int (q i j))→OpR X f (rOp g o):=fun {f q} o k e=>
  two (C:=fun _ _=>True) (q:=q) o (OpR.imp k fun x y H Q ⟨i,j,h1,h2,_,h3⟩=>⟨i,j,h1,h2,h3⟩) fun da db d h=>by
   obtain⟨i,j,h1,h2,h3⟩:=e da db d h;exact⟨i,j,h1,h2,trivial,h3⟩
 cases op<;>simp only [o2,Option.some.injEq]at h<;>first|subst h|cases h
 ·-- Add
  refine OpR.imp (quu.or (quq.or qpm)) fun x y H Q ⟨S,da,db,hs,ra,rb,m⟩=>?_
  cases da with
  |int i=>
   cases db with
   |int j=>exact .inl ⟨i,j,ra.int,rb.int,m _ _ (qf.refl _) (.int _) (fun z=>nomatch z)⟩
   |_=>exact m.elim
  |tup xs=>
   cases db with
   |tup ys=>
    simp only [op2,true_and]at m;split at m
    ·rename_i e
     split at e<;>cases e
     rename_i hz
     obtain⟨a,vs,rfl,h1,r1⟩:=ra.tup;obtain⟨b,us,rfl,h2,r2⟩:=rb.tup;refine .inr (.inl ⟨a,b,vs,us,rfl,rfl,by rw [hK];exact h1,by rw [hK];exact h2,by rw [←r1.length,←r2.length];exact qoa hz,fun e=>?_,fun _ e=>?_,fun _ _ p hp=>?_⟩)
     ·subst e;cases r1;exact m _ _ (qf.refl _) (rb.strong (by intro _ z;cases z)) (fun z=>nomatch z)
     ·subst e;cases r2;rw [List.append_nil]at m;exact m _ _ (qf.refl _) (ra.strong (by intro _ z;cases z)) (fun z=>nomatch z)
     ·exact m _ _ (za hp) (qbO hs hp (r1.append r2)) (fun z=>nomatch z)
    ·exact m.elim
   |_=>exact m.elim
  |lst xs=>
   cases db with
   |lst ys=>
    simp only [op2,true_and]at m;split at m
    ·rename_i e
     split at e<;>cases e
     rename_i hz
     obtain⟨a,vs,rfl,h1,r1⟩:=ra.lst;obtain⟨b,us,rfl,h2,r2⟩:=rb.lst;refine .inr (.inr ⟨a,b,vs,us,rfl,rfl,by rw [hK];exact h1,by rw [hK];exact h2,by rw [←r1.length,←r2.length];exact qoa hz,fun p hp=>?_⟩);exact m _ _ (za hp) (qbm hs hp (r1.append r2)) (fun _=>qcC (qf.refl _) hp (r1.append r2))
    ·exact m.elim
   |_=>exact m.elim
  |_=>exact m.elim
 ·exact two0 .sub qqw fun da db d h=>by obtain⟨i,j,rfl,rfl,h'⟩:=qbQ (by decide) (by decide) h;clear h;rename _=>h;cases h;exact⟨_,_,rfl,rfl,rfl⟩
 ·refine OpR.imp (qus.or (quo.or qpH)) fun x y H Q ⟨S,da,db,hs,ra,rb,m⟩=>?_
  cases e1:op2 .mul da db with
  |ok d=>
   rw [e1]at m;unfold op2 at e1;split at e1
   ·simp only [opI]at e1;split at e1
    ·rename_i i j hc
     cases e1;refine .inl ⟨i,j,ra.int,rb.int,?_,m _ _ (qf.refl _) (.int _) (fun z=>nomatch z)⟩;rcases(by simpa using hc)with z|z
     ·exact .inl (qis z)
     ·exact .inr (qis z)
    ·cases e1
   ·rw [if_neg (fun z=>nomatch z.1)]at e1;cases e1
   ·rw [if_neg (fun z=>nomatch z.1)]at e1;cases e1
   ·split at e1
    ·rename_i xs j hc
     cases e1;obtain⟨a,vs,rfl,h1,r1⟩:=ra.lst;refine .inr (.inl ⟨a,vs,j,rfl,rb.int,by rw [hK];exact h1,hc.2.1,by rw [←r1.length];exact Nat.le_trans hc.2.2.1 (by decide),hc.2.2.2,fun p hp=>m _ _ (za hp) (qbm hs hp (r1.rep _)) (fun _=>qcC (qf.refl _) hp (r1.rep _))⟩)
    ·cases e1
   ·split at e1
    ·rename_i xs j hc
     cases e1;obtain⟨a,vs,rfl,h1,r1⟩:=ra.tup;refine .inr (.inr ⟨a,vs,j,rfl,rb.int,by rw [hK];exact h1,hc.2.1,by rw [←r1.length];exact Nat.le_trans hc.2.2.1 (by decide),hc.2.2.2,fun z=>?_,fun p hp=>m _ _ (za hp) (qbO hs hp (r1.rep _)) (fun z=>nomatch z)⟩);have e:(List.replicate j.toNat xs).flatten=xs:=by
      rcases z with z|z
      ·have:xs=[]:=by
        subst z;cases r1;rfl
       subst this;exact lm_rep_nil _
      ·subst z;simp
     rw [e]at m;exact m _ _ (qf.refl _) (ra.strong (by intro _ z;cases z)) (fun z=>nomatch z)
    ·cases e1
   ·cases e1
  |ex c=>rw [e1]at m;exact m.elim
  |no=>rw [e1]at m;exact m.elim
 ·exact two .mod qrh fun da db d h=>by obtain⟨i,j,rfl,rfl,h'⟩:=qbQ (by decide) (by decide) h;clear h;rename _=>h;simp only [opI]at h;split at h<;>cases h;rename_i hc;exact⟨_,_,rfl,rfl,hc,rfl⟩
 ·exact two .shl qqB fun da db d h=>by obtain⟨i,j,rfl,rfl,h'⟩:=qbQ (by decide) (by decide) h;clear h;rename _=>h;simp only [opI]at h;split at h<;>cases h;rename_i hc;exact⟨_,_,rfl,rfl,hc,rfl⟩
 ·exact two .shr qqL fun da db d h=>by obtain⟨i,j,rfl,rfl,h'⟩:=qbQ (by decide) (by decide) h;clear h;rename _=>h;simp only [opI]at h;split at h<;>cases h;rename_i hc;exact⟨_,_,rfl,rfl,hc,rfl⟩
 ·exact two0 .bor qsF fun da db d h=>by obtain⟨i,j,rfl,rfl,h'⟩:=qbQ (by decide) (by decide) h;clear h;rename _=>h;cases h;exact⟨_,_,rfl,rfl,rfl⟩
 ·exact two0 .band qsh fun da db d h=>by obtain⟨i,j,rfl,rfl,h'⟩:=qbQ (by decide) (by decide) h;clear h;rename _=>h;cases h;exact⟨_,_,rfl,rfl,rfl⟩
 ·exact two .fdiv qmV fun da db d h=>by obtain⟨i,j,rfl,rfl,h'⟩:=qbQ (by decide) (by decide) h;clear h;rename _=>h;simp only [opI]at h;split at h<;>cases h;rename_i hc;exact⟨_,_,rfl,rfl,hc,rfl⟩
theorem qdx(hK:X.K=g.K){pins:List (Addr×Obj)}{σ:L2.St}{H:Hp}{s:Shared}(I:Inv X pins σ H s){d:D}{v:V}{u:Value}(r:Rep g H d v)(a:d.asks=true)(ru:RelV v u):∃as,Reads s.heap u d.py as∧d.py.canLay0=true∧d.py.depth≤20:=by
 obtain⟨h1,h2⟩:=qtI.mp a;have h:=r.data h1;rw [←hK]at h;obtain⟨as,q⟩:=I.reads h ru;exact⟨as,q,qkO h1,by rw [qiR];exact h2⟩
theorem qiV:∀(a b:List Int),qbp a b=HT.lexLt a b
 | [],[]=>by simp [qbp,HT.lexLt]
 | [],_::_=>by simp [qbp,HT.lexLt]
 |_::_,[]=>by simp [qbp,HT.lexLt]
 |a::r,b::t=>by
  simp only [qbp,HT.lexLt];rw [qiV r t]
  try (by_cases h:a=b<;>simp [h])
noncomputable def rCm(g:Gc)(c:C2):R2:=fun x y H Q=>∃S da db,zu g H S da x∧zu g H S db y ∧
 match qg c da db with
 | .ok b=>Q (.bl b) H
 |_=>False
open Classical in
noncomputable def qbY(h:Heap)(q:PyData)(u:Value):Bool:=if e:∃d as,Reads h u d as then PyData.eqv e.choose q else false
theorem qhr{h:Heap}{q d:PyData}{u:Value}{as:List Addr}(r:Reads h u d as):qbY h q u=PyData.eqv d q:=by
 have e:∃d as,Reads h u d as:=⟨d,as,r⟩
 unfold qbY;rw [dif_pos e];obtain⟨bs,r'⟩:=e.choose_spec;rw [(PySem.Reads.unique r' d as r).1]
theorem any_eq(hK:X.K=g.K){pins:List (Addr×Obj)}{σ:L2.St}{H:Hp}{s:Shared}(I:Inv X pins σ H s){da:D}(ha:da.asks=true):∀{ds:List D}{vs:List V}{us:List Value},qq g H ds vs→Vals vs us→ds.all D.asks=true →
  us.any (qbY s.heap da.py)=inD da ds∧∀u∈us,∃d as,Reads s.heap u d as∧d.canLay0=true∧d.depth≤20
 |_,_,_,.nil,.nil,_=>⟨rfl,fun u h=>by simp at h⟩
 |_,_,_,.cons h r,.cons q t,e=>by
  simp only [List.all_cons,Bool.and_eq_true]at e;obtain⟨as,h1,h2,h3⟩:=qdx hK I h e.1 q;obtain⟨i1,i2⟩:=any_eq hK I ha r t e.2;refine⟨?_,fun u hu=>?_⟩
  ·rw [List.any_cons,i1,qhr h1,qij _ _ (qtI.mp e.1).1 (qtI.mp ha).1]
   rfl
  ·rcases List.mem_cons.mp hu with rfl|hu
   ·exact⟨_,as,h1,h2,h3⟩
   ·exact i2 u hu
theorem qqR{A:Around}{s:Shared}{u v:Value}{d:PyData}{as:List Addr}{q:PyData}{bs:List Addr}(hu:A.units+60<cLine)(r:Reads s.heap u d as)(r':Reads s.heap v q bs)(h1:d.canLay0=true)(h2:q.canLay0=true)(h3:d.depth≤20):SeqAt.EqAt A.in1 s u v (qbY s.heap q u):=by
 rw [qhr r];refine SeqAt.eqAt_reads d q A.in1 s u v as bs r r' h1 h2 ?_;have:min d.depth q.depth≤d.depth:=Nat.min_le_left _ _;show A.units+1+_<_;lia
theorem qoh(hK:X.K=g.K)(hu:X.A.units+64<cLine)(neg:Bool):OpR X (compareOp (if neg then .NotIn else .In)) (fun x y H Q=>∃S da db ds,zu g H S da x∧zu g H S db y∧seq? db=some ds∧da.asks=true∧ds.all D.asks=true∧Q (.bl (if neg then !inD da ds else inD da ds)) H):=by
 intro pins s σ H x y v u Q I rx ry h;obtain⟨S,da,db,ds,ra,rb,es,aa,ad,q⟩:=h;obtain⟨as,h1,h2,h3⟩:=qdx hK I ra.rep aa rx;obtain⟨a,vs,rfl,hsq,rr⟩:=rb.seq es;cases ry;have go:∀{its:List Value},Vals vs its→(∀w∈its.toArray,SeqAt.EqAt X.A.in1 s w v (qbY s.heap da.py w))∧its.toArray.any (qbY s.heap da.py)=inD da ds:=fun {its} rv=>by
  obtain⟨i1,i2⟩:=any_eq hK I aa (rr.mono qad) rv ad;refine⟨fun w hw=>?_,by simpa using i1⟩;obtain⟨d,bs,r1,r2,r3⟩:=i2 w (by simpa using hw);exact qqR (Nat.lt_of_le_of_lt (Nat.add_le_add_left (by decide) _) hu) r1 h1 r2 h2 r3
 rcases hsq with hsq|hsq
 ·obtain⟨its,rv,pl,_⟩:=I.list (by rw [hK];exact hsq);obtain⟨g1,g2⟩:=go rv;cases neg with
  |false=>exact SeqAt.in_listAt (qbY s.heap da.py) pl.isList g1 ⟨.bl _,H,I,rfl,by rw [g2];exact q⟩
  |true=>exact SeqAt.notIn_listAt (qbY s.heap da.py) pl.isList g1 ⟨.bl _,H,I,rfl,by rw [g2];exact q⟩
 ·obtain⟨its,rv,pl,_⟩:=I.tuple (by rw [hK];exact hsq);obtain⟨g1,g2⟩:=go rv;cases neg with
  |false=>exact SeqAt.in_tupleAt (qbY s.heap da.py) pl g1 ⟨.bl _,H,I,rfl,by rw [g2];exact q⟩
  |true=>exact SeqAt.notIn_tupleAt (qbY s.heap da.py) pl g1 ⟨.bl _,H,I,rfl,by rw [g2];exact q⟩
theorem qnT(hK:X.K=g.K)(hu:X.A.units+64<cLine)(neg:Bool):OpR X (compareOp (if neg then .NotEq else .Eq)) (fun x y H Q=>∃S da db,zu g H S da x∧zu g H S db y∧da.asks=true∧db.asks=true∧Q (.bl (if neg then !da.eqv db else da.eqv db)) H):=by
 intro pins s σ H x y v u Q I rx ry h;obtain⟨S,da,db,ra,rb,aa,ab,q⟩:=h;obtain⟨as,h1,h2,h3⟩:=qdx hK I ra.rep aa rx;obtain⟨bs,k1,k2,k3⟩:=qdx hK I rb.rep ab ry;have e:=qij da db (qtI.mp aa).1 (qtI.mp ab).1;have room:X.A.units+min da.py.depth db.py.depth<cLine:=by
  have:min da.py.depth db.py.depth≤da.py.depth:=Nat.min_le_left _ _;lia
 cases neg with
 |false=>exact SeqAt.compareEq_reads h1 k1 h2 k2 room ⟨.bl _,H,I,by rw [e];rfl,q⟩
 |true=>exact SeqAt.compareNe_reads h1 k1 h2 k2 room ⟨.bl _,H,I,by rw [e];rfl,q⟩
theorem zu.non_iff{S:Sh}{H:Hp}{d:D}{v:V}(r:zu g H S d v):decide (v=.non)=qeU d:=by
 cases r.rep<;>rfl
theorem qcb{op:CmpOp}{c:C2}{r:R2}(h:OpR X (compareOp op) r)(k:∀S da db b x y H Q,zu g H S da x→zu g H S db y→qg c da db=.ok b→Q (.bl b) H→r x y H Q):OpR X (compareOp op) (rCm g c):=by
 refine OpR.imp h fun x y H Q ⟨S,da,db,ra,rb,m⟩=>?_
 cases e:qg c da db with
 |ok b=>rw [e]at m;exact k S da db b x y H Q ra rb e m
 |ex c'=>rw [e]at m;exact m.elim
 |no=>rw [e]at m;exact m.elim
theorem qrF:OpR X (compareOp .Is) (fun x y H Q=>∃a b,x=.bl a∧y=.bl b∧Q (.bl (a==b)) H):=by
 intro pins s σ H x y v u Q I rx ry h;obtain⟨a,b,rfl,rfl,q⟩:=h;cases rx;cases ry;exact is_bool (qfo I q rfl)
theorem qkB:OpR X (compareOp .IsNot) (fun x y H Q=>∃a b,x=.bl a∧y=.bl b∧Q (.bl (!(a==b))) H):=by
 intro pins s σ H x y v u Q I rx ry h;obtain⟨a,b,rfl,rfl,q⟩:=h;cases rx;cases ry;exact isnot_bool (qfo I q rfl)
theorem qkL{n:Bool}{a b:EV.D}{c:Bool}(h:isB n a b=.ok c):∃x y,a=.bl x∧b=.bl y∧c=(n != (x==y)):=by
 unfold isB at h;split at h
 ·cases h;exact⟨_,_,rfl,rfl,rfl⟩
 ·cases h
theorem qbq(hK:X.K=g.K)(hu:X.A.units+64<cLine)(op:CmpOp):OpR X (compareOp op) (rCm g (c2 op)):=by
 cases op
 ·exact qcb (qnT hK hu false) fun S da db b x y H Q ra rb e q=>by
   simp only [c2,qg]at e;split at e<;>cases e
   rename_i a
   simp only [Bool.and_eq_true]at a;exact⟨S,da,db,ra,rb,a.1,a.2,q⟩
 ·exact qcb (qnT hK hu true) fun S da db b x y H Q ra rb e q=>by
   simp only [c2,qg]at e;split at e<;>cases e
   rename_i a
   simp only [Bool.and_eq_true]at a;exact⟨S,da,db,ra,rb,a.1,a.2,q⟩
 ·exact qcb (quw.or (qqb (by lia))) fun S da db b x y H Q ra rb e q=>by
   simp only [c2]at e;cases da with
   |int i=>
    cases db with
    |int j=>cases e;exact .inl ⟨i,j,ra.int,rb.int,q⟩
    |_=>cases e
   |tup xs=>
    cases db with
    |tup ys=>
     simp only [qg]at e;split at e
     ·rename_i ns ms e1 e2
      cases e;obtain⟨a,vs,rfl,h1,r1⟩:=ra.tup;obtain⟨b,us,rfl,h2,r2⟩:=rb.tup;obtain⟨rfl,_⟩:=r1.ints e1;obtain⟨rfl,_⟩:=r2.ints e2;exact .inr ⟨a,b,ns,ms,rfl,rfl,by rw [hK];exact h1,by rw [hK];exact h2,qiV ns ms▸q⟩
     ·cases e
    |_=>cases e
   |_=>cases db<;>cases e
 ·exact qcb qsK fun S da db b x y H Q ra rb e q=>by
   cases da with
   |int i=>
    cases db with
    |int j=>cases e;exact⟨_,_,ra.int,rb.int,q⟩
    |_=>cases e
   |_=>cases e
 ·exact qcb qte fun S da db b x y H Q ra rb e q=>by
   cases da with
   |int i=>
    cases db with
    |int j=>cases e;exact⟨_,_,ra.int,rb.int,q⟩
    |_=>cases e
   |_=>cases e
 ·exact qcb qtx fun S da db b x y H Q ra rb e q=>by
   cases da with
   |int i=>
    cases db with
    |int j=>cases e;exact⟨_,_,ra.int,rb.int,q⟩
    |_=>cases e
   |_=>cases e
 ·exact qcb (qut.or qrF) fun S da db b x y H Q ra rb e q=>by
   simp only [c2,qg]at e;split at e
   ·rename_i hd
    cases e;have hd:db=.non:=by cases db<;>first|rfl|cases hd
    subst hd;cases rb.rep;exact .inl ⟨rfl,by rw [ra.non_iff];exact q⟩
   ·obtain⟨a,c,rfl,rfl,rfl⟩:=qkL e;cases ra.rep;cases rb.rep;exact .inr ⟨a,c,rfl,rfl,by cases a<;>cases c<;>exact q⟩
 ·exact qcb (qur.or qkB) fun S da db b x y H Q ra rb e q=>by
   simp only [c2,qg]at e;split at e
   ·rename_i hd
    cases e;have hd:db=.non:=by cases db<;>first|rfl|cases hd
    subst hd;cases rb.rep;exact .inl ⟨rfl,by rw [ra.non_iff];exact q⟩
   ·obtain⟨a,c,rfl,rfl,rfl⟩:=qkL e;cases ra.rep;cases rb.rep;exact .inr ⟨a,c,rfl,rfl,by cases a<;>cases c<;>exact q⟩
 ·exact qcb (qoh hK hu false) fun S da db b x y H Q ra rb e q=>by
   simp only [c2,qg]at e;split at e
   ·rename_i xs es
    split at e<;>cases e
    rename_i a
    simp only [Bool.and_eq_true]at a;exact⟨S,da,db,xs,ra,rb,es,a.1,a.2,q⟩
   ·cases e
 ·exact qcb (qoh hK hu true) fun S da db b x y H Q ra rb e q=>by
   simp only [c2,qg]at e;split at e
   ·rename_i xs es
    split at e<;>cases e
    rename_i a
    simp only [Bool.and_eq_true]at a;exact⟨S,da,db,xs,ra,rb,es,a.1,a.2,q⟩
   ·cases e
end
abbrev qcn(g:Gc)(H:Hp)(S:Sh):List D→List V→Prop:=Paired (zu g H S)
section
variable{X:Cx}{g:Gc}
theorem qjk{H:Hp}{ds:List D}{vs:List V}{i:Int}{d:D}(r:qq g H ds vs)(e:atI ds i=some d):∃v,atI vs i=some v∧Rep g H d v:=by
 unfold atI at e ⊢;rw [←r.length];cases q:ixN ds.length i with
 |none=>rw [q]at e;cases e
 |some j=>rw [q]at e;exact r.get e
noncomputable def qtR(g:Gc):R2:=fun x y H Q=>∃S da db,zu g H S da x∧zu g H S db y ∧
 match ixD da db with
 | .ok d=>∀v,Rep g (hid H S) d v→Q v H
 |_=>False
theorem qsi(hK:X.K=g.K):IxR X (qtR g):=by
 have k:IxR X (fun x y H Q=>qqN X.K x y H Q∨qrv X.K x y H Q):=qup.or qqG;intro value slice pins s σ H x y v u Q I rx ry h hs;refine k value slice pins s σ H x y v u Q I rx ry ?_ hs;obtain⟨S,da,db,ra,rb,m⟩:=h;cases da with
 |tup xs=>
  cases db with
  |int i=>
   simp only [ixD]at m;cases e:atI xs i with
   |none=>rw [e]at m;exact m.elim
   |some d=>
    rw [e]at m;obtain⟨a,vs,rfl,h1,r1⟩:=ra.tup;obtain⟨w,h2,h3⟩:=qjk r1 e;exact .inr ⟨a,vs,i,w,rfl,rb.int,by rw [hK];exact h1,h2,m w h3⟩
  |_=>exact m.elim
 |lst xs=>
  cases db with
  |int i=>
   simp only [ixD]at m;cases e:atI xs i with
   |none=>rw [e]at m;exact m.elim
   |some d=>
    rw [e]at m;obtain⟨a,vs,rfl,h1,r1⟩:=ra.lst;obtain⟨w,h2,h3⟩:=qjk r1 e;exact .inl ⟨a,vs,i,w,rfl,rb.int,by rw [hK];exact h1,h2,m w h3⟩
  |_=>exact m.elim
 |_=>exact m.elim
noncomputable def quf(g:Gc):V→Option Int→Option Int→Hp→VK→Prop:=fun x lo hi H Q=>∃S da,Sub S H∧zu g H S da x ∧
 match slD da lo hi with
 | .ok d=>∀v H',qf H H'→Rep g (hid H' S) d v→Q v H'
 |_=>False
theorem qhv{H:Hp}{ds:List D}{vs:List V}(r:qq g H ds vs)(lo hi:Option Int):qq g H (cutD ds lo hi) (qdY vs lo hi):=by
 unfold cutD qdY;rw [r.length];exact(r.drop _).take _
theorem qrT(hK:X.K=g.K):SlR X (quf g):=by
 intro pins s σ H x v vl vu lo hi sl Q I rx hs pl pu h;obtain⟨S,da,hS,ra,m⟩:=h;cases da with
 |lst xs=>
  obtain⟨a,vs,rfl,h1,r1⟩:=ra.lst;exact qpk pins s σ H _ v vl vu lo hi sl Q I rx hs pl pu ⟨a,vs,rfl,by rw [hK];exact h1,fun p hp=>m _ _ (za hp) (qbm hS hp (qhv r1 lo hi))⟩
 |tup xs=>
  obtain⟨a,vs,rfl,h1,r1⟩:=ra.tup;simp only [slD]at m;by_cases hw:HT.sIx xs.length 0 lo=0∧HT.sIx xs.length xs.length hi=xs.length
  ·have e:cutD xs lo hi=xs:=by unfold cutD;rw [hw.1,hw.2];simp
   rw [e]at m;rw [r1.length]at hw;exact qmG pins s σ H _ v vl vu lo hi sl Q I rx hs pl pu ⟨a,vs,rfl,by rw [hK];exact h1,hw.1,hw.2,m _ _ (qf.refl _) (ra.strong (by intro _ z;cases z))⟩
  ·rw [r1.length]at hw;exact qpW pins s σ H _ v vl vu lo hi sl Q I rx hs pl pu ⟨a,vs,rfl,by rw [hK];exact h1,hw,fun p hp=>m _ _ (za hp) (qbO hS hp (qhv r1 lo hi))⟩
 |_=>exact m.elim
noncomputable def b1V:B1→Value
 | .len=>.builtin "len"
 | .tuple=>.type "tuple"
 | .list=>.type "list"
 | .sorted=>.builtin "sorted"
 | .all=>.builtin "all"
 | .any=>.builtin "any"
 | .sum=>.builtin "sum"
 | .min=>.builtin "min"
 | .max=>.builtin "max"
 | .abs=>.builtin "abs"
 | .int=>.type "int"
 | .bool=>.type "bool"
noncomputable def rB1(g:Gc)(b:B1):List V→Hp→VK→Prop:=fun vs H Q=>∃S ds,Sub S H∧qcn g H S ds vs ∧
 match b1 b ds with
 | .ok d=>∀v H',qf H H'→Rep g (hid H' S) d v→(b=.list∨b=.sorted→Fr g H S H' d v)→Q v H'
 |_=>False
theorem qx.imp{f:Value}{r r':List V→Hp→VK→Prop}(h:qx X f r)(i:∀xs H Q,r' xs H Q→r xs H Q):qx X f r':=
 fun pins s σ H xs us Q I rv q=>h pins s σ H xs us Q I rv (i _ _ _ q)
theorem qbH{f:Value}{b:B1}{r:List V→Hp→VK→Prop}(h:qx X f r)
  (k:∀S ds d vs H Q,Sub S H→qcn g H S ds vs→b1 b ds=.ok d→(∀v H',qf H H'→Rep g (hid H' S) d v→(b=.list∨b=.sorted→Fr g H S H' d v)→Q v H')→r vs H Q):qx X f (rB1 g b):=by
 refine qx.imp h fun vs H Q ⟨S,ds,hs,rs,m⟩=>?_
 cases e:b1 b ds with
 |ok d=>rw [e]at m;exact k S ds d vs H Q hs rs e m
 |ex c=>rw [e]at m;exact m.elim
 |no=>rw [e]at m;exact m.elim
theorem qbP{b:B1}(hb:∀x y,b12 b x y=.no){ds:List D}{d:D}(h:b1 b ds=.ok d):∃x,ds=[x]∧b11 b x=.ok d:=by
 match ds,h with
 | [x],h=>exact⟨x,rfl,h⟩
 | [x,y],h=>have h:b12 b x y=.ok d:=h;rw [hb]at h;cases h
 | [],h=>cases h
 |_::_::_::_,h=>cases h
theorem qbK{x r:D}{k:List D→R D}(h:qab x k=.ok r):∃xs,x=.lst xs∧k xs=.ok r:=by
 cases x with
 |lst xs=>exact⟨xs,rfl,h⟩
 |_=>cases h
theorem qfZ{x r:D}{f:Int→R D}{q:Bool→R D}(h:ibR x f q=.ok r):(∃i,x=.int i∧f i=.ok r)∨(∃b,x=.bl b∧q b=.ok r):=by
 cases x with
 |int i=>exact .inl ⟨i,rfl,h⟩
 |bl i=>exact .inr ⟨i,rfl,h⟩
 |_=>cases h
theorem qjh{x y r:D}{k:Int→Int→R D}(h:iiR x y k=.ok r):∃i j,x=.int i∧y=.int j∧k i j=.ok r:=by
 cases x with
 |int i=>
  cases y with
  |int j=>exact⟨i,j,rfl,rfl,h⟩
  |_=>cases h
 |_=>cases h
theorem qbV{α β:Type}{o:Option α}{k:α→R β}{r:β}(h:qai o k=.ok r):∃a,o=some a∧k a=.ok r:=by
 cases o with
 |some a=>exact⟨a,rfl,h⟩
 |none=>cases h
theorem qgd{b:B1}{ds:List D}{d:D}{q:List D→R D}(h:b1 b ds=.ok d)(e:∀x,b1 b [x]=qai (seq? x) q)(n:ds.length≠1→b1 b ds=.no):∃x xs,ds=[x]∧seq? x=some xs∧q xs=.ok d:=by
 match ds with
 | []=>rw [n (by simp)]at h;cases h
 | [x]=>
  rw [e]at h;cases z:seq? x with
  |none=>rw [z]at h;cases h
  |some xs=>rw [z]at h;exact⟨x,xs,rfl,z,h⟩
 |x::y::r=>rw [n (by simp)]at h;cases h
theorem qre(hK:X.K=g.K):qx X (.builtin "len") (rB1 g .len):=qbH qhq fun S ds d vs H Q hs rs h q=>by
 obtain⟨x,xs,rfl,e,h⟩:=qgd (q:=fun xs=>.ok (.int xs.length)) h (fun _=>rfl) (fun n=>by match ds,n with | [],_=>rfl | [_,_],_=>rfl|_::_::_::_,_=>rfl);cases h;cases rs with
 |cons r rs=>
  cases rs;obtain⟨a,us,rfl,h1,r1⟩:=r.seq e;exact⟨a,us,rfl,by rw [hK];exact h1,by rw [←r1.length];exact q _ _ (qf.refl _) (.int _) (by simp)⟩
theorem qnB(hK:X.K=g.K):qx X (.type "tuple") (rB1 g .tuple):=qbH qgW fun S ds d vs H Q hs rs h q=>by
 obtain⟨x,xs,rfl,e,h⟩:=qgd (q:=fun xs=>.ok (.tup xs)) h (fun _=>rfl) (fun n=>by match ds,n with | [],_=>rfl | [_,_],_=>rfl|_::_::_::_,_=>rfl);cases h;cases rs with
 |cons r rs=>
  cases rs;cases x with
  |lst ys=>
   cases e;obtain⟨a,us,rfl,h1,r1⟩:=r.lst;exact⟨a,us,rfl,.inl ⟨by rw [hK];exact h1,fun p hp=>q _ _ (za hp) (qbO hs hp r1) (by simp)⟩⟩
  |tup ys=>
   cases e;have z:=r.strong (by intro _ z;cases z);obtain⟨a,us,rfl,h1,r1⟩:=r.tup;exact⟨a,us,rfl,.inr ⟨by rw [hK];exact h1,q _ _ (qf.refl _) z (by simp)⟩⟩
  |_=>cases e
theorem qoZ(hK:X.K=g.K):qx X (.type "list") (rB1 g .list):=qbH qhT fun S ds d vs H Q hs rs h q=>by
 obtain⟨x,xs,rfl,e,h⟩:=qgd (q:=fun xs=>.ok (.lst xs)) h (fun _=>rfl) (fun n=>by match ds,n with | [],_=>rfl | [_,_],_=>rfl|_::_::_::_,_=>rfl);cases h;cases rs with
 |cons r rs=>
  cases rs;obtain⟨a,us,rfl,h1,r1⟩:=r.seq e;exact⟨a,us,rfl,by rw [hK];exact h1,fun p hp=>q _ _ (za hp) (qbm hs hp r1) fun _=>qcC (qf.refl _) hp r1⟩
theorem qiH(hc:X.calm=true)(al:Bool):qx X (.builtin (if al then "all" else "any")) (fun xs H Q=>∃(l:Addr) (bs:List Bool),xs=[.ref l]∧SqL X.K H l (bs.map V.bl)∧Q (.bl (if al then bs.all id else bs.any id)) H):=by
 intro pins s σ H xs us Q I r h;obtain⟨l,bs,rfl,hl,q⟩:=h;obtain⟨u,rfl,ru⟩:=r.one;cases ru;obtain⟨its,rv,pl,hz⟩:=I.list hl;have e:=qpM (A:=X.A) rv;subst e;have hlt:l<s.heap.objs.size:=by obtain⟨_,e,_⟩:=pl.isList;exact Heap.lt_size e
 have tr:TruthOf X.prog X.w X.A.in1 (fun i v=>(bs.map Value.bool).toArray[i]? = some v) (fun i=>(bs[i]?).getD al):=fun i v s' Q' E' hP hQ=>by
  have hv:(bs.map Value.bool)[i]? = some v:=by simpa using hP
  rw [List.getElem?_map]at hv;cases e:bs[i]? with
  |none=>rw [e]at hv;cases hv
  |some b=>
   rw [e]at hv;cases hv;simp only [e,Option.getD_some]at hQ;exact wpAny_truthy_bool hQ
 have wk:=Walks.list (prog:=X.prog) (w:=X.w) (A:=X.A.in1) (I.ok.hd hc) s.heap.objs.size l (Nat.ne_of_lt hlt) (bs.map Value.bool).toArray;cases al with
 |true=>
  refine call_all_walk (wpAny_pyIter_list pl.isList ?_);refine⟨s.heap.objs.size,[s.heap.objs.size,l],[s.heap.objs.size],_,_,_,_,rfl,wk,⟨⟨_,Heap.get?_push_size _ rfl,rfl,rfl⟩,pl.isList.push _⟩,tr,fun h' tk hk=>?_⟩;have e:((List.range (bs.map Value.bool).toArray.size).all fun i=>(bs[i]?).getD true)=bs.all id:=by
   rw [List.size_toArray,List.length_map];exact LSm.range_all bs
  rw [e];exact⟨.bl _,H,I.kept (LSm.kept_iter hk),rfl,q⟩
 |false=>
  refine call_any_walk (wpAny_pyIter_list pl.isList ?_);refine⟨s.heap.objs.size,[s.heap.objs.size,l],[s.heap.objs.size],_,_,_,_,rfl,wk,⟨⟨_,Heap.get?_push_size _ rfl,rfl,rfl⟩,pl.isList.push _⟩,tr,fun h' tk hk=>?_⟩;have e:((List.range (bs.map Value.bool).toArray.size).any fun i=>(bs[i]?).getD false)=bs.any id:=by
   rw [List.size_toArray,List.length_map,Bool.eq_iff_iff];simp only [List.any_eq_true,List.mem_range,id];constructor
   ·rintro⟨i,hi,e⟩;rw [List.getElem?_eq_getElem hi]at e;exact⟨_,List.getElem_mem hi,e⟩
   ·rintro⟨b,hb,e⟩;obtain⟨i,hi,rfl⟩:=List.getElem_of_mem hb;exact⟨i,hi,by rw [List.getElem?_eq_getElem hi];exact e⟩
  rw [e];exact⟨.bl _,H,I.kept (LSm.kept_iter hk),rfl,q⟩
theorem qgu(hK:X.K=g.K)(hc:X.calm=true)(al:Bool):qx X (.builtin (if al then "all" else "any")) (rB1 g (if al then .all else .any)):=qbH (qiH hc al) fun S ds d vs H Q hs rs h q=>by
 obtain⟨xs,bs,rfl,e,rfl⟩:∃xs bs,ds=[.lst xs]∧bools? xs=some bs∧d=.bl (if al then bs.all id else bs.any id):=by
  cases al
  ·obtain⟨x,rfl,h'⟩:=qbP (fun _ _=>rfl) h;obtain⟨xs,rfl,h'⟩:=qbK h';obtain⟨bs,e,h'⟩:=qbV h';cases h';exact⟨xs,bs,rfl,e,rfl⟩
  ·obtain⟨x,rfl,h'⟩:=qbP (fun _ _=>rfl) h;obtain⟨xs,rfl,h'⟩:=qbK h';obtain⟨bs,e,h'⟩:=qbV h';cases h';exact⟨xs,bs,rfl,e,rfl⟩
 cases rs with
 |cons r rs=>
  cases rs;obtain⟨a,us,rfl,h1,r1⟩:=r.lst;have e2:=r1.bools e;subst e2;exact⟨a,bs,rfl,by rw [hK];exact h1,q _ _ (qf.refl _) (.bl _) (by cases al<;>simp)⟩
end
end EV
namespace TS
open PySem PyProof.Rows
noncomputable def qiO:Bool→Keyed→Array Keyed→Nat→Nat→Nat→StateT SortSt Sem (Option Nat):=sortPriv% PySem.Builtin.gallop
noncomputable def qhX:Array Keyed→Array Keyed→StateT SortSt Sem (Array Keyed):=sortPriv% PySem.Builtin.mergeLo
noncomputable def qin:Array Keyed→Array Keyed→StateT SortSt Sem (Array Keyed):=sortPriv% PySem.Builtin.mergeHi
structure Cmp(prog:Program)(w:World)(A:Around)(s:Shared)(κ:SortKind)(D:Keyed→Prop)(LT:Keyed→Keyed→Bool):Prop where
 lt:∀x y,D x→D y→∀Q:Bool→Shared→Prop,Q (LT x y) s→wpAny (model prog w) A (keyLt' κ x.1 y.1) Q (fun _ _=>False) s
 asym:∀x y,LT x y=true→LT y x=false
 neg:∀x y z,LT y x=false→LT z y=false→LT z x=false
section
variable{prog:Program}{w:World}{A:Around}{E:Value→Shared→Prop}{s:Shared}{κ:SortKind}{D:Keyed→Prop}{LT:Keyed→Keyed→Bool}
theorem qD{arr:Array Keyed}{i:Nat}{x:Keyed}{Q:Keyed→SortSt→Prop}{st:SortSt}(hx:arr[i]? = some x)(h:Q x st):wpS (model prog w) A E s (elem' arr i) Q st:=by
 rw [elem'_eq,hx];exact wpS_pure h
theorem qei(C:Cmp prog w A s κ D LT){x y:Keyed}(hx:D x)(hy:D y){Q:Option Bool→SortSt→Prop}{st:SortSt}(hk:kindOf st=κ)(h:Q (some (LT x y)) st):wpS (model prog w) A E s (lt' x y) Q st:=by
 rw [lt'_eq];refine wpS_bind (wpS_get ?_);rw [hk];refine wpS_bind (wpS_lift (wpAny_attempt (wpAny_mono (C.lt x y hx hy (fun b s'=>s'=s∧b=LT x y) ⟨rfl,rfl⟩) (fun b s' hb=>?_) fun _ _ z=>z.elim)));obtain⟨rfl,rfl⟩:=hb;exact⟨rfl,wpS_pure h⟩
noncomputable def bey(LT:Keyed→Keyed→Bool)(left:Bool)(key:Keyed)(x:Keyed):Bool:=if left then LT x key else !LT key x
theorem qax(C:Cmp prog w A s κ D LT){left:Bool}{key:Keyed}{arr:Array Keyed}{base n hint:Nat}{Q:Option Nat→SortSt→Prop}{st:SortSt}(hk:kindOf st=κ)(hkey:D key)(it:Nat→Keyed)(ha:∀i,i<n→arr[base+i]? = some (it i)∧D (it i))(hh:hint<n)
  (mono:∀i j,i≤j→j<n→bey LT left key (it j)=true→bey LT left key (it i)=true)
  (h:∀k,k≤n→(∀i,i<k→bey LT left key (it i)=true)→(∀i,k≤i→i<n→bey LT left key (it i)=false)→Q (some k) st):wpS (model prog w) A E s (qiO left key arr base n hint) Q st:=by
 have ask:∀(i:Nat) (R:Option Bool→SortSt→Prop),i<n→R (some (bey LT left key (it i))) st→wpS (model prog w) A E s (do
   let x ←elem' arr (base+i)
   if left=true then lt' x key else do
    let r ←lt' key x
    pure (r.map (!·))) R st:=fun i R hi hR=>by
  obtain⟨h1,h2⟩:=ha i hi;refine wpS_bind (qD h1 ?_);cases left with
  |true=>rw [if_pos rfl];exact qei C h2 hkey hk hR
  |false=>rw [if_neg (by decide)];exact wpS_bind (qei C hkey h2 hk (wpS_pure hR))
 have mono':∀i j,i≤j→j<n→bey LT left key (it i)=false→bey LT left key (it j)=false:=fun i j hij hj hf=>by
  cases q:bey LT left key (it j)with
  |false=>rfl
  |true=>rw [mono i j hij hj q]at hf;cases hf
 -- the last loop
 have fin:∀(lo hi:Nat) (f:Nat→Option (Option Nat)×Nat×Nat→StateT SortSt Sem (ForInStep (Option (Option Nat)×Nat×Nat))) (g:Option (Option Nat)×Nat×Nat→StateT SortSt Sem (Option Nat)),lo≤hi→hi≤n →
   (∀i,i<lo→bey LT left key (it i)=true)→(∀i,hi≤i→i<n→bey LT left key (it i)=false) →
   (∀i lo hi R,lo ≥ hi→R (.done (none,lo,hi)) st→wpS (model prog w) A E s (f i (none,lo,hi)) R st) →
   (∀i lo hi R,¬ lo ≥ hi→hi≤n→R (if bey LT left key (it (lo+(hi-lo)/2))=true then .yield (none,lo+(hi-lo)/2+1,hi)else .yield (none,lo,lo+(hi-lo)/2)) st→wpS (model prog w) A E s (f i (none,lo,hi)) R st) →
   (∀lo hi,Q (some hi) st→wpS (model prog w) A E s (g (none,lo,hi)) Q st) →
   wpS (model prog w) A E s (forIn [:n] (none,lo,hi) f>>=g) Q st:=by
  intro lo hi f g h1 h2 hlo hhi hf1 hf2 hg;refine wpS_bind (wpS_forRange (fun i c st'=>st'=st∧c.1=none∧c.2.1≤c.2.2∧c.2.2≤n∧c.2.2-c.2.1≤n-i∧(∀i,i<c.2.1→bey LT left key (it i)=true)∧(∀i,c.2.2≤i→i<n→bey LT left key (it i)=false)) ?_ ?_ ⟨rfl,rfl,h1,h2,by show hi-lo≤n-0;lia,hlo,hhi⟩)
  ·rintro i ⟨c0,lo,hi⟩ st' _ hi' ⟨rfl,rfl,g1,g2,g3,g4,g5⟩;dsimp only at g1 g2 g3 g4 g5 ⊢;by_cases hge:lo ≥ hi
   ·have:lo=hi:=by lia
    subst this;exact hf1 _ _ _ _ hge (hg _ _ (h lo g2 g4 g5))
   ·refine hf2 _ _ _ _ hge g2 ?_;cases q:bey LT left key (it (lo+(hi-lo)/2))with
    |true=>
     rw [if_pos rfl];refine⟨rfl,rfl,?_,g2,?_,fun j hj=>?_,g5⟩
     ·show lo+(hi-lo)/2+1≤hi;lia
     ·show hi-(lo+(hi-lo)/2+1)≤n-(i+1);lia
     ·exact mono j _ (by have:j<lo+(hi-lo)/2+1:=hj;lia) (by lia) q
    |false=>
     rw [if_neg (by decide)];refine⟨rfl,rfl,?_,?_,?_,g4,fun j hj hjn=>?_⟩
     ·show lo≤lo+(hi-lo)/2;lia
     ·show lo+(hi-lo)/2≤n;lia
     ·show lo+(hi-lo)/2-lo≤n-(i+1);lia
     ·exact mono' _ j hj hjn q
  ·rintro⟨c0,lo,hi⟩ st' ⟨rfl,rfl,g1,g2,g3,g4,g5⟩;dsimp only at g1 g2 g3 g4 g5;have:lo=hi:=by lia
   subst this;exact hg _ _ (h lo g2 g4 g5)
 unfold qiO;refine wpS_bind (ask hint _ hh ?_);cases q:bey LT left key (it hint)with
 |true=>
  dsimp only;rw [if_pos rfl];refine wpS_bind (wpS_forRange (fun i c st'=>st'=st∧c.1=none∧c.2.1<c.2.2∧i+1≤c.2.2∧hint+c.2.1<n∧bey LT left key (it (hint+c.2.1))=true) ?_ ?_ ⟨rfl,rfl,by show 0<1;lia,by show 0+1≤1;lia,by show hint+0<n;lia,by show bey LT left key (it (hint+0))=true;exact q⟩)
  ·rintro i ⟨c0,la,ofs⟩ st' _ hi' ⟨rfl,rfl,g1,g2,g3,g4⟩;dsimp only at g1 g2 g3 g4 ⊢;by_cases hge:ofs ≥ n-hint
   ·rw [if_pos hge];refine wpS_pure ?_;refine fin (hint+la+1) (hint+min ofs (n-hint)) _ _ (by lia) (by lia) (fun j hj=>mono j _ (by lia) g3 g4) (fun j hj hjn=>by lia) ?_ ?_ ?_
    ·intro i lo hi R hge hR;dsimp only;rw [if_pos hge];exact wpS_pure hR
    ·intro i lo hi R hge hn hR;dsimp only;rw [if_neg hge];refine wpS_bind (ask _ _ (by lia) ?_);cases q9:bey LT left key (it (lo+(hi-lo)/2))with
     |true=>rw [q9]at hR;exact wpS_pure hR
     |false=>rw [q9]at hR;exact wpS_pure hR
    ·intro lo hi hQ;exact wpS_pure hQ
   ·rw [if_neg hge];refine wpS_bind (ask _ _ (by lia) ?_);cases q2:bey LT left key (it (hint+ofs))with
    |false=>
     refine wpS_pure ?_;refine fin (hint+la+1) (hint+min ofs (n-hint)) _ _ (by lia) (by lia) (fun j hj=>mono j _ (by lia) g3 g4) (fun j hj hjn=>mono' (hint+ofs) j (by lia) hjn q2) ?_ ?_ ?_
     ·intro i lo hi R hge hR;dsimp only;rw [if_pos hge];exact wpS_pure hR
     ·intro i lo hi R hge hn hR;dsimp only;rw [if_neg hge];refine wpS_bind (ask _ _ (by lia) ?_);cases q9:bey LT left key (it (lo+(hi-lo)/2))with
      |true=>rw [q9]at hR;exact wpS_pure hR
      |false=>rw [q9]at hR;exact wpS_pure hR
     ·intro lo hi hQ;exact wpS_pure hQ
    |true=>
     refine wpS_pure ⟨rfl,rfl,?_,?_,?_,q2⟩
     ·show ofs<2 * ofs+1;lia
     ·show i+1+1≤2 * ofs+1;lia
     ·show hint+ofs<n;lia
  ·rintro⟨c0,la,ofs⟩ st' ⟨rfl,rfl,g1,g2,g3,g4⟩;dsimp only at g1 g2 g3 g4;refine fin (hint+la+1) (hint+min ofs (n-hint)) _ _ (by lia) (by lia) (fun j hj=>mono j _ (by lia) g3 g4) (fun j hj hjn=>by lia) ?_ ?_ ?_
   ·intro i lo hi R hge hR;dsimp only;rw [if_pos hge];exact wpS_pure hR
   ·intro i lo hi R hge hn hR;dsimp only;rw [if_neg hge];refine wpS_bind (ask _ _ (by lia) ?_);cases q9:bey LT left key (it (lo+(hi-lo)/2))with
    |true=>rw [q9]at hR;exact wpS_pure hR
    |false=>rw [q9]at hR;exact wpS_pure hR
   ·intro lo hi hQ;exact wpS_pure hQ
 |false=>
  dsimp only;rw [if_neg (by decide)];refine wpS_bind (wpS_forRange (fun i c st'=>st'=st∧c.1=none∧c.2.1<c.2.2∧i+1≤c.2.2∧c.2.1≤hint∧bey LT left key (it (hint-c.2.1))=false) ?_ ?_ ⟨rfl,rfl,by show 0<1;lia,by show 0+1≤1;lia,by show 0≤hint;lia,by show bey LT left key (it (hint-0))=false;exact q⟩)
  ·rintro i ⟨c0,la,ofs⟩ st' _ hi' ⟨rfl,rfl,g1,g2,g3,g4⟩;dsimp only at g1 g2 g3 g4 ⊢;by_cases hge:ofs ≥ hint+1
   ·rw [if_pos hge];refine wpS_pure ?_;refine fin (hint+1-min ofs (hint+1)) (hint-la) _ _ (by lia) (by lia) (fun j hj=>by lia) (fun j hj hjn=>mono' (hint-la) j (by lia) hjn g4) ?_ ?_ ?_
    ·intro i lo hi R hge hR;dsimp only;rw [if_pos hge];exact wpS_pure hR
    ·intro i lo hi R hge hn hR;dsimp only;rw [if_neg hge];refine wpS_bind (ask _ _ (by lia) ?_);cases q9:bey LT left key (it (lo+(hi-lo)/2))with
     |true=>rw [q9]at hR;exact wpS_pure hR
     |false=>rw [q9]at hR;exact wpS_pure hR
    ·intro lo hi hQ;exact wpS_pure hQ
   ·rw [if_neg hge];refine wpS_bind (ask _ _ (by lia) ?_);cases q2:bey LT left key (it (hint-ofs))with
    |true=>
     refine wpS_pure ?_;refine fin (hint+1-min ofs (hint+1)) (hint-la) _ _ (by lia) (by lia) (fun j hj=>mono j (hint-ofs) (by lia) (by lia) q2) (fun j hj hjn=>mono' (hint-la) j (by lia) hjn g4) ?_ ?_ ?_
     ·intro i lo hi R hge hR;dsimp only;rw [if_pos hge];exact wpS_pure hR
     ·intro i lo hi R hge hn hR;dsimp only;rw [if_neg hge];refine wpS_bind (ask _ _ (by lia) ?_);cases q9:bey LT left key (it (lo+(hi-lo)/2))with
      |true=>rw [q9]at hR;exact wpS_pure hR
      |false=>rw [q9]at hR;exact wpS_pure hR
     ·intro lo hi hQ;exact wpS_pure hQ
    |false=>
     refine wpS_pure ⟨rfl,rfl,?_,?_,?_,q2⟩
     ·show ofs<2 * ofs+1;lia
     ·show i+1+1≤2 * ofs+1;lia
     ·show ofs≤hint;lia
  ·rintro⟨c0,la,ofs⟩ st' ⟨rfl,rfl,g1,g2,g3,g4⟩;dsimp only at g1 g2 g3 g4;refine fin (hint+1-min ofs (hint+1)) (hint-la) _ _ (by lia) (by lia) (fun j hj=>by lia) (fun j hj hjn=>mono' (hint-la) j (by lia) hjn g4) ?_ ?_ ?_
   ·intro i lo hi R hge hR;dsimp only;rw [if_pos hge];exact wpS_pure hR
   ·intro i lo hi R hge hn hR;dsimp only;rw [if_neg hge];refine wpS_bind (ask _ _ (by lia) ?_);cases q9:bey LT left key (it (lo+(hi-lo)/2))with
    |true=>rw [q9]at hR;exact wpS_pure hR
    |false=>rw [q9]at hR;exact wpS_pure hR
   ·intro lo hi hQ;exact wpS_pure hQ
end
structure Wo(LT:Keyed→Keyed→Bool):Prop where
 asym:∀x y,LT x y=true→LT y x=false
 neg:∀x y z,LT y x=false→LT z y=false→LT z x=false
section
variable{LT:Keyed→Keyed→Bool}
theorem Wo.irr(W:Wo LT)(x:Keyed):LT x x=false:=by
 cases h:LT x x with
 |false=>rfl
 |true=>have:=W.asym x x h;rw [h]at this;cases this
theorem Wo.le_lt(W:Wo LT){x y z:Keyed}(h1:LT y x=false)(h2:LT y z=true):LT x z=true:=by
 cases h:LT x z with
 |true=>rfl
 |false=>have:=W.neg z x y h h1;rw [h2]at this;cases this
theorem Wo.lt_le(W:Wo LT){x y z:Keyed}(h1:LT x y=true)(h2:LT z y=false):LT x z=true:=by
 cases h:LT x z with
 |true=>rfl
 |false=>have:=W.neg y z x h2 h;rw [h1]at this;cases this
noncomputable def Srt(LT:Keyed→Keyed→Bool)(l:List Keyed):Prop:=l.Pairwise fun x y=>LT y x=false
abbrev df:Keyed:=(Value.none,Value.none)
noncomputable def at'(a:Array Keyed)(i:Nat):Keyed:=a.getD i df
theorem qi{a:Array Keyed}{i:Nat}(h:i<a.size):a[i]? = some (at' a i):=by
 unfold at' Array.getD;rw [dif_pos h];exact Array.getElem?_eq_getElem h
theorem qfg{a:Array Keyed}{i:Nat}(h:i<a.size):at' a i∈a.toList:=by
 have:=qi h;rw [←Array.getElem?_toList]at this;exact List.mem_of_getElem? this
theorem zN(W:Wo LT){a:Array Keyed}(h:Srt LT a.toList){i j:Nat}(hij:i≤j)(hj:j<a.size):LT (at' a j) (at' a i)=false:=by
 by_cases e:i=j
 ·subst e;exact W.irr _
 ·have hi:i<a.toList.length:=by rw [Array.length_toList];lia
  have hj':j<a.toList.length:=by rw [Array.length_toList];lia
  have:=List.pairwise_iff_getElem.mp h i j hi hj' (by lia);have e1:=qi (a:=a) (i:=i) (by lia);have e2:=qi (a:=a) (i:=j) hj;rw [←Array.getElem?_toList,List.getElem?_eq_getElem hi]at e1;rw [←Array.getElem?_toList,List.getElem?_eq_getElem hj']at e2;injection e1 with e1
  injection e2 with e2
  rw [←e1,←e2];exact this
theorem qu{a:Array Keyed}{i j:Nat}{x:Keyed}(h:x∈(a.extract i j).toList):∃k,i≤k∧k<j∧k<a.size∧x=at' a k:=by
 obtain⟨m,hm⟩:=List.mem_iff_getElem?.mp h;rw [Array.getElem?_toList,Array.getElem?_extract]at hm;split at hm
 ·rename_i hlt
  have hk:i+m<a.size:=(Array.getElem?_eq_some_iff.mp hm).1;rw [qi hk]at hm;injection hm with hm
  exact⟨i+m,by lia,by lia,hk,hm.symm⟩
 ·cases hm
theorem zB(a:Array Keyed)(i j:Nat):(a.extract i j).toList=(a.toList.drop i).take (j-i):=by
 simp [Array.toList_extract]
theorem zP{a:Array Keyed}(h:Srt LT a.toList)(i j:Nat):Srt LT (a.extract i j).toList:=by
 rw [zB];exact(h.sublist (List.drop_sublist _ _)).sublist (List.take_sublist _ _)
structure MI(LT:Keyed→Keyed→Bool)(a b out:Array Keyed)(ia ib:Nat):Prop where
 pm:out.toList.Perm (a.toList.take ia++b.toList.take ib)
 sr:Srt LT out.toList
 la:∀x∈out.toList,∀j,ia≤j→j<a.size→LT (at' a j) x=false
 lb:∀x∈out.toList,∀j,ib≤j→j<b.size→LT (at' b j) x=false
variable{a b out:Array Keyed}{ia ib:Nat}
theorem qgi{l:List Keyed}{i k:Nat}:l.take (i+k)=l.take i++(l.drop i).take k:=List.take_add
theorem MI.takeA(W:Wo LT)(h:MI LT a b out ia ib)(Sa:Srt LT a.toList)(k:Nat)(hb:∀i,ia≤i→i<ia+k→i<a.size→∀j,ib≤j→j<b.size→LT (at' b j) (at' a i)=false):MI LT a b (out++a.extract ia (ia+k)) (ia+k) ib:=by
 refine⟨?_,?_,fun x hx j h1 h2=>?_,fun x hx j h1 h2=>?_⟩
 ·rw [Array.toList_append,zB,qgi,show ia+k-ia=k by lia];refine(h.pm.append_right _).trans ?_;rw [List.append_assoc,List.append_assoc];exact(List.perm_append_comm).append_left _
 ·rw [Array.toList_append];refine List.pairwise_append.mpr ⟨h.sr,zP Sa _ _,fun x hx y hy=>?_⟩;obtain⟨i,g1,g2,g3,rfl⟩:=qu hy;exact h.la x hx i g1 g3
 ·rw [Array.toList_append]at hx;rcases List.mem_append.mp hx with hx|hx
  ·exact h.la x hx j (by lia) h2
  ·obtain⟨i,g1,g2,g3,rfl⟩:=qu hx;exact zN W Sa (by lia) h2
 ·rw [Array.toList_append]at hx;rcases List.mem_append.mp hx with hx|hx
  ·exact h.lb x hx j h1 h2
  ·obtain⟨i,g1,g2,g3,rfl⟩:=qu hx;exact hb i g1 g2 g3 j h1 h2
theorem MI.takeB(W:Wo LT)(h:MI LT a b out ia ib)(Sb:Srt LT b.toList)(k:Nat)(hb:∀i,ib≤i→i<ib+k→i<b.size→∀j,ia≤j→j<a.size→LT (at' a j) (at' b i)=false):MI LT a b (out++b.extract ib (ib+k)) ia (ib+k):=by
 refine⟨?_,?_,fun x hx j h1 h2=>?_,fun x hx j h1 h2=>?_⟩
 ·rw [Array.toList_append,zB,qgi,show ib+k-ib=k by lia,←List.append_assoc];exact h.pm.append_right _
 ·rw [Array.toList_append];refine List.pairwise_append.mpr ⟨h.sr,zP Sb _ _,fun x hx y hy=>?_⟩;obtain⟨i,g1,g2,g3,rfl⟩:=qu hy;exact h.lb x hx i g1 g3
 ·rw [Array.toList_append]at hx;rcases List.mem_append.mp hx with hx|hx
  ·exact h.la x hx j h1 h2
  ·obtain⟨i,g1,g2,g3,rfl⟩:=qu hx;exact hb i g1 g2 g3 j h1 h2
 ·rw [Array.toList_append]at hx;rcases List.mem_append.mp hx with hx|hx
  ·exact h.lb x hx j (by lia) h2
  ·obtain⟨i,g1,g2,g3,rfl⟩:=qu hx;exact zN W Sb (by lia) h2
theorem qeF{a out:Array Keyed}{i:Nat}(h:i<a.size):out.push (at' a i)=out++a.extract i (i+1):=by
 apply Array.toList_inj.mp;rw [Array.toList_push,Array.toList_append,zB,show i+1-i=1 by lia]
 congr 1
 have hl:i<a.toList.length:=by rw [Array.length_toList];exact h
 rw [List.drop_eq_getElem_cons hl];have e1:=qi (a:=a) (i:=i) h;rw [←Array.getElem?_toList,List.getElem?_eq_getElem hl]at e1;injection e1 with e1
 rw [e1];rfl
theorem MI.pushA(W:Wo LT)(h:MI LT a b out ia ib)(Sa:Srt LT a.toList)(Sb:Srt LT b.toList)(hi:ia<a.size)(hb:ib<b.size→LT (at' b ib) (at' a ia)=false):MI LT a b (out.push (at' a ia)) (ia+1) ib:=by
 rw [qeF hi];refine h.takeA W Sa 1 fun i h1 h2 _ j g1 g2=>?_
 have:i=ia:=by lia
 subst this;exact W.neg _ _ _ (hb (by lia)) (zN W Sb g1 g2)
theorem MI.pushB(W:Wo LT)(h:MI LT a b out ia ib)(Sa:Srt LT a.toList)(Sb:Srt LT b.toList)(hi:ib<b.size)(hb:ia<a.size→LT (at' b ib) (at' a ia)=true):MI LT a b (out.push (at' b ib)) ia (ib+1):=by
 rw [qeF hi];refine h.takeB W Sb 1 fun i h1 h2 _ j g1 g2=>?_
 have:i=ib:=by lia
 subst this;exact W.neg _ _ _ (W.asym _ _ (hb (by lia))) (zN W Sa g1 g2)
noncomputable def Mg(LT:Keyed→Keyed→Bool)(a b r:Array Keyed):Prop:=r.toList.Perm (a.toList++b.toList)∧Srt LT r.toList
theorem MI.done(W:Wo LT)(h:MI LT a b out ia ib)(Sa:Srt LT a.toList)(Sb:Srt LT b.toList)(he:ib=b.size∨ia=a.size):Mg LT a b (out++a.extract ia++b.extract ib):=by
 have ea:(a.extract ia).toList=a.toList.drop ia:=by
  rw [zB];exact List.take_of_length_le (by simp)
 have eb:(b.extract ib).toList=b.toList.drop ib:=by
  rw [zB];exact List.take_of_length_le (by simp)
 refine⟨?_,?_⟩
 ·rw [Array.toList_append,Array.toList_append,ea,eb];refine((h.pm.append_right _).append_right _).trans ?_;have e1:=List.take_append_drop ia a.toList;have e2:=List.take_append_drop ib b.toList;rcases he with he|he
  ·have z1:b.toList.drop ib=[]:=List.drop_eq_nil_of_le (by rw [Array.length_toList];lia);have z2:b.toList.take ib=b.toList:=List.take_of_length_le (by rw [Array.length_toList];lia);rw [z1,z2,List.append_nil,List.append_assoc];refine(List.perm_append_comm.append_left _).trans ?_;rw [←List.append_assoc,e1]
  ·have z1:a.toList.drop ia=[]:=List.drop_eq_nil_of_le (by rw [Array.length_toList];lia);have z2:a.toList.take ia=a.toList:=List.take_of_length_le (by rw [Array.length_toList];lia);rw [z1,z2,List.append_nil,List.append_assoc,e2]
 ·rw [Array.toList_append,Array.toList_append];refine List.pairwise_append.mpr ⟨List.pairwise_append.mpr ⟨h.sr,zP Sa _ _,fun x hx y hy=>?_⟩,zP Sb _ _,fun x hx y hy=>?_⟩
  ·obtain⟨i,g1,g2,g3,rfl⟩:=qu hy;exact h.la x hx i g1 g3
  ·obtain⟨i,g1,g2,g3,rfl⟩:=qu hy;rcases List.mem_append.mp hx with hx|hx
   ·exact h.lb x hx i g1 g3
   ·obtain⟨j,k1,k2,k3,rfl⟩:=qu hx;lia
theorem MI.last(W:Wo LT)(h:MI LT a b out ia ib)(Sa:Srt LT a.toList)(Sb:Srt LT b.toList)(hl:ia+1=a.size)(hb:∀j,j<b.size→LT (at' b j) (at' a ia)=true):Mg LT a b (out++b.extract ib++a.extract ia):=by
 have ea:(a.extract ia).toList=a.toList.drop ia:=by
  rw [zB];exact List.take_of_length_le (by simp)
 have eb:(b.extract ib).toList=b.toList.drop ib:=by
  rw [zB];exact List.take_of_length_le (by simp)
 refine⟨?_,?_⟩
 ·rw [Array.toList_append,Array.toList_append,ea,eb];refine((h.pm.append_right _).append_right _).trans ?_;have e1:=List.take_append_drop ia a.toList;have e2:=List.take_append_drop ib b.toList;rw [List.append_assoc (a.toList.take ia),e2];refine(List.perm_append_comm.append_right _).trans ?_;rw [List.append_assoc,e1];exact List.perm_append_comm
 ·rw [Array.toList_append,Array.toList_append];refine List.pairwise_append.mpr ⟨List.pairwise_append.mpr ⟨h.sr,zP Sb _ _,fun x hx y hy=>?_⟩,zP Sa _ _,fun x hx y hy=>?_⟩
  ·obtain⟨i,g1,g2,g3,rfl⟩:=qu hy;exact h.lb x hx i g1 g3
  ·obtain⟨i,g1,g2,g3,rfl⟩:=qu hy;rcases List.mem_append.mp hx with hx|hx
   ·exact h.la x hx i g1 g3
   ·obtain⟨j,k1,k2,k3,rfl⟩:=qu hx;have:i=ia:=by lia
    subst this;exact W.asym _ _ (hb j k3)
end
abbrev setG(st:SortSt)(g:Nat):SortSt:=SortSt.mk' (kindOf st) (arrOf st) (pendingOf st) g (failedOf st)
section
variable{prog:Program}{w:World}{A:Around}{E:Value→Shared→Prop}{s:Shared}{κ:SortKind}{D:Keyed→Prop}{LT:Keyed→Keyed→Bool}
theorem Cmp.wo(C:Cmp prog w A s κ D LT):Wo LT:=⟨C.asym,C.neg⟩
theorem qeA(W:Wo LT){a:Array Keyed}(S:Srt LT a.toList){left:Bool}{key:Keyed}{base n:Nat}(hn:base+n≤a.size):∀i j,i≤j→j<n→bey LT left key (at' a (base+j))=true→bey LT left key (at' a (base+i))=true:=by
 intro i j hij hj h;have o:=zN W S (show base+i≤base+j by lia) (by lia);cases left with
 |true=>
  have h:LT (at' a (base+j)) key=true:=h;show LT (at' a (base+i)) key=true;exact W.le_lt o h
 |false=>
  have h:(!LT key (at' a (base+j)))=true:=h;show (!LT key (at' a (base+i)))=true;have h':LT key (at' a (base+j))=false:=by simpa using h
  rw [W.neg _ _ _ o h'];rfl
theorem share1{α γ:Type}{M:Model}{c:α→Prop} [∀u,Decidable (c u)]{X F:α→StateT SortSt Sem γ}{Q:γ→SortSt→Prop}{st:SortSt}(hG:(∀u,wpS M A E s (F u) Q st)→∀u,wpS M A E s (if c u then X u else F u) Q st)(H:∀u,wpS M A E s (F u) Q st):∀u,wpS M A E s (if c u then X u else F u) Q st:=hG H
theorem qft{α β γ:Type}{M:Model}{c:Prop} [Decidable c]{X F:α→β→StateT SortSt Sem γ}{x:α}{y:β}{Q:γ→SortSt→Prop}{st:SortSt}(C:α→β→Prop)(hG:(∀u v,C u v→wpS M A E s (F u v) Q st)→∀u,x=u→∀v,y=v→wpS M A E s (if c then X u v else F u v) Q st)(H:∀u v,C u v→wpS M A E s (F u v) Q st):∀u,x=u→∀v,y=v→wpS M A E s (if c then X u v else F u v) Q st:=hG H
theorem mi0{a b:Array Keyed}:MI LT a b #[] 0 0:=⟨by simp,by simp [Srt],by simp,by simp⟩
theorem qib(C:Cmp prog w A s κ D LT){a b:Array Keyed}{st:SortSt}{Q:Array Keyed→SortSt→Prop}(hk:kindOf st=κ)(Da:∀i,i<a.size→D (at' a i))(Db:∀i,i<b.size→D (at' b i))(Sa:Srt LT a.toList)(Sb:Srt LT b.toList)
  (ha:0<a.size) (hb:0<b.size) (h0:LT (at' b 0) (at' a 0)=true) (hl:∀j,j<b.size→LT (at' b j) (at' a (a.size-1))=true) (h:∀r g,Mg LT a b r→Q r (setG st g)):wpS (model prog w) A E s (qhX a b) Q st:=by
 have W:=C.wo;have lastA:∀{ia:Nat},ia+1=a.size→∀j,j<b.size→LT (at' b j) (at' a ia)=true:=fun {ia} e j hj=>by
  have:ia=a.size-1:=by lia
  rw [this];exact hl j hj
 unfold qhX;refine wpS_bind (wpS_lift (wpAny_rule ⟨rfl,?_⟩));refine wpS_bind (qD (qi hb) ?_);have M1:MI LT a b #[at' b 0] 0 1:=(mi0 (LT:=LT)).pushB W Sa Sb hb fun _=>h0
 dsimp only;by_cases e1:(1==b.size)=true
 ·rw [if_pos e1];exact wpS_pure (h _ (gallopOf st) (M1.done W Sa Sb (.inl (by simpa using e1))))
 rw [if_neg e1];by_cases e2:(0+1==a.size)=true
 ·rw [if_pos e2];exact wpS_pure (h _ (gallopOf st) (M1.last W Sa Sb (by simpa using e2) (lastA (by simpa using e2))))
 rw [if_neg e2];have e1':1≠b.size:=by simpa using e1
 have e2':1≠a.size:=by simpa using e2
 refine wpS_bind (wpS_get ?_);refine wpS_bind (wpS_mono (Q:=fun c st'=>∃r g,c.1=some r∧Mg LT a b r∧st'=setG st g) ?_ ?_)
 ·refine wpS_forRange (fun i c st'=>∃g,st'=setG st g∧c.1=none∧MI LT a b c.2.1 c.2.2.1 c.2.2.2.1∧c.2.2.1+1<a.size∧c.2.2.2.1<b.size∧i≤c.2.2.1+c.2.2.2.1) ?_ ?_ ⟨gallopOf st,rfl,rfl,M1,by show 0+1<a.size;lia,by show 1<b.size;lia,Nat.zero_le _⟩
  ·rintro i ⟨c0,out,ia,ib,mg⟩ st' _ hi ⟨g,rfl,rfl,M,h1,h2,h3⟩;dsimp only at M h1 h2 h3 ⊢;refine wpS_bind (wpS_mono (Q:=fun c st'=>st'=setG st g∧((∃r,c.1=some r∧Mg LT a b r)∨(c.1=none∧MI LT a b c.2.1 c.2.2.1 c.2.2.2.1∧c.2.2.1+1<a.size∧c.2.2.2.1<b.size∧ia+ib+1≤c.2.2.1+c.2.2.2.1))) ?_ ?_)
   ·refine wpS_forRange (fun j c st'=>st'=setG st g∧c.1=none∧MI LT a b c.2.1 c.2.2.1 c.2.2.2.1∧c.2.2.1+1<a.size∧c.2.2.2.1<b.size∧ia+ib+j≤c.2.2.1+c.2.2.2.1) ?_ ?_ ⟨rfl,rfl,M,h1,h2,Nat.le_refl _⟩
    ·rintro j ⟨c0,out,ia2,ib2,ac,bc⟩ st' _ hj ⟨rfl,rfl,M,h1,h2,h3⟩;dsimp only at M h1 h2 h3 ⊢;refine wpS_bind (qD (qi h2) ?_);refine wpS_bind (qD (qi (show ia2<a.size by lia)) ?_);refine wpS_bind (qei C (Db _ h2) (Da _ (by lia)) hk ?_);cases q:LT (at' b ib2) (at' a ia2)with
     |true=>
      dsimp only;rw [if_pos rfl];refine wpS_bind (qD (qi h2) ?_);have M2:=M.pushB W Sa Sb h2 fun _=>q
      by_cases e3:(ib2+1==b.size)=true
      ·rw [if_pos e3];exact wpS_pure ⟨rfl,.inl ⟨_,rfl,M2.done W Sa Sb (.inl (by simpa using e3))⟩⟩
      rw [if_neg e3];have e3':ib2+1≠b.size:=by simpa using e3
      by_cases e4:bc+1 ≥ mg
      ·rw [if_pos e4];exact wpS_pure ⟨rfl,.inr ⟨rfl,M2,h1,by show ib2+1<b.size;lia,by show ia+ib+1≤ia2+(ib2+1);lia⟩⟩
      ·rw [if_neg e4];exact wpS_pure ⟨rfl,rfl,M2,h1,by show ib2+1<b.size;lia,by show ia+ib+(j+1)≤ia2+(ib2+1);lia⟩
     |false=>
      dsimp only;rw [if_neg (by decide)];refine wpS_bind (qD (qi (show ia2<a.size by lia)) ?_);have M2:=M.pushA W Sa Sb (by lia) fun _=>q
      by_cases e3:(ia2+1+1==a.size)=true
      ·rw [if_pos e3];exact wpS_pure ⟨rfl,.inl ⟨_,rfl,M2.last W Sa Sb (by simpa using e3) (lastA (by simpa using e3))⟩⟩
      rw [if_neg e3];have e3':ia2+1+1≠a.size:=by simpa using e3
      by_cases e4:ac+1 ≥ mg
      ·rw [if_pos e4];exact wpS_pure ⟨rfl,.inr ⟨rfl,M2,by show ia2+1+1<a.size;lia,h2,by show ia+ib+1≤ia2+1+ib2;lia⟩⟩
      ·rw [if_neg e4];exact wpS_pure ⟨rfl,rfl,M2,by show ia2+1+1<a.size;lia,h2,by show ia+ib+(j+1)≤ia2+1+ib2;lia⟩
    ·rintro⟨c0,out,ia2,ib2,ac,bc⟩ st' ⟨rfl,rfl,M,h1,h2,h3⟩;dsimp only at M h1 h2 h3;exact absurd h3 (by lia)
   ·rintro⟨c0,out,ia2,ib2,ac,bc⟩ st' ⟨rfl,hc⟩;dsimp only at hc ⊢;rcases hc with ⟨r,rfl,hm⟩|⟨rfl,M,h1,h2,h3⟩
    ·exact wpS_pure ⟨r,g,rfl,hm,rfl⟩
    dsimp only;refine wpS_bind (wpS_lift (wpAny_rule ⟨rfl,?_⟩));refine wpS_bind (wpS_mono (Q:=fun c st'=>∃g,st'=setG st g∧((∃r,c.1=some r∧Mg LT a b r)∨(c.1=none∧MI LT a b c.2.1 c.2.2.1 c.2.2.2.1∧c.2.2.1+1<a.size∧c.2.2.2.1<b.size∧ia+ib+1≤c.2.2.1+c.2.2.2.1))) ?_ ?_)
    ·refine wpS_forRange (fun j c st'=>∃g,st'=setG st g∧c.1=none∧MI LT a b c.2.1 c.2.2.1 c.2.2.2.1∧c.2.2.1+1<a.size∧c.2.2.2.1<b.size∧ia+ib+1+j≤c.2.2.1+c.2.2.2.1) ?_ ?_ ⟨g,rfl,rfl,M,h1,h2,h3⟩
     ·clear M h1 h2 h3;rintro j ⟨c0,out,ia2,ib2,mg2,ac,bc⟩ st' _ hj ⟨g,rfl,rfl,M,h1,h2,h3⟩;dsimp only at M h1 h2 h3 ⊢;revert mg2;refine share1 (fun H mg2=>?_) ?_
      ·show wpS _ _ _ _ _ _ _;by_cases e0:¬ mg2>1
       ·rw [if_neg e0];exact H mg2
       ·rw [if_pos (Decidable.not_not.mp e0)];exact H (mg2-1)
      intro mg3;refine wpS_bind (wpS_modify ?_);refine wpS_bind (qD (qi h2) ?_);refine wpS_bind (qax C hk (Db _ h2) (fun i=>at' a (ia2+i)) (fun i hi=>⟨qi (by lia),Da _ (by lia)⟩) (by lia) (qeA W Sa (by lia)) fun k l1 l2 l3=>?_);dsimp only;have t2:∀i,ia2≤i→i<ia2+k→LT (at' b ib2) (at' a i)=false:=fun i g1 g2=>by
       have:=l2 (i-ia2) (by lia);rw [show ia2+(i-ia2)=i by lia]at this;have this:(!LT (at' b ib2) (at' a i))=true:=this
       simpa using this
      have t3:ia2+k<a.size→LT (at' b ib2) (at' a (ia2+k))=true:=fun z=>by
       have:=l3 k (Nat.le_refl _) (by lia);have this:(!LT (at' b ib2) (at' a (ia2+k)))=false:=this
       simpa using this
      generalize hu:out=u;generalize hv:ia2=v;revert u v;refine qft (fun out' ia'=>MI LT a b out' ia' ib2∧ia'+1<a.size∧ia2≤ia'∧LT (at' b ib2) (at' a ia')=true) (fun H u hu v hv=>?_) ?_
      ·subst hu;subst hv;by_cases e4:¬ k>0
       ·rw [if_neg e4];refine H out ia2 ⟨M,h1,Nat.le_refl _,?_⟩;have:=t3 (by lia);rw [show k=0 by lia]at this;exact this
       ·rw [if_pos (Decidable.not_not.mp e4)];have M2:=M.takeA W Sa k fun i g1 g2 _ j' g3 g4=>W.neg _ _ _ (t2 i g1 g2) (zN W Sb g3 g4)
        by_cases e3:(ia2+k+1==a.size)=true
        ·rw [if_pos e3];exact wpS_pure ⟨_,rfl,.inl ⟨_,rfl,M2.last W Sa Sb (by simpa using e3) (lastA (by simpa using e3))⟩⟩
        rw [if_neg e3];have e3':ia2+k+1≠a.size:=by simpa using e3
        by_cases e9:(ia2+k==a.size)=true
        ·rw [if_pos e9];exact wpS_pure ⟨_,rfl,.inl ⟨_,rfl,M2.done W Sa Sb (.inr (by simpa using e9))⟩⟩
        rw [if_neg e9];have e9':ia2+k≠a.size:=by simpa using e9
        exact H _ _ ⟨M2,by lia,by lia,t3 (by lia)⟩
      rintro out3 ia3 ⟨M2,hia,hge,q2⟩
      try dsimp only
      refine wpS_bind (qD (qi h2) ?_);have M3:=M2.pushB W Sa Sb h2 fun _=>q2
      by_cases e5:(ib2+1==b.size)=true
      ·rw [if_pos e5];exact wpS_pure ⟨_,rfl,.inl ⟨_,rfl,M3.done W Sa Sb (.inl (by simpa using e5))⟩⟩
      rw [if_neg e5];have e5':ib2+1≠b.size:=by simpa using e5
      refine wpS_bind (qD (qi (show ia3<a.size by lia)) ?_);generalize out3.push (at' b ib2)=out5 at M3 ⊢;have hY:∃n,ib2+1=n:=⟨_,rfl⟩
      obtain⟨ib3,hY⟩:=hY;rw [hY]at M3 e5' ⊢;refine wpS_bind (qax C hk (Da _ (by lia)) (fun i=>at' b (ib3+i)) (fun i hi=>⟨qi (by lia),Db _ (by lia)⟩) (by lia) (qeA W Sb (by lia)) fun k' l1 l2 l3=>?_);dsimp only;have t2:∀i,ib3≤i→i<ib3+k'→LT (at' b i) (at' a ia3)=true:=fun i g1 g2=>by
       have:=l2 (i-ib3) (by lia);rw [show ib3+(i-ib3)=i by lia]at this;exact this
      have t3:ib3+k'<b.size→LT (at' b (ib3+k')) (at' a ia3)=false:=fun z=>l3 k' (Nat.le_refl _) (by lia)
      generalize hu:out5=u;generalize hv:ib3=v;revert u v;refine qft (fun out' ib'=>MI LT a b out' ia3 ib'∧ib'<b.size∧ib3≤ib'∧LT (at' b ib') (at' a ia3)=false) (fun H u hu v hv=>?_) ?_
      ·subst hu;subst hv;by_cases e6:¬ k'>0
       ·rw [if_neg e6];refine H out5 ib3 ⟨M3,by lia,Nat.le_refl _,?_⟩;have:=t3 (by lia);rw [show k'=0 by lia]at this;exact this
       ·rw [if_pos (Decidable.not_not.mp e6)];have M4:=M3.takeB W Sb k' fun i g1 g2 _ j' g3 g4=>W.neg _ _ _ (W.asym _ _ (t2 i g1 g2)) (zN W Sa g3 g4)
        by_cases e8:(ib3+k'==b.size)=true
        ·rw [if_pos e8];exact wpS_pure ⟨_,rfl,.inl ⟨_,rfl,M4.done W Sa Sb (.inl (by simpa using e8))⟩⟩
        rw [if_neg e8];have e8':ib3+k'≠b.size:=by simpa using e8
        exact H _ _ ⟨M4,by lia,by lia,t3 (by lia)⟩
      rintro out4 ib4 ⟨M4,hib,hgb,q5⟩
      try dsimp only
      refine wpS_bind (qD (qi (show ia3<a.size by lia)) ?_);have M5:=M4.pushA W Sa Sb (show ia3<a.size by lia) fun _=>q5
      by_cases e7:(ia3+1+1==a.size)=true
      ·rw [if_pos e7];exact wpS_pure ⟨_,rfl,.inl ⟨_,rfl,M5.last W Sa Sb (by simpa using e7) (lastA (by simpa using e7))⟩⟩
      rw [if_neg e7];have e7':ia3+1+1≠a.size:=by simpa using e7
      split
      ·exact wpS_pure ⟨_,rfl,.inr ⟨rfl,M5,by show ia3+1+1<a.size;lia,by show ib4<b.size;lia,by show ia+ib+1≤ia3+1+ib4;lia⟩⟩
      ·exact wpS_pure ⟨_,rfl,rfl,M5,by show ia3+1+1<a.size;lia,by show ib4<b.size;lia,by show ia+ib+1+(j+1)≤ia3+1+ib4;lia⟩
     ·clear M h1 h2 h3;rintro⟨c0,out,ia2,ib2,mg2,ac,bc⟩ st' ⟨g,rfl,rfl,M,h1,h2,h3⟩;dsimp only at M h1 h2 h3;exact absurd h3 (by lia)
    ·rintro⟨c0,out,ia2,ib2,mg2,ac,bc⟩ st' ⟨g,rfl,hc⟩;dsimp only at hc ⊢;rcases hc with ⟨r,rfl,hm⟩|⟨rfl,M,h1,h2,h3⟩
     ·exact wpS_pure ⟨r,g,rfl,hm,rfl⟩
     dsimp only;refine wpS_bind (wpS_modify ?_);exact wpS_pure ⟨mg2+1,rfl,rfl,M,h1,h2,by show i+1≤ia2+ib2;lia⟩
  ·rintro⟨c0,out,ia,ib,mg⟩ st' ⟨g,rfl,rfl,M,h1,h2,h3⟩;dsimp only at M h1 h2 h3;exact absurd h3 (by lia)
 ·rintro⟨c0,out,ia,ib,mg⟩ st' ⟨r,g,hr,hm,rfl⟩;dsimp only at hr ⊢;subst hr;exact wpS_pure (h r g hm)
end
section
variable{LT:Keyed→Keyed→Bool}
structure MH(LT:Keyed→Keyed→Bool)(a b out:Array Keyed)(na nb:Nat):Prop where
 pm:out.toList.Perm (a.toList.drop na++b.toList.drop nb)
 sr:Srt LT out.toList.reverse
 la:∀x∈out.toList,∀j,j<na→LT x (at' a j)=false
 lb:∀x∈out.toList,∀j,j<nb→LT x (at' b j)=false
variable{a b out:Array Keyed}{na nb:Nat}
theorem qgB{l:List Keyed}{m n:Nat}(h:m≤n):l.drop m=(l.drop m).take (n-m)++l.drop n:=by
 have:=(List.take_append_drop (n-m) (l.drop m)).symm;rw [List.drop_drop,show m+(n-m)=n by lia]at this;exact this
theorem MH.takeA(W:Wo LT)(h:MH LT a b out na nb)(Sa:Srt LT a.toList)(hna:na≤a.size)(m:Nat)(hm:m≤na)(hb:∀i,m≤i→i<na→∀j,j<nb→LT (at' a i) (at' b j)=false):MH LT a b (out++(a.extract m na).reverse) m nb:=by
 have mem:∀{x},x∈(out++(a.extract m na).reverse).toList→x∈out.toList∨x∈(a.extract m na).toList:=fun {x} hx=>by
  rw [Array.toList_append,Array.toList_reverse]at hx;rcases List.mem_append.mp hx with hx|hx
  ·exact .inl hx
  ·exact .inr (List.mem_reverse.mp hx)
 refine⟨?_,?_,fun x hx j h1=>?_,fun x hx j h1=>?_⟩
 ·rw [Array.toList_append,Array.toList_reverse,zB];have e:=qgB (l:=a.toList) hm;generalize (a.toList.drop m).take (na-m)=T at e ⊢;rw [e];refine(h.pm.append (List.reverse_perm _)).trans ?_;refine List.perm_append_comm.trans ?_;rw [List.append_assoc]
 ·rw [Array.toList_append,Array.toList_reverse,List.reverse_append,List.reverse_reverse];refine List.pairwise_append.mpr ⟨zP Sa _ _,h.sr,fun x hx y hy=>?_⟩;obtain⟨i,g1,g2,g3,rfl⟩:=qu hx;exact h.la y (List.mem_reverse.mp hy) i g2
 ·rcases mem hx with hx|hx
  ·exact h.la x hx j (by lia)
  ·obtain⟨i,g1,g2,g3,rfl⟩:=qu hx;exact zN W Sa (by lia) g3
 ·rcases mem hx with hx|hx
  ·exact h.lb x hx j h1
  ·obtain⟨i,g1,g2,g3,rfl⟩:=qu hx;exact hb i g1 g2 j h1
theorem MH.takeB(W:Wo LT)(h:MH LT a b out na nb)(Sb:Srt LT b.toList)(hnb:nb≤b.size)(m:Nat)(hm:m≤nb)(hb:∀i,m≤i→i<nb→∀j,j<na→LT (at' b i) (at' a j)=false):MH LT a b (out++(b.extract m nb).reverse) na m:=by
 have mem:∀{x},x∈(out++(b.extract m nb).reverse).toList→x∈out.toList∨x∈(b.extract m nb).toList:=fun {x} hx=>by
  rw [Array.toList_append,Array.toList_reverse]at hx;rcases List.mem_append.mp hx with hx|hx
  ·exact .inl hx
  ·exact .inr (List.mem_reverse.mp hx)
 refine⟨?_,?_,fun x hx j h1=>?_,fun x hx j h1=>?_⟩
 ·rw [Array.toList_append,Array.toList_reverse,zB];have e:=qgB (l:=b.toList) hm;generalize (b.toList.drop m).take (nb-m)=T at e ⊢;rw [e];refine(h.pm.append (List.reverse_perm _)).trans ?_;rw [List.append_assoc];exact List.perm_append_comm.append_left _
 ·rw [Array.toList_append,Array.toList_reverse,List.reverse_append,List.reverse_reverse];refine List.pairwise_append.mpr ⟨zP Sb _ _,h.sr,fun x hx y hy=>?_⟩;obtain⟨i,g1,g2,g3,rfl⟩:=qu hx;exact h.lb y (List.mem_reverse.mp hy) i g2
 ·rcases mem hx with hx|hx
  ·exact h.la x hx j h1
  ·obtain⟨i,g1,g2,g3,rfl⟩:=qu hx;exact hb i g1 g2 j h1
 ·rcases mem hx with hx|hx
  ·exact h.lb x hx j (by lia)
  ·obtain⟨i,g1,g2,g3,rfl⟩:=qu hx;exact zN W Sb (by lia) g3
theorem qhF{a out:Array Keyed}{i:Nat}(h:i<a.size):out.push (at' a i)=out++(a.extract i (i+1)).reverse:=by
 have:=qeF (out:=(#[]:Array Keyed)) h;have e:a.extract i (i+1) = #[at' a i]:=by
  have h2:(#[]:Array Keyed)++a.extract i (i+1)=a.extract i (i+1):=by simp
  rw [h2]at this;rw [←this];rfl
 rw [e];simp
theorem MH.pushA(W:Wo LT)(h:MH LT a b out (na+1) nb)(Sa:Srt LT a.toList)(Sb:Srt LT b.toList)(hi:na<a.size)(hnb:nb≤b.size)(hb:0<nb→LT (at' b (nb-1)) (at' a na)=true):MH LT a b (out.push (at' a na)) na nb:=by
 rw [qhF hi];refine h.takeA W Sa (by lia) na (by lia) fun i h1 h2 j g1=>?_
 have:i=na:=by lia
 subst this;exact W.neg _ _ _ (zN W Sb (show j≤nb-1 by lia) (by lia)) (W.asym _ _ (hb (by lia)))
theorem MH.pushB(W:Wo LT)(h:MH LT a b out na (nb+1))(Sa:Srt LT a.toList)(Sb:Srt LT b.toList)(hi:nb<b.size)(hna:na≤a.size)(hb:0<na→LT (at' b nb) (at' a (na-1))=false):MH LT a b (out.push (at' b nb)) na nb:=by
 rw [qhF hi];refine h.takeB W Sb (by lia) nb (by lia) fun i h1 h2 j g1=>?_
 have:i=nb:=by lia
 subst this;exact W.neg _ _ _ (zN W Sa (show j≤na-1 by lia) (by lia)) (hb (by lia))
theorem qjY(a:Array Keyed)(n:Nat):(a.extract 0 n).toList=a.toList.take n:=by
 rw [zB,List.drop_zero];rfl
theorem MH.done(W:Wo LT)(h:MH LT a b out na nb)(Sa:Srt LT a.toList)(Sb:Srt LT b.toList)(he:na=0∨nb=0):Mg LT a b (a.extract 0 na++b.extract 0 nb++out.reverse):=by
 refine⟨?_,?_⟩
 ·rw [Array.toList_append,Array.toList_append,Array.toList_reverse,qjY,qjY];refine((List.reverse_perm _).trans h.pm).append_left _ |>.trans ?_;have e1:=List.take_append_drop na a.toList;have e2:=List.take_append_drop nb b.toList;rcases he with he|he
  ·subst he;rw [List.take_zero,List.drop_zero,List.nil_append];refine List.perm_append_comm.trans ?_;rw [List.append_assoc];refine(List.perm_append_comm.append_left _).trans ?_;rw [e2]
  ·subst he;rw [List.take_zero,List.drop_zero,List.append_nil,←List.append_assoc,e1]
 ·rw [Array.toList_append,Array.toList_append,Array.toList_reverse];refine List.pairwise_append.mpr ⟨List.pairwise_append.mpr ⟨zP Sa _ _,zP Sb _ _,fun x hx y hy=>?_⟩,h.sr,fun x hx y hy=>?_⟩
  ·obtain⟨i,g1,g2,g3,rfl⟩:=qu hx;obtain⟨j,k1,k2,k3,rfl⟩:=qu hy;lia
  ·have hy:=List.mem_reverse.mp hy;rcases List.mem_append.mp hx with hx|hx
   ·obtain⟨i,g1,g2,g3,rfl⟩:=qu hx;exact h.la y hy i g2
   ·obtain⟨i,g1,g2,g3,rfl⟩:=qu hx;exact h.lb y hy i g2
theorem MH.first(W:Wo LT)(h:MH LT a b out na nb)(Sa:Srt LT a.toList)(Sb:Srt LT b.toList)(hl:nb=1)(hb:∀j,j<a.size→LT (at' b 0) (at' a j)=true):Mg LT a b (b.extract 0 nb++a.extract 0 na++out.reverse):=by
 subst hl;refine⟨?_,?_⟩
 ·rw [Array.toList_append,Array.toList_append,Array.toList_reverse,qjY,qjY];refine((List.reverse_perm _).trans h.pm).append_left _ |>.trans ?_;have e1:=List.take_append_drop na a.toList;have e2:=List.take_append_drop 1 b.toList;rw [List.append_assoc,←List.append_assoc (a.toList.take na),e1];refine List.perm_append_comm.trans ?_;rw [List.append_assoc];refine(List.perm_append_comm.append_left _).trans ?_;rw [e2]
 ·rw [Array.toList_append,Array.toList_append,Array.toList_reverse];refine List.pairwise_append.mpr ⟨List.pairwise_append.mpr ⟨zP Sb _ _,zP Sa _ _,fun x hx y hy=>?_⟩,h.sr,fun x hx y hy=>?_⟩
  ·obtain⟨i,g1,g2,g3,rfl⟩:=qu hx;obtain⟨j,k1,k2,k3,rfl⟩:=qu hy;have:i=0:=by lia
   subst this;exact W.asym _ _ (hb j k3)
  ·have hy:=List.mem_reverse.mp hy;rcases List.mem_append.mp hx with hx|hx
   ·obtain⟨i,g1,g2,g3,rfl⟩:=qu hx;exact h.lb y hy i g2
   ·obtain⟨i,g1,g2,g3,rfl⟩:=qu hx;exact h.la y hy i g2
theorem mh0{a b:Array Keyed}:MH LT a b #[] a.size b.size:=⟨by
 rw [List.drop_eq_nil_of_le (by simp),List.drop_eq_nil_of_le (by simp)];simp,by simp [Srt],by simp,by simp⟩
end
section
variable{prog:Program}{w:World}{A:Around}{E:Value→Shared→Prop}{s:Shared}{κ:SortKind}{D:Keyed→Prop}{LT:Keyed→Keyed→Bool}
theorem qgI(W:Wo LT){a:Array Keyed}(S:Srt LT a.toList){left:Bool}{key:Keyed}{n:Nat}(hn:n≤a.size):∀i j,i≤j→j<n→bey LT left key (at' a j)=true→bey LT left key (at' a i)=true:=by
 intro i j h1 h2 h3;have:=qeA W S (left:=left) (key:=key) (base:=0) (n:=n) (by lia) i j h1 h2;rw [Nat.zero_add,Nat.zero_add]at this;exact this h3
theorem qhu(C:Cmp prog w A s κ D LT){a b:Array Keyed}{st:SortSt}{Q:Array Keyed→SortSt→Prop}(hk:kindOf st=κ)(Da:∀i,i<a.size→D (at' a i))(Db:∀i,i<b.size→D (at' b i))(Sa:Srt LT a.toList)(Sb:Srt LT b.toList)
  (ha:0<a.size) (hb:0<b.size) (h0:LT (at' b 0) (at' a 0)=true) (hl:∀j,j<b.size→LT (at' b j) (at' a (a.size-1))=true) (h:∀r g,Mg LT a b r→Q r (setG st g)):wpS (model prog w) A E s (qin a b) Q st:=by
 have W:=C.wo;have fst:∀j,j<a.size→LT (at' b 0) (at' a j)=true:=fun j hj=>W.lt_le h0 (zN W Sa (Nat.zero_le j) hj)
 unfold qin;refine wpS_bind (wpS_lift (wpAny_rule ⟨rfl,?_⟩));refine wpS_bind (qD (qi (show a.size-1<a.size by lia)) ?_);have M1:MH LT a b #[at' a (a.size-1)] (a.size-1) b.size:=by
  have M0:MH LT a b #[] (a.size-1+1) b.size:=by rw [show a.size-1+1=a.size by lia];exact mh0
  exact M0.pushA W Sa Sb (by lia) (Nat.le_refl _) fun _=>hl _ (by lia)
 dsimp only;by_cases e1:(a.size-1==0)=true
 ·rw [if_pos e1];exact wpS_pure (h _ (gallopOf st) (M1.done W Sa Sb (.inl (by simpa using e1))))
 rw [if_neg e1];by_cases e2:(b.size==1)=true
 ·rw [if_pos e2];exact wpS_pure (h _ (gallopOf st) (M1.first W Sa Sb (by simpa using e2) fst))
 rw [if_neg e2];have e1':a.size-1≠0:=by simpa using e1
 have e2':b.size≠1:=by simpa using e2
 refine wpS_bind (wpS_get ?_);refine wpS_bind (wpS_mono (Q:=fun c st'=>∃r g,c.1=some r∧Mg LT a b r∧st'=setG st g) ?_ ?_)
 ·refine wpS_forRange (fun i c st'=>∃g,st'=setG st g∧c.1=none∧MH LT a b c.2.2.2.1 c.2.1 c.2.2.1∧(1≤c.2.1∧c.2.1<a.size)∧(2≤c.2.2.1∧c.2.2.1≤b.size)∧c.2.1+c.2.2.1+i≤a.size+b.size) ?_ ?_ ⟨gallopOf st,rfl,rfl,M1,by show 1≤a.size-1∧a.size-1<a.size;lia,by show 2≤b.size∧b.size≤b.size;lia,by show a.size-1+b.size+0≤_;lia⟩
  ·rintro i ⟨c0,na,nb,out,mg⟩ st' _ hi ⟨g,rfl,rfl,M,h1,h2,h3⟩;dsimp only at M h1 h2 h3 ⊢;refine wpS_bind (wpS_mono (Q:=fun c st'=>st'=setG st g∧((∃r,c.1=some r∧Mg LT a b r)∨(c.1=none∧MH LT a b c.2.2.2.1 c.2.1 c.2.2.1∧(1≤c.2.1∧c.2.1<a.size)∧(2≤c.2.2.1∧c.2.2.1≤b.size)∧c.2.1+c.2.2.1+1≤na+nb))) ?_ ?_)
   ·refine wpS_forRange (fun j c st'=>st'=setG st g∧c.1=none∧MH LT a b c.2.2.2.1 c.2.1 c.2.2.1∧(1≤c.2.1∧c.2.1<a.size)∧(2≤c.2.2.1∧c.2.2.1≤b.size)∧c.2.1+c.2.2.1+j≤na+nb) ?_ ?_ ⟨rfl,rfl,M,h1,h2,Nat.le_refl _⟩
    ·clear M;rintro j ⟨c0,na2,nb2,out,ac,bc⟩ st' _ hj ⟨rfl,rfl,M,g1,g2,g3⟩;dsimp only at M g1 g2 g3 ⊢;refine wpS_bind (qD (qi (show nb2-1<b.size by lia)) ?_);refine wpS_bind (qD (qi (show na2-1<a.size by lia)) ?_);refine wpS_bind (qei C (Db _ (by lia)) (Da _ (by lia)) hk ?_);obtain⟨na3,rfl⟩:∃n,na2=n+1:=⟨na2-1,by lia⟩
     obtain⟨nb3,rfl⟩:∃n,nb2=n+1:=⟨nb2-1,by lia⟩
     simp only [Nat.add_sub_cancel];cases q:LT (at' b nb3) (at' a na3)with
     |true=>
      rw [if_pos rfl];refine wpS_bind (qD (qi (show na3<a.size by lia)) ?_);have M2:=M.pushA W Sa Sb (by lia) (by lia) fun _=>q
      by_cases e3:(na3==0)=true
      ·rw [if_pos e3];exact wpS_pure ⟨rfl,.inl ⟨_,rfl,M2.done W Sa Sb (.inl (by simpa using e3))⟩⟩
      rw [if_neg e3];have e3':na3≠0:=by simpa using e3
      by_cases e4:ac+1 ≥ mg
      ·rw [if_pos e4];exact wpS_pure ⟨rfl,.inr ⟨rfl,M2,by show 1≤na3∧na3<a.size;lia,g2,by show na3+(nb3+1)+1≤na+nb;lia⟩⟩
      ·rw [if_neg e4];exact wpS_pure ⟨rfl,rfl,M2,by show 1≤na3∧na3<a.size;lia,g2,by show na3+(nb3+1)+(j+1)≤na+nb;lia⟩
     |false=>
      rw [if_neg (by decide)];refine wpS_bind (qD (qi (show nb3<b.size by lia)) ?_);have M2:=M.pushB W Sa Sb (by lia) (by lia) fun _=>q
      by_cases e3:(nb3==1)=true
      ·rw [if_pos e3];exact wpS_pure ⟨rfl,.inl ⟨_,rfl,M2.first W Sa Sb (by simpa using e3) fst⟩⟩
      rw [if_neg e3];have e3':nb3≠1:=by simpa using e3
      by_cases e4:bc+1 ≥ mg
      ·rw [if_pos e4];exact wpS_pure ⟨rfl,.inr ⟨rfl,M2,g1,by show 2≤nb3∧nb3≤b.size;lia,by show na3+1+nb3+1≤na+nb;lia⟩⟩
      ·rw [if_neg e4];exact wpS_pure ⟨rfl,rfl,M2,g1,by show 2≤nb3∧nb3≤b.size;lia,by show na3+1+nb3+(j+1)≤na+nb;lia⟩
    ·clear M;rintro⟨c0,na2,nb2,out,ac,bc⟩ st' ⟨rfl,rfl,M,g1,g2,g3⟩;dsimp only at M g1 g2 g3;exact absurd g3 (by lia)
   ·rintro⟨c0,na2,nb2,out,ac,bc⟩ st' ⟨rfl,hc⟩;dsimp only at hc ⊢;rcases hc with ⟨r,rfl,hm⟩|⟨rfl,M,g1,g2,g3⟩
    ·exact wpS_pure ⟨r,g,rfl,hm,rfl⟩
    dsimp only;refine wpS_bind (wpS_lift (wpAny_rule ⟨rfl,?_⟩));refine wpS_bind (wpS_mono (Q:=fun c st'=>∃g,st'=setG st g∧((∃r,c.1=some r∧Mg LT a b r)∨(c.1=none∧MH LT a b c.2.2.2.1 c.2.1 c.2.2.1∧(1≤c.2.1∧c.2.1<a.size)∧(2≤c.2.2.1∧c.2.2.1≤b.size)∧c.2.1+c.2.2.1+1≤na+nb))) ?_ ?_)
    ·refine wpS_forRange (fun j c st'=>∃g,st'=setG st g∧c.1=none∧MH LT a b c.2.2.2.1 c.2.1 c.2.2.1∧(1≤c.2.1∧c.2.1<a.size)∧(2≤c.2.2.1∧c.2.2.1≤b.size)∧c.2.1+c.2.2.1+1+j≤na+nb) ?_ ?_ ⟨g,rfl,rfl,M,g1,g2,g3⟩
     ·clear M g1 g2 g3;rintro j ⟨c0,na2,nb2,out,mg2,ac,bc⟩ st' _ hj ⟨g,rfl,rfl,M,g1,g2,g3⟩;dsimp only at M g1 g2 g3 ⊢;obtain⟨nb3,rfl⟩:∃n,nb2=n+1:=⟨nb2-1,by lia⟩
      revert mg2;refine share1 (fun H mg2=>?_) ?_
      ·by_cases e0:¬ mg2>1
       ·rw [if_neg e0];exact H mg2
       ·rw [if_pos (Decidable.not_not.mp e0)];exact H (mg2-1)
      intro mg3;refine wpS_bind (wpS_modify ?_);refine wpS_bind (qD (qi (show nb3+1-1<b.size by lia)) ?_);refine wpS_bind (qax C hk (Db _ (by lia)) (fun i=>at' a i) (fun i hi=>⟨by rw [Nat.zero_add];exact qi (by lia),Da _ (by lia)⟩) (by lia) (qgI W Sa (by lia)) fun k l1 l2 l3=>?_);simp only [Nat.add_sub_cancel]at l2 l3;dsimp only;have t2:∀i,i<k→LT (at' b nb3) (at' a i)=false:=fun i g1=>by
       have this:(!LT (at' b nb3) (at' a i))=true:=l2 i g1
       simpa using this
      have t3:∀i,k≤i→i<na2→LT (at' b nb3) (at' a i)=true:=fun i z1 z2=>by
       have this:(!LT (at' b nb3) (at' a i))=false:=l3 i z1 z2
       simpa using this
      generalize hac:na2-k=ac2;generalize hu:out=u;generalize hv:na2=v;revert u v;refine qft (fun out' na'=>MH LT a b out' na' (nb3+1)∧1≤na'∧na'≤na2∧LT (at' b nb3) (at' a (na'-1))=false) (fun H u hu v hv=>?_) ?_
      ·subst hu;subst hv;by_cases e4:¬ ac2>0
       ·rw [if_neg e4];exact H out na2 ⟨M,by lia,Nat.le_refl _,t2 _ (by lia)⟩
       ·rw [if_pos (Decidable.not_not.mp e4)];have M2:=M.takeA W Sa (by lia) k (by lia) fun i g1 g2 j' g3=>W.neg _ _ _ (zN W Sb (show j'≤nb3 by lia) (by lia)) (W.asym _ _ (t3 i g1 g2))
        by_cases e3:(k==0)=true
        ·rw [if_pos e3];exact wpS_pure ⟨_,rfl,.inl ⟨_,rfl,M2.done W Sa Sb (.inl (by simpa using e3))⟩⟩
        rw [if_neg e3];have e3':k≠0:=by simpa using e3
        exact H _ _ ⟨M2,by lia,by lia,t2 _ (by lia)⟩
      rintro out3 na3 ⟨M2,hn1,hn2,q2⟩;obtain⟨na9,rfl⟩:∃n,na3=n+1:=⟨na3-1,by lia⟩
      try dsimp only
      simp only [Nat.add_sub_cancel];refine wpS_bind (qD (qi (show nb3<b.size by lia)) ?_);have M3:=M2.pushB W Sa Sb (by lia) (by lia) fun _=>q2
      by_cases e5:(nb3==1)=true
      ·rw [if_pos e5];exact wpS_pure ⟨_,rfl,.inl ⟨_,rfl,M3.first W Sa Sb (by simpa using e5) fst⟩⟩
      rw [if_neg e5];have e5':nb3≠1:=by simpa using e5
      refine wpS_bind (qD (qi (show na9<a.size by lia)) ?_);generalize out3.push (at' b nb3)=out5 at M3 ⊢;refine wpS_bind (qax C hk (Da _ (by lia)) (fun i=>at' b i) (fun i hi=>⟨by rw [Nat.zero_add];exact qi (by lia),Db _ (by lia)⟩) (by lia) (qgI W Sb (by lia)) fun k' l1' l2' l3'=>?_);dsimp only;generalize hbc:nb3-k'=bc2;generalize hu:out5=u;generalize hv:nb3=v;revert u v;refine qft (fun out' nb'=>MH LT a b out' (na9+1) nb'∧2≤nb'∧nb'≤nb3∧LT (at' b (nb'-1)) (at' a na9)=true) (fun H u hu v hv=>?_) ?_
      ·subst hu;subst hv;by_cases e6:¬ bc2>0
       ·rw [if_neg e6];exact H out5 nb3 ⟨M3,by lia,Nat.le_refl _,l2' (nb3-1) (by lia)⟩
       ·rw [if_pos (Decidable.not_not.mp e6)];have M4:=M3.takeB W Sb (by lia) k' (by lia) fun i g1 g2 j' g3=>by
         have z:LT (at' b i) (at' a na9)=false:=l3' i g1 g2;exact W.neg _ _ _ (zN W Sa (show j'≤na9 by lia) (by lia)) z
        by_cases e8:(k'==1)=true
        ·rw [if_pos e8];exact wpS_pure ⟨_,rfl,.inl ⟨_,rfl,M4.first W Sa Sb (by simpa using e8) fst⟩⟩
        rw [if_neg e8];have e8':k'≠1:=by simpa using e8
        by_cases e9:(k'==0)=true
        ·rw [if_pos e9];exact wpS_pure ⟨_,rfl,.inl ⟨_,rfl,M4.done W Sa Sb (.inr (by simpa using e9))⟩⟩
        rw [if_neg e9];have e9':k'≠0:=by simpa using e9
        exact H _ _ ⟨M4,by lia,by lia,l2' (k'-1) (by lia)⟩
      rintro out4 nb4 ⟨M4,hb2,hb3,q5⟩
      try dsimp only
      refine wpS_bind (qD (qi (show na9<a.size by lia)) ?_);have M5:=M4.pushA W Sa Sb (by lia) (by lia) fun _=>q5
      by_cases e7:(na9==0)=true
      ·rw [if_pos e7];exact wpS_pure ⟨_,rfl,.inl ⟨_,rfl,M5.done W Sa Sb (.inl (by simpa using e7))⟩⟩
      rw [if_neg e7];have e7':na9≠0:=by simpa using e7
      split
      ·exact wpS_pure ⟨_,rfl,.inr ⟨rfl,M5,by show 1≤na9∧na9<a.size;lia,by show 2≤nb4∧nb4≤b.size;lia,by show na9+nb4+1≤na+nb;lia⟩⟩
      ·exact wpS_pure ⟨_,rfl,rfl,M5,by show 1≤na9∧na9<a.size;lia,by show 2≤nb4∧nb4≤b.size;lia,by show na9+nb4+1+(j+1)≤na+nb;lia⟩
     ·clear M g1 g2 g3;rintro⟨c0,na2,nb2,out,mg2,ac,bc⟩ st' ⟨g,rfl,rfl,M,g1,g2,g3⟩;dsimp only at M g1 g2 g3;exact absurd g3 (by lia)
    ·rintro⟨c0,na2,nb2,out,mg2,ac,bc⟩ st' ⟨g,rfl,hc⟩;dsimp only at hc ⊢;rcases hc with ⟨r,rfl,hm⟩|⟨rfl,M,g1,g2,g3⟩
     ·exact wpS_pure ⟨r,g,rfl,hm,rfl⟩
     dsimp only;refine wpS_bind (wpS_modify ?_);exact wpS_pure ⟨mg2+1,rfl,rfl,M,g1,g2,by show na2+nb2+(i+1)≤a.size+b.size;lia⟩
  ·rintro⟨c0,na,nb,out,mg⟩ st' ⟨g,rfl,rfl,M,h1,h2,h3⟩;dsimp only at M h1 h2 h3;exact absurd h3 (by lia)
 ·rintro⟨c0,na,nb,out,mg⟩ st' ⟨r,g,hr,hm,rfl⟩;dsimp only at hr ⊢;subst hr;exact wpS_pure (h r g hm)
end
structure Rk(D:Keyed→Prop)(LT:Keyed→Keyed→Bool)(R:Keyed→Int):Prop where
 rk:∀x y,D x→D y→LT x y=decide (R x<R y)
structure SB(κ:SortKind)(p:Array (Nat×Nat×Nat))(a₁:Array Keyed)(lo:Nat)(st:SortSt):Prop where
 kd:kindOf st=κ
 fl:failedOf st=none
 pn:pendingOf st=p
 pm:(arrOf st).Perm a₁
 lw:∀i,i<lo→at' (arrOf st) i=at' a₁ i
noncomputable def Kr(R:Keyed→Int)(xs:Array Keyed)(i:Nat):Int:=R (at' xs i)
noncomputable def Seg(R:Keyed→Int)(xs:Array Keyed)(lo n:Nat):Prop:=∀i j,i≤j→j<n→Kr R xs (lo+i)≤Kr R xs (lo+j)
noncomputable def Dsc(R:Keyed→Int)(xs:Array Keyed)(lo n:Nat):Prop:=∀i j,i≤j→j<n→Kr R xs (lo+j)≤Kr R xs (lo+i)
theorem qbN{xs ys:Array Keyed}{i j:Nat}(h:xs[i]? = ys[j]?):at' xs i=at' ys j:=by
 unfold at';rw [Array.getD_eq_getD_getElem?,Array.getD_eq_getD_getElem?,h]
theorem qgq{xs:Array Keyed}{src d:Nat}(hs:src<xs.size)(hd:d≤src)(k:Nat) :
  at' (bubble xs src d) k=if k=src-d then at' xs src else if src-d<k∧k≤src then at' xs (k-1)else at' xs k:=by
 have e:=getElem?_bubble hs d hd k;by_cases h1:k=src-d
 ·rw [if_pos h1]at e ⊢;exact qbN e
 ·rw [if_neg h1]at e ⊢;by_cases h2:src-d<k∧k≤src
  ·rw [if_pos h2]at e ⊢;exact qbN e
  ·rw [if_neg h2]at e ⊢;exact qbN e
theorem qgJ{xs:Array Keyed}{i j:Nat}(hj:j≤xs.size)(k:Nat) :
  at' (mirror xs i j ((j-i)/2)) k=if i≤k∧k<j then at' xs (i+j-1-k)else at' xs k:=by
 have e:=getElem?_mirror_all (i:=i) hj k;by_cases h1:i≤k∧k<j
 ·rw [if_pos h1]at e ⊢;exact qbN e
 ·rw [if_neg h1]at e ⊢;exact qbN e
section
variable{prog:Program}{w:World}{A:Around}{E:Value→Shared→Prop}{s:Shared}{κ:SortKind}{D:Keyed→Prop}{LT:Keyed→Keyed→Bool}{R:Keyed→Int}{p:Array (Nat×Nat×Nat)}{a₁:Array Keyed}{lo:Nat}
theorem qgL{xs:Array Keyed}{src d:Nat}(hs:src<xs.size)(hd:d≤src)(k:Nat) :
  Kr R (bubble xs src d) k=if k=src-d then Kr R xs src else if src-d<k∧k≤src then Kr R xs (k-1)else Kr R xs k:=by
 unfold Kr;rw [qgq hs hd];repeat' split
 all_goals rfl
theorem qdX{xs:Array Keyed}{i j:Nat}(hj:j≤xs.size)(k:Nat) :
  Kr R (mirror xs i j ((j-i)/2)) k=if i≤k∧k<j then Kr R xs (i+j-1-k)else Kr R xs k:=by
 unfold Kr;rw [qgJ hj];split
 all_goals rfl
theorem qaH{xs:Array Keyed}{i j:Nat}(hj:j≤xs.size)(heq:∀k,i≤k→k<j→Kr R xs k=Kr R xs (j-1))(k:Nat) :
  Kr R (mirror xs i j ((j-i)/2)) k=Kr R xs k:=by
 rw [qdX hj];split
 ·rw [heq _ (by lia) (by lia),heq k (by lia) (by lia)]
 ·rfl
theorem SB.size{st:SortSt}(h:SB κ p a₁ lo st):(arrOf st).size=a₁.size:=h.pm.size_eq
theorem SB.dom{st:SortSt}(h:SB κ p a₁ lo st)(Da:∀x∈a₁.toList,D x){i:Nat}(hi:i<a₁.size):D (at' (arrOf st) i):=
 Da _ ((Array.perm_iff_toList_perm.mp h.pm).mem_iff.mp (qfg (by rw [h.size];exact hi)))
theorem SB.setArr{st:SortSt}(h:SB κ p a₁ lo st){xs:Array Keyed}(hp:xs.Perm (arrOf st))(hl:∀i,i<lo→at' xs i=at' (arrOf st) i):SB κ p a₁ lo (setArr st xs):=
 ⟨h.kd,h.fl,h.pn,hp.trans h.pm,fun i hi=>(hl i hi).trans (h.lw i hi)⟩
theorem SB.mir{st:SortSt}(h:SB κ p a₁ lo st){i j:Nat}(hi:lo≤i)(hj:j≤a₁.size):SB κ p a₁ lo (PyProof.Rows.setArr st (mirror (arrOf st) i j ((j-i)/2))):=
 h.setArr (mirror_perm _ _ _ _) fun k hk=>by
  rw [qgJ (by rw [h.size];exact hj),if_neg (by lia)]
theorem qao{st:SortSt}{i j:Nat}{Q:Option Bool→SortSt→Prop}(C:Cmp prog w A s κ D LT)(K:Rk D LT R)(Da:∀x∈a₁.toList,D x)(hB:SB κ p a₁ lo st)(hi:i<a₁.size)(hj:j<a₁.size)
  (h:Q (some (decide (Kr R (arrOf st) i<Kr R (arrOf st) j))) st):wpS (model prog w) A E s (ltAt' i j) Q st:=by
 rw [ltAt'_eq];refine wpS_bind (wpS_get ?_);refine wpS_bind (qD (qi (by rw [hB.size];exact hi)) ?_);refine wpS_bind (qD (qi (by rw [hB.size];exact hj)) ?_);refine qei C (hB.dom Da hi) (hB.dom Da hj) hB.kd ?_;rw [K.rk _ _ (hB.dom Da hi) (hB.dom Da hj)];exact h
structure Hf(R:Keyed→Int)(xs:Array Keyed)(lo k x l r:Nat):Prop where
 lr:l≤r
 rk:r≤k
 fu:r-l+x≤k
 low:∀i,lo≤i→i<lo+l→Kr R xs i≤Kr R xs (lo+k)
 upp:∀i,lo+r≤i→i<lo+k→Kr R xs (lo+k)<Kr R xs i
theorem Seg.at{xs:Array Keyed}{n:Nat}(S:Seg R xs lo n){i j:Nat}(a:lo≤i)(b:i≤j)(c:j<lo+n):Kr R xs i≤Kr R xs j:=by
 have z:=S (i-lo) (j-lo) (by lia) (by lia)
 rwa [Nat.add_sub_cancel' a,Nat.add_sub_cancel' (Nat.le_trans a b)]at z
theorem Hf.go{xs:Array Keyed}{k x l r:Nat}(h:Hf R xs lo k x l r)(S:Seg R xs lo k)(hl:l<r) :
  (Kr R xs (lo+k)<Kr R xs (lo+(l+r)/2)→Hf R xs lo k (x+1) l ((l+r)/2))∧(¬ Kr R xs (lo+k)<Kr R xs (lo+(l+r)/2)→Hf R xs lo k (x+1) ((l+r)/2+1) r):=by
 have:=h.rk;have:=h.fu;refine⟨fun z=>⟨by lia,by lia,by lia,h.low,fun i a b=>Int.lt_of_lt_of_le z (S.at (by lia) a (by lia))⟩,fun z=>⟨by lia,h.rk,by lia,fun i a b=>?_,h.upp⟩⟩;have:=S.at (i:=i) (j:=lo+(l+r)/2) a (by lia) (by lia);lia
theorem Hf.put{xs:Array Keyed}{k x l:Nat}(h:Hf R xs lo k x l l)(hk:lo+k<xs.size)(S:Seg R xs lo k) :
  Seg R (bubble xs (lo+k) (lo+k-(lo+l))) lo (k+1)∧∀i,i<lo→at' (bubble xs (lo+k) (lo+k-(lo+l))) i=at' xs i:=by
 have:=h.rk;have e:lo+k-(lo+k-(lo+l))=lo+l:=by lia
 refine⟨fun i j hij hj=>?_,fun i hi=>by rw [qgq hk (by lia),if_neg (by lia),if_neg (by lia)]⟩;rw [qgL hk (by lia),qgL hk (by lia),e];by_cases ai:lo+i=lo+l<;>by_cases aj:lo+j=lo+l<;>by_cases bi:lo+l<lo+i∧lo+i≤lo+k<;>by_cases bj:lo+l<lo+j∧lo+j≤lo+k<;>simp only [ai,aj,bi,bj,if_true,if_false,and_self]<;>first
  | (exfalso;lia)
  |lia
  |exact h.low _ (by lia) (by lia)
  |exact Int.le_of_lt (h.upp _ (by lia) (by lia))
  |exact S.at (by lia) (by lia) (by lia)
theorem qiC(C:Cmp prog w A s κ D LT)(K:Rk D LT R)(Da:∀x∈a₁.toList,D x){st:SortSt}{n ok:Nat}{Q:Bool→SortSt→Prop}(hn:lo+n≤a₁.size)(hok:ok≤n)(hB:SB κ p a₁ lo st)(hs:Seg R (arrOf st) lo ok)
  (h:∀st',SB κ p a₁ lo st'→Seg R (arrOf st') lo n→Q true st'):wpS (model prog w) A E s (binarySort' lo n ok) Q st:=by
 rw [binarySort'_eq];have seg1:Seg R (arrOf st) lo (min (max ok 1) n):=fun i j a b=>by
  by_cases z:ok=0
  ·rw [show i=j by lia];exact Int.le_refl _
  ·exact hs i j a (by lia)
 refine wpS_bind (wpS_mono (wpS_forRange (fun k c t=>c=(none,())∧SB κ p a₁ lo t∧Seg R (arrOf t) lo (min k n)) (Q:=fun c t=>c=(none,())∧SB κ p a₁ lo t∧Seg R (arrOf t) lo n) ?_ ?_ ⟨rfl,hB,seg1⟩) fun c t ⟨e,b,z⟩=>by rw [e];exact wpS_pure (h t b z))
 ·rintro k c t k1 k2 ⟨rfl,B,S⟩;rw [Nat.min_eq_left (Nat.le_of_lt k2)]at S;have kz:lo+k<a₁.size:=by lia
  have kz':lo+k<(arrOf t).size:=by rw [B.size];exact kz
  refine wpS_bind (wpS_mono (wpS_forRange (fun x c u=>u=t∧∃l r,c=(none,l,r)∧Hf R (arrOf t) lo k x l r) (Q:=fun c u=>u=t∧∃x l,c=(none,l,l)∧Hf R (arrOf t) lo k x l l) ?_ ?_ ⟨rfl,0,k,rfl,Nat.zero_le _,Nat.le_refl _,by lia,fun i a b=>by lia,fun i a b=>by lia⟩) ?_)
  ·rintro x c u _ x2 ⟨rfl,l,r,rfl,f⟩;dsimp only;have:=f.lr;by_cases z:l ≥ r
   ·rw [if_pos z];obtain rfl:l=r:=by lia
    exact wpS_pure ⟨rfl,x,l,rfl,f⟩
   rw [if_neg z];have:=f.rk;refine wpS_bind (qao C K Da B kz (by lia) ?_);obtain⟨g1,g2⟩:=f.go S (by lia);cases q:decide (Kr R (arrOf u) (lo+k)<Kr R (arrOf u) (lo+(l+r)/2))with
   |true=>exact wpS_pure ⟨rfl,_,_,rfl,g1 (of_decide_eq_true q)⟩
   |false=>exact wpS_pure ⟨rfl,_,_,rfl,g2 (of_decide_eq_false q)⟩
  ·rintro c u ⟨rfl,l,r,rfl,f⟩;have:=f.lr;have:=f.fu;obtain rfl:l=r:=by lia
   exact⟨rfl,_,l,rfl,f⟩
  ·rintro c u ⟨rfl,x,l,rfl,f⟩;obtain⟨g1,g2⟩:=f.put kz' S;dsimp only;rw [moveDown'_eq];refine wpS_bind (wpS_modify (wpS_pure ⟨rfl,B.setArr (bubble_perm _ _ _) g2,?_⟩));rw [Nat.min_eq_left k2];exact g1
 ·rintro c t ⟨e,b,z⟩;rw [show min (max (max ok 1) n) n=n by lia]at z;exact⟨e,b,z⟩
end
section
variable{prog:Program}{w:World}{A:Around}{E:Value→Shared→Prop}{s:Shared}{κ:SortKind}{D:Keyed→Prop}{LT:Keyed→Keyed→Bool}{R:Keyed→Int}{p:Array (Nat×Nat×Nat)}{a₁:Array Keyed}{lo:Nat}{xs:Array Keyed}
theorem Seg.one:Seg R xs lo 1:=fun i j a b=>by rw [show i=j by lia];exact Int.le_refl _
theorem Seg.more{n:Nat}(S:Seg R xs lo n)(z:1≤n→Kr R xs (lo+n-1)≤Kr R xs (lo+n)):Seg R xs lo (n+1):=fun i j a b=>by
 by_cases c:j=n
 ·subst c;by_cases d:i=j
  ·rw [d];exact Int.le_refl _
  ·have y:=S i (j-1) (by lia) (by lia);rw [show lo+(j-1)=lo+j-1 by lia]at y;exact Int.le_trans y (z (by lia))
 ·exact S i j a (by lia)
theorem Dsc.one:Dsc R xs lo 1:=fun i j a b=>by rw [show i=j by lia];exact Int.le_refl _
theorem Dsc.more{n:Nat}(S:Dsc R xs lo n)(z:1≤n→Kr R xs (lo+n)≤Kr R xs (lo+n-1)):Dsc R xs lo (n+1):=fun i j a b=>by
 by_cases c:j=n
 ·subst c;by_cases d:i=j
  ·rw [d];exact Int.le_refl _
  ·have y:=S i (j-1) (by lia) (by lia);rw [show lo+(j-1)=lo+j-1 by lia]at y;exact Int.le_trans (z (by lia)) y
 ·exact S i j a (by lia)
theorem Dsc.alike{ys:Array Keyed}{n:Nat}(S:Dsc R xs lo n)(e:∀k,Kr R ys k=Kr R xs k):Dsc R ys lo n:=fun i j a b=>by rw [e,e];exact S i j a b
theorem qcz{st:SortSt}{a nrem:Nat}{β:Type}{mk:Nat→β}{Q:β→SortSt→Prop}(hn:lo+nrem≤a₁.size)(ha:1≤a)(han:a≤nrem)(S0:Seg R (arrOf st) lo a)
  {body:Nat→β→StateT SortSt Sem (ForInStep β)}
  (hb:∀x n (Q':ForInStep β→SortSt→Prop),lo+n<a₁.size→1≤n→(Kr R (arrOf st) (lo+n)<Kr R (arrOf st) (lo+n-1)→Q' (.done (mk n)) st)→(¬ Kr R (arrOf st) (lo+n)<Kr R (arrOf st) (lo+n-1)→Q' (.yield (mk (n+1))) st)→wpS (model prog w) A E s (body x (mk n)) Q' st)
  (h:∀n,a≤n→n≤nrem→Seg R (arrOf st) lo n→(n≠nrem→Kr R (arrOf st) (lo+n)<Kr R (arrOf st) (lo+n-1))→Q (mk n) st) :
  wpS (model prog w) A E s (forIn [a:nrem] (mk a) body) Q st:=
 wpS_forRange (fun x c t=>t=st∧c=mk x∧Seg R (arrOf st) lo x) (fun x c t x1 x2 ⟨e1,e2,S⟩=>by
   subst e1 e2;exact hb x x _ (by lia) (by lia) (fun z=>h x x1 (by lia) S fun _=>z) fun z=>⟨rfl,rfl,S.more fun _=>by lia⟩)
  (fun c t ⟨e1,e2,S⟩=>by
   subst e1 e2;rw [Nat.max_eq_right han]at S ⊢;exact h nrem han (Nat.le_refl _) S fun z=>absurd rfl z) ⟨rfl,rfl,S0⟩
theorem Dsc.turn{n:Nat}(S:Dsc R xs lo n)(hz:lo+n≤xs.size):Seg R (mirror xs lo (lo+n) ((lo+n-lo)/2)) lo n:=fun i j a b=>by
 have y:=S (n-1-j) (n-1-i) (by lia) (by lia);rw [show lo+(n-1-j)=lo+(lo+n)-1-(lo+j)by lia,show lo+(n-1-i)=lo+(lo+n)-1-(lo+i)by lia]at y
 rwa [qdX hz,qdX hz,if_pos ⟨by lia,by lia⟩,if_pos ⟨by lia,by lia⟩]
noncomputable def Flat(R:Keyed→Int)(xs:Array Keyed)(lo m neq:Nat):Prop:=∀i,lo+m-(neq+1)≤i→i<lo+m→Kr R xs i=Kr R xs (lo+m-1)
theorem Flat.zero{m:Nat}:Flat R xs lo m 0:=fun i a b=>by rw [show i=lo+m-1 by lia]
theorem Flat.more{m neq:Nat}(f:Flat R xs lo m neq)(z:Kr R xs (lo+m)=Kr R xs (lo+m-1)):Flat R xs lo (m+1) (neq+1):=fun i a b=>by
 rw [show lo+(m+1)-1=lo+m by lia];by_cases c:i=lo+m
 ·rw [c]
 ·rw [z];exact f i (by lia) (by lia)
theorem qgC{st:SortSt}{n nrem:Nat}{β:Type}{mk:Nat→Nat→β}{Q:β→SortSt→Prop}(hn:lo+nrem≤a₁.size)(h1:1≤n)(hnn:n≤nrem)(B0:SB κ p a₁ lo st)(S0:Dsc R (arrOf st) lo n)
  {body:Nat→β→StateT SortSt Sem (ForInStep β)}
  (hb:∀x n neq t (Q':ForInStep β→SortSt→Prop),SB κ p a₁ lo t→lo+n<a₁.size→1≤n →
   (Kr R (arrOf t) (lo+n)<Kr R (arrOf t) (lo+n-1)→neq>0→Q' (.yield (mk (n+1) 0)) (setArr t (mirror (arrOf t) (lo+n-(neq+1)) (lo+n) ((lo+n-(lo+n-(neq+1)))/2)))) →
   (Kr R (arrOf t) (lo+n)<Kr R (arrOf t) (lo+n-1)→¬ neq>0→Q' (.yield (mk (n+1) 0)) t) →
   (Kr R (arrOf t) (lo+n-1)<Kr R (arrOf t) (lo+n)→Q' (.done (mk n neq)) t) →
   (Kr R (arrOf t) (lo+n)=Kr R (arrOf t) (lo+n-1)→Q' (.yield (mk (n+1) (neq+1))) t) →
   wpS (model prog w) A E s (body x (mk n neq)) Q' t)
  (h:∀m neq t,SB κ p a₁ lo t→n≤m→m≤nrem→Dsc R (arrOf t) lo m→neq+1≤m→Flat R (arrOf t) lo m neq→Q (mk m neq) t) :
  wpS (model prog w) A E s (forIn [n:nrem] (mk n 0) body) Q st:=
 wpS_forRange (fun x c t=>∃neq,c=mk x neq∧SB κ p a₁ lo t∧Dsc R (arrOf t) lo x∧neq+1≤x∧Flat R (arrOf t) lo x neq) (fun x c t x1 x2 ⟨neq,e,B,S,q,f⟩=>by
   subst e;have hz:lo+x≤(arrOf t).size:=by rw [B.size];lia
   refine hb x x neq t _ B (by lia) (by lia) (fun z _=>?_) (fun z _=>?_) (fun _=>h x neq t B x1 (by lia) S q f) fun z=>⟨neq+1,rfl,B,S.more fun _=>Int.le_of_eq z,by lia,f.more z⟩
   ·exact⟨0,rfl,B.mir (by lia) (by lia),(S.more fun _=>Int.le_of_lt z).alike (qaH hz f),by lia,Flat.zero⟩
   ·exact⟨0,rfl,B,S.more fun _=>Int.le_of_lt z,by lia,Flat.zero⟩)
  (fun c t ⟨neq,e,B,S,q,f⟩=>by
   subst e;rw [Nat.max_eq_right hnn]at S q f ⊢;exact h nrem neq t B hnn (Nat.le_refl _) S q f) ⟨0,rfl,B0,S0,by lia,Flat.zero⟩
theorem qjH(C:Cmp prog w A s κ D LT)(K:Rk D LT R)(Da:∀x∈a₁.toList,D x){st:SortSt}{nrem:Nat}{Q:Option Nat→SortSt→Prop}(hn:lo+nrem≤a₁.size)(h1:1≤nrem)(hB:SB κ p a₁ lo st)
  (h:∀m st',SB κ p a₁ lo st'→1≤m→m≤nrem→Seg R (arrOf st') lo m→Q (some m) st') :
  wpS (model prog w) A E s (countRun' lo nrem) Q st:=by
 rw [countRun'_eq];refine wpS_bind (qcz (R:=R) (mk:=fun n=>(none,n)) hn (Nat.le_refl 1) h1 Seg.one ?_ ?_)
 ·intro x n Q' hl n1 q1 q2;dsimp only;refine wpS_bind (qao C K Da (hB) hl (by lia) ?_);cases z:decide (Kr R (arrOf st) (lo+n)<Kr R (arrOf st) (lo+n-1))with
  |true=>exact wpS_pure (q1 (of_decide_eq_true z))
  |false=>exact wpS_pure (q2 (of_decide_eq_false z))
 intro n n1 n2 S z;dsimp only;by_cases e:(n==nrem)=true
 ·rw [if_pos e];exact wpS_pure (h n st hB n1 n2 S)
 rw [if_neg e];have e':n≠nrem:=by simpa using e
 have lt:=z e';have hz:lo+n≤(arrOf st).size:=by rw [hB.size];lia
 by_cases g:n>1
 ·rw [if_pos g];refine wpS_bind (qao C K Da hB (by lia) (by lia) ?_);cases y:decide (Kr R (arrOf st) lo<Kr R (arrOf st) (lo+n-1))with
  |true=>exact wpS_pure (h n st hB n1 n2 S)
  |false=>
   have y':=of_decide_eq_false y;have f:∀k,lo≤k→k<lo+n→Kr R (arrOf st) k=Kr R (arrOf st) (lo+n-1):=fun k a b=>by
    have b1:=S.at (i:=lo) (j:=k) (Nat.le_refl _) a b;have b2:=S.at (i:=k) (j:=lo+n-1) a (by lia) (by lia);lia
   dsimp only;rw [if_neg Bool.false_ne_true];refine wpS_bind (wpS_reverse ?_);have dB:SB κ p a₁ lo (setArr st (mirror (arrOf st) lo (lo+n) ((lo+n-lo)/2))):=hB.mir (Nat.le_refl _) (by lia);have dS:Dsc R (arrOf (setArr st (mirror (arrOf st) lo (lo+n) ((lo+n-lo)/2)))) lo (n+1):=Dsc.alike (xs:=arrOf st) (Dsc.more (fun i j a b=>by rw [f (lo+i) (by lia) (by lia),f (lo+j) (by lia) (by lia)];exact Int.le_refl _) fun _=>Int.le_of_lt lt) (qaH hz f);refine wpS_bind (wpS_lift (wpAny_rule ⟨rfl,?_⟩));refine wpS_bind (qgC (mk:=fun n q=>(none,n,q)) hn (by lia) (by lia) (dB) dS ?_ ?_)
   ·intro x n neq t Q' tB hl n1 q1 q2 q3 q4;dsimp only;refine wpS_bind (qao C K Da tB hl (by lia) ?_);cases z:decide (Kr R (arrOf t) (lo+n)<Kr R (arrOf t) (lo+n-1))with
    |true=>
     by_cases y:neq>0
     ·dsimp only;rw [if_pos rfl,if_pos y];exact wpS_bind (wpS_reverse (wpS_pure (q1 (of_decide_eq_true z) y)))
     ·dsimp only;rw [if_pos rfl,if_neg y];exact wpS_pure (q2 (of_decide_eq_true z) y)
    |false=>
     have z':=of_decide_eq_false z;refine wpS_bind (qao C K Da tB (by lia) hl ?_);cases y:decide (Kr R (arrOf t) (lo+n-1)<Kr R (arrOf t) (lo+n))with
     |true=>exact wpS_pure (q3 (of_decide_eq_true y))
     |false=>
      have y':=of_decide_eq_false y;exact wpS_pure (q4 (by lia))
   ·intro m neq t tB m1 m2 tS nm f;have hz:lo+m≤(arrOf t).size:=by rw [tB.size];lia
    dsimp only;by_cases y:neq>0
    ·rw [if_pos y];refine wpS_bind (wpS_reverse ?_);have MB:SB κ p a₁ lo (setArr t (mirror (arrOf t) (lo+m-(neq+1)) (lo+m) ((lo+m-(lo+m-(neq+1)))/2))):=tB.mir (by lia) (by lia);have MS:Dsc R (arrOf (setArr t (mirror (arrOf t) (lo+m-(neq+1)) (lo+m) ((lo+m-(lo+m-(neq+1)))/2)))) lo m:=tS.alike (qaH hz f);refine wpS_bind (wpS_reverse ?_);have TB:SB κ p a₁ lo (setArr (setArr t (mirror (arrOf t) (lo+m-(neq+1)) (lo+m) ((lo+m-(lo+m-(neq+1)))/2))) (mirror (arrOf (setArr t (mirror (arrOf t) (lo+m-(neq+1)) (lo+m) ((lo+m-(lo+m-(neq+1)))/2)))) lo (lo+m) ((lo+m-lo)/2))):=(MB).mir (Nat.le_refl _) (by lia);refine wpS_bind (qcz (R:=R) (mk:=fun n=>(none,n)) hn (by lia) m2 (Dsc.turn (MS) (by show lo+m≤(arrOf (setArr t (mirror (arrOf t) (lo+m-(neq+1)) (lo+m) ((lo+m-(lo+m-(neq+1)))/2)))).size;rw [(MB).size];lia)) ?_ ?_)
     ·intro x n Q' hl n1 q1 q2;dsimp only;refine wpS_bind (qao C K Da (TB) hl (by lia) ?_);cases z:decide (Kr R (arrOf (setArr (setArr t (mirror (arrOf t) (lo+m-(neq+1)) (lo+m) ((lo+m-(lo+m-(neq+1)))/2))) (mirror (arrOf (setArr t (mirror (arrOf t) (lo+m-(neq+1)) (lo+m) ((lo+m-(lo+m-(neq+1)))/2)))) lo (lo+m) ((lo+m-lo)/2)))) (lo+n)<Kr R (arrOf (setArr (setArr t (mirror (arrOf t) (lo+m-(neq+1)) (lo+m) ((lo+m-(lo+m-(neq+1)))/2))) (mirror (arrOf (setArr t (mirror (arrOf t) (lo+m-(neq+1)) (lo+m) ((lo+m-(lo+m-(neq+1)))/2)))) lo (lo+m) ((lo+m-lo)/2)))) (lo+n-1))with
      |true=>exact wpS_pure (q1 (of_decide_eq_true z))
      |false=>exact wpS_pure (q2 (of_decide_eq_false z))
     ·intro j j1 j2 j3 _;exact wpS_pure (h j _ TB (by lia) j2 j3)
    ·rw [if_neg y];refine wpS_bind (wpS_reverse ?_);have TB:SB κ p a₁ lo (setArr t (mirror (arrOf t) lo (lo+m) ((lo+m-lo)/2))):=(tB).mir (Nat.le_refl _) (by lia);refine wpS_bind (qcz (R:=R) (mk:=fun n=>(none,n)) hn (by lia) m2 (Dsc.turn (tS) (by show lo+m≤(arrOf t).size;rw [(tB).size];lia)) ?_ ?_)
     ·intro x n Q' hl n1 q1 q2;dsimp only;refine wpS_bind (qao C K Da (TB) hl (by lia) ?_);cases z:decide (Kr R (arrOf (setArr t (mirror (arrOf t) lo (lo+m) ((lo+m-lo)/2)))) (lo+n)<Kr R (arrOf (setArr t (mirror (arrOf t) lo (lo+m) ((lo+m-lo)/2)))) (lo+n-1))with
      |true=>exact wpS_pure (q1 (of_decide_eq_true z))
      |false=>exact wpS_pure (q2 (of_decide_eq_false z))
     ·intro j j1 j2 j3 _;exact wpS_pure (h j _ TB (by lia) j2 j3)
 ·rw [if_neg g];obtain rfl:n=1:=by lia
  have dS:Dsc R (arrOf st) lo (1+1):=Dsc.one.more fun _=>Int.le_of_lt lt
  refine wpS_bind (wpS_lift (wpAny_rule ⟨rfl,?_⟩));refine wpS_bind (qgC (mk:=fun n q=>(none,n,q)) hn (by lia) (by lia) (hB) dS ?_ ?_)
  ·intro x n neq t Q' tB hl n1 q1 q2 q3 q4;dsimp only;refine wpS_bind (qao C K Da tB hl (by lia) ?_);cases z:decide (Kr R (arrOf t) (lo+n)<Kr R (arrOf t) (lo+n-1))with
   |true=>
    by_cases y:neq>0
    ·dsimp only;rw [if_pos rfl,if_pos y];exact wpS_bind (wpS_reverse (wpS_pure (q1 (of_decide_eq_true z) y)))
    ·dsimp only;rw [if_pos rfl,if_neg y];exact wpS_pure (q2 (of_decide_eq_true z) y)
   |false=>
    have z':=of_decide_eq_false z;refine wpS_bind (qao C K Da tB (by lia) hl ?_);cases y:decide (Kr R (arrOf t) (lo+n-1)<Kr R (arrOf t) (lo+n))with
    |true=>exact wpS_pure (q3 (of_decide_eq_true y))
    |false=>
     have y':=of_decide_eq_false y;exact wpS_pure (q4 (by lia))
  ·intro m neq t tB m1 m2 tS nm f;have hz:lo+m≤(arrOf t).size:=by rw [tB.size];lia
   dsimp only;by_cases y:neq>0
   ·rw [if_pos y];refine wpS_bind (wpS_reverse ?_);have MB:SB κ p a₁ lo (setArr t (mirror (arrOf t) (lo+m-(neq+1)) (lo+m) ((lo+m-(lo+m-(neq+1)))/2))):=tB.mir (by lia) (by lia);have MS:Dsc R (arrOf (setArr t (mirror (arrOf t) (lo+m-(neq+1)) (lo+m) ((lo+m-(lo+m-(neq+1)))/2)))) lo m:=tS.alike (qaH hz f);refine wpS_bind (wpS_reverse ?_);have TB:SB κ p a₁ lo (setArr (setArr t (mirror (arrOf t) (lo+m-(neq+1)) (lo+m) ((lo+m-(lo+m-(neq+1)))/2))) (mirror (arrOf (setArr t (mirror (arrOf t) (lo+m-(neq+1)) (lo+m) ((lo+m-(lo+m-(neq+1)))/2)))) lo (lo+m) ((lo+m-lo)/2))):=(MB).mir (Nat.le_refl _) (by lia);refine wpS_bind (qcz (R:=R) (mk:=fun n=>(none,n)) hn (by lia) m2 (Dsc.turn (MS) (by show lo+m≤(arrOf (setArr t (mirror (arrOf t) (lo+m-(neq+1)) (lo+m) ((lo+m-(lo+m-(neq+1)))/2)))).size;rw [(MB).size];lia)) ?_ ?_)
    ·intro x n Q' hl n1 q1 q2;dsimp only;refine wpS_bind (qao C K Da (TB) hl (by lia) ?_);cases z:decide (Kr R (arrOf (setArr (setArr t (mirror (arrOf t) (lo+m-(neq+1)) (lo+m) ((lo+m-(lo+m-(neq+1)))/2))) (mirror (arrOf (setArr t (mirror (arrOf t) (lo+m-(neq+1)) (lo+m) ((lo+m-(lo+m-(neq+1)))/2)))) lo (lo+m) ((lo+m-lo)/2)))) (lo+n)<Kr R (arrOf (setArr (setArr t (mirror (arrOf t) (lo+m-(neq+1)) (lo+m) ((lo+m-(lo+m-(neq+1)))/2))) (mirror (arrOf (setArr t (mirror (arrOf t) (lo+m-(neq+1)) (lo+m) ((lo+m-(lo+m-(neq+1)))/2)))) lo (lo+m) ((lo+m-lo)/2)))) (lo+n-1))with
     |true=>exact wpS_pure (q1 (of_decide_eq_true z))
     |false=>exact wpS_pure (q2 (of_decide_eq_false z))
    ·intro j j1 j2 j3 _;exact wpS_pure (h j _ TB (by lia) j2 j3)
   ·rw [if_neg y];refine wpS_bind (wpS_reverse ?_);have TB:SB κ p a₁ lo (setArr t (mirror (arrOf t) lo (lo+m) ((lo+m-lo)/2))):=(tB).mir (Nat.le_refl _) (by lia);refine wpS_bind (qcz (R:=R) (mk:=fun n=>(none,n)) hn (by lia) m2 (Dsc.turn (tS) (by show lo+m≤(arrOf t).size;rw [(tB).size];lia)) ?_ ?_)
    ·intro x n Q' hl n1 q1 q2;dsimp only;refine wpS_bind (qao C K Da (TB) hl (by lia) ?_);cases z:decide (Kr R (arrOf (setArr t (mirror (arrOf t) lo (lo+m) ((lo+m-lo)/2)))) (lo+n)<Kr R (arrOf (setArr t (mirror (arrOf t) lo (lo+m) ((lo+m-lo)/2)))) (lo+n-1))with
     |true=>exact wpS_pure (q1 (of_decide_eq_true z))
     |false=>exact wpS_pure (q2 (of_decide_eq_false z))
    ·intro j j1 j2 j3 _;exact wpS_pure (h j _ TB (by lia) j2 j3)
end
theorem qeo(a:Array Keyed)(i:Nat):at' a i=(a.toList[i]?).getD df:=by
 unfold at';rw [Array.getD_eq_getD_getElem?,Array.getElem?_toList]
theorem qlZ{a:Array Keyed}{i j m:Nat}(hj:j≤a.size)(hm:i+m<j):at' (a.extract i j) m=at' a (i+m):=by
 refine qbN ?_;rw [Array.getElem?_extract,if_pos (by lia)]
noncomputable def putAll(s:Nat)(l:List Keyed)(n:Nat)(a:Array Keyed):Array Keyed:=(l.zipIdx n).foldl (fun a (p:Keyed×Nat)=>a.setIfInBounds (s+p.2) p.1) a
theorem qcW(s:Nat):∀(l:List Keyed) (n:Nat) (a:Array Keyed),s+n+l.length≤a.size→(putAll s l n a).toList=a.toList.take (s+n)++l++a.toList.drop (s+n+l.length)
 | [],n,a,_=>by
  show a.toList=_;simp
 |x::l,n,a,h=>by
  show (putAll s l (n+1) (a.setIfInBounds (s+n) x)).toList=_;rw [List.length_cons]at h;rw [qcW s l (n+1) _ (by rw [Array.size_setIfInBounds];lia)];have hl:s+n<a.toList.length:=by rw [Array.length_toList];lia
  rw [Array.toList_setIfInBounds,show s+(n+1)=s+n+1 by lia,List.take_set,List.drop_set,if_pos (by lia),List.length_cons,
   show s+n+1+l.length=s+n+(l.length+1)by lia]
  congr 1
  rw [show (x::l)=[x]++l from rfl,←List.append_assoc]
  congr 1
  rw [List.take_succ_eq_append_getElem hl,List.set_append_right _ _ (by rw [List.length_take];lia),List.length_take,Nat.min_eq_left (by lia),Nat.sub_self]
  rfl
theorem qih{s:Nat}{r a:Array Keyed}(h:s+r.size≤a.size)(t:Nat):at' (putAll s r.toList 0 a) t=if s≤t∧t<s+r.size then at' r (t-s)else at' a t:=by
 rw [qeo,qcW s _ _ _ (by rw [Array.length_toList];lia),Nat.add_zero,Array.length_toList];have h1:(a.toList.take s).length=s:=by rw [List.length_take,Array.length_toList];lia
 by_cases e1:t<s
 ·rw [if_neg (by lia),List.append_assoc,List.getElem?_append_left (by lia),List.getElem?_take,if_pos e1,qeo]
 ·rw [List.append_assoc,List.getElem?_append_right (by lia),h1];by_cases e2:t<s+r.size
  ·rw [if_pos (by lia),List.getElem?_append_left (by rw [Array.length_toList];lia),qeo]
  ·rw [if_neg (by lia),List.getElem?_append_right (by rw [Array.length_toList];lia),List.getElem?_drop,Array.length_toList,qeo]
   congr 2;lia
theorem qhp{s e:Nat}{r x y a:Array Keyed}{m:Nat}(h1:s≤m)(h2:m≤e)(h3:e≤a.size)(hx:x=a.extract s m)(hy:y=a.extract m e)(hr:r.toList.Perm (x.toList++y.toList)):r.size=e-s∧(putAll s r.toList 0 a).Perm a:=by
 have hl:r.size=e-s:=by
  have:=hr.length_eq;rw [List.length_append,Array.length_toList,Array.length_toList,Array.length_toList,hx,hy,Array.size_extract,Array.size_extract]at this;lia
 refine⟨hl,Array.perm_iff_toList_perm.mpr ?_⟩;rw [qcW s _ _ _ (by rw [Array.length_toList];lia),Nat.add_zero,Array.length_toList,hl];have hxy:x.toList++y.toList=(a.toList.drop s).take (e-s):=by
  rw [hx,hy,zB,zB,show e-s=(m-s)+(e-m)by lia,List.take_add,List.drop_drop,show s+(m-s)=m by lia]
 have e0:a.toList=a.toList.take s++(a.toList.drop s).take (e-s)++a.toList.drop (s+(e-s)):=by
  rw [List.append_assoc,←List.drop_drop,List.take_append_drop,List.take_append_drop]
 conv=>rhs;rw [e0]
 rw [hxy]at hr;exact(hr.append_left _).append_right _
section
variable{prog:Program}{w:World}{A:Around}{E:Value→Shared→Prop}{s:Shared}{κ:SortKind}{D:Keyed→Prop}{LT:Keyed→Keyed→Bool}{R:Keyed→Int}
theorem qlO{a r x y:Array Keyed}{sa s' sb e' en:Nat}(h1:sa≤s')(h2:s'<sb)(h3:sb≤e')(h4:e'≤en)(h5:en≤a.size)
  (SX:∀i j,sa≤i→i≤j→j<sb→Kr R a i≤Kr R a j) (SY:∀i j,sb≤i→i≤j→j<en→Kr R a i≤Kr R a j)
  (F1:∀i,sa≤i→i<s'→Kr R a i≤Kr R a sb) (hbn:sb<en) (F2:∀i,e'≤i→i<en→Kr R a (sb-1)≤Kr R a i)
  (hx:x=a.extract s' sb) (hy:y=a.extract sb e') (hr:r.toList.Perm (x.toList++y.toList)) (hs:∀i j,i≤j→j<r.size→Kr R r i≤Kr R r j) :
  ∀i j,sa≤i→i≤j→j<en→Kr R (putAll s' r.toList 0 a) i≤Kr R (putAll s' r.toList 0 a) j:=by
 have hp:=qhp (by lia) h3 (by lia) hx hy hr;have mid:∀v,v<r.size→∃z,s'≤z∧z<e'∧at' r v=at' a z:=fun v hv=>by
  have:=hr.mem_iff.mp (qfg hv);rw [List.mem_append,hx,hy]at this;rcases this with q|q
  ·obtain⟨z,z1,z2,z3,z4⟩:=qu q;exact⟨z,z1,by lia,z4⟩
  ·obtain⟨z,z1,z2,z3,z4⟩:=qu q;exact⟨z,by lia,z2,z4⟩
 intro i j hi hij hj;unfold Kr;rw [qih (by lia),qih (by lia)];by_cases ci:s'≤i∧i<s'+r.size
 ·rw [if_pos ci];by_cases cj:s'≤j∧j<s'+r.size
  ·rw [if_pos cj];exact hs _ _ (by lia) (by lia)
  ·rw [if_neg cj];obtain⟨z,z1,z2,z3⟩:=mid (i-s') (by lia);rw [z3];by_cases hz:z<sb
   ·exact Int.le_trans (SX z (sb-1) (by lia) (by lia) (by lia)) (F2 j (by lia) hj)
   ·exact SY z j (by lia) (by lia) hj
 ·rw [if_neg ci];by_cases cj:s'≤j∧j<s'+r.size
  ·rw [if_pos cj];obtain⟨z,z1,z2,z3⟩:=mid (j-s') (by lia);rw [z3];by_cases hz:z<sb
   ·exact SX i z hi (by lia) hz
   ·exact Int.le_trans (F1 i hi (by lia)) (SY sb z (by lia) (by lia) (by lia))
  ·rw [if_neg cj];by_cases c1:i<s'
   ·by_cases c2:j<s'
    ·exact SX i j hi hij (by lia)
    ·exact Int.le_trans (F1 i hi c1) (SY sb j (by lia) (by lia) hj)
   ·exact SY i j (by lia) hij hj
end
theorem qoq{σ:Type}{M:Model}{A:Around}{E:Value→Shared→Prop}{s:Shared}{x:σ}{Q:PUnit→σ→Prop}{st:σ}(h:Q ⟨⟩ x):wpS M A E s (set x:StateT σ Sem PUnit) Q st:=by
 unfold wpS;exact wpAny_pure ⟨rfl,h⟩
section
variable{prog:Program}{w:World}{A:Around}{E:Value→Shared→Prop}{s:Shared}{κ:SortKind}{D:Keyed→Prop}{LT:Keyed→Keyed→Bool}{R:Keyed→Int}
noncomputable def qaQ(p:Array (Nat×Nat×Nat))(i sa na nb pw:Nat):Array (Nat×Nat×Nat):=(p.setIfInBounds i (sa,na+nb,pw)).eraseIdxIfInBounds (i+1)
theorem qid(C:Cmp prog w A s κ D LT)(K:Rk D LT R){st:SortSt}{i sa na pw sb nb pw2:Nat}{Q:Bool→SortSt→Prop}(hk:kindOf st=κ)(hf:failedOf st=none)(Da:∀x∈(arrOf st).toList,D x)
  (h1:(pendingOf st)[i]? = some (sa,na,pw)) (h2:(pendingOf st)[i+1]? = some (sb,nb,pw2)) (hsb:sb=sa+na) (hna:1≤na) (hnb:1≤nb) (hen:sb+nb≤(arrOf st).size)
  (SX:Seg R (arrOf st) sa na) (SY:Seg R (arrOf st) sb nb)
  (h:∀st',kindOf st'=κ→failedOf st'=none→pendingOf st'=qaQ (pendingOf st) i sa na nb pw→(arrOf st').Perm (arrOf st)→(∀j,(j<sa∨sb+nb≤j)→at' (arrOf st') j=at' (arrOf st) j)→Seg R (arrOf st') sa (na+nb)→Q true st') :
  wpS (model prog w) A E s (mergeAt' i) Q st:=by
 have dm:∀j,j<(arrOf st).size→D (at' (arrOf st) j):=fun j hj=>Da _ (qfg hj)
 have rk:∀x y,x<(arrOf st).size→y<(arrOf st).size→LT (at' (arrOf st) x) (at' (arrOf st) y)=decide (Kr R (arrOf st) x<Kr R (arrOf st) y):=fun x y hx hy=>K.rk _ _ (dm x hx) (dm y hy)
 have SX':∀i j,sa≤i→i≤j→j<sb→Kr R (arrOf st) i≤Kr R (arrOf st) j:=fun i j a b c=>by
  have:=SX (i-sa) (j-sa) (by lia) (by lia)
  rwa [show sa+(i-sa)=i by lia,show sa+(j-sa)=j by lia]at this
 have SY':∀i j,sb≤i→i≤j→j<sb+nb→Kr R (arrOf st) i≤Kr R (arrOf st) j:=fun i j a b c=>by
  have:=SY (i-sb) (j-sb) (by lia) (by lia)
  rwa [show sb+(i-sb)=i by lia,show sb+(j-sb)=j by lia]at this
 have W:=C.wo;unfold mergeAt';refine wpS_bind (wpS_get ?_);rw [h1,h2];dsimp only;refine wpS_bind (qoq ?_);refine wpS_bind (qD (qi (show sb<(arrOf st).size by lia)) ?_);refine wpS_bind (qax C (by exact hk) (dm sb (by lia)) (fun j=>at' (arrOf st) (sa+j)) (fun j hj=>⟨qi (show sa+j<(arrOf st).size by lia),dm _ (by lia)⟩) (by lia) ?_ ?_)
 ·intro i j hij hj hb;unfold bey at hb ⊢;simp only [Bool.false_eq_true,if_false]at hb ⊢;rw [rk _ _ (by lia) (by lia)]at hb ⊢;have:=SX' (sa+i) (sa+j) (by lia) (by lia) (by lia);simp only [Bool.not_eq_true',decide_eq_false_iff_not]at hb ⊢;lia
 intro k hk1 hk2 hk3;dsimp only;have F1:∀j,sa≤j→j<sa+k→Kr R (arrOf st) j≤Kr R (arrOf st) sb:=fun j a b=>by
  have:=hk2 (j-sa) (by lia);unfold bey at this;simp only [Bool.false_eq_true,if_false]at this;rw [show sa+(j-sa)=j by lia,rk _ _ (by lia) (by lia)]at this;simp only [Bool.not_eq_true',decide_eq_false_iff_not]at this;lia
 have F1':∀j,sa+k≤j→j<sb→Kr R (arrOf st) sb<Kr R (arrOf st) j:=fun j a b=>by
  have:=hk3 (j-sa) (by lia) (by lia);unfold bey at this;simp only [Bool.false_eq_true,if_false]at this;rw [show sa+(j-sa)=j by lia,rk _ _ (by lia) (by lia)]at this;simp only [Bool.not_eq_false',decide_eq_true_eq]at this;lia
 by_cases e1:(na-k==0)=true
 ·rw [if_pos e1];have e1':na-k=0:=by simpa using e1
  refine wpS_pure (h _ hk hf rfl (Array.Perm.refl _) (fun _ _=>rfl) ?_);intro x y hxy hy;show Kr R (arrOf st) (sa+x)≤Kr R (arrOf st) (sa+y);by_cases c:y<na
  ·exact SX x y hxy c
  ·by_cases c2:x<na
   ·exact Int.le_trans (F1 _ (by lia) (by lia)) (SY' sb _ (by lia) (by lia) (by lia))
   ·exact SY' _ _ (by lia) (by lia) (by lia)
 rw [if_neg e1];have e1':na-k≠0:=by simpa using e1
 rw [show sa+k+(na-k)-1=sb-1 by lia];refine wpS_bind (qD (qi (show sb-1<(arrOf st).size by lia)) ?_);refine wpS_bind (qax C (by exact hk) (dm (sb-1) (by lia)) (fun j=>at' (arrOf st) (sb+j)) (fun j hj=>⟨qi (show sb+j<(arrOf st).size by lia),dm _ (by lia)⟩) (by lia) ?_ ?_)
 ·intro i j hij hj hb;unfold bey at hb ⊢;simp only [if_true]at hb ⊢;rw [rk _ _ (by lia) (by lia)]at hb ⊢;have:=SY' (sb+i) (sb+j) (by lia) (by lia) (by lia);simp only [decide_eq_true_eq]at hb ⊢;lia
 intro m hm1 hm2 hm3;dsimp only;have F2:∀j,sb≤j→j<sb+m→Kr R (arrOf st) j<Kr R (arrOf st) (sb-1):=fun j a b=>by
  have:=hm2 (j-sb) (by lia);unfold bey at this;simp only [if_true]at this;rw [show sb+(j-sb)=j by lia,rk _ _ (by lia) (by lia)]at this
  simpa using this
 have F2':∀j,sb+m≤j→j<sb+nb→Kr R (arrOf st) (sb-1)≤Kr R (arrOf st) j:=fun j a b=>by
  have:=hm3 (j-sb) (by lia) (by lia);unfold bey at this;simp only [if_true]at this;rw [show sb+(j-sb)=j by lia,rk _ _ (by lia) (by lia)]at this;simp only [decide_eq_false_iff_not]at this;lia
 by_cases e2:(m==0)=true
 ·exfalso;have e2':m=0:=by simpa using e2
  have a1:=F1' (sb-1) (by lia) (by lia);have a2:=F2' sb (by lia) (by lia);lia
 rw [if_neg e2];have e2':m≠0:=by simpa using e2
 have sx:((arrOf st).extract (sa+k) sb).size=na-k:=by rw [Array.size_extract];lia
 have sy:((arrOf st).extract sb (sb+m)).size=m:=by rw [Array.size_extract];lia
 have ax:∀j,j<na-k→at' ((arrOf st).extract (sa+k) sb) j=at' (arrOf st) (sa+k+j):=fun j hj=>qlZ (by lia) (by lia)
 have ay:∀j,j<m→at' ((arrOf st).extract sb (sb+m)) j=at' (arrOf st) (sb+j):=fun j hj=>qlZ (by lia) (by lia)
 have srt:∀(z:Array Keyed) (o:Nat),(∀j,j<z.size→o+j<(arrOf st).size∧at' z j=at' (arrOf st) (o+j))→(∀i j,i≤j→j<z.size→Kr R (arrOf st) (o+i)≤Kr R (arrOf st) (o+j))→Srt LT z.toList:=fun z o hz hs=>by
  unfold Srt;rw [List.pairwise_iff_getElem];intro i j hi hj hij;rw [Array.length_toList]at hi hj;have b1:=qi hi;have b2:=qi hj;rw [Array.getElem?_eq_getElem hi]at b1;rw [Array.getElem?_eq_getElem hj]at b2;injection b1 with b1
  injection b2 with b2
  rw [Array.getElem_toList,Array.getElem_toList,b1,b2,(hz i hi).2,(hz j hj).2,rk _ _ (hz j hj).1 (hz i hi).1];have:=hs i j (by lia) hj;simp only [decide_eq_false_iff_not];lia
 have Sx:Srt LT ((arrOf st).extract (sa+k) sb).toList:=srt _ (sa+k) (fun j hj=>⟨by lia,ax j (by lia)⟩) (fun i j hij hj=>SX' _ _ (by lia) (by lia) (by lia));have Sy:Srt LT ((arrOf st).extract sb (sb+m)).toList:=srt _ sb (fun j hj=>⟨by lia,ay j (by lia)⟩) (fun i j hij hj=>SY' _ _ (by lia) (by lia) (by lia));have h0:LT (at' ((arrOf st).extract sb (sb+m)) 0) (at' ((arrOf st).extract (sa+k) sb) 0)=true:=by
  rw [ax 0 (by lia),ay 0 (by lia),rk _ _ (by lia) (by lia)];exact decide_eq_true (F1' _ (by lia) (by lia))
 have hl:∀j,j<((arrOf st).extract sb (sb+m)).size→LT (at' ((arrOf st).extract sb (sb+m)) j) (at' ((arrOf st).extract (sa+k) sb) (((arrOf st).extract (sa+k) sb).size-1))=true:=fun j hj=>by
  rw [ax _ (by lia),ay j (by lia),sx,rk _ _ (by lia) (by lia),show sa+k+(na-k-1)=sb-1 by lia];exact decide_eq_true (F2 _ (by lia) (by lia))
 have Dx:∀j,j<((arrOf st).extract (sa+k) sb).size→D (at' ((arrOf st).extract (sa+k) sb) j):=fun j hj=>by
  rw [ax j (by lia)];exact dm _ (by lia)
 have Dy:∀j,j<((arrOf st).extract sb (sb+m)).size→D (at' ((arrOf st).extract sb (sb+m)) j):=fun j hj=>by
  rw [ay j (by lia)];exact dm _ (by lia)
 have fin:∀r g,Mg LT ((arrOf st).extract (sa+k) sb) ((arrOf st).extract sb (sb+m)) r→wpS (model prog w) A E s (do
   modify fun s=>setArr s (putAll (sa+k) r.toList 0 (arrOf s))
   return (failedOf (←get)).isNone) Q (setG (setPending st (qaQ (pendingOf st) i sa na nb pw)) g):=fun r g M=>by
  refine wpS_bind (wpS_modify ?_);refine wpS_bind (wpS_get ?_);refine wpS_pure ?_;have hp:=qhp (by lia) (by lia) (by lia) rfl rfl M.1;have e3:(failedOf (setArr (setG (setPending st (qaQ (pendingOf st) i sa na nb pw)) g) (putAll (sa+k) r.toList 0 (arrOf st)))).isNone=true:=by
   show (failedOf st).isNone=true;rw [hf];rfl
  show Q (failedOf (setArr (setG (setPending st (qaQ (pendingOf st) i sa na nb pw)) g) (putAll (sa+k) r.toList 0 (arrOf st)))).isNone _;rw [e3];refine h _ hk hf rfl hp.2 (fun j hj=>?_) ?_
  ·show at' (putAll (sa+k) r.toList 0 (arrOf st)) j=_;rw [qih (by lia),if_neg (by lia)]
  ·have dr:∀j,j<r.size→D (at' r j):=fun j hj=>by
    have:=M.1.mem_iff.mp (qfg hj);rw [List.mem_append]at this;rcases this with q|q
    ·obtain⟨z,z1,z2,z3,z4⟩:=qu q;rw [z4];exact dm z z3
    ·obtain⟨z,z1,z2,z3,z4⟩:=qu q;rw [z4];exact dm z z3
   have:=qlO (R:=R) (a:=arrOf st) (sa:=sa) (s':=sa+k) (sb:=sb) (e':=sb+m) (en:=sb+nb) (by lia) (by lia) (by lia) (by lia) hen SX' SY' F1 (by lia) F2' rfl rfl M.1 (fun x y hxy hy=>by
    have:=zN W M.2 hxy hy;rw [K.rk _ _ (dr _ hy) (dr _ (by lia))]at this;simp only [decide_eq_false_iff_not]at this;unfold Kr;lia)
   intro x y hxy hy;exact this _ _ (by lia) (by lia) (by lia)
 by_cases e4:na-k≤m
 ·rw [if_pos e4];exact wpS_bind (qib C (by exact hk) Dx Dy Sx Sy (show 0<((arrOf st).extract (sa+k) sb).size by lia) (show 0<((arrOf st).extract sb (sb+m)).size by lia) h0 hl fin)
 ·rw [if_neg e4];exact wpS_bind (qhu C (by exact hk) Dx Dy Sx Sy (show 0<((arrOf st).extract (sa+k) sb).size by lia) (show 0<((arrOf st).extract sb (sb+m)).size by lia) h0 hl fin)
end
noncomputable def pr(x:Nat×Nat×Nat):Nat×Nat:=(x.1,x.2.1)
noncomputable def Runs(R:Keyed→Int)(a:Array Keyed):Nat→List (Nat×Nat)→Nat→Prop
 |b,[],e=>b=e
 |b,x::l,e=>x.1=b∧1≤x.2∧Seg R a b x.2∧Runs R a (b+x.2) l e
section
variable{R:Keyed→Int}{a a':Array Keyed}
theorem Runs.le:∀{l:List (Nat×Nat)}{b e:Nat},Runs R a b l e→b+l.length≤e
 | [],b,e,h=>by simp only [List.length_nil];exact Nat.le_of_eq h
 |x::l,b,e,h=>by
  have:=h.2.2.2.le;have:=h.2.1;simp only [List.length_cons];lia
theorem Seg.congr{b n:Nat}(h:Seg R a b n)(hc:∀j,b≤j→j<b+n→at' a' j=at' a j):Seg R a' b n:=fun i j hij hj=>by
 unfold Kr;rw [hc _ (by lia) (by lia),hc _ (by lia) (by lia)];exact h i j hij hj
theorem Runs.congr:∀{l:List (Nat×Nat)}{b e:Nat},Runs R a b l e→(∀j,b≤j→j<e→at' a' j=at' a j)→Runs R a' b l e
 | [],b,e,h,_=>h
 |x::l,b,e,h,hc=>by
  have:=h.2.2.2.le;exact⟨h.1,h.2.1,h.2.2.1.congr fun j h1 h2=>hc j h1 (by lia),h.2.2.2.congr fun j h1 h2=>hc j (by lia) h2⟩
theorem Runs.append:∀{l l':List (Nat×Nat)}{b e:Nat},Runs R a b (l++l') e↔∃m,Runs R a b l m∧Runs R a m l' e
 | [],l',b,e=>⟨fun h=>⟨b,rfl,h⟩,fun⟨m,h1,h2⟩=>by cases h1;exact h2⟩
 |x::l,l',b,e=>by
  constructor
  ·rintro⟨h1,h2,h3,h4⟩;obtain⟨m,h5,h6⟩:=Runs.append.mp h4;exact⟨m,⟨h1,h2,h3,h5⟩,h6⟩
  ·rintro⟨m,⟨h1,h2,h3,h4⟩,h5⟩;exact⟨h1,h2,h3,Runs.append.mpr ⟨m,h4,h5⟩⟩
theorem qqc{α:Type}{l:List α}{i:Nat}{x y:α}(h1:l[i]? = some x)(h2:l[i+1]? = some y):∃u v,l=u++x::y::v∧u.length=i:=by
 obtain⟨hl,e2⟩:=List.getElem?_eq_some_iff.mp h2;obtain⟨hl1,e1⟩:=List.getElem?_eq_some_iff.mp h1;refine⟨l.take i,l.drop (i+2),?_,by rw [List.length_take];lia⟩
 conv=>lhs;rw [←List.take_append_drop i l]
 rw [List.drop_eq_getElem_cons hl1,List.drop_eq_getElem_cons hl,e1,e2]
theorem qfq{p:Array (Nat×Nat×Nat)}{u v:List (Nat×Nat×Nat)}{x y:Nat×Nat×Nat}{sa na nb pw:Nat}(h:p.toList=u++x::y::v):(qaQ p u.length sa na nb pw).toList=u++(sa,na+nb,pw)::v:=by
 unfold qaQ;have hs:p.size=u.length+v.length+2:=by rw [←Array.length_toList,h];simp;lia
 rw [Array.eraseIdxIfInBounds_eq,dif_pos (by rw [Array.size_setIfInBounds];lia),Array.toList_eraseIdx,Array.toList_setIfInBounds,h];rw [List.set_append_right _ _ (Nat.le_refl _),Nat.sub_self];rw [List.eraseIdx_append_of_length_le (by lia)];rw [show u.length+1-u.length=1 by lia]
 rfl
end
structure SR(κ:SortKind)(R:Keyed→Int)(a₁:Array Keyed)(lo:Nat)(st:SortSt):Prop where
 kd:kindOf st=κ
 fl:failedOf st=none
 pm:(arrOf st).Perm a₁
 rn:Runs R (arrOf st) 0 ((pendingOf st).toList.map pr) lo
 le:lo≤a₁.size
section
variable{prog:Program}{w:World}{A:Around}{E:Value→Shared→Prop}{s:Shared}{κ:SortKind}{D:Keyed→Prop}{LT:Keyed→Keyed→Bool}{R:Keyed→Int}{a₁:Array Keyed}{lo:Nat}
theorem SR.sz{st:SortSt}(h:SR κ R a₁ lo st):(arrOf st).size=a₁.size:=h.pm.size_eq
theorem SR.dom{st:SortSt}(h:SR κ R a₁ lo st)(Da:∀x∈a₁.toList,D x):∀x∈(arrOf st).toList,D x:=fun x hx=>Da x ((Array.perm_iff_toList_perm.mp h.pm).mem_iff.mp hx)
theorem SR.merge(C:Cmp prog w A s κ D LT)(K:Rk D LT R)(Da:∀x∈a₁.toList,D x){st:SortSt}{i:Nat}{Q:Bool→SortSt→Prop}(H:SR κ R a₁ lo st)(hi:i+1<(pendingOf st).size)
  (h:∀st',SR κ R a₁ lo st'→(∀j,lo≤j→at' (arrOf st') j=at' (arrOf st) j)→(pendingOf st').size+1=(pendingOf st).size→Q true st') :
  wpS (model prog w) A E s (mergeAt' i) Q st:=by
 obtain⟨⟨sa,na,pw⟩,hx⟩:∃x,(pendingOf st)[i]? = some x:=⟨_,Array.getElem?_eq_getElem (by lia)⟩
 obtain⟨⟨sb,nb,pw2⟩,hy⟩:∃x,(pendingOf st)[i+1]? = some x:=⟨_,Array.getElem?_eq_getElem hi⟩
 obtain⟨u,v,hl,hu⟩:=qqc (l:=(pendingOf st).toList) (by rw [Array.getElem?_toList];exact hx) (by rw [Array.getElem?_toList];exact hy);have rn:=H.rn;rw [hl,List.map_append]at rn;obtain⟨m,r1,r2⟩:=Runs.append.mp rn;obtain⟨q1,q2,q3,q4,q5,q6,q7⟩:=r2;have q1:sa=m:=q1;have q2:1≤na:=q2;have q3:Seg R (arrOf st) m na:=q3;have q4:sb=m+na:=q4;have q5:1≤nb:=q5;have q6:Seg R (arrOf st) (m+na) nb:=q6;have q7:Runs R (arrOf st) (m+na+nb) (v.map pr) lo:=q7;have hle:=q7.le;have hle2:=r1.le;have hlo:=H.le;have hz:=H.sz;subst q1;refine qid C K H.kd H.fl (H.dom Da) hx hy q4 q2 q5 (by lia) q3 (by rw [q4];exact q6) fun st' k1 k2 k3 k4 k5 k6=>?_
 have hp:(pendingOf st').toList=u++(sa,na+nb,pw)::v:=by rw [k3,←hu];exact qfq hl
 refine h st' ⟨k1,k2,k4.trans H.pm,?_,H.le⟩ (fun j hj=>k5 j (.inr (by lia))) ?_
 ·rw [hp,List.map_append];refine Runs.append.mpr ⟨sa,r1.congr fun j _ hj=>k5 j (.inl hj),rfl,show 1≤na+nb by lia,k6,?_⟩;show Runs R (arrOf st') (sa+(na+nb)) (v.map pr) lo;rw [←Nat.add_assoc];exact q7.congr fun j hj _=>k5 j (.inr (by lia))
 ·rw [←Array.length_toList,hp,←Array.length_toList,hl];simp;lia
end
section
variable{prog:Program}{w:World}{A:Around}{E:Value→Shared→Prop}{s:Shared}{κ:SortKind}{D:Keyed→Prop}{LT:Keyed→Keyed→Bool}{R:Keyed→Int}{a₁:Array Keyed}{lo:Nat}
theorem qgK{p:Array (Nat×Nat×Nat)}{i pw:Nat}:(p.modify i fun x=>(x.1,x.2.1,pw)).toList.map pr=p.toList.map pr:=by
 apply List.ext_getElem?;intro k;rw [List.getElem?_map,List.getElem?_map,Array.getElem?_toList,Array.getElem?_toList,Array.getElem?_modify];split
 ·rename_i e
  subst e;cases p[i]? <;> rfl
 ·rfl
theorem SR.pend{st:SortSt}{p:Array (Nat×Nat×Nat)}(H:SR κ R a₁ lo st)(hp:p.toList.map pr=(pendingOf st).toList.map pr):SR κ R a₁ lo (setPending st p):=
 ⟨H.kd,H.fl,H.pm,by show Runs R (arrOf st) 0 (p.toList.map pr) lo;rw [hp];exact H.rn,H.le⟩
theorem SR.push{st:SortSt}{n:Nat}(H:SR κ R a₁ lo st)(h1:1≤n)(h2:lo+n≤a₁.size)(hs:Seg R (arrOf st) lo n):SR κ R a₁ (lo+n) (setPending st ((pendingOf st).push (lo,n,0))):=
 ⟨H.kd,H.fl,H.pm,by
  show Runs R (arrOf st) 0 (((pendingOf st).push (lo,n,0)).toList.map pr) (lo+n);rw [Array.toList_push,List.map_append];exact Runs.append.mpr ⟨lo,H.rn,rfl,h1,hs,rfl⟩,h2⟩
theorem SR.base{st:SortSt}(H:SR κ R a₁ lo st):SB κ (pendingOf st) (arrOf st) lo st:=⟨H.kd,H.fl,rfl,Array.Perm.refl _,fun _ _=>rfl⟩
theorem SR.back{st st':SortSt}(H:SR κ R a₁ lo st)(B:SB κ (pendingOf st) (arrOf st) lo st'):SR κ R a₁ lo st':=
 ⟨B.kd,B.fl,B.pm.trans H.pm,by rw [B.pn];exact H.rn.congr fun j _ hj=>B.lw j hj,H.le⟩
theorem qgU(C:Cmp prog w A s κ D LT)(K:Rk D LT R)(Da:∀x∈a₁.toList,D x){st:SortSt}{Q:Unit→SortSt→Prop}(hk:kindOf st=κ)(hf:failedOf st=none)(hp:pendingOf st = #[])(ha:arrOf st=a₁)(h2:2≤a₁.size)
  (h:∀st',(arrOf st').Perm a₁→failedOf st'=none→Seg R (arrOf st') 0 a₁.size→Q () st'):wpS (model prog w) A E s sortRuns' Q st:=by
 have H0:SR κ R a₁ 0 st:=⟨hk,hf,by rw [ha],by rw [hp];rfl,by lia⟩
 rw [sortRuns'_eq];refine wpS_bind (wpS_get ?_);dsimp only;rw [ha];generalize minRun' a₁.size a₁.size 0=mr;refine wpS_bind (wpS_mono (wpS_forRange
  (I:=fun x c st'=>∃lo,c=(none,lo)∧SR κ R a₁ lo st'∧x≤lo)
  (Q:=fun c st'=>c=(none,a₁.size)∧SR κ R a₁ a₁.size st') ?step ?fin ⟨0,rfl,H0,Nat.le_refl _⟩) ?post)
 case fin=>
  rintro c st' ⟨lo,rfl,H,hx⟩;have:=H.le;have:lo=a₁.size:=by lia
  subst this;exact⟨rfl,H⟩
 case step=>
  rintro x c st' _ hx ⟨lo,rfl,H,hxl⟩;dsimp only;have hle:=H.le;by_cases e:lo ≥ a₁.size
  ·rw [if_pos e];have:lo=a₁.size:=by lia
   subst this;exact wpS_pure ⟨rfl,H⟩
  rw [if_neg e];have hz:=H.sz;refine wpS_bind (qjH C K (H.dom Da) (by lia) (by lia) H.base fun m st2 B2 m1 m2 S2=>?_);dsimp only;by_cases e3:m<mr
  ·rw [if_pos e3];refine wpS_bind (wpS_lift (wpAny_rule ⟨rfl,?_⟩));by_cases e4:m≤min (a₁.size-lo) mr
   ·refine wpS_bind (qiC C K (H.dom Da) (by lia) e4 B2 S2 fun st3 B3 S3=>?_);simp only [Bool.not_true,Bool.false_eq_true,if_false];have Hn:=H.back B3;refine wpS_bind (wpS_get ?_);cases hb:(pendingOf st3).back? with
    |none=>
     dsimp only;exact wpS_bind (wpS_modify (wpS_pure ⟨_,rfl,Hn.push (by lia) (by lia) S3,by lia⟩))
    |some q=>
     obtain⟨s1,k1,w1⟩:=q;dsimp only;generalize power' _ _ _ _=pw;refine wpS_bind (wpS_mono (wpS_forRange (I:=fun _ c st'=>c=(none,())∧SR κ R a₁ lo st'∧∀j,lo≤j→at' (arrOf st') j=at' (arrOf st3) j)
      (Q:=fun c st'=>c=(none,())∧SR κ R a₁ lo st'∧∀j,lo≤j→at' (arrOf st') j=at' (arrOf st3) j) ?_ (fun _ _ h=>h) ⟨rfl,Hn,fun _ _=>rfl⟩) ?_)
     ·rintro y c st8 _ _ ⟨rfl,H8,c8⟩;refine wpS_bind (wpS_get ?_);by_cases e1:(pendingOf st8).size>1
      ·rw [if_pos e1];obtain⟨⟨u1,u2,older⟩,hy⟩:∃x,(pendingOf st8)[(pendingOf st8).size-2]? = some x:=⟨_,Array.getElem?_eq_getElem (by lia)⟩
       rw [hy];dsimp only;by_cases e2:older≤pw
       ·rw [if_pos e2];exact wpS_pure ⟨rfl,H8,c8⟩
       ·rw [if_neg e2];refine wpS_bind (H8.merge C K Da (by lia) fun st9 H9 c9 _=>?_);exact wpS_pure ⟨rfl,H9,fun j hj=>(c9 j hj).trans (c8 j hj)⟩
      ·rw [if_neg e1];exact wpS_pure ⟨rfl,H8,c8⟩
     ·rintro c st8 ⟨rfl,H8,c8⟩;dsimp only;refine wpS_bind (wpS_modify ?_);exact wpS_bind (wpS_modify (wpS_pure ⟨_,rfl,(H8.pend qgK).push (by lia) (by lia) (S3.congr fun j hj _=>c8 j hj),by lia⟩))
   ·exfalso;lia
  ·rw [if_neg e3];have Hn:=H.back B2;refine wpS_bind (wpS_get ?_);cases hb:(pendingOf st2).back? with
   |none=>
    dsimp only;exact wpS_bind (wpS_modify (wpS_pure ⟨_,rfl,Hn.push (m1) (by lia) S2,by lia⟩))
   |some q=>
    obtain⟨s1,k1,w1⟩:=q;dsimp only;generalize power' _ _ _ _=pw;refine wpS_bind (wpS_mono (wpS_forRange (I:=fun _ c st'=>c=(none,())∧SR κ R a₁ lo st'∧∀j,lo≤j→at' (arrOf st') j=at' (arrOf st2) j)
     (Q:=fun c st'=>c=(none,())∧SR κ R a₁ lo st'∧∀j,lo≤j→at' (arrOf st') j=at' (arrOf st2) j) ?_ (fun _ _ h=>h) ⟨rfl,Hn,fun _ _=>rfl⟩) ?_)
    ·rintro y c st8 _ _ ⟨rfl,H8,c8⟩;refine wpS_bind (wpS_get ?_);by_cases e1:(pendingOf st8).size>1
     ·rw [if_pos e1];obtain⟨⟨u1,u2,older⟩,hy⟩:∃x,(pendingOf st8)[(pendingOf st8).size-2]? = some x:=⟨_,Array.getElem?_eq_getElem (by lia)⟩
      rw [hy];dsimp only;by_cases e2:older≤pw
      ·rw [if_pos e2];exact wpS_pure ⟨rfl,H8,c8⟩
      ·rw [if_neg e2];refine wpS_bind (H8.merge C K Da (by lia) fun st9 H9 c9 _=>?_);exact wpS_pure ⟨rfl,H9,fun j hj=>(c9 j hj).trans (c8 j hj)⟩
     ·rw [if_neg e1];exact wpS_pure ⟨rfl,H8,c8⟩
    ·rintro c st8 ⟨rfl,H8,c8⟩;dsimp only;refine wpS_bind (wpS_modify ?_);exact wpS_bind (wpS_modify (wpS_pure ⟨_,rfl,(H8.pend qgK).push (m1) (by lia) (S2.congr fun j hj _=>c8 j hj),by lia⟩))
 case post=>
  rintro c st' ⟨rfl,H⟩;dsimp only;have hl:=H.rn.le;rw [List.length_map,Array.length_toList]at hl;refine wpS_bind (wpS_mono (wpS_forRange (I:=fun x c st''=>c=(none,())∧SR κ R a₁ a₁.size st''∧((pendingOf st'').size≤1∨(pendingOf st'').size+x≤a₁.size))
   (Q:=fun c st''=>c=(none,())∧SR κ R a₁ a₁.size st''∧(pendingOf st'').size≤1) ?_ ?_ ⟨rfl,H,.inr (by lia)⟩) ?_)
  ·rintro x c st3 _ hx ⟨rfl,H3,c3⟩;refine wpS_bind (wpS_get ?_);by_cases e1:(pendingOf st3).size≤1
   ·rw [if_pos e1];exact wpS_pure ⟨rfl,H3,e1⟩
   rw [if_neg e1];refine wpS_bind (H3.merge C K Da ?_ fun st4 H4 c4 z4=>?_)
   ·(repeat' split)<;>lia
   ·exact wpS_pure ⟨rfl,H4,by lia⟩
  ·rintro c st3 ⟨rfl,H3,c3⟩;exact⟨rfl,H3,by lia⟩
  ·rintro c st3 ⟨rfl,H3,c3⟩;refine wpS_pure (h st3 H3.pm H3.fl ?_);have rn:=H3.rn;generalize hq:(pendingOf st3).toList.map pr=q at rn;have hql:q.length≤1:=by rw [←hq,List.length_map,Array.length_toList];exact c3
   match q,rn,hql with
   | [],rn,_=>exact absurd rn (by show ¬ (0=a₁.size);lia)
   | [x],rn,_=>
    obtain⟨_,_,r3,r4⟩:=rn;have r4:0+x.2=a₁.size:=r4;rw [←r4,Nat.zero_add];exact r3
end
theorem qgD{α:Type}{p q:α→Bool}{a:α}:∀{l:List α},(∀x∈l,p x=true→q x=true)→a∈l→p a=false→q a=true→l.countP p<l.countP q
 | [],_,h,_,_=>nomatch h
 |x::l,hi,h,h1,h2=>by
  rw [List.countP_cons,List.countP_cons];have le:=List.countP_mono_left (l:=l) (p:=p) (q:=q) fun y hy=>hi y (List.mem_cons_of_mem _ hy)
  rcases List.mem_cons.mp h with e|h
  ·subst e;rw [h1,h2];simp only [Bool.false_eq_true,if_false,if_true];lia
  ·have:=qgD (fun y hy=>hi y (List.mem_cons_of_mem _ hy)) h h1 h2;have:=hi x List.mem_cons_self;cases e:p x with
   |true=>rw [this e];simp only [if_true];lia
   |false=>simp only [Bool.false_eq_true,if_false];split<;>lia
noncomputable def qeQ(LT:Keyed→Keyed→Bool)(l:List Keyed)(x:Keyed):Int:=(l.countP fun z=>LT z x:Nat)
theorem Wo.rank{LT:Keyed→Keyed→Bool}(W:Wo LT)(l:List Keyed):Rk (·∈l) LT (qeQ LT l):=⟨fun x y hx hy=>by
 unfold qeQ;cases e:LT x y with
 |true=>
  have:=qgD (p:=fun z=>LT z x) (q:=fun z=>LT z y) (a:=x) (fun z _ q=>W.lt_le (x:=z) (y:=x) (z:=y) q (W.asym x y e)) hx (W.irr x) e;exact(decide_eq_true (by lia)).symm
 |false=>
  have:=List.countP_mono_left (l:=l) (p:=fun z=>LT z y) (q:=fun z=>LT z x) fun z _ q=>W.lt_le (x:=z) (y:=y) (z:=x) q e
  exact(decide_eq_false (by lia)).symm⟩
noncomputable def ltL:List Int→List Int→Bool
 | [],[]=>false
 | [],_::_=>true
 |_::_,[]=>false
 |a::x,b::y=>if a=b then ltL x y else decide (a<b)
theorem qcH:∀{x y:List Int},ltL x y=true→ltL y x=false
 | [],[],h=>nomatch h
 | [],_::_,_=>rfl
 |_::_,[],h=>nomatch h
 |a::x,b::y,h=>by
  unfold ltL at h ⊢;by_cases e:a=b
  ·rw [if_pos e]at h;rw [if_pos e.symm];exact qcH h
  ·rw [if_neg e]at h;have:=of_decide_eq_true h;rw [if_neg (fun z=>e z.symm)];exact decide_eq_false (by lia)
theorem qde:∀{x y z:List Int},ltL y x=false→ltL z y=false→ltL z x=false
 | [],_,[],_,_=>rfl
 |_::_,[],[],h,_=>nomatch h
 |_::_,_::_,[],_,h=>nomatch h
 | [],_,_::_,_,_=>rfl
 |_::_,[],_::_,h,_=>nomatch h
 |a::x,b::y,c::z,h1,h2=>by
  unfold ltL at h1 h2 ⊢;by_cases e1:b=a
  ·rw [if_pos e1]at h1;by_cases e2:c=b
   ·rw [if_pos e2]at h2;rw [if_pos (e2.trans e1)];exact qde h1 h2
   ·rw [if_neg e2]at h2;have:=of_decide_eq_false h2;rw [if_neg (fun q=>e2 (q.trans e1.symm))];exact decide_eq_false (by lia)
  ·rw [if_neg e1]at h1;have q1:=of_decide_eq_false h1;by_cases e2:c=b
   ·rw [if_neg (fun q=>e1 (e2.symm.trans q))];exact decide_eq_false (by lia)
   ·rw [if_neg e2]at h2;have q2:=of_decide_eq_false h2;rw [if_neg (by lia)];exact decide_eq_false (by lia)
theorem qsR(f:Keyed→List Int):Wo fun x y=>ltL (f x) (f y):=⟨fun _ _ h=>qcH h,fun _ _ _ h1 h2=>qde h1 h2⟩
theorem qlR:∀{x y:List Int},ltL x y=false→ltL y x=false→x=y
 | [],[],_,_=>rfl
 | [],_::_,h,_=>nomatch h
 |_::_,[],_,h=>nomatch h
 |a::x,b::y,h1,h2=>by
  unfold ltL at h1 h2;by_cases e:a=b
  ·rw [if_pos e]at h1;rw [if_pos e.symm]at h2;rw [e,qlR h1 h2]
  ·rw [if_neg e]at h1;rw [if_neg (fun z=>e z.symm)]at h2;have:=of_decide_eq_false h1;have:=of_decide_eq_false h2;lia
theorem qjm:∀x y:List Int,ltL x y=HT.lexLt x y
 | [],[]=>(HT.qdN).symm
 | [],_::_=>(HT.qdg ..).symm
 |_::_,[]=>(HT.qdj ..).symm
 |a::x,b::y=>by
  rw [HT.qfn,←qjm x y]
  rfl
section
variable{prog:Program}{w:World}{A:Around}{E:Value→Shared→Prop}{s:Shared}
theorem qlC{l b:Addr}{items items2:Array Value}{ns ms:List Int}{Q:Bool→Shared→Prop}(hl:IsTup s.heap l items)(hb:IsTup s.heap b items2)(hi:IntsAre items.toList ns)(hj:IntsAre items2.toList ms)
  (hu:A.units<cLine) (h:Q (ltL ns ms) s):wpAny (model prog w) A (oneLt' true (.ref l) (.ref b)) Q E s:=by
 obtain⟨⟨c1,d1,a1,s1⟩,ho,hc,n,hd⟩:=id hl;obtain⟨⟨c2,d2,a2,s2⟩,ho2,hc2,n2,hd2⟩:=id hb;simp only at hc hd hc2 hd2;subst hc hd hc2 hd2;rw [qjm]at h;rw [oneLt'_eq];simp only [if_true];refine wpAny_bind (wpAny_cRoomFor hu ?_);refine wpAny_bind (wpAny_callSpecialIfBound?_slot ⟨_,ho,rfl⟩ PySem.F.slot_tuple_lt (call_meets PySem.F.slot_tuple_lt ⟨_,ho,rfl⟩ PySem.F.entry_tuple_lt (PySem.F.args_tuple_lt_2 _ _) (HT.qdM l b items items2 n n2 d1 d2 s1 s2 ns ms hi hj) ⟨ho,ho2,?_⟩));exact wpAny_truthy_bool h
end
end TS
namespace TS
open PySem PySem.W PyProof.Rows
noncomputable def TupAt(h:Heap)(v:Value)(ns:List Int):Prop:=∃a o items n,v=.ref a∧h.get? a=some o∧o.cls=.type "tuple"∧o.data=.seq items n∧IntsAre items.toList ns
inductive qaX(h:Heap):List Value→List (List Int)→Prop
 |nil:qaX h [] []
 |cons {v:Value}{vs:List Value}{k:List Int}{ks:List (List Int)}:TupAt h v k→qaX h vs ks→qaX h (v::vs) (k::ks)
theorem qaX.mem{h:Heap}{vs:List Value}{ks:List (List Int)}(t:qaX h vs ks):∀v∈vs,∃k,TupAt h v k:=by
 induction t with
 |nil=>intro v hv;cases hv
 |cons a t ih=>
  intro v hv;rcases List.mem_cons.mp hv with e|hv
  ·subst e;exact⟨_,a⟩
  ·exact ih v hv
section
variable{M:Model}{A:Around}{E:Value→Shared→Prop}{s:Shared}
theorem qgG{h:Heap}{v:Value}{k:List Int}(t:TupAt h v k):Looks M h (typeOf v) (.type "tuple"):=by
 obtain⟨a,o,items,n,rfl,ho,hc,_⟩:=t;have:Looks M h (typeOf (.ref a)) o.cls:=(Looks.ld ho).andThen .now
 rwa [hc]at this
theorem qjI{vs:List Value}{ks:List (List Int)}(t:qaX s.heap vs ks):∀{Q:List (Option Value)→Shared→Prop},(∀os:List (Option Value),os.map Option.isSome=ks.map (fun k=>!k.isEmpty)→Q os s)→wpAny M A (vs.mapM firstOfTuple') Q E s:=by
 induction t with
 |nil=>intro Q h;rw [List.mapM_nil];exact wpAny_pure (h [] rfl)
 | @cons v vs k ks a t ih=>
  intro Q h;rw [List.mapM_cons];refine wpAny_bind ?_;rw [kas_first_eq];refine wpAny_bind ((qgG a).here ?_);rw [if_neg (by first|decide|simp)];obtain⟨b,o,items,n,rfl,ho,hc,hd,hi⟩:=a;refine wpAny_bind (listItems_at ho hd (wpAny_pure (wpAny_bind (ih fun os e=>wpAny_pure (h _ ?_)))));rw [List.map_cons,e,List.map_cons]
  congr 1
  obtain⟨l⟩:=items;cases hi with
  |nil=>rfl
  |cons _ _ _=>rfl
theorem qnw{vs:List Value}{ks:List (List Int)}{Q:SortKind→Shared→Prop}(t:qaX s.heap vs ([]::ks))(h:Q oneType' s):wpAny M A (keyKind' vs.toArray) Q E s:=by
 rw [keyKind'_eq,List.mapM_toArray,map_eq_pure_bind];refine wpAny_bind (wpAny_bind (qjI t fun os e=>wpAny_pure ?_));obtain⟨o,os',rfl,eo⟩:∃o os',os=o::os'∧o.isSome=false:=by
  cases os with
  |nil=>cases e
  |cons o os'=>rw [List.map_cons,List.map_cons]at e;exact⟨o,os',rfl,(List.cons.inj e).1⟩
 obtain rfl:o=none:=by cases o with
  |none=>rfl
  |some _=>cases eo
 rw [if_neg (by simp),if_neg (by simp),oneTypeOnly'_eq,List.mapM_toArray,map_eq_pure_bind];refine wpAny_bind (wpAny_bind (wpAny_bind (kas_mapM (r:=Value.type "tuple") _ (fun v hv Q' hq=>by obtain⟨k,a⟩:=t.mem v hv;exact(qgG a).here hq) (wpAny_pure ?_))));have e0:(List.map (fun _=>Value.type "tuple") vs).toArray[0]? = some (Value.type "tuple"):=by
  cases t with
  |cons a t=>simp
 have e1:((List.map (fun _=>Value.type "tuple") vs).toArray.all fun x=>x==Value.type "tuple")=true:=by
  simp only [List.all_toArray,List.all_map,List.all_eq_true];intro _ _
  rfl
 rw [e0];simp only [e1,if_true];exact wpAny_pure (wpAny_pure h)
end
section
variable{M:Model}{A:Around}{E:Value→Shared→Prop}{s:Shared}
theorem qaX.firsts{h:Heap}{vs:List Value}{ks:List (List Int)}(t:qaX h vs ks)(hne:∀k∈ks,k≠[]):∃fs,KatTups h vs fs∧fs.length=vs.length∧∀v∈fs,∃i t,v=Value.int i t:=by
 induction t with
 |nil=>exact⟨[],trivial,rfl,fun _ h=>nomatch h⟩
 | @cons v vs k ks a t ih=>
  obtain⟨fs,k1,k2,k3⟩:=ih fun k hk=>hne k (List.mem_cons_of_mem _ hk)
  obtain⟨b,o,items,n,rfl,ho,hc,hd,hi⟩:=a;obtain⟨l⟩:=items;cases hi with
  |nil=>exact absurd rfl (hne [] List.mem_cons_self)
  |cons i t _=>exact⟨.int i t::fs,KatTups.cons ho hc hd rfl k1,by simp [k2],fun w hw=>(List.mem_cons.mp hw).elim (fun z=>⟨i,t,z⟩) (k3 w)⟩
theorem kind_all{vs:List Value}{ks:List (List Int)}{Q:SortKind→Shared→Prop}(t:qaX s.heap vs ks)(h1:0<vs.length)(hne:∀k∈ks,k≠[])(h:Q (tuples' true) s):wpAny M A (keyKind' vs.toArray) Q E s:=by
 obtain⟨fs,k1,k2,k3⟩:=t.firsts hne;refine kat_kind (T:=.type "int") (fs:=fs) k1 (by lia) (fun v hv=>?_) (by decide) ?_
 ·obtain⟨i,t,rfl⟩:=k3 v hv;exact Looks.of_pure rfl
 ·have hb:((Value.type "int") != Value.type "tuple")=true:=by decide
  rw [hb];exact h
theorem qhA{prog:Program}{w:World}{Q:Bool→Shared→Prop}{fin:Bool}:∀{xs ys:List Value}{ns ms:List Int} (i:Nat),IntsAre xs ns→IntsAre ys ms→fin=decide (xs.length<ys.length)→Q (ltL ns ms) s→KatLex prog w A true fin Q (xs.zip ys) i s
 |_,_,_,_,i,.nil,.nil,hf,h=>kat_nil (by rw [hf];exact h)
 |_,_,_,_,i,.nil,.cons _ _ _,hf,h=>kat_nil (by rw [hf];exact h)
 |_,_,_,_,i,.cons _ _ _,.nil,hf,h=>kat_nil (by rw [hf];exact h)
 |_,_,_,_,i,.cons (vs:=xs) (ns:=ns) a t hx,.cons (vs:=ys) (ns:=ms) b u hy,hf,h=>by
  rw [List.zip_cons_cons];refine kat_cons (SeqAt.EqAt.int_int _ _ _ _ prog w _ _ ?_);unfold ltL at h;by_cases hc:a=b
  ·rw [if_pos hc]at h;rw [show (a==b)=true by simp [hc]];exact kat_yes (qhA (i+1) hx hy (by rw [hf];simp) h)
  ·rw [if_neg hc]at h;rw [show (a==b)=false by simp [hc]];refine kat_no ?_;cases i with
   |zero=>exact oneLt_int h
   |succ i=>exact kat_one _ _ (lt_int h)
end
noncomputable def qaa(h:Heap)(x:Keyed):List Int:=open Classical in if z:∃k,TupAt h x.1 k then z.choose else []
theorem TupAt.keep{h h':Heap}(k:∀b o,h.get? b=some o→h'.get? b=some o){v:Value}{ns:List Int}(t:TupAt h v ns):TupAt h' v ns:=by
 obtain⟨a,o,its,n,e1,e2,e3⟩:=t;exact⟨a,o,its,n,e1,k _ _ e2,e3⟩
theorem qaX.keep{h h':Heap}(k:∀b o,h.get? b=some o→h'.get? b=some o){vs:List Value}{ks:List (List Int)}(t:qaX h vs ks):qaX h' vs ks:=by
 induction t with
 |nil=>exact .nil
 |cons a _ ih=>exact .cons (a.keep k) ih
theorem qcA{h:Heap}{x:Keyed}(z:∃k,TupAt h x.1 k):TupAt h x.1 (qaa h x):=by
 unfold qaa;rw [dif_pos z];exact z.choose_spec
theorem qpf{prog:Program}{w:World}{A:Around}{s:Shared}{h0:Heap}{l:List Keyed}(hk:∀b o,h0.get? b=some o→s.heap.get? b=some o)(hl:∀x∈l,∃k,TupAt h0 x.1 k)(hu:A.units<cLine):Cmp prog w A s oneType' (·∈l) (fun x y=>ltL (qaa h0 x) (qaa h0 y)):=
 ⟨fun x y hx hy Q h=>by
  obtain⟨a,o,its,n,e1,e2,e3,e4,e5⟩:=(qcA (hl x hx)).keep hk;obtain⟨a',o',its',n',f1,f2,f3,f4,f5⟩:=(qcA (hl y hy)).keep hk;rw [keyLt'_oneType,e1,f1];exact qlC ⟨o,e2,e3,n,e4⟩ ⟨o',f2,f3,n',f4⟩ e5 f5 hu h,
  fun _ _ h=>qcH h,fun _ _ _ h1 h2=>qde h1 h2⟩
theorem qpA{prog:Program}{w:World}{A:Around}{s:Shared}{h0:Heap}{l:List Keyed}(hk:∀b o,h0.get? b=some o→s.heap.get? b=some o)(hl:∀x∈l,∃k,TupAt h0 x.1 k):Cmp prog w A s (tuples' true) (·∈l) (fun x y=>ltL (qaa h0 x) (qaa h0 y)):=
 ⟨fun x y hx hy Q h=>by
  obtain⟨a,o,its,n,e1,e2,e3,e4,e5⟩:=(qcA (hl x hx)).keep hk;obtain⟨a',o',its',n',f1,f2,f3,f4,f5⟩:=(qcA (hl y hy)).keep hk;rw [e1,f1];refine kat_lt e2 e4 f2 f4 (qhA 0 e5 f5 ?_ h);rw [Array.length_toList,Array.length_toList],
  fun _ _ h=>qcH h,fun _ _ _ h1 h2=>qde h1 h2⟩
theorem qhP{h:Heap}:∀(l:List Keyed),(∀x∈l,x.1=x.2∧∃k,TupAt h x.1 k)→qaX h (l.map (·.2)) (l.map (qaa h))
 | [],_=>.nil
 |x::l,z=>.cons (by have:=z x List.mem_cons_self;show TupAt h x.2 _;rw [←this.1];exact qcA this.2) (qhP l fun y hy=>z y (List.mem_cons_of_mem _ hy))
theorem qrn{LT:Keyed→Keyed→Bool}{R:Keyed→Int}{a:Array Keyed}(S:Seg R a 0 a.size)(K:∀x∈a.toList,∀y∈a.toList,LT x y=decide (R x<R y)):a.toList.Pairwise fun x y=>LT y x=false:=by
 rw [List.pairwise_iff_getElem];intro i j hi hj hij;rw [K _ (List.getElem_mem hj) _ (List.getElem_mem hi)];rw [Array.length_toList]at hi hj;have:=S i j (by lia) hj;unfold Kr at this;have e1:=qi hi;have e2:=qi hj;rw [Array.getElem?_eq_getElem hi]at e1;rw [Array.getElem?_eq_getElem hj]at e2;injection e1 with e1
 injection e2 with e2
 rw [Nat.zero_add,Nat.zero_add,←e1,←e2]at this;rw [Array.getElem_toList,Array.getElem_toList];exact decide_eq_false (by lia)
section
variable{prog:Program}{w:World}{A:Around}{E:Value→Shared→Prop}{s:Shared}
theorem qlt{l:Addr}{vs:List Value}{ks:List (List Int)}{Q:Value→Shared→Prop}(hl:s.heap.IsList l vs.toArray)(h2:2≤vs.length)(hz:vs.length≤sizeLine)(t:qaX s.heap vs ks)(hed:ks.head? = some []∨∀k∈ks,k≠[])(hu:A.in1.in1.units<cLine)
  (h:∀(out:List Value) (ks':List (List Int)),out.Perm vs→qaX s.heap out ks'→ks'.Pairwise (fun a b=>ltL b a=false)→Q (.ref (s.heap.objs.size+1)) {s with heap:=sortedAll s.heap vs out.toArray}) :
  wpAny (model prog w) A (call (.builtin "sorted") [.ref l]) Q E s:=by
 refine Calls.call_function_entry kind_sorted plain_sorted entry_sorted (args_sorted1 _) ?_;unfold Builtin.«sorted»;refine wpAny_bind (m:=checkCount "sorted" 1 1 _) (wpAny_pure ?_);refine wpAny_bind (collect_list hl ?_ hz);refine wpAny_bind (wpAny_newList ?_ hz);have hsz:((s.heap.push (seqObj "list" #[] 0)).update s.heap.objs.size (Obj.mapSeq (· ++ vs.toArray))).objs.size=s.heap.objs.size+1:=by rw [Heap.size_update,size_push']
 have hoL:(((s.heap.push (seqObj "list" #[] 0)).update s.heap.objs.size (Obj.mapSeq (· ++ vs.toArray))).push (seqObj "list" vs.toArray 0)).get? (s.heap.objs.size+1)=some (seqObj "list" vs.toArray 0):=by rw [←hsz];exact Heap.get?_push_size _ rfl
 have keep:∀b o,s.heap.get? b=some o→(((s.heap.push (seqObj "list" #[] 0)).update s.heap.objs.size (Obj.mapSeq (· ++ vs.toArray))).push (seqObj "list" vs.toArray 0)).get? b=some o:=fun b o q=>by
  have hlt:b<s.heap.objs.size:=Heap.lt_size q;rw [Heap.get?_push_ne _ _ _ (by rw [hsz];exact Nat.ne_of_lt (Nat.lt_succ_of_lt hlt)),Heap.get?_update_ne _ _ _ _ (Nat.ne_of_lt hlt),Heap.get?_push_ne _ _ _ (Nat.ne_of_lt hlt)];exact q
 show wpAny _ _ _ _ _ {s with heap:=((s.heap.push (seqObj "list" #[] 0)).update s.heap.objs.size (Obj.mapSeq (· ++ vs.toArray))).push (seqObj "list" vs.toArray 0)};rw [hsz];refine wpAny_bind (wpAny_holding (wpAny_call_entry slot_list_sort ⟨_,hoL,rfl⟩ entry_list_sort ?body (args_list_sort _)))
 case body=>
  have hap:∀b o,s.heap.get? b=some o→b≠s.heap.objs.size+1:=fun b o q=>Nat.ne_of_lt (Nat.lt_succ_of_lt (Heap.lt_size q))
  generalize hh:((s.heap.push (seqObj "list" #[] 0)).update s.heap.objs.size (Obj.mapSeq (· ++ vs.toArray))).push (seqObj "list" vs.toArray 0)=hp at hoL keep ⊢;generalize ha:s.heap.objs.size+1=a at hoL hap ⊢;rw [list_sort_plain];refine wpAny_bind (listItems_at (s:={s with heap:=hp}) hoL rfl ?_);refine wpAny_bind (listUpdate_at (s:={s with heap:=hp}) hoL rfl ?_ (by rw [List.size_toArray];exact hz) (Nat.zero_le _));obtain⟨e1,ho1⟩:∃e1,(hp.update a (Obj.mapSeq fun _=>#[])).get? a=some (seqObj "list" #[] e1):=⟨_,get?_update_seq hoL (fun _=>#[])⟩
  refine wpAny_bind (seqEpoch_at ho1 rfl ?_);refine wpAny_bind (wpAny_newTuple ?_ (by show vs.length≤_;exact hz));refine wpAny_bind (wpAny_newList ?_ (Nat.zero_le _));refine wpAny_holding ?_;have hlt:a<hp.objs.size:=Heap.lt_size hoL;have k6:∀b o,s.heap.get? b=some o→(((hp.update a (Obj.mapSeq fun _=>#[])).push (seqObj "tuple" vs.toArray 0)).push (seqObj "list" #[] 0)).get? b=some o:=fun b o q=>
   Heap.get?_push_of_some _ (Heap.get?_push_of_some _ (by rw [Heap.get?_update_ne _ _ _ _ (hap b o q)];exact keep b o q))
  have ho6:(((hp.update a (Obj.mapSeq fun _=>#[])).push (seqObj "tuple" vs.toArray 0)).push (seqObj "list" #[] 0)).get? a=some (seqObj "list" #[] e1):=Heap.get?_push_of_some _ (Heap.get?_push_of_some _ ho1);show wpAny (model prog w) _ _ _ _ {s with heap:=((hp.update a (Obj.mapSeq fun _=>#[])).push (seqObj "tuple" vs.toArray 0)).push (seqObj "list" #[] 0)};dsimp only;have h2':¬ vs.toArray.size<2:=by rw [List.size_toArray];lia
  rw [if_neg h2',if_neg h2'];have pz:(vs.toArray.zip vs.toArray)=pairsOf vs:=rfl;have hx:∀x∈(pairsOf vs).toList,x.1=x.2∧∃k,TupAt s.heap x.1 k:=fun x hx=>by
   rw [pairsOf_toList]at hx;obtain⟨b1,b2⟩:=mem_zip_self hx;exact⟨b1,t.mem _ b2⟩
  obtain⟨κ,kk,C⟩:∃κ,(∀Q:SortKind→Shared→Prop,Q κ {s with heap:=((hp.update a (Obj.mapSeq fun _=>#[])).push (seqObj "tuple" vs.toArray 0)).push (seqObj "list" #[] 0)}→wpAny (model prog w) A.in1.in1 (keyKind' vs.toArray) Q (fun x s'=>E x s') {s with heap:=((hp.update a (Obj.mapSeq fun _=>#[])).push (seqObj "tuple" vs.toArray 0)).push (seqObj "list" #[] 0)})∧Cmp prog w A.in1.in1 {s with heap:=((hp.update a (Obj.mapSeq fun _=>#[])).push (seqObj "tuple" vs.toArray 0)).push (seqObj "list" #[] 0)} κ (·∈(pairsOf vs).toList) (fun x y=>ltL (qaa s.heap x) (qaa s.heap y)):=by
   rcases hed with hh|hh
   ·refine⟨oneType',fun Q q=>?_,qpf k6 (fun x z=>(hx x z).2) hu⟩;cases ks with
    |nil=>cases hh
    |cons k ks=>
     cases hh;exact qnw (t.keep k6) q
   ·exact⟨tuples' true,fun Q q=>kind_all (t.keep k6) (by lia) hh q,qpA k6 fun x z=>(hx x z).2⟩
  refine wpAny_bind (kk _ ?_);have K:=(qsR (qaa s.heap)).rank (pairsOf vs).toList;refine wpAny_bind (wpAny_mono (qgU (Q:=fun _ st'=>(arrOf st').Perm (pairsOf vs)∧failedOf st'=none∧Seg (qeQ (fun x y=>ltL (qaa s.heap x) (qaa s.heap y)) (pairsOf vs).toList) (arrOf st') 0 (pairsOf vs).size) C K (fun _ z=>z) rfl rfl rfl rfl (by rw [pairsOf_size];exact h2) fun st' z1 z2 z3=>⟨z1,z2,z3⟩) ?_ fun _ _ e=>e);rintro⟨⟨⟩,st'⟩ s' ⟨rfl,pm,fl,sg⟩;dsimp only;have pl:=Array.perm_iff_toList_perm.mp pm;have om:((arrOf st').map (·.2))=((arrOf st').toList.map (·.2)).toArray:=by
   generalize arrOf st'=z;apply Array.toList_inj.mp;rw [Array.toList_map]
  have op:((arrOf st').toList.map (·.2)).Perm vs:=by
   have:=pl.map (·.2)
   rwa [pairsOf_toList,List.map_snd_zip (Nat.le_refl _)]at this
  have ht:=qhP (arrOf st').toList fun x z=>hx x (pl.mem_iff.mp z)
  have hs:=qrn (LT:=fun x y=>ltL (qaa s.heap x) (qaa s.heap y)) (R:=qeQ (fun x y=>ltL (qaa s.heap x) (qaa s.heap y)) (pairsOf vs).toList) (a:=arrOf st') (by rw [pm.size_eq];exact sg) fun x z1 y z2=>K.rk x y (pl.mem_iff.mp z1) (pl.mem_iff.mp z2)
  have fin:=h _ _ op ht (by rw [List.pairwise_map];exact hs);refine wpAny_bind (seqEpoch_at ho6 rfl ?_);refine wpAny_bind (listUpdate_at ho6 rfl ?_ (Nat.zero_le _) (by rw [om,List.size_toArray,op.length_eq];lia));rw [fl];simp only [bne_self_eq_false,Bool.false_eq_true,if_false];refine wpAny_pure ⟨_,rfl,wpAny_pure ⟨_,rfl,?_⟩⟩;rw [←ha]at *;rw [om];subst hh;exact fin
end
end TS
namespace L2
open PySem PySem.Spec PyProof.Rows TS
theorem qgo:∀{vs:List Value}{a b:List Int},IntsAre vs a→IntsAre vs b→a=b
 |_,_,_,.nil,.nil=>rfl
 |_,_,_,.cons n t h,h'=>by
  cases h' with
  |cons n' t' h''=>rw [qgo h h'']
theorem qeR{h:Heap}{v:Value}{a b:List Int}(x:TupAt h v a)(y:TupAt h v b):a=b:=by
 obtain⟨p,o,its,n,rfl,e2,_,e4,e5⟩:=x;obtain⟨p',o',its',n',f1,f2,_,f4,f5⟩:=y;cases f1;rw [e2]at f2;cases f2;rw [e4]at f4;cases f4;exact qgo e5 f5
theorem qcX{h:Heap}{f:Addr→List Int}:∀(ps:List Addr),(∀p∈ps,TupAt h (.ref p) (f p))→qaX h (ps.map Value.ref) (ps.map f)
 | [],_=>.nil
 |p::ps,z=>.cons (z p List.mem_cons_self) (qcX ps fun q hq=>z q (List.mem_cons_of_mem _ hq))
theorem qlg{h:Heap}{vs:List Value}{a b:List (List Int)}(x:qaX h vs a)(y:qaX h vs b):a=b:=by
 induction x generalizing b with
 |nil=>cases y;rfl
 |cons t _ ih=>
  cases y with
  |cons t' y'=>rw [qeR t t',ih y']
theorem qpS{ps:List Addr}:∀{us:List Value},Vals (ps.map V.ref) us→us=ps.map Value.ref:=by
 induction ps with
 |nil=>intro us r;cases r;rfl
 |cons p ps ih=>
  intro us r;cases r with
  |cons h t=>rw [ih t,show _=Value.ref p from h];rfl
theorem qgt:∀(ps:List Addr),Vals (ps.map V.ref) (ps.map Value.ref)
 | []=>.nil
 |p::ps=>.cons rfl (qgt ps)
noncomputable def qeD:Value→Addr
 | .ref a=>a
 |_=>0
noncomputable def qqZ(K:PySem.W.Frag):List V→Hp→VK→Prop:=fun vs H Q=>∃(l:Addr) (p:Addr) (ps:List Addr) (f:Addr→List Int),vs=[.ref l]∧SqL K H l ((p::ps).map V.ref)∧ps≠[]∧(f p=[]∨∀q∈p::ps,f q≠[]) ∧
 (∀q∈p::ps,SqT K H q ((f q).map V.int))∧∀(D:Addr) (qs:List Addr),H D=none→qs.Perm (p::ps)→(qs.map f).Pairwise (fun a b=>ltL b a=false)→Q (.ref D) (upd H D (.lst (qs.map V.ref)))
theorem qjV{X:Cx}(hu:X.A.in1.in1.units<cLine):qx X (.builtin "sorted") (qqZ X.K):=by
 intro pins s σ H xs us Q I r h;obtain⟨l,p,ps,f,rfl,hl,hne,hf,hp,q⟩:=h;obtain⟨u,rfl,ru⟩:=r.one;cases ru;obtain⟨its,rv,pl,hz⟩:=I.list hl;have ei:=qpS rv;subst ei;have tp:∀z∈p::ps,TupAt s.heap (.ref z) (f z):=fun z hz=>by
  obtain⟨its,r2,⟨o,e1,e2,n,e3⟩,_⟩:=I.tuple (hp z hz);exact⟨z,o,its.toArray,n,rfl,e1,e2,e3,by simpa using intsAre_of r2⟩
 have t:=qcX (p::ps) tp;have hz':((p::ps).map Value.ref).length≤sizeLine:=by simpa using hz
 refine qlt pl.isList (by cases ps with
  |nil=>exact absurd rfl hne
  |cons _ _=>simp) hz' t (by
   rcases hf with hf|hf
   ·left;rw [List.map_cons,hf];rfl
   ·right;intro k hk;obtain⟨q,hq,rfl⟩:=List.mem_map.mp hk;exact hf q hq) hu fun out ks' op ot os=>?_
 have eo:out=(out.map qeD).map Value.ref:=by
  rw [List.map_map]
  conv=>lhs;rw [←List.map_id out]
  refine List.map_congr_left fun v hv=>?_
  obtain⟨a,_,rfl⟩:=List.mem_map.mp (op.mem_iff.mp hv)
  rfl
 have qp:(out.map qeD).Perm (p::ps):=by
  have:=op.map qeD
  rwa [List.map_map,show (qeD∘Value.ref)=id from rfl,List.map_id]at this
 have ek:ks'=(out.map qeD).map f:=by
  rw [eo]at ot;exact qlg ot (qcX _ fun z hz=>tp z (qp.mem_iff.mp hz))
 subst ek;obtain⟨c,hc⟩:=sortedAll_at s.heap ((p::ps).map Value.ref) out.toArray;have hD0:s.heap.get? (s.heap.objs.size+1)=none:=Heap.get?_none_of_le (Nat.le_succ _);have q':=q (s.heap.objs.size+1) (out.map qeD) (I.hok.free_of hD0) qp os;refine⟨.ref (s.heap.objs.size+1),_,I.newList (s':={s with heap:=sortedAll s.heap ((p::ps).map Value.ref) out.toArray}) (c:=c) (its:=out) rfl rfl (fun b o _ e=>sortedAll_old e) (fun m hm=>hm.keeps fun b o e=>sortedAll_old e) hD0 (Nat.ne_of_gt (Nat.lt_succ_of_lt I.lt)) hc (by have:=qgt (out.map qeD);rwa [←eo]at this) (by rw [List.length_map,List.length_map,op.length_eq];exact hz'),rfl,q'⟩
noncomputable def qkM(K:PySem.W.Frag):List V→Hp→VK→Prop:=fun vs H Q=>∃(l:Addr) (as:List Addr) (ts:List (List Int)),vs=[.ref l]∧SqL K H l (as.map V.ref)∧as.length=ts.length∧2≤ts.length∧(ts[0]? = some []∨∀t∈ts,t≠[]) ∧
 (∀(i:Nat) a t,as[i]? = some a→ts[i]? = some t→SqT K H a (t.map V.int)) ∧
 ∀(D:Addr) (qs:List Addr) (f:Addr→List Int),H D=none→qs.Perm as→(∀(i:Nat) a t,as[i]? = some a→ts[i]? = some t→f a=t)→(qs.map f).Pairwise (fun a b=>ltL b a=false)→Q (.ref D) (upd H D (.lst (qs.map V.ref)))
theorem qjo{X:Cx}(hu:X.A.in1.in1.units<cLine):qx X (.builtin "sorted") (qkM X.K):=by
 intro pins s σ H xs us Q I r h;obtain⟨l,as,ts,rfl,hl,hlen,h2,h0,ht,q⟩:=h;have tp:∀(i:Nat) a t,as[i]? = some a→ts[i]? = some t→TupAt s.heap (.ref a) t:=fun i a t ha hb=>by
  obtain⟨its,r2,⟨o,e1,e2,n,e3⟩,_⟩:=I.tuple (ht i a t ha hb);exact⟨a,o,its.toArray,n,rfl,e1,e2,e3,by simpa using intsAre_of r2⟩
 let f:Addr→List Int:=fun a=>ts.getD (as.idxOf a) []
 have hf:∀(i:Nat) a t,as[i]? = some a→ts[i]? = some t→f a=t:=fun i a t ha hb=>by
  have hm:a∈as:=List.mem_of_getElem? ha;have hi:=List.idxOf_lt_length_of_mem hm;have e1:as[as.idxOf a]? = some a:=by rw [List.getElem?_eq_getElem hi];simp
  have e2:ts[as.idxOf a]? = some (f a):=by
   have:as.idxOf a<ts.length:=by lia
   simp [f,this]
  exact qeR (tp _ _ _ e1 e2) (tp _ _ _ ha hb)
 match as,hlen with
 | [],hlen=>simp at hlen;lia
 |p::ps,hlen=>
  have hne:ps≠[]:=fun z=>by subst z;simp at hlen;lia
  refine qjV hu pins s σ H _ us Q I r ⟨l,p,ps,f,rfl,hl,hne,?_,fun a ha=>?_,fun D qs hD hp hs=>q D qs f hD hp hf hs⟩
  ·rcases h0 with h0|h0
   ·exact .inl (hf 0 p [] (by simp) h0)
   ·refine .inr fun a ha=>?_
    obtain⟨i,hi,rfl⟩:=List.getElem_of_mem ha;have hi':i<ts.length:=by lia
    rw [hf i (p::ps)[i] ts[i] (by simp) (by simp)];exact h0 _ (List.getElem_mem hi')
  obtain⟨i,hi,rfl⟩:=List.getElem_of_mem ha;have hi':i<ts.length:=by lia
  have e:=ht i (p::ps)[i] ts[i] (by simp) (by simp)
  rwa [←hf i (p::ps)[i] ts[i] (by simp) (by simp)]at e
noncomputable def qqx(K:PySem.W.Frag):List V→Hp→VK→Prop:=fun vs H Q=>∃(l:Addr) (xs:List V),vs=[.ref l]∧SqL K H l xs∧xs.length<2∧∀D,H D=none→Q (.ref D) (upd H D (.lst xs))
theorem qsy{X:Cx}:qx X (.builtin "sorted") (qqx X.K):=by
 intro pins s σ H xs us Q I r h;obtain⟨l,ys,rfl,hl,h2,q⟩:=h;obtain⟨u,rfl,ru⟩:=r.one;cases ru;obtain⟨its,rv,pl,hz⟩:=I.list hl;have hl':=rv.length;refine qjR pl.isList (by lia) ?_;obtain⟨c,hc⟩:=sortedAll_at s.heap its its.toArray;have hD0:s.heap.get? (s.heap.objs.size+1)=none:=Heap.get?_none_of_le (Nat.le_succ _);exact⟨.ref (s.heap.objs.size+1),_,I.newList (s':={s with heap:=sortedAll s.heap its its.toArray}) (c:=c) rfl rfl (fun b o _ e=>sortedAll_old e) (fun m hm=>hm.keeps fun b o e=>sortedAll_old e) hD0 (Nat.ne_of_gt (Nat.lt_succ_of_lt I.lt)) hc rv (by rw [sizeLine_eq];lia),rfl,q _ (I.hok.free_of hD0)⟩
end L2
namespace L2
open PySem PySem.Spec PyProof.Rows
section
variable{X:Cx}
end
section
variable{X:Cx}
end
theorem qhW{its:List Value}{ns:List Int}(hi:IntsAre its ns):∃ps:Array (Int×Tok),its.toArray=intItems ps∧ns=ps.toList.map Prod.fst:=by
 rcases hi.allInts.items with ⟨ps,hx⟩
 refine⟨ps,hx,?_⟩;have z:numsOf its.toArray.toList=ns:=hi.numsOf;rw [hx,nums_intItems]at z;exact z.symm
section
variable{X:Cx}
theorem qkH(hc:X.calm=true):qx X (.builtin "sum") (fun xs H Q=>∃(l:Addr) (ns:List Int),xs=[.ref l]∧SqL X.K H l (ns.map V.int)∧Q (.int ns.sum) H):=by
 intro pins s σ H xs us Q I r h;obtain⟨l,ns,rfl,hl,q⟩:=h;obtain⟨u,rfl,ru⟩:=r.one;cases ru;obtain⟨its,rv,pl,hz⟩:=I.list hl;obtain⟨ps,hx,e1⟩:=qhW (intsAre_of rv);refine sum_intListG (I.ok.hd hc) (hx▸pl.isList) fun h' tk t' hk=>?_
 have e2:preSum (numAt ps) ps.size=ns.sum:=by
  rw [preSum_eq,e1];exact congrArg List.sum (List.take_of_length_le (by simp))
 rw [e2];exact⟨.int _,H,I.kept hk,⟨_,rfl⟩,q⟩
noncomputable def qnf(mx:Bool)(ns:List Int)(n:Int):Prop:=n∈ns∧∀m∈ns,if mx then m≤n else n≤m
theorem qfu(hc:X.calm=true)(mx:Bool):qx X (.builtin (if mx then "max" else "min")) (fun xs H Q=>∃(l:Addr) (ns:List Int),xs=[.ref l]∧SqL X.K H l (ns.map V.int)∧ns≠[]∧∀n,qnf mx ns n→Q (.int n) H):=by
 intro pins s σ H xs us Q I r h;obtain⟨l,ns,rfl,hl,hne,q⟩:=h;obtain⟨u,rfl,ru⟩:=r.one;cases ru;obtain⟨its,rv,pl,hz⟩:=I.list hl;obtain⟨xs,hx,e1⟩:=qhW (intsAre_of rv);have hl':s.heap.IsList l (intItems xs):=by rw [←hx];exact pl.isList
 have hsz:0<xs.size:=by
  cases ns with
  |nil=>exact absurd rfl hne
  |cons a r=>
   have:=congrArg List.length e1;simp at this;lia
 have atN:∀i,i<xs.size→∃h:i<ns.length,numAt xs i=ns[i]:=fun i hi'=>by
  subst e1;refine⟨by simpa using hi',?_⟩;simp [numAt,hi']
 cases mx with
 |true=>
  refine max_intList (I.ok.hd hc) hl' hsz fun v h' tk hv hk=>?_
  obtain⟨t,rfl⟩:=intItems_at hv;refine⟨.int _,H,I.kept hk,⟨_,rfl⟩,q _ ?_⟩;obtain⟨b1,b2⟩:=argBest_gt (numAt xs) (xs.size-1);obtain⟨z1,z2⟩:=atN _ (show argBest (fun i j=>decide (numAt xs i>numAt xs j)) (xs.size-1)<xs.size by lia);refine⟨by rw [z2];exact List.getElem_mem _,fun m hm=>?_⟩;obtain⟨j,hj,rfl⟩:=List.getElem_of_mem hm;have hj':j<xs.size:=by rw [e1]at hj;simpa using hj
  obtain⟨_,y2⟩:=atN j hj';rw [←y2];exact b2 j (by lia)
 |false=>
  refine min_intList (I.ok.hd hc) hl' hsz fun v h' tk hv hk=>?_
  obtain⟨t,rfl⟩:=intItems_at hv;refine⟨.int _,H,I.kept hk,⟨_,rfl⟩,q _ ?_⟩;obtain⟨b1,b2⟩:=argBest_lt (numAt xs) (xs.size-1);obtain⟨z1,z2⟩:=atN _ (show argBest (fun i j=>decide (numAt xs i<numAt xs j)) (xs.size-1)<xs.size by lia);refine⟨by rw [z2];exact List.getElem_mem _,fun m hm=>?_⟩;obtain⟨j,hj,rfl⟩:=List.getElem_of_mem hm;have hj':j<xs.size:=by rw [e1]at hj;simpa using hj
  obtain⟨_,y2⟩:=atN j hj';rw [←y2];exact b2 j (by lia)
end
end L2
namespace EV
open PySem PySem.Spec PySem.P PyProof.Rows L2
theorem qdU(p:Int×Int):∀l,(qdn p l).Perm (p::l)
 | []=>.refl _
 |j::r=>by
  unfold qdn;split
  ·exact((qdU p r).cons j).trans (.swap ..)
  ·exact .refl _
theorem zZ:∀l,(zp l).Perm l
 | []=>.refl _
 |i::r=>(qdU i _).trans ((zZ r).cons i)
theorem qiN{a b:Int×Int}:ltP a b=true↔a.1<b.1∨(a.1=b.1∧a.2<b.2):=by
 unfold ltP;by_cases h:a.1=b.1
 ·simp [h]
 ·simp [h]
theorem qlM{a b:Int×Int}:ltP a b=false↔b.1<a.1∨(a.1=b.1∧b.2≤a.2):=by
 rw [←Bool.not_eq_true,qiN];lia
theorem qew(p:Int×Int):∀{l:List (Int×Int)},l.Pairwise (fun a b=>ltP b a=false)→(qdn p l).Pairwise (fun a b=>ltP b a=false)
 | [],_=>by simp [qdn]
 |j::r,h=>by
  unfold qdn;obtain⟨h1,h2⟩:=List.pairwise_cons.mp h;split
  ·rename_i hij
   rw [qiN]at hij;refine List.pairwise_cons.mpr ⟨fun x hx=>?_,qew p h2⟩;rcases List.mem_cons.mp ((qdU p r).mem_iff.mp hx)with rfl|hx
   ·rw [qlM];lia
   ·exact h1 x hx
  ·rename_i hij
   have hij':ltP j p=false:=by simpa using hij
   refine List.pairwise_cons.mpr ⟨fun x hx=>?_,h⟩;rcases List.mem_cons.mp hx with rfl|hx
   ·exact hij'
   ·have:=h1 x hx;rw [qlM]at this hij' ⊢;lia
theorem qcl:∀l:List (Int×Int),(zp l).Pairwise (fun a b=>ltP b a=false)
 | []=>.nil
 |i::r=>qew i (qcl r)
theorem qik:∀(a b:List Int),qbp a b=TS.ltL a b
 | [],[]=>rfl
 | [],_::_=>rfl
 |_::_,[]=>rfl
 |a::r,b::t=>by
  unfold qbp TS.ltL;rw [qik r t]
theorem qef(p:List Int):∀l,(qck p l).Perm (p::l)
 | []=>.refl _
 |j::r=>by
  unfold qck;split
  ·exact((qef p r).cons j).trans (.swap ..)
  ·exact .refl _
theorem qbt:∀l,(zr l).Perm l
 | []=>.refl _
 |i::r=>(qef i _).trans ((qbt r).cons i)
theorem qex(p:List Int):∀{l:List (List Int)},l.Pairwise (fun a b=>TS.ltL b a=false)→(qck p l).Pairwise (fun a b=>TS.ltL b a=false)
 | [],_=>by simp [qck]
 |j::r,h=>by
  unfold qck;obtain⟨h1,h2⟩:=List.pairwise_cons.mp h;rw [qik];split
  ·rename_i hij
   refine List.pairwise_cons.mpr ⟨fun x hx=>?_,qex p h2⟩;rcases List.mem_cons.mp ((qef p r).mem_iff.mp hx)with rfl|hx
   ·exact TS.qcH hij
   ·exact h1 x hx
  ·rename_i hij
   have hij':TS.ltL j p=false:=by simpa using hij
   refine List.pairwise_cons.mpr ⟨fun x hx=>?_,h⟩;rcases List.mem_cons.mp hx with rfl|hx
   ·exact hij'
   ·exact TS.qde hij' (h1 x hx)
theorem qea:∀l:List (List Int),(zr l).Pairwise (fun a b=>TS.ltL b a=false)
 | []=>.nil
 |i::r=>qex i (qea r)
theorem qmN{l m:List (List Int)}(h1:m.Perm l)(h2:m.Pairwise (fun a b=>TS.ltL b a=false)):m=zr l:=
 (h1.trans (qbt l).symm).eq_of_pairwise (fun a b _ _ z1 z2=>TS.qlR z2 z1) h2 (qea l)
theorem qfI(mx:Bool):∀(i:Int) (r:List Int) (n:Int),qnf mx (i::r) n→n=zm mx i r
 |i,[],n,h=>by
  obtain⟨h1,_⟩:=h
  simpa [zm]using h1
 |i,j::r,n,h=>by
  obtain⟨h1,h2⟩:=h;unfold zm;refine qfI mx _ r n ⟨?_,?_⟩
  ·have hi:=h2 i (by simp);have hj:=h2 j (by simp);rcases List.mem_cons.mp h1 with rfl|h1
   ·cases mx<;>simp at hi hj ⊢ <;> left<;>first|lia|(intro _;lia)
   ·rcases List.mem_cons.mp h1 with rfl|h1
    ·cases mx<;>simp at hi hj ⊢ <;> left<;>first|lia|(intro _;lia)
    ·exact List.mem_cons_of_mem _ h1
  ·intro m hm;rcases List.mem_cons.mp hm with rfl|hm
   ·have hi:=h2 i (by simp);have hj:=h2 j (by simp);cases mx<;>simp at hi hj ⊢ <;> split<;>assumption
   ·exact h2 m (by simp [hm])
section
variable{X:Cx}{g:Gc}
theorem qq.tups{H:Hp}:∀{ds:List D}{vs:List V}{ts:List (List Int)},qq g H ds vs→tups? ds=some ts→ds=ts.map qfG∧∃as:List Addr,vs=as.map V.ref∧as.length=ts.length∧∀(i:Nat) a t,as[i]? = some a→ts[i]? = some t→SqT g.K H a (t.map V.int)∧Rep g H (qfG t) (.ref a)
 | [],_,ts,.nil,e=>by simp [tups?]at e;subst e;exact⟨rfl,[],rfl,rfl,fun i a p h=>by simp at h⟩
 | .tup xs::r,_,ts,.cons h t,e=>by
  simp only [tups?,Option.map_eq_some_iff,Option.bind_eq_some_iff]at e;obtain⟨n,e0,ms,e1,rfl⟩:=e;obtain⟨h1,as,h2,h3,h4⟩:=qq.tups t e1;have hh:=h;cases h with
  | @tup a _ _ q r=>
   obtain⟨rfl,e2⟩:=r.ints e0;refine⟨by rw [h1,e2];rfl,a::as,by rw [h2];rfl,by simp [h3],fun i b p hb hp=>?_⟩;cases i with
   |zero=>simp at hb hp;subst hb hp;exact⟨q,by rw [e2]at hh;exact hh⟩
   |succ i=>exact h4 i b p (by simpa using hb) (by simpa using hp)
theorem qgj:∀{ds:List D}{ps:List (Int×Int)},pairs? ds=some ps→ds=ps.map pairD
 | [],_,h=>by cases h;rfl
 | .tup [.int i,.int j]::r,ps,h=>by
  simp only [pairs?,Option.map_eq_some_iff]at h;obtain⟨qs,h1,rfl⟩:=h;rw [qgj h1];rfl
theorem qjb{H:Hp}:∀{ts:List (List Int)}{as:List Addr},as.length=ts.length→(∀(i:Nat) a t,as[i]? = some a→ts[i]? = some t→Rep g H (qfG t) (.ref a))→qq g H (ts.map qfG) (as.map V.ref)
 | [],[],_,_=>.nil
 |t::ts,a::as,e,h=>.cons (h 0 a t rfl rfl) (qjb (by simpa using e) fun i b u hb hu=>h (i+1) b u (by simpa using hb) (by simpa using hu))
theorem qfw:∀{xs:List D}{ps:List (Int×Int)},pairs? xs=some ps→tups? xs=some (ps.map fun p=>[p.1,p.2])
 | [],_,h=>by cases h;rfl
 | .tup [.int i,.int j]::r,ps,h=>by
  simp only [pairs?,Option.map_eq_some_iff]at h;obtain⟨qs,h1,rfl⟩:=h;show (some [i,j]).bind (fun n=>(tups? r).map (n :: ·))=_;rw [qfw h1];rfl
theorem qfy(p:Int×Int):∀qs:List (Int×Int),qck [p.1,p.2] (qs.map fun p=>[p.1,p.2])=(qdn p qs).map fun p=>[p.1,p.2]
 | []=>rfl
 |q::r=>by
  have e:qbp [q.1,q.2] [p.1,p.2]=ltP q p:=by
   simp only [qbp,ltP];by_cases h:q.1=p.1
   ·rw [if_pos h,if_pos h];by_cases h':q.2=p.2
    ·rw [if_pos h',h'];simp
    ·rw [if_neg h']
   ·rw [if_neg h,if_neg h]
  rw [List.map_cons,qck,qdn,e,qfy p r];cases ltP q p<;>rfl
theorem qez:∀qs:List (Int×Int),zr (qs.map fun p=>[p.1,p.2])=(zp qs).map fun p=>[p.1,p.2]
 | []=>rfl
 |q::r=>by rw [List.map_cons,zr,zp,qez r,qfy]
theorem qiE{xs:List D}{ps:List (Int×Int)}(h:pairs? xs=some ps)(h2:2≤ps.length):qcc xs=.ok (.lst ((zp ps).map pairD)):=by
 rw [qcc,qfw h];have e:qbL (ps.map fun p=>[p.1,p.2])=true:=by
  match ps,h2 with
  |p::q::r,_=>simp [qbL]
 show (if qbL _=true then _ else _)=_;rw [e,if_pos rfl,qez,List.map_map]
 rfl
theorem qlB(hK:X.K=g.K)(hu:X.A.units+64<cLine):qx X (.builtin "sorted") (rB1 g .sorted):=qbH (qsy.or (qjo (show X.A.units+1+1<cLine by lia))) fun S ds d vs H Q hs rs h q=>by
 obtain⟨x,rfl,h'⟩:=qbP (fun _ _=>rfl) h;obtain⟨xs,rfl,h2⟩:=qbK h'
 replace h:=h2
 cases rs with
 |cons r rs=>
  cases rs;obtain⟨a,us,rfl,h1,r1⟩:=r.lst;have big:qcc xs=.ok d→qkM X.K [.ref a] H Q:=fun h=>by
   obtain⟨ts,e,h⟩:=qbV h;split at h
   ·rename_i hh
    cases h;obtain⟨rfl,as,rfl,hl,hp⟩:=r1.tups e;have hh':2≤ts.length∧(ts[0]? = some []∨∀t∈ts,t≠[]):=by
     match ts,hh with
     |p::q::r,hh=>
      refine⟨by simp,?_⟩;rw [qbL,Bool.or_eq_true]at hh;rcases hh with hh|hh
      ·exact .inl (by simpa using hh)
      ·exact .inr fun t ht=>by simpa using List.all_eq_true.mp hh t ht
    refine⟨a,as,ts,rfl,by rw [hK];exact h1,hl,hh'.1,hh'.2,fun i b t hb ht=>by rw [hK];exact qar qad (hp i b t hb ht).1,fun D qs f hn pm hf ps=>?_⟩;have e1:as.map f=ts:=by
     refine List.ext_getElem (by simp [hl]) fun i h1 h2=>?_
     rw [List.getElem_map];have:i<as.length:=by simpa using h1
     exact hf i as[i] ts[i] (by simp [this]) (by simp [h2])
    have e2:qs.map f=zr ts:=qmN (by have:=pm.map f;rwa [e1]at this) ps;have hR:qq g (hid H S) ((zr ts).map qfG) (qs.map V.ref):=by
     rw [←e2];refine qjb (by simp) fun i b t hb ht=>?_
     have hm:b∈as:=pm.mem_iff.mp (List.mem_of_getElem? hb);obtain⟨j,hj,rfl⟩:=List.getElem_of_mem hm;have hj':j<ts.length:=by lia
     have e3:t=ts[j]:=by
      have e4:=hf j as[j] ts[j] (by simp [hj]) (by simp [hj']);rw [List.getElem?_map,hb]at ht;simp at ht;rw [←ht,e4]
     rw [e3];exact(hp j as[j] ts[j] (by simp [hj]) (by simp [hj'])).2
    exact q _ _ (za hn) (qbm hs hn hR) fun _=>qcC (qf.refl _) hn hR
   ·cases h
  by_cases hz:xs.length<64
  ·rw [if_pos hz]at h
   all_goals
    cases e2:pairs? xs with
    |none=>rw [e2]at h;exact .inr (big h)
    |some ps=>
     rw [e2]at h;cases h;by_cases h2:2≤ps.length
     ·exact .inr (big (qiE e2 h2))
     ·have e3:zp ps=ps:=by
       match ps,h2 with
       | [],_=>rfl
       | [_],_=>rfl
       |_::_::r,h=>exact absurd (show 2≤r.length+1+1 by lia) h
      have e4:=qgj e2;have hl:=r1.length;rw [e4,List.length_map]at hl;rw [e4]at r1;refine .inl ⟨a,us,rfl,by rw [hK];exact h1,by lia,fun p hn=>?_⟩;rw [e3]at q;exact q _ _ (za hn) (qbm hs hn r1) fun _=>qcC (qf.refl _) hn r1
  ·rw [if_neg hz]at h;exact .inr (big h)
theorem qgE(hK:X.K=g.K)(hc:X.calm=true)(mx:Bool):qx X (.builtin (if mx then "max" else "min")) (rB1 g (if mx then .max else .min)):=by
 have two:∀{S:Sh}{H:Hp}{x y:D}{vs:List V}{i j:Int},x=.int i→y=.int j→qcn g H S [x,y] vs→vs=[.int i,.int j]:=by
  intro S H x y vs i j hx hy rs;subst hx hy;cases rs with
  |cons r1 rs=>
   cases rs with
   |cons r2 rs=>cases rs;rw [r1.int,r2.int]
 have one:∀{S:Sh}{H:Hp}{x d:D}{vs:List V},qcn g H S [x] vs→(qab x fun xs=>qai (ints? xs) fun ns=>qfb mx ns)=.ok d→∃(l:Addr) (ns:List Int),vs=[.ref l]∧SqL X.K H l (ns.map V.int)∧ns≠[]∧∀n,qnf mx ns n→d=.int n:=by
  intro S H x d vs rs hA;obtain⟨xs,rfl,hB⟩:=qbK hA;obtain⟨ns,e,hC⟩:=qbV hB;clear hA hB;have h:qfb mx ns=.ok d:=hC;clear hC;cases rs with
  |cons r rs=>
   cases rs;obtain⟨a,us,rfl,h1,r1⟩:=r.lst;obtain⟨rfl,rfl⟩:=r1.ints e
   match ns,h with
   |i::r,h=>
    cases h;exact⟨a,i::r,rfl,by rw [hK];exact h1,by simp,fun n hb=>by rw [qfI _ _ _ _ hb]⟩
 have inv:∀{b:B1}{ds:List D}{d:D},b1 b ds=.ok d→(∃x,ds=[x]∧b11 b x=.ok d)∨∃x y,ds=[x,y]∧b12 b x y=.ok d:=by
  intro b ds d h
  match ds,h with
  | [x],h=>exact .inl ⟨x,rfl,h⟩
  | [x,y],h=>exact .inr ⟨x,y,rfl,h⟩
  | [],h=>cases h
  |_::_::_::_,h=>cases h
 cases mx
 ·exact qbH ((qkJ hc).or (qfu hc false)) fun S ds d vs H Q hs rs h q=>by
   rcases inv h with ⟨x,rfl,h'⟩|⟨x,y,rfl,h'⟩
   ·obtain⟨l,ns,e1,e2,e3,e4⟩:=one rs h';exact .inr ⟨l,ns,e1,e2,e3,fun n hb=>q _ _ (qf.refl _) (by rw [e4 n hb];exact .int _) (by simp)⟩
   ·obtain⟨i,j,hx,hy,h'⟩:=qjh h';cases h';exact .inl ⟨i,j,two hx hy rs,q _ _ (qf.refl _) (.int _) (by simp)⟩
 ·exact qbH ((qlm hc).or (qfu hc true)) fun S ds d vs H Q hs rs h q=>by
   rcases inv h with ⟨x,rfl,h'⟩|⟨x,y,rfl,h'⟩
   ·obtain⟨l,ns,e1,e2,e3,e4⟩:=one rs h';exact .inr ⟨l,ns,e1,e2,e3,fun n hb=>q _ _ (qf.refl _) (by rw [e4 n hb];exact .int _) (by simp)⟩
   ·obtain⟨i,j,hx,hy,h'⟩:=qjh h';cases h';exact .inl ⟨i,j,two hx hy rs,q _ _ (qf.refl _) (.int _) (by simp)⟩
theorem qfz{S:Sh}{H:Hp}{vs:List V}{i:Int}(rs:qcn g H S [.int i] vs):vs=[.int i]:=by
 cases rs with
 |cons r1 rs=>cases rs;rw [r1.int]
theorem qkK{S:Sh}{H:Hp}{vs:List V}{i:Bool}(rs:qcn g H S [.bl i] vs):vs=[.bl i]:=by
 cases rs with
 |cons r1 rs=>cases rs;rw [r1.bl]
theorem qqS:qx X (.builtin "abs") (rB1 g .abs):=qbH qnm fun S ds d vs H Q hs rs h q=>by
 obtain⟨x,rfl,h'⟩:=qbP (fun _ _=>rfl) h;rcases qfZ h' with ⟨i,rfl,h'⟩|⟨i,rfl,h'⟩
 ·cases h';exact⟨i,qfz rs,q _ _ (qf.refl _) (.int _) (by simp)⟩
 ·cases h'
theorem qqP:qx X (.type "int") (rB1 g .int):=qbH qkE fun S ds d vs H Q hs rs h q=>by
 obtain⟨x,rfl,h'⟩:=qbP (fun _ _=>rfl) h;rcases qfZ h' with ⟨i,rfl,h'⟩|⟨i,rfl,h'⟩
 ·cases h';exact .inl ⟨i,qfz rs,q _ _ (qf.refl _) (.int _) (by simp)⟩
 ·cases h';exact .inr ⟨i,qkK rs,q _ _ (qf.refl _) (.int _) (by simp)⟩
theorem qpC:qx X (.type "bool") (rB1 g .bool):=qbH qkv fun S ds d vs H Q hs rs h q=>by
 obtain⟨x,rfl,h'⟩:=qbP (fun _ _=>rfl) h;rcases qfZ h' with ⟨i,rfl,h'⟩|⟨i,rfl,h'⟩
 ·cases h';exact .inl ⟨i,qfz rs,q _ _ (qf.refl _) (.bl _) (by simp)⟩
 ·cases h';exact .inr ⟨i,qkK rs,q _ _ (qf.refl _) (.bl _) (by simp)⟩
theorem qrG(hK:X.K=g.K)(hc:X.calm=true):qx X (.builtin "sum") (rB1 g .sum):=qbH (qkH hc) fun S ds d vs H Q hs rs h q=>by
 obtain⟨x,rfl,h'⟩:=qbP (fun _ _=>rfl) h;obtain⟨xs,rfl,h'⟩:=qbK h';obtain⟨ns,e,h'⟩:=qbV h';cases h';cases rs with
 |cons r rs=>
  cases rs;obtain⟨a,us,rfl,h1,r1⟩:=r.lst;obtain⟨rfl,rfl⟩:=r1.ints e;exact⟨a,ns,rfl,by rw [hK];exact h1,q _ _ (qf.refl _) (.int _) (by simp)⟩
theorem qlQ(hK:X.K=g.K)(hu:X.A.units+64<cLine):∀b,(X.calm=true∨b=.len∨b=.abs∨b=.tuple∨b=.list∨b=.int∨b=.bool)→qx X (b1V b) (rB1 g b)
 | .len,_=>qre hK
 | .tuple,_=>qnB hK
 | .list,_=>qoZ hK
 | .sorted,_=>qlB hK hu
 | .all,h=>qgu hK (by simpa using h) true
 | .any,h=>qgu hK (by simpa using h) false
 | .sum,h=>qrG hK (by simpa using h)
 | .min,h=>qgE hK (by simpa using h) false
 | .max,h=>qgE hK (by simpa using h) true
 | .abs,_=>qqS
 | .int,_=>qqP
 | .bool,_=>qpC
theorem qec{H:Hp}{ds:List D}{vs:List V}(r:qq g H ds vs):ds.isEmpty=vs.isEmpty:=by cases r<;>rfl
theorem qon(hK:X.K=g.K){S:Sh}{H:Hp}{d:D}{v:V}{b:Bool}(r:zu g H S d v)(e:truth d=.ok b):qnA X.K v H b:=by
 cases d with
 |non=>cases r.rep;cases e;exact rfl
 |bl c=>cases r.rep;cases e;exact rfl
 |int i=>cases r.rep;cases e;exact rfl
 |tup xs=>
  cases e;obtain⟨a,vs,rfl,h1,r1⟩:=r.tup;exact .inr (.inl ⟨vs,by rw [hK];exact h1,by rw [qec r1]⟩)
 |lst xs=>
  cases e;obtain⟨a,vs,rfl,h1,r1⟩:=r.lst;exact .inl ⟨vs,by rw [hK];exact h1,by rw [qec r1]⟩
 |_=>cases e
theorem qrm(hK:X.K=g.K):qx X (.builtin "isinstance") (fun xs H Q=>∃S d v n t,xs=[v,.ty n]∧zu g H S d v∧tyD d=some t∧n∈["int","bool","str","list","tuple"]∧Q (.bl (qeG t n)) H):=by
 intro pins s σ H xs us Q I r h;obtain⟨S,d,v,n,t,rfl,rd,ht,hn,q⟩:=h;obtain⟨u,cu,rfl,rx,rc⟩:=r.two;cases rc;have fin:∀tk,EP X pins σ Q (.bool (qeG t n)) {s with toks:=tk}:=fun tk=>⟨.bl _,H,I.tok tk,rfl,q⟩
 have kb:t∈["NoneType","bool","int","str","list","tuple","dict"]→PySem.W.kitOne X.K (.type t) (.type n)=some (qeG t n):=fun h=>qrD h hn
 cases d with
 |non=>cases ht;cases rd.rep;exact qbj I rx .non (kb (by simp)) fin
 |bl c=>cases ht;cases rd.rep;exact qbj I rx (.bl c) (kb (by simp)) fin
 |int i=>cases ht;cases rd.rep;exact qbj I rx (.int i) (kb (by simp)) fin
 |str i=>cases ht;cases rd.rep;exact qbj I rx (.str i) (kb (by simp)) fin
 |tup xs=>
  cases ht;obtain⟨a,vs,rfl,h1,_⟩:=rd.tup;cases rx;obtain⟨its,_,⟨o,e1,e2,_⟩,_⟩:=I.tuple (by rw [hK];exact h1);exact PySem.W.kia_one PySem.W.kitx_tuple I.kIn ⟨o,e1,e2⟩ (kb (by simp)) (fun z=>nomatch z) fin
 |lst xs=>
  cases ht;obtain⟨a,vs,rfl,h1,_⟩:=rd.lst;cases rx;obtain⟨its,_,pl,_⟩:=I.list (by rw [hK];exact h1);obtain⟨o,e1,e2,_⟩:=pl.isList;exact PySem.W.kia_one PySem.W.kitx_list I.kIn ⟨o,e1,e2⟩ (kb (by simp)) (fun z=>nomatch z) fin
 |dic=>
  cases ht;cases rd.rep with
  |dic h1=>exact qbj I rx (.dK h1) (kb (by simp)) fin
 |_=>cases ht
end
theorem qqt{o:O2}{a b:Int}{c:Str}:opI o a b≠.ex c:=by
 cases o<;>simp only [opI]<;>(try split)<;>intro h<;>cases h
theorem qqD{o:O2}{a b:D}{c:Str}:op2 o a b≠.ex c:=by
 unfold op2;split
 ·exact qqt
 all_goals ((try split)<;>intro h<;>cases h)
theorem qpV{n:Bool}{a b:D}{c:Str}:isB n a b≠.ex c:=by
 unfold isB;split<;>intro h<;>cases h
theorem qpw{o:C2}{a b:D}{c:Str}:qg o a b≠.ex c:=by
 unfold qg;split<;>(try split)<;>(try split)<;>intro h<;>first|cases h|exact qpV h
theorem qns{a:D}{c:Str}:truth a≠.ex c:=by
 unfold truth;split<;>intro h<;>cases h
theorem qro{a b:D}{c:Str}:ixD a b≠.ex c:=by
 unfold ixD;split<;>(try split)<;>intro h<;>cases h
theorem qsr{a:D}{l h:Option Int}{c:Str}:slD a l h≠.ex c:=by
 unfold slD;split<;>(try split)<;>intro h<;>cases h
theorem qbM{x:D}{k:List D→R D}{c:Str}(h:∀xs,k xs≠.ex c):qab x k≠.ex c:=by
 cases x with
 |lst xs=>exact h xs
 |_=>intro z;cases z
theorem qhL{x:D}{f:Int→R D}{q:Bool→R D}{c:Str}(h:∀i,f i≠.ex c)(h':∀i,q i≠.ex c):ibR x f q≠.ex c:=by
 cases x with
 |int i=>exact h i
 |bl i=>exact h' i
 |_=>intro z;cases z
theorem qlc{x y:D}{k:Int→Int→R D}{c:Str}(h:∀i j,k i j≠.ex c):iiR x y k≠.ex c:=by
 cases x with
 |int i=>
  cases y with
  |int j=>exact h i j
  |_=>intro z;cases z
 |_=>intro z;cases z
theorem qaC{α β:Type}{o:Option α}{k:α→R β}{c:Str}(h:∀a,k a≠.ex c):qai o k≠.ex c:=by
 cases o with
 |some a=>exact h a
 |none=>intro z;cases z
theorem zW{α:Type}{a:α}{c:Str}:R.ok a≠.ex c:=by intro z;cases z
theorem qcp{α:Type}{c:Str}:(R.no:R α)≠.ex c:=by intro z;cases z
theorem qhx{xs:List D}{c:Str}:qcc xs≠.ex c:=qaC fun _=>by
 split
 ·exact zW
 ·exact qcp
theorem qhS{mx:Bool}{ns:List Int}{c:Str}:qfb mx ns≠.ex c:=by
 cases ns
 ·exact qcp
 ·exact zW
theorem qqI{b:B1}{d:D}{c:Str}:b11 b d≠.ex c:=by
 cases b with
 |len=>exact qaC fun _=>zW
 |tuple=>exact qaC fun _=>zW
 |list=>exact qaC fun _=>zW
 |all=>exact qbM fun _=>qaC fun _=>zW
 |any=>exact qbM fun _=>qaC fun _=>zW
 |sorted=>
  refine qbM fun _=>?_
  split
  ·split
   ·exact zW
   ·exact qhx
  ·exact qhx
 |abs=>exact qhL (fun _=>zW) fun _=>qcp
 |int=>exact qhL (fun _=>zW) fun _=>zW
 |bool=>exact qhL (fun _=>zW) fun _=>zW
 |sum=>exact qbM fun _=>qaC fun _=>zW
 |min=>exact qbM fun _=>qaC fun _=>qhS
 |max=>exact qbM fun _=>qaC fun _=>qhS
theorem qtc{b:B1}{ds:List D}{c:Str}:b1 b ds≠.ex c:=by
 match ds with
 | []=>exact qcp
 | [_]=>exact qqI
 | [x,y]=>
  cases b with
  |min=>exact qlc fun _ _=>zW
  |max=>exact qlc fun _ _=>zW
  |_=>exact qcp
 |_::_::_::_=>exact qcp
structure qcD(g:Gc)(c:Cc)(e:E)(S:Sh)(H:Hp)(d:D)(v:V)(H':Hp):Prop where
 same:qf H H'
 rb:zu g H' S d v
 st:esc e=true→Rep g (hid H' S) d v
 fr:fresh c e=true→Fr g H S H' d v
structure SE(g:Gc)(c:Cc)(τ:Env)(σ:L2.St)(H:Hp)(S:Sh):Prop where
 len:τ.length=σ.length
 val:∀(i:Nat) (d:D),τ[i]? = some (some d)→∃v,σ[i]? = some (some v)∧zu g H S d v∧∀x,c.N[i]? = some x→c.own.contains x=false→Rep g (hid H S) d v
 sub:Sub S H
theorem SE.up{g:Gc}{c:Cc}{τ:Env}{σ:L2.St}{H H':Hp}{S:Sh}(s:SE g c τ σ H S)(e:qf H H'):SE g c τ σ H' S:=
 ⟨s.len,fun i d h=>let ⟨v,h1,h2,h3⟩:=s.val i d h;⟨v,h1,h2.mono e,fun x a b=>(h3 x a b).mono (qr e)⟩,s.sub.same e⟩
noncomputable def tR{α:Type}(g:Gc)(E:XK)(H:Hp)(r:R α)(k:α→Prop):Prop:=match r with
 | .ok a=>k a
 | .ex c=>∀H' C,qf H H'→g.clA c=some C→E (.ref C) none H'
 | .no=>False
theorem tR.up{α:Type}{g:Gc}{E:XK}{H H':Hp}{r:R α}{k:α→Prop}(h:tR g E H r k)(e:qf H H'):tR g E H' r k:=by
 cases r with
 |ok a=>exact h
 |ex c=>exact fun H2 C e2 hc=>h H2 C (e.trans e2) hc
 |no=>exact h
theorem tR.imp{α:Type}{g:Gc}{E:XK}{H:Hp}{r:R α}{k k':α→Prop}(h:tR g E H r k)(i:∀a,k a→k' a):tR g E H r k':=by
 cases r with
 |ok a=>exact i a h
 |ex c=>exact h
 |no=>exact h
section
variable(w:W)(g:Gc)(c:Cc)(E:XK)
noncomputable def tE(e:EV.E):TE:=fun σ H Q=>∃τ S,SE g c τ σ H S∧tR g E H (evE w e τ) fun d=>∀v H',qcD g c e S H d v H'→Q v H'
noncomputable def tT(t:T):TT:=fun σ H Q=>∃τ S,SE g c τ σ H S∧tR g E H (evT w t τ) fun b=>∀H',qf H H'→Q b H'
noncomputable def tA(es:Es):TA:=fun σ H Q=>∃τ S,SE g c τ σ H S∧tR g E H (qC w es τ) fun ds=>∀vs H',qf H H'→qcn g H' S ds vs→(qcU es=true→qq g (hid H' S) ds vs)→Q vs H'
noncomputable def tOe(o:OE):TO:=fun σ H Q=>∃τ S,SE g c τ σ H S∧tR g E H (evO w o τ) fun i=>∀H',qf H H'→Q i H'
noncomputable def Goes(g:Gc)(J:L2.It)(ds:List D)(H:Hp)(S:Sh):Prop:=
 (∀i,ds.length≤i→J.stop i H)∧∀i d,ds[i]? = some d→J.go i H∧∀x H',J.yld i H x H'→qf H H'∧Rep g (hid H' S) d x
noncomputable def tIt(it:It):TI:=fun σ H R=>∃τ S,SE g c τ σ H S∧tR g E H (evI w it τ) fun ds=>∀J H',qf H H' →
 (∀H2 S2,qf H' H2→qf (hid H' S) (hid H2 S2)→Sub S2 H2→Goes g J ds H2 S2)→(owned it=false→∀H2 S2,qf (hid H' S) (hid H2 S2)→Sub S2 H2→Goes g J ds H2 S2)→R J H'
end
theorem PE.imp{X:Cx}{e:Expr}{t t':TE}(h:PE X e t)(i:∀σ H Q,t' σ H Q→t σ H Q):PE X e t':=fun pins s σ H Q I q=>h pins s σ H Q I (i _ _ _ q)
theorem PT.imp{X:Cx}{e:Expr}{t t':TT}(h:PT X e t)(i:∀σ H Q,t' σ H Q→t σ H Q):PT X e t':=fun pins s σ H Q I q=>h pins s σ H Q I (i _ _ _ q)
theorem PW.imp{X:Cx}{e:Expr}{t t':TT}(h:PW X e t)(i:∀σ H Q,t' σ H Q→t σ H Q):PW X e t':=fun wh pins s σ H Q I q=>h wh pins s σ H Q I (i _ _ _ q)
theorem PA.imp{X:Cx}{e:List Expr}{t t':TA}(h:PA X e t)(i:∀σ H Q,t' σ H Q→t σ H Q):PA X e t':=fun pos pins s σ H Q I q=>h pos pins s σ H Q I (i _ _ _ q)
theorem PO.imp{X:Cx}{e:Option Expr}{t t':TO}(h:PO X e t)(i:∀σ H Q,t' σ H Q→t σ H Q):PO X e t':=fun pins s σ H Q I q=>h pins s σ H Q I (i _ _ _ q)
theorem PI.imp{X:Cx}{tg e:Expr}{t t':TI}(h:PI X tg e t)(i:∀σ H Q,t' σ H Q→t σ H Q):PI X tg e t':=fun pins s σ H Q I q=>h pins s σ H Q I (i _ _ _ q)
theorem PS.imp{X:Cx}{e:Stmt}{t t':TS}(h:PS X e t)(i:∀D σ H,t' D σ H→t D σ H):PS X e t':=fun pins s σ H Q I q=>h pins s σ H Q I (i _ _ _ q)
theorem PSs.imp{X:Cx}{e:List Stmt}{t t':TS}(h:PSs X e t)(i:∀D σ H,t' D σ H→t D σ H):PSs X e t':=fun pins s σ H Q I q=>h pins s σ H Q I (i _ _ _ q)
section
variable{w:W}{g:Gc}{c:Cc}{E:XK}{τ:Env}{σ:L2.St}{H H0:Hp}{S:Sh}
theorem zk{α:Type}{e:EV.E}{f:D→R α}{P:α→Prop}{Q:VK}(se:SE g c τ σ H S)(h:tR g E H ((evE w e τ).bind f) P)(k:∀d v H',evE w e τ=.ok d→qcD g c e S H d v H'→tR g E H' (f d) P→Q v H'):tE w g c E e σ H Q:=by
 refine⟨τ,S,se,?_⟩;cases q:evE w e τ with
 |ok d=>rw [q]at h;exact fun v H' p=>k d v H' q p (tR.up h p.same)
 |ex x=>rw [q]at h;exact h
 |no=>rw [q]at h;exact h
theorem qks{α:Type}{t:T}{f:Bool→R α}{P:α→Prop}{Q:Bool→Hp→Prop}(se:SE g c τ σ H S)(h:tR g E H ((evT w t τ).bind f) P)(k:∀b H',evT w t τ=.ok b→qf H H'→tR g E H' (f b) P→Q b H'):tT w g c E t σ H Q:=by
 refine⟨τ,S,se,?_⟩;cases q:evT w t τ with
 |ok d=>rw [q]at h;exact fun H' p=>k d H' q p (tR.up h p)
 |ex x=>rw [q]at h;exact h
 |no=>rw [q]at h;exact h
theorem qfW{α:Type}{es:Es}{f:List D→R α}{P:α→Prop}{Q:List V→Hp→Prop}(se:SE g c τ σ H S)(h:tR g E H ((qC w es τ).bind f) P)
  (k:∀ds vs H',qC w es τ=.ok ds→qf H H'→qcn g H' S ds vs→(qcU es=true→qq g (hid H' S) ds vs)→tR g E H' (f ds) P→Q vs H'):tA w g c E es σ H Q:=by
 refine⟨τ,S,se,?_⟩;cases q:qC w es τ with
 |ok d=>rw [q]at h;exact fun vs H' p r r'=>k d vs H' q p r r' (tR.up h p)
 |ex x=>rw [q]at h;exact h
 |no=>rw [q]at h;exact h
theorem qrC{α:Type}{o:OE}{f:Option Int→R α}{P:α→Prop}{Q:Option Int→Hp→Prop}(se:SE g c τ σ H S)(h:tR g E H ((evO w o τ).bind f) P)(k:∀b H',evO w o τ=.ok b→qf H H'→tR g E H' (f b) P→Q b H'):tOe w g c E o σ H Q:=by
 refine⟨τ,S,se,?_⟩;cases q:evO w o τ with
 |ok d=>rw [q]at h;exact fun H' p=>k d H' q p (tR.up h p)
 |ex x=>rw [q]at h;exact h
 |no=>rw [q]at h;exact h
theorem qcD.of{e:EV.E}{d:D}{v:V}{H':Hp}(s:qf H H')(r:Rep g (hid H' S) d v)(f:fresh c e=false):qcD g c e S H d v H':=⟨s,.inl r,fun _=>r,fun z=>by rw [f]at z;cases z⟩
theorem qcD.new{e:EV.E}{d:D}{v:V}{H':Hp}(s:qf H H')(r:Rep g (hid H' S) d v)(f:Fr g H S H' d v):qcD g c e S H d v H':=⟨s,.inl r,fun _=>r,fun _=>f⟩
theorem Fr.low{d:D}{v:V}{H1 H':Hp}(f:Fr g H1 S H' d v)(e:qf H H1):Fr g H S H' d v:=by
 obtain⟨a,vs,ds,h1,h2,h3,h4,h5⟩:=f;exact⟨a,vs,ds,h1,h2,e.free h3,h4,h5⟩
end
noncomputable def b1N:B1→Str
 | .len=>"len"
 | .tuple=>"tuple"
 | .list=>"list"
 | .sorted=>"sorted"
 | .all=>"all"
 | .any=>"any"
 | .sum=>"sum"
 | .min=>"min"
 | .max=>"max"
 | .abs=>"abs"
 | .int=>"int"
 | .bool=>"bool"
theorem qfM:∀b,bootBuiltins (b1N b)=some (b1V b)
 | .len | .tuple | .list | .sorted | .all | .any | .sum | .min | .max | .abs | .int | .bool=>by decide +kernel
noncomputable def spF(w:W)(g:Gc)(x:Str)(fr:Bool):Sp:=fun vs H Q E=>∃S ds,Sub S H∧qq g (hid H S) ds vs ∧
 tR g E H (w.call x ds) fun d=>∀v H',qf H H'→Rep g (hid H' S) d v→(fr=true→Fr g H S H' d v)→Q v H'
structure qfh(w:W)(g:Gc)(P:Program)(wl:World)(mg:Str→Option Value)(base:Heap)(A:Around)(calm:Bool)(x:Str)(f:Addr)(fr:Bool):Prop where
 at_:mg x=some (.ref f)
 kp:PySem.W.keepIn g.K (.ref f)=true
 fn:∃k fd ps,Binds g.K fd ps []∧((calm=true∧qdZ P wl g.K mg base (CX1 P wl) k f fd ps (spF w g x fr)∧qbB k A)∨(calm=false∧qjq P wl g.K mg base (CX1 P wl) k f fd ps (spF w g x fr)∧qeT k A))
noncomputable def GM(w:W)(g:Gc)(P:Program)(wl:World)(mg:Str→Option Value)(base:Heap)(A:Around)(calm:Bool)(x:Str):GK→Prop
 | .fn fr=>∃f,g.fnA x=some f∧qfh w g P wl mg base A calm x f fr
 | .val=>∃u v d,mg x=some u∧RelV v u∧w.glb x=some d∧∀H,Rep g H d v
 | .bi b=>mg x=none∧x=b1N b∧∃id,b1V b=.builtin id
 | .rng=>mg x=none∧x = "range"
 | .enum=>mg x=none∧x = "enumerate"
 | .zip=>mg x=none∧x = "zip"
 | .isi=>mg x=none∧x = "isinstance"
 | .ty n b=>mg x=none∧bootBuiltins x=some (.type n)∧(n∈["int","bool","str","list","tuple"]∨n = "ValueError")∧∀b',b=some b'→x=b1N b'∧b1V b'=.type n
 | .exc=>∃C,mg x=some (.ref C)∧g.clA x=some C
 | .exk=>∃C,mg x=some (.ref C)∧g.clA x=some C
structure XO(w:W)(g:Gc)(c:Cc)(E:XK)(X:Cx):Prop where
 K:X.K=g.K
 nm:X.env.scope.names=c.nm
 N:X.N=c.N
 nd:c.N.Nodup
 calm:c.calm=true→X.calm=true
 units:X.A.units+64<cLine
 fn:∀x,(c.fnc=true∨c.oc.contains x=true)→X.fn x=true
 kind:X.env.scope.kind=.function
 pass:Passes (CX1 X.prog X.w) X E
 gok:∀x k,c.G.lookup x=some k→GM w g X.prog X.w X.mg X.base X.A X.calm x k
 fns:X.calm=true→∀x f,g.fnA x=some f→∃fr,qfh w g X.prog X.w X.mg X.base X.A X.calm x f fr
 -- what isinstance says of a caught error
 sub:∀k cl b,w.sub k cl=some b→∃C cv,g.clA k=some C∧qaL g.K C∧PySem.W.kitOne g.K (.ref C) cv=some b∧match cl with
  | .ty n=>n = "ValueError"∧cv=.type n
  | .ex x=>∃D,g.clA x=some D∧cv=.ref D
section
variable{w:W}{g:Gc}{c:Cc}{E:XK}{X:Cx}
theorem zK{x:Str}{i:Nat}(h:loc c x=some i):c.N[i]? = some x∧(c.nm.lookup x=some .local∨c.nm.lookup x=some .cell∨c.nm.lookup x=some .free)∧(x==("__debug__" : Str))=false∧(x==("__classdict__" : Str))=false:=by
 unfold loc at h;split at h
 ·cases h
 ·rename_i hd
  have hd':(x==("__debug__" : Str))=false∧(x==("__classdict__" : Str))=false:=by simpa using hd
  have fin:∀{j},(if c.N[j]? = some x then some j else none)=some i→c.N[i]? = some x:=fun {j} z=>by
   split at z
   ·cases z;assumption
   ·cases z
  split at h
  ·rename_i q;exact⟨fin h,.inl q,hd'⟩
  ·rename_i q;exact⟨fin h,.inr (.inl q),hd'⟩
  ·rename_i q;exact⟨fin h,.inr (.inr q),hd'⟩
  ·cases h
theorem qE{x:Str}{k:GK}(h:glob c x=some k):c.nm.lookup x=some .globalImplicit∧c.G.lookup x=some k∧(x==("__debug__" : Str))=false∧x≠"__name__":=by
 unfold glob at h;split at h
 ·cases h
 ·rename_i hd
  have hd':(x==("__debug__" : Str))=false∧(x==("__name__" : Str))=false:=by simpa using hd
  split at h
  ·rename_i q;exact⟨q,h,hd'.1,by simpa using hd'.2⟩
  ·cases h
theorem XO.gl(O:XO w g c E X){x:Str}{k:GK}(h:glob c x=some k):Gl X x:=by
 show X.env.scope.names.lookup x=_;rw [O.nm];exact(qE h).1
theorem XO.gm(O:XO w g c E X){x:Str}{k:GK}(h:glob c x=some k):GM w g X.prog X.w X.mg X.base X.A X.calm x k:=O.gok x k (qE h).2.1
theorem qt{e:Expr}{es:List Expr}{env:PySem.Env}(h:isStar e=false):starEach (e::es) env=(false,eval e env)::starEach es env:=by
 cases e<;>first|rfl|(simp [isStar]at h)
theorem qhj{es:List Expr}{env:PySem.Env}{pos:Pos}:(∀e∈es,isStar e=false)→(backTo pos (starEach es env)).any (·.1)=false:=by
 induction es with
 |nil=>intro _;rfl
 |cons e es ih=>
  intro h;rw [qt (h e List.mem_cons_self)];show (false||(backTo pos (starEach es env)).any (·.1))=false;rw [ih fun e he=>h e (List.mem_cons_of_mem _ he)]
  rfl
theorem qbi:∀{n:Nat}{es:List Expr}{ir:Es},cEs n c es=some ir→∀e∈es,isStar e=false
 | 0,_,_,h=>by simp [cEs]at h
 |n+1,[],_,_=>by simp
 |n+1,e::es,ir,h=>by
  simp only [cEs]at h;cases hs:isStar e with
  |true=>simp [hs]at h
  |false=>
   simp only [hs,Bool.false_eq_true,if_false,Option.bind_eq_bind,Option.bind_eq_some_iff]at h;obtain⟨_,_,r,hr,_⟩:=h;intro x hx;rcases List.mem_cons.mp hx with rfl|hx
   ·exact hs
   ·exact qbi hr x hx
theorem qnz{x:Str}{f:Addr}{fr:Bool}{e:Expr}{es:List Expr}{p pos:Pos}{t:TA}(O:XO w g c E X)(C:qfh w g X.prog X.w X.mg X.base X.A X.calm x f fr)(hg:Gl X x)(hd:(x==("__debug__" : Str))=false)(ha:PA X (e::es) t)
  (hs:∀z∈e::es,isStar z=false):PE X (.Call (.Name x p) (e::es) [] pos) (qjT (spF w g x fr) [] E t):=by
 obtain⟨k,fd,ps,hb,h⟩:=C.fn;have he:=qt (es:=es) (env:=X.env) (hs e List.mem_cons_self);have hp:=qhj (env:=X.env) (pos:=pos) fun z hz=>hs z (List.mem_cons_of_mem _ hz)
 rw [←O.K]at hb h;rcases h with ⟨_,F,r⟩|⟨_,F,r⟩
 ·exact qpD F r hg C.at_ (by rw [O.K];exact C.kp) hb .nil O.pass ha hd he hp
 ·exact qnG F r hg C.at_ (by rw [O.K];exact C.kp) hb .nil O.pass ha hd he hp
end
end EV
namespace L2
open PySem PySem.Spec PyProof.Rows
theorem Inv.nsKept{X:Cx}{pins:List (Addr×Obj)}{σ:St}{H:Hp}{s s':Shared}(I:Inv X pins σ H s)(hos:s'.os=s.os)(hg:s'.gens=s.gens)
  (k:∀b o,b≠X.env.locals→s.heap.get? b=some o→s'.heap.get? b=some o) (ns:∀m,s.heap.Ns X.env.locals m→s'.heap.Ns X.env.locals m):Inv X pins σ H s':=by
 obtain⟨h',g',d',t',o'⟩:=s';have eo:o'=s.os:=hos;have eg:g'=s.gens:=hg;subst eo eg;obtain⟨m0,n0,_⟩:=id I.loc;obtain⟨oL',es',ep',hoL',_⟩:=ns _ n0;refine I.step (g':=s.gens) (d':=d') (ch:=[]) (fun b hb=>absurd hb (by simp)) (fun b o hL _ _ e _=>k b o hL e) (fun b o hL _ _ e _=>⟨o.slots,k b o hL e⟩) (fun b o _ e n=>n) (fun b o _ e=>?_)
  (fun b xs e=>e) (fun b o u e=>e) (fun b ps e=>⟨#[],by rw [e];simp⟩) ns (fun b u e=>?_) I.bare
 ·by_cases hL:b=X.env.locals
  ·exact⟨oL',by rw [hL];exact hoL'⟩
  ·exact⟨o,k b o hL e⟩
 ·have nl:∀c,(∃u,H c=some u)→c≠X.env.locals:=fun c ⟨u,e⟩ z=>by rw [z,I.free]at e;cases e
  refine(I.hok b u e).stay (fun c v hc q=>k c v (nl c ?_) q) (fun c q=>q) fun c xs q=>q
  rcases hc with z|z
  ·exact⟨u,by rw [z];exact e⟩
  ·exact⟨_,z⟩
section
variable{X:Cx}
noncomputable def qlE(mx:Bool)(ns:List Int)(i:Nat):Prop:=∀(n:Int),ns[i]? = some n→∀(j:Nat) (m:Int),ns[j]? = some m→if mx then m≤n∧(j<i→m<n)else n≤m∧(j<i→n<m)
theorem qmp(hc:X.calm=true)(mx:Bool){pins:List (Addr×Obj)}{s:Shared}{σ:St}{H:Hp}{Q:VK}(I:Inv X pins σ H s){l:Addr}{ps:List Addr}{ns:List Int}(hl:SqL X.K H l (ps.map V.ref))(hn:ns.length=ps.length)(h0:ps≠[])
  (hp:∀(i:Nat) p n,ps[i]? = some p→ns[i]? = some n→∃ys,(SqL X.K H p ys∨SqT X.K H p ys)∧(ys.length:Int)=n)
  (q:∀(i:Nat) p,ps[i]? = some p→qlE mx ns i→Q (.ref p) H) :
  wpAny (model X.prog X.w) X.A (call (.builtin (if mx then "max" else "min")) [.ref l] [(Str.ofString "key",.builtin "len")]) (EP X pins σ Q) X.xe s:=by
 obtain⟨its,rv,pl,hz⟩:=I.list hl;have hits:its.length=ps.length:=by rw [←rv.length,List.length_map]
 obtain⟨m,F⟩:=I.fr;have N:=qme (g:=X.base) (h:=s.heap) (L:=X.env.locals);have keep:∀(h':Heap),PyProof.Rows.Fr X.base X.env.locals h' m→News X.base X.env.locals h' (qaj X.base s.heap X.env.locals)→∀b o,b≠X.env.locals→s.heap.get? b=some o→h'.get? b=some o:=fun h' F' N' b o hb e=>by
  cases qb:X.base.get? b with
  |some ob=>have:=I.bk b ob qb;rw [e]at this;cases this;exact F'.keep b _ qb
  |none=>exact(N' (b,o) (qiI hb qb e)).1
 have notL:∀b o vs n,s.heap.get? b=some o→o.data=.seq vs n→b≠X.env.locals:=fun b o vs n e1 e3 z=>by
  obtain⟨_,⟨oL,es,ep,hoL,hdL,_⟩,_⟩:=I.loc;rw [z,hoL]at e1;cases e1;rw [hdL]at e3;cases e3
 have lst:∀(h':Heap) b vs,PyProof.Rows.Fr X.base X.env.locals h' m→News X.base X.env.locals h' (qaj X.base s.heap X.env.locals)→s.heap.IsList b vs→h'.IsList b vs:=fun h' b vs F' N' hh=>by
  obtain⟨o,e1,e2,n,e3⟩:=hh;exact⟨o,keep h' F' N' b o (notL _ _ _ _ e1 e3) e1,e2,n,e3⟩
 have tup:∀(h':Heap) b vs,PyProof.Rows.Fr X.base X.env.locals h' m→News X.base X.env.locals h' (qaj X.base s.heap X.env.locals)→s.heap.IsTuple b vs→h'.IsTuple b vs:=fun h' b vs F' N' hh=>by
  obtain⟨o,e1,e2,n,e3⟩:=hh;exact⟨o,keep h' F' N' b o (notL _ _ _ _ e1 e3) e1,e2,n,e3⟩
 have h63:=qdb;have turn:∀(i:Nat) (v:Value),its[i]? = some v→∀(h:Heap) (tk:Nat) (own:List (Addr×Obj)),PyProof.Rows.Fr X.base X.env.locals h m→News X.base X.env.locals h (qaj X.base s.heap X.env.locals++own) →
   wpAny (model X.prog X.w) X.A.in1 (call (.builtin "len") [v]) (KskEnd X.base X.env.locals m (qaj X.base s.heap X.env.locals++own) (ns.getD i 0) {s with heap:=h,toks:=tk}) (fun _ _=>False) {s with heap:=h,toks:=tk}:=by
  intro i v hv h tk own F' N';have hi:i<ps.length:=by rw [←hits];exact(List.getElem?_eq_some_iff.mp hv).1
  obtain⟨v',hv',rvv⟩:=rv.get (i:=i) (x:=.ref ps[i]) (by simp [hi]);rw [hv]at hv';cases hv';cases rvv;have hni:ns[i]? = some (ns.getD i 0):=by simp [show i<ns.length by lia]
  have N'':News X.base X.env.locals h (qaj X.base s.heap X.env.locals):=fun p hp=>N' p (List.mem_append_left _ hp)
  obtain⟨ys,hy,hlen⟩:=hp i ps[i] _ (by simp [hi]) hni;rcases hy with hy|hy
  ·obtain⟨i2,r2,p2,z2⟩:=I.list hy;have e:=r2.length;refine Calls.call_len_list (lst h _ _ F' N'' p2.isList) (by simp only [List.size_toArray]<;>lia) ?_;rw [show ((i2.toArray.size:Nat):Int)=ns.getD i 0 by rw [List.size_toArray,←e];exact hlen];exact .intro F' N' fun p hp=>hp
  ·obtain⟨i2,r2,p2,z2⟩:=I.tuple hy;have e:=r2.length;refine len_tuple (tup h _ _ F' N'' p2) (by simp only [List.size_toArray]<;>lia) ?_;rw [show ((i2.toArray.size:Nat):Int)=ns.getD i 0 by rw [List.size_toArray,←e];exact hlen];exact .intro F' N' fun p hp=>hp
 have hne:0<its.length:=by
  rw [hits];cases ps with
  |nil=>exact absurd rfl h0
  |cons _ _=>simp
 have fin:∀i v h' tk',its[i]? = some v→(∀j,j<its.length→if mx then ns.getD i 0 ≥ ns.getD j 0∧(j<i→ns.getD i 0>ns.getD j 0)else ns.getD i 0≤ns.getD j 0∧(j<i→ns.getD i 0<ns.getD j 0))→PyProof.Rows.Fr X.base X.env.locals h' m→News X.base X.env.locals h' (qaj X.base s.heap X.env.locals)→EP X pins σ Q v {s with heap:=h',toks:=tk'}:=by
  intro i v h' tk' hv hb F' N';have hi:i<ps.length:=by rw [←hits];exact(List.getElem?_eq_some_iff.mp hv).1
  obtain⟨v',hv',rvv⟩:=rv.get (i:=i) (x:=.ref ps[i]) (by simp [hi]);rw [hv]at hv';cases hv';cases rvv;refine⟨.ref ps[i],H,I.nsKept (s':={s with heap:=h',toks:=tk'}) rfl rfl (keep h' F' N') (fun m' hm'=>by rw [qpv hm' F.ns];exact F'.ns),rfl,q i _ (by simp [hi]) fun n en j m' em=>?_⟩;have hj:=(List.getElem?_eq_some_iff.mp em).1;have:=hb j (by rw [hits];lia);rw [List.getD_eq_getElem?_getD,List.getD_eq_getElem?_getD,en,em]at this;exact this
 cases mx with
 |true=>exact kmb_max (fun i=>ns.getD i 0) (I.ok.hd hc) F N (fun h' F' N'=>lst h' _ _ F' N' pl.isList) hne turn fun i v h' tk' hv hb F' N'=>fin i v h' tk' hv hb F' N'
 |false=>exact kmb_min (fun i=>ns.getD i 0) (I.ok.hd hc) F N (fun h' F' N'=>lst h' _ _ F' N' pl.isList) hne turn fun i v h' tk' hv hb F' N'=>fin i v h' tk' hv hb F' N'
end
end L2
namespace EV
open PySem PySem.Spec PySem.P PyProof.Rows L2
section
variable{w:W}{g:Gc}{c:Cc}{E:XK}{X:Cx}{a b d f:Expr}{ia ib id' if':EV.E}{pos p2:Pos}{ta tb:T}
theorem qhf{e:Expr}{v:V}{dd:D}(h:PE X e (tC v))(r:∀H,Rep g H dd v):PE X e (tE w g c E (.con dd)):=PE.imp h fun σ H Q ⟨τ,S,se,k⟩=>k v H (qcD.of (qf.refl _) (r _) rfl)
theorem qts{x:Str}{i:Nat}(O:XO w g c E X)(h:loc c x=some i):PE X (.Name x pos) (tE w g c E (if c.own.contains x then .own i else .var i)):=by
 obtain⟨h1,h2,h3,h4⟩:=zK h;refine PE.imp (qfm (i:=i) (by rw [O.N];exact h1) (by unfold Vis;rw [O.nm];exact h2) h3 h4) fun σ H Q ⟨τ,S,se,k⟩=>?_
 have key:∀e,evE w e τ=zE τ i→fresh c e=false→(esc e=true→c.own.contains x=false)→tR g E H (evE w e τ) (fun d=>∀v H',qcD g c e S H d v H'→Q v H')→qir i σ H Q:=fun e e1 e2 e3 k=>by
  rw [e1]at k;unfold zE at k;cases q:τ[i]? with
  |none=>rw [q]at k;exact k.elim
  |some o=>
   cases o with
   |none=>rw [q]at k;exact k.elim
   |some d=>
    rw [q]at k;obtain⟨v,z1,z2,z3⟩:=se.val i d q;exact⟨v,z1,k v H ⟨qf.refl _,z2,fun z=>z3 x h1 (e3 z),fun z=>by rw [e2]at z;cases z⟩⟩
 cases ho:c.own.contains x with
 |true=>rw [ho]at k;exact key (.own i) (by simp [qw,ze,zd,zi,zj,qV,zf,zo,zg,qI,qG,qO,qP,qL,qB,qF,qM,qy,qN,qz,qW,qo,qJ,qX,qH,qA,qR,qT,qK,qU,qY]) rfl (by intro z;cases z) k
 |false=>rw [ho]at k;exact key (.var i) (by simp [qw,ze,zd,zi,zj,qV,zf,zo,zg,qI,qG,qO,qP,qL,qB,qF,qM,qy,qN,qz,qW,qo,qJ,qX,qH,qA,qR,qT,qK,qU,qY]) rfl (fun _=>ho) k
theorem qsB{x:Str}(O:XO w g c E X)(h:glob c x=some .val):PE X (.Name x pos) (tE w g c E (.glb x)):=by
 obtain⟨u,v,d,h1,h2,h3,h4⟩:=O.gm h;refine PE.imp (qfO (O.gl h) h1 h2 (qE h).2.2.1) fun σ H Q ⟨τ,S,se,k⟩=>?_
 simp only [qw,ze,zd,zi,zj,qV,zf,zo,zg,qI,qG,qO,qP,qL,qB,qF,qM,qy,qN,qz,qW,qo,qJ,qX,qH,qA,qR,qT,qK,qU,qY,h3]at k;exact k v H (qcD.of (qf.refl _) (h4 _) rfl)
theorem qpe{τ:EV.Env}{e:EV.E}{d:D}(h:isL e=true)(he:evE w e τ=.ok d):qok d=true:=by
 cases e<;>first|(cases h;done)|skip
 ·simp only [qw,ze,zd,zi,zj,qV,zf,zo,zg,qI,qG,qO,qP,qL,qB,qF,qM,qy,qN,qz,qW,qo,qJ,qX,qH,qA,qR,qT,qK,qU,qY]at he;cases q:qC w ‹_› τ with
  |ok ds=>rw [q]at he;cases he;rfl
  |ex z=>rw [q]at he;cases he
  |no=>rw [q]at he;cases he
 ·simp only [qw,ze,zd,zi,zj,qV,zf,zo,zg,qI,qG,qO,qP,qL,qB,qF,qM,qy,qN,qz,qW,qo,qJ,qX,qH,qA,qR,qT,qK,qU,qY]at he;cases q:evI w ‹_› τ with
  |ok ds=>rw [q]at he;cases he;rfl
  |ex z=>rw [q]at he;cases he
  |no=>rw [q]at he;cases he
 ·simp only [qw,ze,zd,zi,zj,qV,zf,zo,zg,qI,qG,qO,qP,qL,qB,qF,qM,qy,qN,qz,qW,qo,qJ,qX,qH,qA,qR,qT,qK,qU,qY]at he;cases q:evI w ‹_› τ with
  |ok ds=>
   rw [q]at he;simp only [R.bind_ok]at he;split at he
   ·cases he
   ·generalize zJ _ _ _ _=r at he;cases r with
    |ok o=>cases he;rfl
    |ex z=>cases he
    |no=>cases he
  |ex z=>rw [q]at he;cases he
  |no=>rw [q]at he;cases he
theorem qtN(O:XO w g c E X){op:Operator}{o:O2}(ho:o2 op=some o)(ha:PE X a (tE w g c E ia))(hb:PE X b (tE w g c E ib)):PE X (.BinOp a op b pos) (tE w g c E (.op o ia ib)):=
 PE.imp (qsZ (qrA O.K ho) ha hb) fun σ H Q ⟨τ,S,se,k⟩=>by
  simp only [qw,ze,zd,zi,zj,qV,zf,zo,zg,qI,qG,qO,qP,qL,qB,qF,qM,qy,qN,qz,qW,qo,qJ,qX,qH,qA,qR,qT,qK,qU,qY]at k;refine zk se k fun da va H1 e1 p1 k1=>zk (se.up p1.same) k1 fun db vb H2 e2 p2 k2=>⟨S,da,db,(se.up (p1.same.trans p2.same)).sub,p1.rb.mono p2.same,p2.rb,?_⟩
  cases q:op2 o da db with
  |ok r=>
   rw [q]at k2;exact fun v H' s r f=>k2 v H' ⟨(p1.same.trans p2.same).trans s,.inl r,fun _=>r,fun z=>by
    simp only [fresh,Bool.and_eq_true]at z;exact(f (qpe z.2 e1)).low (p1.same.trans p2.same)⟩
  |ex z=>exact qqD q
  |no=>rw [q]at k2;exact k2
theorem qsV(ha:PE X a (tE w g c E ia)):PE X (.UnaryOp .USub a pos) (tE w g c E (.neg ia)):=
 PE.imp (qti qrt ha) fun σ H Q ⟨τ,S,se,k⟩=>by
  simp only [qw,ze,zd,zi,zj,qV,zf,zo,zg,qI,qG,qO,qP,qL,qB,qF,qM,qy,qN,qz,qW,qo,qJ,qX,qH,qA,qR,qT,qK,qU,qY]at k;refine zk se k fun da va H1 e1 p1 k1=>?_
  cases da with
  |int i=>exact⟨i,p1.rb.int,k1 _ _ (qcD.of p1.same (.int _) rfl)⟩
  |_=>exact k1.elim
theorem qtk(ha:PE X a (tE w g c E ia)):PE X (.UnaryOp .Not a pos) (tE w g c E (.not ia)):=
 PE.imp (qsf ha) fun σ H Q ⟨τ,S,se,k⟩=>by
  simp only [qw,ze,zd,zi,zj,qV,zf,zo,zg,qI,qG,qO,qP,qL,qB,qF,qM,qy,qN,qz,qW,qo,qJ,qX,qH,qA,qR,qT,qK,qU,qY]at k;refine zk se k fun da va H1 e1 p1 k1=>?_
  cases da with
  |bl i=>exact⟨i,p1.rb.bl,k1 _ _ (qcD.of p1.same (.bl _) rfl)⟩
  |_=>exact k1.elim
theorem qcD.pass{e e':EV.E}{S:Sh}{H H1 H':Hp}{dd:D}{v:V}(s:qf H H1)(p:qcD g c e S H1 dd v H')(h:esc e=true)(f:fresh c e'=false):qcD g c e' S H dd v H':=qcD.of (s.trans p.same) (p.st h) f
theorem qsL{rest:List Expr}{ir:EV.E}(ha:PE X a (tE w g c E ia))(hb:PE X (.BoolOp .And (b::rest) pos) (tE w g c E ir))(he:esc ir=true):PE X (.BoolOp .And (a::b::rest) pos) (tE w g c E (.and ia ir)):=
 PE.imp (qqT ha hb) fun σ H Q ⟨τ,S,se,k⟩=>by
  simp only [qw,ze,zd,zi,zj,qV,zf,zo,zg,qI,qG,qO,qP,qL,qB,qF,qM,qy,qN,qz,qW,qo,qJ,qX,qH,qA,qR,qT,qK,qU,qY]at k;refine zk se k fun da va H1 e1 p1 k1=>?_
  cases da with
  |bl i=>
   refine⟨i,p1.rb.bl,?_⟩;cases i with
   |true=>
    refine⟨τ,S,se.up p1.same,tR.imp k1 fun d hk v H' p=>hk v H' (p.pass p1.same he rfl)⟩
   |false=>exact k1 _ _ (qcD.of p1.same (.bl _) rfl)
  |_=>exact k1.elim
theorem qtF{rest:List Expr}{ir:EV.E}(ha:PE X a (tE w g c E ia))(hb:PE X (.BoolOp .Or (b::rest) pos) (tE w g c E ir))(he:esc ir=true):PE X (.BoolOp .Or (a::b::rest) pos) (tE w g c E (.or ia ir)):=
 PE.imp (qth ha hb) fun σ H Q ⟨τ,S,se,k⟩=>by
  simp only [qw,ze,zd,zi,zj,qV,zf,zo,zg,qI,qG,qO,qP,qL,qB,qF,qM,qy,qN,qz,qW,qo,qJ,qX,qH,qA,qR,qT,qK,qU,qY]at k;refine zk se k fun da va H1 e1 p1 k1=>?_
  cases da with
  |bl i=>
   refine⟨i,p1.rb.bl,?_⟩;cases i with
   |false=>
    refine⟨τ,S,se.up p1.same,tR.imp k1 fun d hk v H' p=>hk v H' (p.pass p1.same he rfl)⟩
   |true=>exact k1 _ _ (qcD.of p1.same (.bl _) rfl)
  |_=>exact k1.elim
theorem qba{op:CmpOp}{b:Expr}(h:zv b=true):behindInMarks op b=false:=by cases b<;>first|rfl|(simp [zv]at h)
theorem qbE{o:C2}{S:Sh}{H:Hp}{da db:D}{va vb:V}{r:R Bool}{P:Bool→Prop}{Q:VK}(ra:zu g H S da va)(rb:zu g H S db vb)(q:tR g E H (qg o da db) P)(k:∀z,qg o da db=.ok z→P z→Q (.bl z) H):rCm g o va vb H Q:=by
 refine⟨S,da,db,ra,rb,?_⟩;cases e:qg o da db with
 |ok z=>rw [e]at q;exact k z e q
 |ex z=>exact qpw e
 |no=>rw [e]at q;exact q
theorem tR.bnd{α β:Type}{H:Hp}{r:R α}{f:α→R β}{P:β→Prop}(h:tR g E H (r.bind f) P):tR g E H r fun a=>tR g E H (f a) P:=by
 cases r with
 |ok a=>exact h
 |ex z=>exact h
 |no=>exact h
theorem qsG(O:XO w g c E X){op:CmpOp}(ha:PE X a (tE w g c E ia))(hb:PE X b (tE w g c E ib))(hs:zv b=true):PE X (.Compare a [op] [b] pos) (tE w g c E (.cmp (c2 op) ia ib)):=
 PE.imp (qom (qbq O.K O.units op) ha hb (qba hs)) fun σ H Q ⟨τ,S,se,k⟩=>by
  simp only [qw,ze,zd,zi,zj,qV,zf,zo,zg,qI,qG,qO,qP,qL,qB,qF,qM,qy,qN,qz,qW,qo,qJ,qX,qH,qA,qR,qT,qK,qU,qY]at k;refine zk se k fun da va H1 e1 p1 k1=>zk (se.up p1.same) k1 fun db vb H2 e2 p2 k2=>?_
  exact qbE (r:=.no) (p1.rb.mono p2.same) p2.rb (tR.bnd k2) fun z _ q=>q _ _ (qcD.of (p1.same.trans p2.same) (.bl _) rfl)
theorem qqi(O:XO w g c E X){op:CmpOp}(ha:PE X a (tE w g c E ia))(hb:PE X b (tE w g c E ib))(hs:zv b=true):PT X (.Compare a [op] [b] pos) (tT w g c E (.cmp (c2 op) ia ib)):=
 PT.imp (qpb (qbq O.K O.units op) ha hb (qba hs)) fun σ H Q ⟨τ,S,se,k⟩=>by
  simp only [qdu,qce,qcN,qdB,qdC,qdz,qdD]at k;refine zk se k fun da va H1 e1 p1 k1=>zk (se.up p1.same) k1 fun db vb H2 e2 p2 k2=>?_
  exact qbE (r:=.no) (p1.rb.mono p2.same) p2.rb k2 fun z _ q=>⟨z,rfl,q _ (p1.same.trans p2.same)⟩
theorem qrJ(O:XO w g c E X){op op':CmpOp}(ha:PE X a (tE w g c E ia))(hb:PE X b (tE w g c E ib))(hd:PE X d (tE w g c E id'))(hs':zv d=true):PE X (.Compare a [op,op'] [b,d] pos) (tE w g c E (.cmp2 (c2 op) (c2 op') ia ib id')):=
 PE.imp (qng (qbq O.K O.units op) (qbq O.K O.units op') ha hb hd (qba hs')) fun σ H Q ⟨τ,S,se,k⟩=>by
  simp only [qw,ze,zd,zi,zj,qV,zf,zo,zg,qI,qG,qO,qP,qL,qB,qF,qM,qy,qN,qz,qW,qo,qJ,qX,qH,qA,qR,qT,qK,qU,qY]at k;refine zk se k fun da va H1 e1 p1 k1=>zk (se.up p1.same) k1 fun db vb H2 e2 p2 k2=>?_
  have s2:=p1.same.trans p2.same;refine qbE (r:=.no) (p1.rb.mono p2.same) p2.rb (tR.bnd k2) fun z _ q=>⟨z,rfl,?_⟩
  cases z with
  |true=>
   exact zk (se.up s2) q fun dd vd H3 e3 p3 k3=>qbE (r:=.no) (p2.rb.mono p3.same) p3.rb (tR.bnd k3) fun z _ q=>q _ _ (qcD.of (s2.trans p3.same) (.bl _) rfl)
  |false=>exact q _ _ (qcD.of s2 (.bl _) rfl)
theorem qoG(O:XO w g c E X){op op':CmpOp}(ha:PE X a (tE w g c E ia))(hb:PE X b (tE w g c E ib))(hd:PE X d (tE w g c E id'))(hs':zv d=true):PT X (.Compare a [op,op'] [b,d] pos) (tT w g c E (.cmp2 (c2 op) (c2 op') ia ib id')):=
 PT.imp (qnh (qbq O.K O.units op) (qbq O.K O.units op') ha hb hd (qba hs')) fun σ H Q ⟨τ,S,se,k⟩=>by
  simp only [qdu,qce,qcN,qdB,qdC,qdz,qdD]at k;refine zk se k fun da va H1 e1 p1 k1=>zk (se.up p1.same) k1 fun db vb H2 e2 p2 k2=>?_
  have s2:=p1.same.trans p2.same;refine qbE (r:=.no) (p1.rb.mono p2.same) p2.rb (tR.bnd k2) fun z _ q=>⟨z,rfl,?_⟩
  cases z with
  |true=>
   exact zk (se.up s2) q fun dd vd H3 e3 p3 k3=>qbE (r:=.no) (p2.rb.mono p3.same) p3.rb k3 fun z _ q=>⟨z,rfl,q _ (s2.trans p3.same)⟩
  |false=>exact⟨false,rfl,q _ s2⟩
theorem qqo(O:XO w g c E X){op op' op'':CmpOp}(ha:PE X a (tE w g c E ia))(hb:PE X b (tE w g c E ib))(hd:PE X d (tE w g c E id'))(hf:PE X f (tE w g c E if'))(hs':zv f=true):PE X (.Compare a [op,op',op''] [b,d,f] pos) (tE w g c E (.cmp3 (c2 op) (c2 op') (c2 op'') ia ib id' if')):=
 PE.imp (qlh (qbq O.K O.units op) (qbq O.K O.units op') (qbq O.K O.units op'') ha hb hd hf (qba hs')) fun σ H Q ⟨τ,S,se,k⟩=>by
  simp only [qw,ze,zd,zi,zj,qV,zf,zo,zg,qI,qG,qO,qP,qL,qB,qF,qM,qy,qN,qz,qW,qo,qJ,qX,qH,qA,qR,qT,qK,qU,qY]at k;refine zk se k fun da va H1 e1 p1 k1=>zk (se.up p1.same) k1 fun db vb H2 e2 p2 k2=>?_
  have s2:=p1.same.trans p2.same;refine qbE (r:=.no) (p1.rb.mono p2.same) p2.rb (tR.bnd k2) fun z _ q=>⟨z,rfl,?_⟩
  cases z with
  |true=>
   refine zk (se.up s2) q fun dd vd H3 e3 p3 k3=>qbE (r:=.no) (p2.rb.mono p3.same) p3.rb (tR.bnd k3) fun z _ q=>⟨z,rfl,?_⟩
   have s3:=s2.trans p3.same;cases z with
   |true=>exact zk (se.up s3) q fun df vf H4 e4 p4 k4=>qbE (r:=.no) (p3.rb.mono p4.same) p4.rb (tR.bnd k4) fun z _ q=>q _ _ (qcD.of (s3.trans p4.same) (.bl _) rfl)
   |false=>exact q _ _ (qcD.of s3 (.bl _) rfl)
  |false=>exact q _ _ (qcD.of s2 (.bl _) rfl)
theorem qsQ(ht:PT X d (tT w g c E ta))(ha:PE X a (tE w g c E ia))(hb:PE X b (tE w g c E ib))(h1:esc ia=true)(h2:esc ib=true):PE X (.IfExp d a b pos) (tE w g c E (.ite ta ia ib)):=
 PE.imp (qnq ht ha hb) fun σ H Q ⟨τ,S,se,k⟩=>by
  simp only [qw,ze,zd,zi,zj,qV,zf,zo,zg,qI,qG,qO,qP,qL,qB,qF,qM,qy,qN,qz,qW,qo,qJ,qX,qH,qA,qR,qT,qK,qU,qY]at k;refine qks se k fun z H1 e1 s1 k1=>?_
  cases z with
  |true=>exact⟨τ,S,se.up s1,tR.imp k1 fun dd hk v H' p=>hk v H' (p.pass s1 h1 rfl)⟩
  |false=>exact⟨τ,S,se.up s1,tR.imp k1 fun dd hk v H' p=>hk v H' (p.pass s1 h2 rfl)⟩
theorem qsl:PA X [] (tA w g c E .nil):=PA.imp qau fun σ H Q ⟨τ,S,se,k⟩=>k [] H (qf.refl _) .nil fun _=>.nil
theorem qpq{es:List Expr}{ies:Es}(ha:PE X a (tE w g c E ia))(hr:PA X es (tA w g c E ies))(hs:isStar a=false):PA X (a::es) (tA w g c E (.cons ia ies)):=
 PA.imp (zA ha hr (qt hs)) fun σ H Q ⟨τ,S,se,k⟩=>by
  simp only [qC]at k;refine zk se k fun da va H1 e1 p1 k1=>qfW (se.up p1.same) k1 fun ds vs H2 e2 s2 r2 r2' k2=>k2 _ _ (p1.same.trans s2) (.cons (p1.rb.mono s2) r2) fun z=>?_
  simp only [qcU,Bool.and_eq_true]at z;exact .cons ((p1.st z.1).mono (qr s2)) (r2' z.2)
theorem qeM:∀{es:Es}{τ:Env}{ds:List D}{l:List Expr}{n:Nat},cEs n c l=some es→qC w es τ=.ok ds→ds.length=l.length
 |_,_,_,l,0,h,_=>by simp [cEs]at h
 |es,τ,ds,[],n+1,h,e=>by
  simp only [cEs,Option.some.injEq]at h;subst h;simp only [qC,R.ok.injEq]at e;subst e;rfl
 |es,τ,ds,x::l,n+1,h,e=>by
  simp only [cEs]at h;cases hs:isStar x with
  |true=>simp [hs]at h
  |false=>
   simp only [hs,Bool.false_eq_true,if_false,Option.bind_eq_bind,Option.bind_eq_some_iff]at h;obtain⟨i1,_,r,hr,h⟩:=h;cases h;simp only [qC]at e;cases q:evE w i1 τ with
   |ok z=>
    rw [q]at e;simp only [R.bind_ok]at e;cases q2:qC w r τ with
    |ok zs=>
     rw [q2]at e;cases e;simp [qeM hr q2]
    |ex z=>rw [q2]at e;cases e
    |no=>rw [q2]at e;cases e
   |ex z=>rw [q]at e;cases e
   |no=>rw [q]at e;cases e
theorem qeY{n:Nat}(h:n≤100000):n≤sizeLine:=Nat.le_trans h (by rw [sizeLine_eq];decide)
theorem qsw{es:List Expr}{ies:Es}{k:Nat}(ha:PA X es (tA w g c E ies))(he:qcU ies=true)(hl:∀τ ds,qC w ies τ=.ok ds→ds.length≤100000):PE X (.Tuple es k pos) (tE w g c E (.tup ies)):=
 PE.imp (qrQ ha) fun σ H Q ⟨τ,S,se,k⟩=>by
  simp only [qw,ze,zd,zi,zj,qV,zf,zo,zg,qI,qG,qO,qP,qL,qB,qF,qM,qy,qN,qz,qW,qo,qJ,qX,qH,qA,qR,qT,qK,qU,qY]at k;refine qfW se k fun ds vs H1 e1 s1 r1 r1' k1=>?_
  have r:=r1' he;exact⟨by rw [←r.length];exact qeY (hl _ _ e1),fun p hp=>k1 _ _ (qcD.of (s1.trans (za hp)) (qbO (se.sub.same s1) hp r) rfl)⟩
theorem qsD{es:List Expr}{ies:Es}(ha:PA X es (tA w g c E ies))(he:qcU ies=true)(hl:∀τ ds,qC w ies τ=.ok ds→ds.length≤100000):PE X (.List es pos) (tE w g c E (.lst ies)):=
 PE.imp (qqE ha) fun σ H Q ⟨τ,S,se,k⟩=>by
  simp only [qw,ze,zd,zi,zj,qV,zf,zo,zg,qI,qG,qO,qP,qL,qB,qF,qM,qy,qN,qz,qW,qo,qJ,qX,qH,qA,qR,qT,qK,qU,qY]at k;refine qfW se k fun ds vs H1 e1 s1 r1 r1' k1=>?_
  have r:=r1' he;exact⟨by rw [←r.length];exact qeY (hl _ _ e1),fun p hp=>k1 _ _ (qcD.new (s1.trans (za hp)) (qbm (se.sub.same s1) hp r) (qcC s1 hp r))⟩
theorem qjA{b:Expr}(h:isSlice b=false):qjc b:=fun o i=>by cases b<;>first|rfl|(simp [isSlice]at h)
theorem quh(O:XO w g c E X)(ha:PE X a (tE w g c E ia))(hb:PE X b (tE w g c E ib))(hs:isSlice b=false):PE X (.Subscript a b pos) (tE w g c E (.ix ia ib)):=
 PE.imp (qtq (qsi O.K) ha hb (qjA hs)) fun σ H Q ⟨τ,S,se,k⟩=>by
  simp only [qw,ze,zd,zi,zj,qV,zf,zo,zg,qI,qG,qO,qP,qL,qB,qF,qM,qy,qN,qz,qW,qo,qJ,qX,qH,qA,qR,qT,qK,qU,qY]at k;refine zk se k fun da va H1 e1 p1 k1=>zk (se.up p1.same) k1 fun db vb H2 e2 p2 k2=>⟨S,da,db,p1.rb.mono p2.same,p2.rb,?_⟩
  cases q:ixD da db with
  |ok r=>rw [q]at k2;exact fun v r=>k2 v H2 (qcD.of (p1.same.trans p2.same) r rfl)
  |ex z=>exact qro q
  |no=>rw [q]at k2;exact k2
theorem qtJ(O:XO w g c E X){lo hi:Option Expr}{il ih:OE}(ha:PE X a (tE w g c E ia))(hl:PO X lo (tOe w g c E il))(hh:PO X hi (tOe w g c E ih)):PE X (.Subscript a (.Slice lo hi none p2) pos) (tE w g c E (.sl ia il ih)):=
 PE.imp (qmm (qrT O.K) ha hl hh) fun σ H Q ⟨τ,S,se,k⟩=>by
  simp only [qw,ze,zd,zi,zj,qV,zf,zo,zg,qI,qG,qO,qP,qL,qB,qF,qM,qy,qN,qz,qW,qo,qJ,qX,qH,qA,qR,qT,qK,qU,qY]at k;refine zk se k fun da va H1 e1 p1 k1=>qrC (se.up p1.same) k1 fun l H2 e2 s2 k2=>qrC (se.up (p1.same.trans s2)) k2 fun h H3 e3 s3 k3=>?_
  have s:=(p1.same.trans s2).trans s3;refine⟨S,da,se.sub.same s,p1.rb.mono (s2.trans s3),?_⟩;cases q:slD da l h with
  |ok r=>rw [q]at k3;exact fun v H' s' r=>k3 v H' (qcD.of (s.trans s') r rfl)
  |ex z=>exact qsr q
  |no=>rw [q]at k3;exact k3
theorem qph:PO X none (tOe w g c E .none):=PO.imp qpu fun σ H Q ⟨τ,S,se,k⟩=>k H (qf.refl _)
theorem qpo(ha:PE X a (tE w g c E ia)):PO X (some a) (tOe w g c E (.some ia)):=PO.imp (qoK ha) fun σ H Q ⟨τ,S,se,k⟩=>by
 simp only [evO]at k;refine zk se k fun da va H1 e1 p1 k1=>?_
 cases da with
 |int i=>exact⟨i,p1.rb.int,k1 _ p1.same⟩
 |_=>exact k1.elim
theorem qrg(O:XO w g c E X){x:Str}{fr:Bool}{e:Expr}{es:List Expr}{ies:Es}(h:glob c x=some (.fn fr))(ha:PA X (e::es) (tA w g c E ies))(he:qcU ies=true)(hs:∀z∈e::es,isStar z=false):PE X (.Call (.Name x p2) (e::es) [] pos) (tE w g c E (.call x ies)):=by
 obtain⟨f,h1,h2⟩:=O.gm h;refine PE.imp (qnz O h2 (O.gl h) (qE h).2.2.1 ha hs) fun σ H Q ⟨τ,S,se,k⟩=>?_
 simp only [qw,ze,zd,zi,zj,qV,zf,zo,zg,qI,qG,qO,qP,qL,qB,qF,qM,qy,qN,qz,qW,qo,qJ,qX,qH,qA,qR,qT,qK,qU,qY]at k;refine qfW se k fun ds vs H1 e1 s1 r1 r1' k1=>⟨S,ds,se.sub.same s1,by rw [List.append_nil];exact r1' he,tR.imp k1 fun dd hk v H' s' r f=>hk v H' ⟨s1.trans s',.inl r,fun _=>r,fun z=>?_⟩⟩
 simp only [fresh,(qE h).2.1,beq_iff_eq,Option.some.injEq,GK.fn.injEq]at z;exact(f z).low s1
mutual
theorem qrf{H:Hp}{S S':Sh}(hL:∀a,S'.h a=false→S.h a=true→∃vs,H a=some (.lst vs)):∀{d:D}{v:V},d.noL=true→Rep g (hid H S') d v→Rep g (hid H S) d v
 |_,_,_,.non=>.non
 |_,_,_,.bl b=>.bl b
 |_,_,_,.int i=>.int i
 |_,_,_,.str x=>.str x
 | .tup ds,.ref a,h,.tup q r=>by
  refine .tup ?_ (qiY hL (by simpa [D.noL]using h) r);have key:∀o:HO,(∀vs,o≠.lst vs)→hid H S' a=some o→hid H S a=some o:=fun o ho z=>by
   obtain⟨z1,z2⟩:=qtZ.mp z;refine qtZ.mpr ⟨?_,z2⟩;cases y:S.h a with
   |false=>rfl
   |true=>
    obtain⟨vs,e⟩:=hL a z1 y;rw [z2]at e;cases e;exact absurd rfl (ho vs)
  rcases q with (q|⟨o,q⟩)|q
  ·exact .inl (.inl (key _ (by intro _ z;cases z) q))
  ·exact .inl (.inr ⟨o,key _ (by intro _ z;cases z) q⟩)
  ·exact .inr q
 |_,_,h,.lst _ _=>by simp [D.noL]at h
 |_,_,h,.fn _=>by simp [D.noL]at h
 |_,_,h,.exn _ _=>by simp [D.noL]at h
 |_,_,h,.dic _=>by simp [D.noL]at h
theorem qiY{H:Hp}{S S':Sh}(hL:∀a,S'.h a=false→S.h a=true→∃vs,H a=some (.lst vs)):∀{d:List D}{v:List V},qkk d=true→qq g (hid H S') d v→qq g (hid H S) d v
 |_,_,_,.nil=>.nil
 |_,_,h,.cons r t=>by
  simp only [qkk,Bool.and_eq_true]at h;exact .cons (qrf hL h.1 r) (qiY hL h.2 t)
end
theorem qpB(O:XO w g c E X){x:Str}{fr:Bool}{e:Expr}{es:List Expr}{ies:Es}(h:glob c x=some (.fn fr))(ha:PA X (e::es) (tA w g c E ies))(hs:∀z∈e::es,isStar z=false):PE X (.Call (.Name x p2) (e::es) [] pos) (tE w g c E (.callo x ies)):=fun pins s σ H Q I ⟨τ,S,se,kk⟩=>by
 simp only [qw,ze,zd,zi,zj,qV,zf,zo,zg,qI,qG,qO,qP,qL,qB,qF,qM,qy,qN,qz,qW,qo,qJ,qX,qH,qA,qR,qT,qK,qU,qY]at kk;exact False.elim kk
theorem qll{b:B1}{S:Sh}{H0 H:Hp}{ds:List D}{vs:List V}{Q:VK}{ies:Es}(s:qf H0 H)(hS:Sub S H)(r:qcn g H S ds vs)(k:tR g E H (b1 b ds) fun d=>∀v H',qcD g c (.bi b ies) S H0 d v H'→Q v H'):rB1 g b vs H Q:=by
 refine⟨S,ds,hS,r,?_⟩;cases q:b1 b ds with
 |ok d=>
  rw [q]at k;exact fun v H' s' r' f=>k v H' ⟨s.trans s',.inl r',fun _=>r',fun z=>by
   have:b=.list∨b=.sorted:=by cases b<;>simp [fresh]at z ⊢
   exact(f this).low s⟩
 |ex z=>exact qtc q
 |no=>rw [q]at k;exact k
theorem qui(O:XO w g c E X){x:Str}{b:B1}{e:Expr}{es:List Expr}{ies:Es}(h:glob c x=some (.bi b))(hc:X.calm=true∨b=.len∨b=.abs)(ha:PA X (e::es) (tA w g c E ies))(hs:∀z∈e::es,isStar z=false):PE X (.Call (.Name x p2) (e::es) [] pos) (tE w g c E (.bi b ies)):=by
 obtain⟨h1,h2,id,h3⟩:=O.gm h;have hb:=qfM b;rw [←h2,h3]at hb;have hcall:=qlQ (X:=X) (g:=g) O.K O.units b (by rcases hc with z|z|z;exact .inl z;exact .inr (.inl z);exact .inr (.inr (.inl z)));rw [h3]at hcall;refine PE.imp (qhs hcall (O.gl h) h1 hb ha (qE h).2.2.2 (qE h).2.2.1 (qt (hs e List.mem_cons_self)) (qhj fun z hz=>hs z (List.mem_cons_of_mem _ hz))) fun σ H Q ⟨τ,S,se,k⟩=>?_
 simp only [qw,ze,zd,zi,zj,qV,zf,zo,zg,qI,qG,qO,qP,qL,qB,qF,qM,qy,qN,qz,qW,qo,qJ,qX,qH,qA,qR,qT,qK,qU,qY]at k;exact qfW se k fun ds vs H1 e1 s1 r1 r1' k1=>qll (ies:=ies) s1 (se.sub.same s1) r1 k1
theorem qq.lens{H:Hp}:∀{ds:List D}{vs:List V}{ns:List Int},qq g H ds vs→lens? ds=some ns→ds.length=ns.length∧∃ps:List Addr,vs=ps.map V.ref∧ns.length=ps.length∧∀(i:Nat) p n,ps[i]? = some p→ns[i]? = some n→∃ys,(SqL g.K H p ys∨SqT g.K H p ys)∧(ys.length:Int)=n
 | [],_,ns,.nil,e=>by simp [lens?]at e;subst e;exact⟨rfl,[],rfl,rfl,fun i a p h=>by simp at h⟩
 |x::r,_,ns,.cons h t,e=>by
  simp only [lens?,Option.map_eq_some_iff,Option.bind_eq_some_iff]at e;obtain⟨xs,e0,ms,e1,rfl⟩:=e;obtain⟨h0,ps,h2,h3,h4⟩:=qq.lens t e1
  rename_i v0 vs0
  have key:∃p ys,v0=V.ref p∧(SqL g.K H p ys∨SqT g.K H p ys)∧(ys.length:Int)=xs.length:=by
   cases x with
   |tup zs=>
    cases e0;cases h with
    |tup q r=>exact⟨_,_,rfl,.inr q,by rw [r.length]⟩
   |lst zs=>
    cases e0;cases h with
    |lst q r=>exact⟨_,_,rfl,.inl q,by rw [r.length]⟩
   |_=>cases e0
  obtain⟨p,ys,rfl,k1,k2⟩:=key;refine⟨by simp [h0],p::ps,by rw [h2];rfl,by simp [h3],fun i b n hb hn=>?_⟩;cases i with
  |zero=>simp at hb hn;subst hb hn;exact⟨ys,k1,k2⟩
  |succ i=>exact h4 i b n (by simpa using hb) (by simpa using hn)
theorem qjd(n:Int):∀(ds:List D) (ns:List Int) (i:Nat),ds.length=ns.length→ns[i]? = some n→(∀(j:Nat) m,j<i→ns[j]? = some m→m≠n)→∃d,ds[i]? = some d∧pickK n ds ns=.ok d
 | [],[],_,_,h,_=>by simp at h
 |d::ds,m::ms,0,_,h,_=>by
  simp at h;exact⟨d,rfl,by rw [pickK,if_pos h]⟩
 |d::ds,m::ms,i+1,e,h,k=>by
  obtain⟨d',h1,h2⟩:=qjd n ds ms i (by simpa using e) (by simpa using h) fun j m' hj hm=>k (j+1) m' (by lia) (by simpa using hm)
  exact⟨d',by simpa using h1,by rw [pickK,if_neg (k 0 m (by lia) rfl)];exact h2⟩
theorem qnE{mx:Bool}{ds:List D}{ns:List Int}{i:Nat}{d:D}(hl:ds.length=ns.length)(hi:i<ns.length)(h:qlE mx ns i)(hm:qdt mx (.lst ds)=.ok d)(he:lens? ds=some ns):ds[i]? = some d:=by
 simp only [qdt,qab,qai]at hm;rw [he]at hm
 match ns,hi,h,hl,he,hm with
 |a::r,hi,h,hl,he,hm=>
  have hm:pickK (zm mx a r) ds (a::r)=.ok d:=hm;have e:(a::r)[i]? = some (a::r)[i]:=by simp [hi]
  have hb:(a::r)[i]=zm mx a r:=qfI mx a r _ ⟨List.getElem_mem _,fun m hmm=>by
   obtain⟨j,hj,rfl⟩:=List.getElem_of_mem hmm;have:=h _ e j (a::r)[j] (List.getElem?_eq_getElem hj);cases mx<;>exact this.1⟩
  rw [hb]at e;obtain⟨d',h1,h2⟩:=qjd _ ds (a::r) i hl e fun j m hj hmj z=>by
   have:=h _ e j m hmj;cases mx
   ·exact absurd (this.2 hj) (by rw [z];exact Int.lt_irrefl _)
   ·exact absurd (this.2 hj) (by rw [z];exact Int.lt_irrefl _)
  rw [h2]at hm;cases hm;exact h1
theorem qpP{mx:Bool}{x:D}{z:Str}:qdt mx x≠.ex z:=by
 have pk:∀n ds ns,pickK n ds ns≠.ex z:=by
  intro n ds
  induction ds with
  |nil=>intro ns;exact qcp
  |cons d ds ih=>
   intro ns;cases ns with
   |nil=>exact qcp
   |cons m ms=>
    rw [pickK];split
    ·exact zW
    ·exact ih ms
 refine qbM fun xs=>qaC fun ns=>?_
 split
 ·exact qcp
 ·exact pk _ _ _
theorem qoe(O:XO w g c E X)(hc:X.calm=true)(mx:Bool){x y:Str}{p3 kp:Pos}(h:glob c x=some (.bi (if mx then .max else .min)))(hy:glob c y=some (.bi .len))(ha:PE X a (tE w g c E ia))(hs:isStar a=false) :
  PE X (.Call (.Name x p2) [a] [⟨some "key",.Name y p3,kp⟩] pos) (tE w g c E (.mxk mx ia)):=by
 obtain⟨h1,h2,id,h3⟩:=O.gm h;obtain⟨y1,y2,idy,y3⟩:=O.gm hy;have hb:=qfM (if mx then .max else .min);rw [←h2]at hb;have hby:=qfM .len;rw [←y2]at hby;have ev:b1V (if mx then .max else .min)=.builtin (if mx then "max" else "min"):=by cases mx<;>rfl
 rw [ev]at hb;have hst:=qt (es:=[]) (env:=X.env) hs;have hst':backTo pos (starEach [a] X.env)=(false,eval a X.env)::backTo pos (starEach [] X.env):=by rw [hst];rfl
 intro pins s σ H Q I hq;refine wpAny_Call_Name_kw (qcg I (O.gl h) h1 hb ?_ (qE h).2.2.2 (qE h).2.2.1);refine callWith_kw ?_ hst' (by rw [hst'];rfl);obtain⟨τ,S,se,k⟩:=hq;simp only [qw,ze,zd,zi,zj,qV,zf,zo,zg,qI,qG,qO,qP,qL,qB,qF,qM,qy,qN,qz,qW,qo,qJ,qX,qH,qA,qR,qT,qK,qU,qY]at k;have hA:=zA ha (qau (X:=X)) hst;refine thn (hA pos pins s σ H (fun vs H2=>∃da v,vs=[v]∧zu g H2 S da v∧qf H H2∧tR g E H2 (qdt mx da) fun d=>∀v H',qcD g c (.mxk mx ia) S H d v H'→Q v H') I (zk se k fun da va H1 e1 p1 k1=>⟨da,va,rfl,p1.rb,p1.same,k1⟩)) fun us s1 ⟨vs,H1,I1,r1,da,va,q0,q1,q2,q3⟩=>?_
 subst q0;obtain⟨u,rfl,ru⟩:=r1.one;refine kws_cons (qcg I1 (O.gl hy) y1 hby ?_ (qE hy).2.2.2 (qE hy).2.2.1);refine kws_nil ?_;cases hm:qdt mx da with
 |ex z=>exact absurd hm qpP
 |no=>rw [hm]at q3;exact q3.elim
 |ok d=>
  rw [hm]at q3;obtain⟨xs,rfl,hm1⟩:=qbK hm;obtain⟨ns,e,hm2⟩:=qbV hm1;obtain⟨l,vs,rfl,z1,z2⟩:=q1.lst;cases ru;obtain⟨hl,ps,rfl,hn,hp⟩:=z2.lens e;have hne:ps≠[]:=fun z=>by
   subst z;cases ns with
   |nil=>cases hm2
   |cons _ _=>simp at hn
  refine qmp hc mx I1 (by rw [O.K];exact z1) hn hne (fun i p n a1 a2=>?_) fun i p a1 hb=>?_
  ·obtain⟨ys,b1,b2⟩:=hp i p n a1 a2;refine⟨ys,?_,b2⟩;rw [O.K];rcases b1 with b1|b1
   ·exact .inl (qad.seq b1)
   ·exact .inr (qar qad b1)
  ·have hi:i<ns.length:=by rw [hn];exact(List.getElem?_eq_some_iff.mp a1).1
   have hd:=qnE hl hi hb hm e;obtain⟨v',w1,w2⟩:=z2.get hd;rw [List.getElem?_map,a1]at w1;cases w1;exact q3 _ _ (qcD.of q2 w2 rfl)
theorem qtO(O:XO w g c E X){x:Str}{n:String}{b:B1}{e:Expr}{es:List Expr}{ies:Es}(h:glob c x=some (.ty n (some b)))(ha:PA X (e::es) (tA w g c E ies))(hs:∀z∈e::es,isStar z=false):PE X (.Call (.Name x p2) (e::es) [] pos) (tE w g c E (.bi b ies)):=by
 obtain⟨h1,h2,_,h3⟩:=O.gm h;obtain⟨_,h4⟩:=h3 b rfl;have hcall:=qlQ (X:=X) (g:=g) O.K O.units b (by cases b<;>simp [b1V]at h4 ⊢);rw [h4]at hcall;refine PE.imp (qcT hcall (O.gl h) h1 h2 ha (qE h).2.2.2 (qE h).2.2.1 (qt (hs e List.mem_cons_self)) (qhj fun z hz=>hs z (List.mem_cons_of_mem _ hz))) fun σ H Q ⟨τ,S,se,k⟩=>?_
 simp only [qw,ze,zd,zi,zj,qV,zf,zo,zg,qI,qG,qO,qP,qL,qB,qF,qM,qy,qN,qz,qW,qo,qJ,qX,qH,qA,qR,qT,qK,qU,qY]at k;exact qfW se k fun ds vs H1 e1 s1 r1 r1' k1=>qll (ies:=ies) s1 (se.sub.same s1) r1 k1
end
section
variable{w:W}{g:Gc}{c:Cc}{E:XK}{X:Cx}{a b d f:Expr}{ia ib id' if':EV.E}{pos p2:Pos}{ta tb:T}
noncomputable def qtd(w:W)(g:Gc)(d:D)(vc:V)(bb:Bool):Cl→Prop
 | .ty n=>vc=.ty n∧((n∈["int","bool","str","list","tuple"]∧∃t,tyD d=some t∧bb=qeG t n)∨∃k,d=.exn k∧w.sub k (.ty n)=some bb)
 | .ex x=>∃D k,g.clA x=some D∧vc=.ref D∧d=.exn k∧w.sub k (.ex x)=some bb
noncomputable def clV(g:Gc)(vc:V):Cl→Prop
 | .ty n=>vc=.ty n∧(n∈["int","bool","str","list","tuple"]∨n = "ValueError")
 | .ex x=>∃D,g.clA x=some D∧vc=.ref D
theorem qoN(O:XO w g c E X):qx X (.builtin "isinstance") (fun xs H Q=>∃(S:Sh) (d:D) (v:V) (cl:Cl) (vc:V) (bb:Bool),xs=[v,vc]∧zu g H S d v∧qtd w g d vc bb cl∧Q (.bl bb) H):=by
 have k:=(qrm (X:=X) (g:=g) O.K).or (qnu (X:=X));refine qx.imp k fun xs H Q ⟨S,d,v,cl,vc,bb,e,rd,h,q⟩=>?_
 have exn:∀(kk:Str) (cv:Value),d=.exn kk→qmD vc=some cv→(∃C,g.clA kk=some C∧qaL g.K C∧PySem.W.kitOne g.K (.ref C) cv=some bb)→∃x c cv t b,xs=[x,c]∧qmD c=some cv∧TyX X.K H x t∧PySem.W.kitOne X.K t cv=some b∧Q (.bl b) H:=fun kk cv ed hv ⟨C,h1,h2,h3⟩=>by
  subst ed;cases rd.rep with
  | @exn _ a C' z1 z2=>
   rw [h1]at z1;cases z1;exact⟨_,vc,cv,.ref C,bb,e,hv,.inr ⟨a,C,rfl,rfl,z2,by rw [O.K];exact h2⟩,by rw [O.K];exact h3,q⟩
 cases cl with
 |ty n=>
  obtain⟨rfl,⟨hn,t,ht,rfl⟩|⟨kk,rfl,hk⟩⟩:=h
  ·exact .inl ⟨S,d,v,n,t,e,rd,ht,hn,q⟩
  ·obtain⟨C,cv,z1,z2,z3,z4,z5⟩:=O.sub kk (.ty n) bb hk;exact .inr (exn kk (.type n) rfl rfl ⟨C,z1,z2,z5▸z3⟩)
 |ex x=>
  obtain⟨D,kk,h1,rfl,rfl,hk⟩:=h;obtain⟨C,cv,z1,z2,z3,D',z4,z5⟩:=O.sub kk (.ex x) bb hk;rw [h1]at z4;cases z4;exact .inr (exn kk (.ref D) rfl rfl ⟨C,z1,z2,z5▸z3⟩)
theorem qqa{x:D}{cl:Cl}:(∃t n,tyD x=some t∧cl=.ty n∧n≠"ValueError"∧qbA w x cl=.ok (.bl (qeG t n)))∨(∃k b,x=.exn k∧w.sub k cl=some b∧qbA w x cl=.ok (.bl b))∨qbA w x cl=.no:=by
 unfold qbA;cases e:tyD x with
 |some t=>
  cases cl with
  |ty n=>
   by_cases hn:n = "ValueError"
   ·exact .inr (.inr (by simp [hn]))
   ·exact .inl ⟨t,n,rfl,rfl,hn,by simp [hn]⟩
  |ex y=>exact .inr (.inr rfl)
 |none=>
  cases x with
  |exn k=>
   cases q:w.sub k cl with
   |none=>exact .inr (.inr (by simp [q]))
   |some b=>exact .inr (.inl ⟨k,b,rfl,q,by simp [q]⟩)
  |fn y=>exact .inr (.inr (by cases cl<;>rfl))
  |_=>cases e
theorem qtj(O:XO w g c E X){x:Str}{k:Expr}{cl:Cl}(h:glob c x=some .isi)(ha:PE X a (tE w g c E ia))(hk:qjv c k=some cl)(hs:isStar a=false):PE X (.Call (.Name x p2) [a,k] [] pos) (tE w g c E (.isi ia cl)):=by
 obtain⟨h1,rfl⟩:=O.gm h;obtain⟨y,q,rfl⟩:∃y q,k=.Name y q:=by
  cases k<;>first|exact⟨_,_,rfl⟩|(simp [qjv]at hk)
 obtain⟨vc,hv,hc⟩:∃vc,PE X (.Name y q) (tC vc)∧clV g vc cl:=by
  simp only [qjv]at hk;split at hk
  ·rename_i n b e
   cases hk;obtain⟨z1,z2,z3,_⟩:=O.gm e;exact⟨.ty n,qpN (O.gl e) z1 z2 rfl (qE e).2.2.2 (qE e).2.2.1,rfl,z3⟩
  ·rename_i e
   cases hk;obtain⟨C,z1,z2⟩:=O.gm e;exact⟨.ref C,qfO (O.gl e) z1 rfl (qE e).2.2.1,C,z2,rfl⟩
  ·rename_i e
   cases hk;obtain⟨C,z1,z2⟩:=O.gm e;exact⟨.ref C,qfO (O.gl e) z1 rfl (qE e).2.2.1,C,z2,rfl⟩
  ·cases hk
 refine PE.imp (qhs (qoN O) (O.gl h) h1 (by decide +kernel) (zA ha (zA hv qau) (qt hs)) (by decide) (by decide) (qt hs) rfl) fun σ H Q ⟨τ,S,se,k⟩=>?_
 simp only [qw,ze,zd,zi,zj,qV,zf,zo,zg,qI,qG,qO,qP,qL,qB,qF,qM,qy,qN,qz,qW,qo,qJ,qX,qH,qA,qR,qT,qK,qU,qY]at k;refine zk se k fun da va H1 e1 p1 k1=>?_
 rcases qqa (w:=w) (x:=da) (cl:=cl)with ⟨t,n,z1,rfl,z2,z3⟩|⟨kk,bb,rfl,z2,z3⟩|z3
 ·rw [z3]at k1;obtain⟨rfl,hc|hc⟩:=hc
  ·exact⟨S,da,va,.ty n,.ty n,_,rfl,p1.rb,⟨rfl,.inl ⟨hc,t,z1,rfl⟩⟩,k1 _ _ (qcD.of p1.same (.bl _) rfl)⟩
  ·exact absurd hc z2
 ·rw [z3]at k1;refine⟨S,.exn kk,va,cl,vc,bb,rfl,p1.rb,?_,k1 _ _ (qcD.of p1.same (.bl _) rfl)⟩;cases cl with
  |ty n=>exact⟨hc.1,.inr ⟨kk,rfl,z2⟩⟩
  |ex x=>obtain⟨D,z4,z5⟩:=hc;exact⟨D,kk,z4,z5,rfl,z2⟩
 ·rw [z3]at k1;exact k1.elim
theorem qrE(O:XO w g c E X)(ha:PE X a (tE w g c E ia))(he:∀whole,isTrue a X.env whole=(do let v ←whole;standAt a.pos;holding [v] (truthy v))):PT X a (tT w g c E (.val ia)):=
 PT.imp (qmh ha he) fun σ H Q ⟨τ,S,se,k⟩=>by
  simp only [qdu,qce,qcN,qdB,qdC,qdz,qdD]at k;refine zk se k fun da va H1 e1 p1 k1=>?_
  cases q:truth da with
  |ok z=>rw [q]at k1;exact⟨z,qon O.K p1.rb q,k1 _ p1.same⟩
  |ex z=>exact absurd q qns
  |no=>rw [q]at k1;exact k1.elim
theorem qsc(ha:PT X a (tT w g c E ta)):PT X (.UnaryOp .Not a pos) (tT w g c E (.not ta)):=
 PT.imp (qqW ha) fun σ H Q ⟨τ,S,se,k⟩=>by
  simp only [qdu,qce,qcN,qdB,qdC,qdz,qdD]at k;exact qks se k fun z H1 e1 s1 k1=>k1 _ s1
theorem qqY{rest:List Expr}(ha:PT X a (tT w g c E ta))(hb:PW X (.BoolOp .And (b::rest) pos) (tT w g c E tb)):PW X (.BoolOp .And (a::b::rest) pos) (tT w g c E (.and ta tb)):=
 PW.imp (qrz ha hb) fun σ H Q ⟨τ,S,se,k⟩=>by
  simp only [qdu,qce,qcN,qdB,qdC,qdz,qdD]at k;refine qks se k fun z H1 e1 s1 k1=>?_
  cases z with
  |true=>exact⟨τ,S,se.up s1,tR.imp k1 fun b hk H' s=>hk H' (s1.trans s)⟩
  |false=>exact k1 _ s1
theorem qtn{rest:List Expr}(ha:PT X a (tT w g c E ta))(hb:PW X (.BoolOp .Or (b::rest) pos) (tT w g c E tb)):PW X (.BoolOp .Or (a::b::rest) pos) (tT w g c E (.or ta tb)):=
 PW.imp (qtt ha hb) fun σ H Q ⟨τ,S,se,k⟩=>by
  simp only [qdu,qce,qcN,qdB,qdC,qdz,qdD]at k;refine qks se k fun z H1 e1 s1 k1=>?_
  cases z with
  |false=>exact⟨τ,S,se.up s1,tR.imp k1 fun b hk H' s=>hk H' (s1.trans s)⟩
  |true=>exact k1 _ s1
theorem PI.or{tg e:Expr}{t t':TI}(h:PI X tg e t)(h':PI X tg e t'):PI X tg e (fun σ H R=>t σ H R∨t' σ H R):=fun pins s σ H R I q=>by
 rcases q with q|q
 ·exact h pins s σ H R I q
 ·exact h' pins s σ H R I q
theorem qgO{K:PySem.W.Frag}{a:Addr}{vs:List V}{ds:List D}{H:Hp}{S:Sh}(hl:SqL K H a vs)(r:qq g (hid H S) ds vs):Goes g (Itl K a) ds H S:=by
 refine⟨fun i hi=>⟨vs,hl,by rw [←r.length];exact hi⟩,fun i d hd=>?_⟩;obtain⟨v,h1,h2⟩:=r.get hd;refine⟨⟨vs,v,hl,h1⟩,fun x H' ⟨e,hx⟩=>?_⟩;subst e;have:=hx vs hl;rw [h1]at this;cases this;exact⟨qf.refl _,h2⟩
theorem qht{K:PySem.W.Frag}{a:Addr}{vs:List V}{ds:List D}{H:Hp}{S:Sh}(hl:SqT K H a vs)(r:qq g (hid H S) ds vs):Goes g (Itt K a) ds H S:=by
 refine⟨fun i hi=>⟨vs,hl,by rw [←r.length];exact hi⟩,fun i d hd=>?_⟩;obtain⟨v,h1,h2⟩:=r.get hd;refine⟨⟨vs,v,hl,h1⟩,fun x H' ⟨e,hx⟩=>?_⟩;subst e;have:=hx vs hl;rw [h1]at this;cases this;exact⟨qf.refl _,h2⟩
theorem qgy:∀{xs:List D}{k i:Nat}{d:D},(zO k xs)[i]? = some d→∃x,xs[i]? = some x∧d=.tup [.int ((k+i:Nat):Int),x]
 | [],_,_,_,h=>by simp [zO]at h
 |x::r,k,0,d,h=>by simp [zO]at h;exact⟨x,rfl,by rw [←h];rfl⟩
 |x::r,k,i+1,d,h=>by
  simp only [zO,List.getElem?_cons_succ]at h;obtain⟨y,h1,h2⟩:=qgy h;exact⟨y,by simpa using h1,by rw [h2,show k+1+i=k+(i+1)by lia]⟩
theorem qgn:∀(xs:List D) (k:Nat),(zO k xs).length=xs.length
 | [],_=>rfl
 |x::r,k=>by simp [zO,qgn r]
theorem qgz{K:PySem.W.Frag}{a:Addr}{vs:List V}{ds:List D}{H:Hp}{S:Sh}(hl:SqL K H a vs)(r:qq g (hid H S) ds vs)(hS:Sub S H):Goes g (Ite K a) (zO 0 ds) H S:=by
 refine⟨fun i hi=>⟨vs,hl,by rw [←r.length,←qgn ds 0];exact hi⟩,fun i d hd=>?_⟩;obtain⟨y,h0,rfl⟩:=qgy hd;obtain⟨v,h1,h2⟩:=r.get h0;refine⟨⟨vs,v,hl,h1⟩,fun x H' ⟨p,z,hp,e1,e2,hx⟩=>?_⟩;subst e1 e2;have:=hx vs hl;rw [h1]at this;cases this;refine⟨za hp,?_⟩;rw [Nat.zero_add];exact qbO hS hp (.cons (.int _) (.cons h2 .nil))
theorem qcs{lo:Int}{n:Nat}{H:Hp}{S:Sh}:Goes g (Itr lo n) (qS lo n) H S:=by
 refine⟨fun i hi=>by show n≤i;simpa [qS]using hi,fun i d hd=>?_⟩;unfold qS at hd;rw [List.getElem?_map]at hd;cases q:(List.range n)[i]? with
 |none=>rw [q]at hd;cases hd
 |some j=>
  rw [q]at hd;cases hd;have hi:=(List.getElem?_eq_some_iff.mp q)
  obtain⟨h1,h2⟩:=hi;simp at h1 h2;subst h2;exact⟨h1,fun x H' ⟨e1,e2⟩=>by subst e1 e2;exact⟨qf.refl _,.int _⟩⟩
theorem qsq(O:XO w g c E X){tg:Expr}(ha:PE X a (tE w g c E ia)):PI X tg a (tIt w g c E (.seq ia)):=
 PI.imp (PI.or (qoB ha) (qqf ha)) fun σ H R ⟨τ,S,se,k⟩=>by
  have k0:=k;simp only [evI]at k;cases q:evE w ia τ with
  |ex z=>exact .inl ⟨τ,S,se,by rw [q]at k ⊢;exact k⟩
  |no=>rw [q]at k;exact k.elim
  |ok dd=>
   cases dd with
   |lst ds=>
    refine .inl (zk se k fun da va H1 e1 p1 k1=>?_);rw [q]at e1;cases e1;obtain⟨ad,vs,rfl,h1,r1⟩:=p1.rb.lst;rw [←O.K]at h1;refine⟨ad,rfl,⟨vs,h1⟩,k1 _ H1 p1.same (fun H2 S2 s1 s2 _=>qgO (s1.seq h1) (r1.mono s2)) fun ho H2 S2 s2 _=>?_⟩;have he:esc ia=true:=by
     cases ia<;>first|rfl|(simp [owned]at ho)
    cases p1.st he with
    |lst h2 r2=>exact qgO (by rw [O.K];exact(s2.trans qad).seq h2) (r2.mono s2)
   |tup ds=>
    refine .inr (zk se k fun da va H1 e1 p1 k1=>?_);rw [q]at e1;cases e1;cases p1.rb.strong (by intro _ z;cases z)with
    |tup h2 r2=>
     refine⟨_,rfl,⟨_,by rw [O.K];exact qar qad h2⟩,k1 _ H1 p1.same (fun H2 S2 s1 s2 _=>qht (by rw [O.K];exact qar (s2.trans qad) h2) (r2.mono s2)) fun ho H2 S2 s2 _=>qht (by rw [O.K];exact qar (s2.trans qad) h2) (r2.mono s2)⟩
   |_=>rw [q]at k;exact k.elim
theorem qaK{j:Int}(h:qh j=true):-1000000≤j∧j≤1000000:=by simpa [qh]using h
theorem qss(O:XO w g c E X){x:Str}{tg:Expr}(h:glob c x=some .rng)(ha:PE X a (tE w g c E ia))(hs:isStar a=false):PI X tg (.Call (.Name x p2) [a] [] pos) (tIt w g c E (.rng ia)):=by
 obtain⟨h1,rfl⟩:=O.gm h;refine PI.imp (qlI (O.gl h) h1 (zA ha qau (qt hs)) (qt hs)) fun σ H R ⟨τ,S,se,k⟩=>?_
 simp only [evI]at k;refine zk se k fun da va H1 e1 p1 k1=>?_
 cases da with
 |int j=>
  simp only at k1;cases q:qh j with
  |true=>
   rw [q,if_pos rfl]at k1;obtain⟨z1,z2⟩:=qaK q;exact⟨j,by rw [p1.rb.int],by lia,by lia,k1 _ H1 p1.same (fun _ _ _ _ _=>qcs) fun _ _ _ _ _=>qcs⟩
  |false=>rw [q]at k1;exact k1.elim
 |_=>exact k1.elim
theorem qpK(O:XO w g c E X){x:Str}{tg:Expr}(h:glob c x=some .rng)(ha:PE X a (tE w g c E ia))(hb:PE X b (tE w g c E ib))(hs:isStar a=false)(hs':isStar b=false):PI X tg (.Call (.Name x p2) [a,b] [] pos) (tIt w g c E (.rng2 ia ib)):=by
 obtain⟨h1,rfl⟩:=O.gm h;refine PI.imp (qkR (O.gl h) h1 (zA ha (zA hb qau (qt hs')) (qt hs)) (by rw [qt hs,qt hs'];rfl) (qt hs')) fun σ H R ⟨τ,S,se,k⟩=>?_
 simp only [evI]at k;refine zk se k fun da va H1 e1 p1 k1=>zk (se.up p1.same) k1 fun db vb H2 e2 p2 k2=>?_
 cases da with
 |int i=>
  cases db with
  |int j=>
   simp only at k2;cases q:qh i&&qh j with
   |true=>
    rw [q,if_pos rfl]at k2;simp only [Bool.and_eq_true]at q;obtain⟨z1,z2⟩:=qaK q.1;obtain⟨z3,z4⟩:=qaK q.2;exact⟨i,j,by rw [p1.rb.int,p2.rb.int],⟨by lia,by lia,by lia,by lia⟩,k2 _ H2 (p1.same.trans p2.same) (fun _ _ _ _ _=>qcs) fun _ _ _ _ _=>qcs⟩
   |false=>rw [q]at k2;exact k2.elim
  |_=>exact k2.elim
 |_=>exact k2.elim
theorem qpy(O:XO w g c E X){x:Str}{es:List Expr}{ek:Nat}{epos:Pos}(h:glob c x=some .enum)(ha:PE X a (tE w g c E ia))(hs:isStar a=false):PI X (.Tuple es ek epos) (.Call (.Name x p2) [a] [] pos) (tIt w g c E (.enum ia)):=by
 obtain⟨h1,rfl⟩:=O.gm h;refine PI.imp (qpF (O.gl h) h1 (by decide +kernel) (zA ha qau (qt hs)) (qt hs)) fun σ H R ⟨τ,S,se,k⟩=>?_
 simp only [evI]at k;refine zk se k fun da va H1 e1 p1 k1=>?_
 cases da with
 |lst ds=>
  obtain⟨ad,vs,rfl,h1,r1⟩:=p1.rb.lst;rw [←O.K]at h1;refine⟨ad,rfl,⟨vs,h1⟩,k1 _ H1 p1.same (fun H2 S2 s1 s2 s3=>qgz (s1.seq h1) (r1.mono s2) s3) fun ho H2 S2 s2 s3=>?_⟩;have he:esc ia=true:=by
   cases ia<;>first|rfl|(simp [owned]at ho)
  cases p1.st he with
  |lst h2 r2=>exact qgz (by rw [O.K];exact(s2.trans qad).seq h2) (r2.mono s2) s3
 |_=>exact k1.elim
theorem qri(O:XO w g c E X){x:Str}{es:List Expr}{ek:Nat}{epos:Pos}(h:glob c x=some .zip)(ha:PE X a (tE w g c E ia))(hb:PE X b (tE w g c E ib))(hs:isStar a=false)(hs':isStar b=false):PI X (.Tuple es ek epos) (.Call (.Name x p2) [a,b] [] pos) (tIt w g c E (.zip ia ib)):=fun pins s σ H R I ⟨τ,S,se,kk⟩=>by
 simp only [evI]at kk;exact False.elim kk
end
noncomputable def qeg:List Nat→TGs
 | []=>qqM
 |i::is=>qnM (qcP i) (qeg is)
noncomputable def gT(K:PySem.W.Frag):Tg→TG
 | .nm i=>qcP i
 | .tp is=>qqK K is.length (qeg is)
section
variable{w:W}{g:Gc}{c:Cc}{E:XK}{X:Cx}
theorem zF{x:Str}{i:Nat}(h:qaW c x=some i):loc c x=some i∧(c.nm.lookup x=some .local∨(c.nm.lookup x=some .cell∧(c.fnc=true∨c.oc.contains x=true))):=by
 unfold qaW at h;split at h
 ·rename_i q;exact⟨h,.inl q⟩
 ·rename_i q
  split at h
  ·rename_i z;exact⟨h,.inr ⟨q,by simpa using z⟩⟩
  ·cases h
 ·cases h
theorem qnK(O:XO w g c E X){x:Str}{i:Nat}{pos:Pos}(h:qaW c x=some i):PG X (.Name x pos) (qcP i):=by
 obtain⟨h1,h2⟩:=zF h;obtain⟨h3,_⟩:=zK h1;refine qpO (by rw [O.N];exact O.nd) (by rw [O.N];exact h3) (by unfold L2.Loc;rw [O.nm];rcases h2 with z|z;exact .inl z;exact .inr z.1) ?_;rcases h2 with z|z
 ·exact .inr (by rw [O.nm];exact z)
 ·exact .inl (O.fn x z.2)
theorem qed:∀{es:List Expr}{xs:List Str},qcx es=some xs→∃ps:List Pos,es=(xs.zip ps).map (fun p=>Expr.Name p.1 p.2)∧ps.length=xs.length
 | [],xs,h=>by simp [qcx]at h;subst h;exact⟨[],rfl,rfl⟩
 |e::es,xs,h=>by
  cases e with
  |Name y p=>
   simp only [qcx,Option.map_eq_some_iff]at h;obtain⟨ys,h1,rfl⟩:=h;obtain⟨ps,h2,h3⟩:=qed h1;exact⟨p::ps,by rw [h2];rfl,by simp [h3]⟩
  |_=>simp [qcx]at h
theorem qgw(O:XO w g c E X):∀{xs:List Str}{ps:List Pos}{is:List Nat},ps.length=xs.length→xs.mapM (qaW c)=some is →
  PGs X ((xs.zip ps).map fun p=>Expr.Name p.1 p.2) (qeg is)∧(assignEach ((xs.zip ps).map fun p=>Expr.Name p.1 p.2) X.env).length=is.length∧(assignEach ((xs.zip ps).map fun p=>Expr.Name p.1 p.2) X.env).findIdx? (·.1)=none
 | [],ps,is,_,h=>by
  simp at h;subst h;exact⟨qoV,rfl,rfl⟩
 |x::xs,[],_,h,_=>by simp at h
 |x::xs,p::ps,is,hl,h=>by
  simp only [List.mapM_cons,Option.bind_eq_bind,Option.bind_eq_some_iff]at h;obtain⟨i,h1,js,h2,h3⟩:=h;cases h3;obtain⟨r1,r2,r3⟩:=qgw O (xs:=xs) (ps:=ps) (by simpa using hl) h2;refine⟨qnd (qnK O h1) r1 rfl,?_,?_⟩
  ·show (assignEach ((xs.zip ps).map fun p=>Expr.Name p.1 p.2) X.env).length+1=js.length+1;rw [r2]
  ·show List.findIdx? (·.1) ((false,_)::assignEach ((xs.zip ps).map fun p=>Expr.Name p.1 p.2) X.env)=none;rw [List.findIdx?_cons];simp only [Bool.false_eq_true,if_false];rw [r3];rfl
theorem qjS(O:XO w g c E X){e:Expr}{tg:Tg}(h:cTg c e=some tg):PG X e (gT X.K tg):=by
 cases e with
 |Name x p=>
  simp only [cTg]at h;split at h
  ·cases h
  ·simp only [Option.map_eq_some_iff]at h;obtain⟨i,h1,rfl⟩:=h;exact qnK O h1
 |Tuple es k p=>
  simp only [cTg]at h;split at h
  ·rename_i hc
   simp only [Option.bind_eq_bind,Option.bind_eq_some_iff]at h;obtain⟨xs,h1,h⟩:=h;split at h
   ·cases h
   ·simp only [Option.bind_eq_some_iff]at h;obtain⟨is,h2,h⟩:=h;split at h
    ·cases h;obtain⟨ps,rfl,hl⟩:=qed h1;obtain⟨r1,r2,r3⟩:=qgw O hl h2;exact qql (O.calm hc) r1 r2 r3
    ·cases h
  ·cases h
 |_=>simp [cTg]at h
noncomputable def qdR(c:Cc):Tg→Prop
 | .nm i=>∀x,c.N[i]? = some x→c.own.contains x=false
 | .tp is=>∀i∈is,∀x,c.N[i]? = some x→c.own.contains x=false
theorem qhR{α β:Type}{f:α→Option β}:∀{xs:List α}{ys:List β},xs.mapM f=some ys→∀y∈ys,∃x∈xs,f x=some y
 | [],ys,h,y,hy=>by simp at h;subst h;simp at hy
 |x::xs,ys,h,y,hy=>by
  simp only [List.mapM_cons,Option.bind_eq_bind,Option.bind_eq_some_iff]at h;obtain⟨z,h1,zs,h2,h3⟩:=h;cases h3;rcases List.mem_cons.mp hy with rfl|hy
  ·exact⟨x,List.mem_cons_self,h1⟩
  ·obtain⟨x',h4,h5⟩:=qhR h2 y hy;exact⟨x',List.mem_cons_of_mem _ h4,h5⟩
theorem qig{e:Expr}{tg:Tg}(h:cTg c e=some tg):qdR c tg:=by
 have one:∀{x:Str}{i:Nat},c.own.contains x=false→qaW c x=some i→∀y,c.N[i]? = some y→c.own.contains y=false:=fun {x i} ho hl y hy=>by
  obtain⟨h3,_⟩:=zK (zF hl).1;rw [h3]at hy;cases hy;exact ho
 cases e with
 |Name x p=>
  simp only [cTg]at h;split at h
  ·cases h
  ·rename_i ho
   simp only [Option.map_eq_some_iff]at h;obtain⟨i,h1,rfl⟩:=h;exact one (by simpa using ho) h1
 |Tuple es k p=>
  simp only [cTg]at h;split at h
  ·simp only [Option.bind_eq_bind,Option.bind_eq_some_iff]at h;obtain⟨xs,h1,h⟩:=h;split at h
   ·cases h
   ·rename_i ho
    simp only [Option.bind_eq_some_iff]at h;obtain⟨is,h2,h⟩:=h;split at h
    ·cases h;intro i hi;obtain⟨x,hx,hl⟩:=qhR h2 i hi;refine one ?_ hl;cases q:c.own.contains x with
     |false=>rfl
     |true=>exact absurd (List.any_eq_true.mpr ⟨x,hx,q⟩) ho
    ·cases h
  ·cases h
 |_=>simp [cTg]at h
section
variable{τ τ':Env}{σ:L2.St}{H:Hp}{S:Sh}
theorem SE.set{i:Nat}{d:D}{v:V}(se:SE g c τ σ H S)(r:Rep g (hid H S) d v):SE g c (τ.set i (some d)) (σ.set i (some v)) H S:=by
 refine⟨by simp [se.len],fun j e h=>?_,se.sub⟩;by_cases hij:i=j
 ·subst hij;by_cases hi:i<τ.length
  ·simp [hi]at h;subst h;have hi':i<σ.length:=by rw [←se.len];exact hi
   exact⟨v,by simp [hi'],.inl r,fun _ _ _=>r⟩
  ·rw [List.set_eq_of_length_le (by lia)]at h;rw [List.getElem?_eq_none (by lia)]at h;cases h
 ·rw [List.getElem?_set_ne hij]at h ⊢;exact se.val j e h
theorem SE.setAll:∀{is:List Nat}{ds:List D}{vs:List V}{τ:Env}{σ:L2.St}{Q:L2.St→Hp→Prop},SE g c τ σ H S→qq g (hid H S) ds vs→setAll is ds τ=.ok τ'→(∀σ',SE g c τ' σ' H S→Q σ' H)→qeg is vs σ H Q
 | [],_,_,τ,σ,Q,se,.nil,h,k=>by
  simp only [EV.setAll,R.ok.injEq]at h;subst h;exact⟨rfl,k σ se⟩
 |i::is,_,_,τ,σ,Q,se,.cons r rs,h,k=>by
  simp only [EV.setAll]at h;exact⟨_,_,rfl,SE.setAll (se.set r) rs h k⟩
 | [],_,_,τ,σ,Q,se,.cons r rs,h,k=>by simp [EV.setAll]at h
 |i::is,_,_,τ,σ,Q,se,.nil,h,k=>by simp [EV.setAll]at h
theorem qmC(O:X.K=g.K){tg:Tg}{d:D}{v:V}{Q:L2.St→Hp→Prop}(se:SE g c τ σ H S)(r:Rep g (hid H S) d v)(h:store tg d τ=.ok τ')(k:∀σ',SE g c τ' σ' H S→Q σ' H):gT X.K tg v σ H Q:=by
 cases tg with
 |nm i=>
  simp only [store,R.ok.injEq]at h;subst h;exact k _ (se.set r)
 |tp is=>
  cases d with
  |tup ds=>
   simp only [store]at h;split at h
   ·rename_i hl
    cases r with
    |tup h1 r1=>exact⟨_,_,rfl,by rw [O];exact qar qad h1,by rw [←r1.length];exact hl,se.setAll r1 h k⟩
   ·cases h
  |_=>simp [store]at h
end
end
abbrev qaR(c:Cc)(sc:Scope):Cc:={c with nm:=qhc sc.names c.nm,N:=zY sc.names,fnc:=false,oc:=qhJ sc.names}
section
variable{w:W}{g:Gc}{c:Cc}{E:XK}{X:Cx}
theorem XO.comp(O:XO w g c E X){sc:Scope}(hk:sc.kind=.function)(hnd:(zY sc.names).Nodup)(cl:List (Str×Addr))(C:Addr)(s₀:Shared)(H₀:Hp)(fp:List Addr):XO w g (qaR c sc) E0 (zz X (zY sc.names) sc cl C s₀ H₀ fp) where
 K:=O.K
 nm:=by
  show (relabel sc X.env).names=qhc sc.names c.nm;unfold relabel qhc;simp only
  congr 1
  funext p;have h1:(X.env.scope.kind==ScopeKind.function)=true:=by rw [O.kind];rfl
  have h2:X.env.kindOf p.1=c.nm.lookup p.1:=by show X.env.scope.names.lookup p.1=_;rw [O.nm]
  obtain⟨n,k⟩:=p;simp only at h2;simp only [h1,h2,Bool.and_true]
 N:=rfl
 nd:=hnd
 calm:=O.calm
 units:=O.units
 fn:=fun x z=>z.elim (fun z=>by cases z) fun z=>z
 kind:=hk
 pass:=qkD rfl rfl
 gok:=O.gok
 fns:=O.fns
 sub:=O.sub
theorem qum{α:Type}{τ:Env}{σ:L2.St}{H:Hp}{S:Sh}{it:It}{f:List D→R α}{P:α→Prop}{R':L2.It→Hp→Prop}(se:SE g c τ σ H S)(h:tR g E H ((evI w it τ).bind f) P)
  (k:∀ds J H',evI w it τ=.ok ds→qf H H'→(∀H2 S2,qf H' H2→qf (hid H' S) (hid H2 S2)→Sub S2 H2→Goes g J ds H2 S2)→(owned it=false→∀H2 S2,qf (hid H' S) (hid H2 S2)→Sub S2 H2→Goes g J ds H2 S2)→tR g E H' (f ds) P→R' J H'):tIt w g c E it σ H R':=by
 refine⟨τ,S,se,?_⟩;cases q:evI w it τ with
 |ok d=>rw [q]at h;exact fun J H' s k1 k2=>k d J H' q s k1 k2 (tR.up h s)
 |ex x=>rw [q]at h;exact h
 |no=>rw [q]at h;exact h
theorem qpz{α:Type}{r:R α}{x:Str}:noEx r≠.ex x:=by cases r<;>intro h<;>cases h
theorem qpn{α:Type}{r:R α}{a:α}(h:noEx r=.ok a):r=.ok a:=by cases r<;>first|exact h|cases h
theorem qit{body:D→Env→R (Env×List D)}(hb:∀d τ x,body d τ≠.ex x):∀{ds:List D}{τ:Env}{acc:List D}{x:Str},zJ body ds τ acc≠.ex x
 | [],_,_,_,h=>by cases h
 |d::r,τ,acc,x,h=>by
  simp only [zJ]at h;cases q:body d τ with
  |ok p=>rw [q]at h;exact qit hb h
  |ex y=>exact hb _ _ _ q
  |no=>rw [q]at h;cases h
theorem SE.caps{sc:Scope}{cap:List (Option Nat)}{τ:Env}{σ:L2.St}{H:Hp}{S:Sh}(O:XO w g c E X)(hc:qoc X (zY sc.names) cap sc)(se:SE g c τ σ H S):SE g (qaR c sc) (qaT cap τ) (L2.caps cap σ) H S:=by
 refine⟨by simp [qaT,L2.caps],fun i d h=>?_,se.sub⟩;unfold qaT at h;rw [List.getElem?_map]at h;cases q:cap[i]? with
 |none=>rw [q]at h;cases h
 |some o=>
  cases o with
  |none=>rw [q]at h;cases h
  |some j=>
   rw [q]at h;simp only [Option.map_some,Option.bind_some,Option.some.injEq]at h;cases q2:τ[j]? with
   |none=>rw [q2]at h;cases h
   |some z=>
    rw [q2]at h;cases z with
    |none=>cases h
    |some d'=>
     have:d'=d:=by simpa using h
     subst this;obtain⟨v,h1,h2,h3⟩:=se.val j d' q2;refine⟨v,?_,h2,fun x hx ho=>?_⟩
     ·unfold L2.caps;rw [List.getElem?_map,q];simp [h1]
     ·obtain⟨y,e1,e2,_⟩:=hc.2 i j q;have hx':(zY sc.names)[i]? = some x:=hx;rw [e1]at hx';cases hx';exact h3 _ (by rw [←O.N];exact e2) ho
theorem qdi{H:Hp}{S:Sh}{p:Addr}{o:HO}(h:S.h p=true):hid (upd H p o) S=hid H S:=by
 funext b;unfold hid;by_cases hb:b=p
 ·subst hb;rw [if_pos h,if_pos h]
 ·rw [qm hb]
theorem SE.grow{c:Cc}{τ:Env}{σ:L2.St}{H:Hp}{S:Sh}{p:Addr}{o:HO}(se:SE g c τ σ H S)(h:S.h p=true)(ho:S.o p=false):SE g c τ σ (upd H p o) S:=by
 refine⟨se.len,fun i d e=>?_,fun a ha n=>?_⟩
 ·obtain⟨v,h1,h2,h3⟩:=se.val i d e;refine⟨v,h1,?_,fun x hx hy=>by rw [qdi h];exact h3 x hx hy⟩;rcases h2 with h2|⟨a,vs,ds,z1,z2,z3,z4,z5⟩
  ·exact .inl (by rw [qdi h];exact h2)
  ·refine .inr ⟨a,vs,ds,z1,z2,z3,?_,by rw [qdi h];exact z5⟩;rw [qm (fun z=>by rw [z,ho]at z1;cases z1)];exact z4
 ·by_cases hb:a=p
  ·subst hb;rw [zw]at n;cases n
  ·rw [qm hb]at n;exact se.sub a ha n
theorem SE.hide{c:Cc}{τ:Env}{σ:L2.St}{H:Hp}{S:Sh}{p:Addr}{vs:List V}(se:SE g c τ σ H S)(hp:H p=none):SE g c τ σ (upd H p (.lst vs)) (zV S p):=by
 refine⟨se.len,fun i d e=>?_,fun a ha n=>?_⟩
 ·obtain⟨v,h1,h2,h3⟩:=se.val i d e;refine⟨v,h1,?_,fun x hx hy=>(h3 x hx hy).mono (qdv hp)⟩;rcases h2 with h2|⟨a,vs,ds,z1,z2,z3,z4,z5⟩
  ·exact .inl (h2.mono (qdv hp))
  ·exact .inr ⟨a,vs,ds,z1,z2,z3,za hp _ _ z4,z5.mono (qdv hp)⟩
 ·by_cases hb:a=p
  ·subst hb;rw [zw]at n;cases n
  ·rw [qm hb]at n;refine se.sub a ?_ n;rcases ha with ha|ha
   ·refine .inl ?_;have ha:(S.h a||a==p)=true:=ha
    simpa [hb]using ha
   ·exact .inr ha
theorem qdT(O:XO w g c E X){sc:Scope}{cap:List (Option Nat)}{iit:It}{itg:Tg}{tt:T}{ielt:EV.E}(hS:zT X (zY sc.names) cap sc)(he:esc ielt=true){σ:L2.St}{H:Hp}{Q:VK}(hq:tE w g c E (.comp iit cap itg tt ielt) σ H Q) :
  qjW cap (tIt w g c E iit) (gT X.K itg) (tT w g (qaR c sc) E0 tt) (fun acc=>qhg acc (tE w g (qaR c sc) E0 ielt)) σ H Q:=by
 obtain⟨τ,S,se,k⟩:=hq;simp only [qw,ze,zd,zi,zj,qV,zf,zo,zg,qI,qG,qO,qP,qL,qB,qF,qM,qy,qN,qz,qW,qo,qJ,qX,qH,qA,qR,qT,qK,qU,qY]at k;refine qum se k fun ds J H1 e1 s1 kW _ k1 acc hacc=>?_
 by_cases hz:SZ<ds.length
 ·rw [if_pos hz]at k1;exact k1.elim
 rw [if_neg hz]at k1;generalize hbody:(fun x σ=>noEx ((store itg x σ).bind fun σ'=>(evT w tt σ').bind fun r=>if r=true then (evE w ielt σ').bind fun d=>R.ok (σ',[d])else R.ok (σ',[])))=body at k1;have bex:∀d τ x,body d τ≠.ex x:=fun d τ x=>by rw [←hbody];exact qpz
 cases hl:zJ body ds (qaT cap τ) []with
 |ex z=>exact absurd hl (qit bex)
 |no=>rw [hl]at k1;exact k1.elim
 |ok out=>
  rw [hl]at k1;simp only [R.bind_ok]at k1;have k1:∀v H',qcD g c (.comp iit cap itg tt ielt) S H (.lst out) v H'→Q v H':=k1;have sub1:=se.sub.same s1;have hoacc:S.o acc=false:=sub1.freeO hacc;have hhacc:(zV S acc).h acc=true:=by show (S.h acc||acc==acc)=true;simp
  -- what holds between two turns
  refine⟨fun i m σ' H'=>m=ds.length-i∧i≤ds.length∧∃τ' o,zJ body (ds.drop i) τ' o=.ok out∧SE g (qaR c sc) τ' σ' H' (zV S acc)∧o.length≤i∧qf H1 H'∧∃vs,H' acc=some (.lst vs)∧qq g (hid H' (zV S acc)) o vs,
   ⟨ds.length,rfl,Nat.zero_le _,qaT cap τ,[],hl,(se.up s1).caps O hS.cap |>.hide hacc,Nat.le_refl _,za hacc,[],zw,.nil⟩,?_⟩
  rintro i m σ' H' ⟨rfl,hi',τ',o,hlo,se',hol,s1',vs,hv,hr⟩;have keep:qf (hid H1 S) (hid H' (zV S acc)):=fun b u hb=>by
   obtain⟨z1,z2⟩:=qtZ.mp hb;refine qtZ.mpr ⟨?_,s1' _ _ z2⟩;show (S.h b||b==acc)=false;rw [z1]
   simpa using fun z:b=acc=>by rw [z,hacc]at z2;cases z2
  obtain⟨g1,g2⟩:=kW H' (zV S acc) s1' keep se'.sub;by_cases hlt:i<ds.length
  ·have hd:ds[i]? = some ds[i]:=List.getElem?_eq_getElem hlt;obtain⟨go1,go2⟩:=g2 i ds[i] hd;refine .inr ⟨go1,fun σ'' H''=>∃τ' o,zJ body (ds.drop (i+1)) τ' o=.ok out∧SE g (qaR c sc) τ' σ'' H'' (zV S acc)∧o.length≤i+1∧qf H1 H''∧∃vs,H'' acc=some (.lst vs)∧qq g (hid H'' (zV S acc)) o vs,
    fun σ'' H'' z=>⟨ds.length-(i+1),by lia,rfl,hlt,z⟩,fun x H2 hy=>?_⟩
   obtain⟨s2,rx⟩:=go2 x H2 hy;rw [List.drop_eq_getElem_cons hlt]at hlo;simp only [zJ]at hlo;cases q:body ds[i] τ' with
   |ex z=>exact absurd q (bex _ _ _)
   |no=>rw [q]at hlo;cases hlo
   |ok p=>
    rw [q]at hlo;simp only [R.bind_ok]at hlo;rw [←hbody]at q;have q:=qpn q;cases q1:store itg ds[i] τ' with
    |ex z=>rw [q1]at q;cases q
    |no=>rw [q1]at q;cases q
    |ok τ1=>
     rw [q1]at q;simp only [R.bind_ok]at q;refine qmC O.K (se'.up s2) rx q1 fun σ1 se1=>?_
     cases q2:evT w tt τ1 with
     |ex z=>rw [q2]at q;cases q
     |no=>rw [q2]at q;cases q
     |ok r=>
      rw [q2]at q;simp only [R.bind_ok]at q;refine⟨τ1,zV S acc,se1,?_⟩;rw [q2];intro H3 s3;have hv3:=s3 _ _ (s2 _ _ hv);have s13:=s1'.trans (s2.trans s3);cases r with
      |false=>
       simp only [Bool.false_eq_true,if_false,R.ok.injEq]at q;subst q;rw [if_neg Bool.false_ne_true];exact⟨τ1,o++[],hlo,se1.up s3,by simp;lia,s13,vs,hv3,by rw [List.append_nil];exact hr.mono (qr (s2.trans s3))⟩
      |true=>
       simp only [if_true]at q;rw [if_pos rfl];cases q3:evE w ielt τ1 with
       |ex z=>rw [q3]at q;cases q
       |no=>rw [q3]at q;cases q
       |ok dd=>
        rw [q3]at q;simp only [R.bind_ok,R.ok.injEq]at q;subst q;refine⟨τ1,zV S acc,se1.up s3,?_⟩;rw [q3];intro v H4 p4;have hv4:=p4.same _ _ hv3;have hr4:=hr.mono (qr ((s2.trans s3).trans p4.same));have hz':vs.length<sizeLine:=by
         rw [←hr.length,sizeLine_eq];have:ds.length≤SZ:=Nat.le_of_not_lt hz;unfold SZ at this;lia
        refine⟨vs,hv4,hz',τ1,o++[dd],hlo,(se1.up (s3.trans p4.same)).grow hhacc hoacc,by simp;lia,fun b u hb=>?_,vs++[v],zw,?_⟩
        ·rw [qm (fun z=>by rw [z,hacc]at hb;cases hb)];exact p4.same _ _ (s13 _ _ hb)
        ·rw [qdi hhacc];exact hr4.append (.cons (p4.st he) .nil)
  ·have e:i=ds.length:=by lia
   subst e;refine .inl ⟨g1 ds.length (Nat.le_refl _),?_⟩;rw [List.drop_length]at hlo;simp only [zJ,R.ok.injEq]at hlo;subst hlo;have rep:Rep g (hid H' S) (.lst o) (.ref acc):=.lst (SqL.of (qtZ.mpr ⟨sub1.free hacc,hv⟩)) (hr.mono qgp);exact k1 _ _ (qcD.new (s1.trans s1') rep ⟨acc,vs,o,rfl,rfl,s1.free hacc,hv,hr⟩)
theorem qrV(O:XO w g c E X)(hcalm:X.calm=true){sc:Scope}{cap:List (Option Nat)}{tgt it elt:Expr}{ifs:List Expr}{pos:Pos}{iit:It}{itg:Tg}{tt:T}{ielt:EV.E}(hS:zT X (zY sc.names) cap sc)(hnd:(zY sc.names).Nodup)
  (hi:PI X tgt it (tIt w g c E iit)) (hb:∀cl C s₀ H₀ fp,PG (zz X (zY sc.names) sc cl C s₀ H₀ fp) tgt (gT X.K itg)∧PTs (zz X (zY sc.names) sc cl C s₀ H₀ fp) ifs (tT w g (qaR c sc) E0 tt)∧PE (zz X (zY sc.names) sc cl C s₀ H₀ fp) elt (tE w g (qaR c sc) E0 ielt))
  (he:esc ielt=true) (hs:zv it=true):PE X (.ListComp elt [⟨tgt,it,ifs,0⟩] sc pos) (tE w g c E (.comp iit cap itg tt ielt)):=by
 exact PE.imp (qor (tb:=fun acc=>qhg acc (tE w g (qaR c sc) E0 ielt)) hcalm hS hi (fun cl C s₀ H₀ fp=>⟨(hb cl C s₀ H₀ fp).1,(hb cl C s₀ H₀ fp).2.1,fun acc=>qji rfl (hb cl C s₀ H₀ fp).2.2⟩) (by simp) (fun x=>by cases it<;>first|rfl|(simp [zv]at hs))) fun σ H Q q=>qdT O hS he q
end
section
variable{prog:Program}{w:World}{A:Around}{E:Value→Shared→Prop}{s:Shared}
theorem qgY{Q:List Value→Shared→Prop}{r:Addr}{a b:Int}{t u v:Tok}{n:Nat}(hh:A.handled=none)(hr:IsRange s.heap r a b 1 t u v)(hsmall:Builtin.Range.small a b 1=true)(hn:Builtin.Range.rangeSize a b 1=n)(hlen:n≤2^24)
  (hQ:∀h' tk acc,(∀b o',s.heap.get? b=some o'→h'.get? b=some o')→ItemsOf (fun i v=>∃t,v=.int (a+i * 1) t) acc n→Q acc.toList {s with heap:=h',toks:=tk}):wpAny (model prog w) A (collect (.ref r)) Q E s:=by
 unfold collect;refine wpAny_bind (wpAny_runValue (codeAny_builtin PySem.F.entry_proto_collect ?_));rw [Around.under_plainId PySem.F.plain_proto_collect _];show wpAny _ A.in1 (newList []>>=fun l=>again (.builtin "list.__iadd__" ⟨[l,.ref r],[]⟩)) _ _ s;refine wpAny_bind (wpAny_newObj_type ?_);refine wpAny_pure ⟨plainId_quiet PySem.F.plain_list_iadd _,codeAny_builtin PySem.F.entry_list_iadd ?_⟩;rw [Around.under_plainId PySem.F.plain_list_iadd _];show wpAny _ A.in1 (Builtin.List.listExtendWith (.ref s.heap.objs.size) (.ref r) (.ref s.heap.objs.size)) _ _ _;have hS:(s.heap.push {cls:=.type "list",data:=.seq ([]:List Value).toArray}).get? s.heap.objs.size=some {cls:=.type "list",data:=.seq #[] 0}:=Heap.get?_push_size _ rfl;have fin':∀(h':Heap) (tk:Nat) (acc:Array Value) (c':Nat),(∀b o,b≠s.heap.objs.size→(s.heap.push {cls:=.type "list",data:=.seq ([]:List Value).toArray}).get? b=some o→h'.get? b=some o)→h'.get? s.heap.objs.size=some {cls:=.type "list",dict:=none,data:=.seq acc c',slots:=#[]} →
   ItemsOf (fun i v=>∃t,v=.int (a+i * 1) t) acc n→wpAny (model prog w) A (match Value.ref s.heap.objs.size with
   |Value.ref a=>do
    match (←load a).data with
     |Data.seq xs _=>pure xs.toList
     |_=>unsupported "internal:collect"
   |_=>unsupported "internal:collect") Q E {s with heap:=h',toks:=tk}:=fun h' tk acc c' hk hS' hacc=>by
  show wpAny _ A (load s.heap.objs.size>>=_) _ _ _;refine wpAny_bind (wpAny_load hS' ?_);exact wpAny_pure (hQ h' tk acc (fun b o' hb=>hk b o' (Nat.ne_of_lt (Heap.lt_size hb)) (Heap.get?_push_of_some _ hb)) hacc)
 refine wpAny_mono (wpAny_extend_range (A:=A) (R:=fun r s'=>r=.ok (.ret (.ref s.heap.objs.size))∧∃h' tk acc c',s'={s with heap:=h',toks:=tk}∧(∀b o,b≠s.heap.objs.size→(s.heap.push {cls:=.type "list",data:=.seq ([]:List Value).toArray}).get? b=some o→h'.get? b=some o)∧h'.get? s.heap.objs.size=some {cls:=.type "list",dict:=none,data:=.seq acc c',slots:=#[]}∧ItemsOf (fun i v=>∃t,v=.int (a+i * 1) t) acc n)
  (s:={s with heap:=s.heap.push {cls:=.type "list",data:=.seq ([]:List Value).toArray}}) hh (Heap.get?_push_of_some _ hr) hsmall hn hlen _ _ 0 hS fun h' tk acc c' hk hS' hacc=>⟨rfl,h',tk,acc,c',rfl,hk,hS',hacc⟩) (fun fin s' h=>?_) (fun e s' h=>?_)
 ·cases fin with
  |done f=>
   obtain⟨e,h',tk,acc,c',rfl,hk,hS',hacc⟩:=h;cases e;exact fin' h' tk acc c' hk hS' hacc
  |again c'=>exact⟨h.1,codeAny_mono h.2 fun r s'' hr=>by obtain⟨rfl,h',tk,acc,c',rfl,hk,hS',hacc⟩:=hr;exact fin' h' tk acc c' hk hS' hacc⟩
 ·exact absurd h.1 (by simp)
theorem qet(r:Addr)(a b:Int)(t u v:Tok)(n:Nat)(hsmall:Builtin.Range.small a b 1=true)(hn:Builtin.Range.rangeSize a b 1=n)(hlen:n≤2^24) :
  PySem.Meets (Builtin.«tuple.__new__» ⟨[.type "tuple",.ref r],[]⟩)
   (fun A R s=>A.handled=none∧IsRange s.heap r a b 1 t u v∧∀(h':Heap) (tk:Nat) (acc:Array Value),(∀b o',s.heap.get? b=some o'→h'.get? b=some o')→ItemsOf (fun i v=>∃t,v=.int (a+i * 1) t) acc n→R (.ok (.ret (.ref h'.objs.size))) {s with heap:=h'.push {cls:=.type "tuple",data:=.seq acc},toks:=tk}):=
 .of_wp fun prog w A R s h=>by
  obtain⟨hh,ht,h⟩:=h;have hsub:=sub_tuple_self;have hinit:=init_tuple_lookup;have hmh:=madeHere_tuple;have hT:s.TypeIs (.ref r) "range":=⟨_,ht,rfl⟩
  have hh1:A.in1.handled=none:=hh
  wp_walk using wpAny_typeOf hT,qgY (hsmall:=hsmall) (hn:=hn) (hlen:=hlen) hh1 ht
  intro h' tk acc hk hacc;show wpAny _ _ (Builtin.Tuple.tupleExact acc.toList.toArray>>=fun v=>ret v) _ _ _;unfold Builtin.Tuple.tupleExact;refine wpAny_bind (wpAny_newObj_type ?_ (show acc.toList.toArray.size≤sizeLine by simp only [Array.toArray_toList];rw [hacc.1,sizeLine_eq];lia));refine wpAny_pure ⟨_,rfl,?_⟩;have e:acc.toList.toArray=acc:=by simp
  rw [e];exact h h' tk acc hk hacc
theorem qeK{r:Addr}{a b:Int}{t u v:Tok}{n:Nat}{Q:Value→Shared→Prop}(hh:A.handled=none)(hr:IsRange s.heap r a b 1 t u v)(hsmall:Builtin.Range.small a b 1=true)(hn:Builtin.Range.rangeSize a b 1=n)(hlen:n≤2^24)
  (h:∀(h':Heap) (tk:Nat) (acc:Array Value),(∀b o',s.heap.get? b=some o'→h'.get? b=some o')→ItemsOf (fun i v=>∃t,v=.int (a+i * 1) t) acc n→Q (.ref h'.objs.size) {s with heap:=h'.push {cls:=.type "tuple",data:=.seq acc},toks:=tk}) :
  wpAny (model prog w) A (call (.type "tuple") [.ref r]) Q E s:=
 callType_new PySem.F.called_tuple (by decide) (PySem.F.typeCall_tuple_1 _) (PySem.F.newCall_tuple_1 _) (fun obj=>PySem.F.args_object_init_2 obj _) PySem.F.entry_tuple_new
  (qet r a b t u v n hsmall hn hlen) ⟨hh,hr,fun h' tk acc hk hacc=>⟨⟨_,Heap.get?_push_size _ rfl,rfl⟩,h h' tk acc hk hacc⟩⟩
end
theorem qhm:∀{xs:List V}{us:List Value},xs.length=us.length→(∀(i:Nat) x u,xs[i]? = some x→us[i]? = some u→L2.RelV x u)→Vals xs us
 | [],[],_,_=>.nil
 |x::xs,u::us,h,k=>.cons (k 0 x u rfl rfl) (qhm (by simpa using h) fun i y v h1 h2=>k (i+1) y v (by simpa using h1) (by simpa using h2))
 | [],_::_,h,_=>by simp at h
 |_::_,[],h,_=>by simp at h
noncomputable def qcG(lo:Int)(n:Nat):List V:=(List.range n).map fun(i:Nat)=>.int (lo+(i:Int))
theorem qfx{lo:Int}{n:Nat}{acc:Array Value}(h:ItemsOf (fun i v=>∃t,v=.int (lo+i * 1) t) acc n):Vals (qcG lo n) acc.toList:=by
 refine qhm (by simp [qcG,h.1]) fun i x u hx hu=>?_
 unfold qcG at hx;rw [List.getElem?_map]at hx;cases q:(List.range n)[i]? with
 |none=>rw [q]at hx;cases hx
 |some j=>
  rw [q]at hx;cases hx;obtain⟨h1,h2⟩:=List.getElem?_eq_some_iff.mp q;simp at h2;subst h2;obtain⟨t,ht⟩:=h.2 i u (by simpa using hu);rw [ht];exact⟨t,by rw [Int.mul_one]⟩
theorem qdE{g:Gc}{H:Hp}{lo:Int}{n:Nat}:qq g H (qS lo n) (qcG lo n):=by
 unfold qS qcG;generalize List.range n=l
 induction l with
 |nil=>exact .nil
 |cons i l ih=>exact .cons (.int _) ih
section
variable{X:Cx}
theorem qmg:qx X (.type "range") (fun vs H Q=>∃lo hi,(vs=[.int hi]∧lo=0∨vs=[.int lo,.int hi])∧∀p,H p=none→Q (.ref p) (upd H p (.rng lo hi))):=by
 intro pins s σ H xs us Q I r h;obtain⟨lo,hi,h|h,q⟩:=h
 ·obtain⟨rfl,rfl⟩:=h;obtain⟨u,rfl,t,rfl⟩:=r.one;exact call_range_1 ⟨.ref _,_,I.laid (o:=.rng 0 hi) (fun b o e=>Heap.get?_push_of_some _ e) (Nat.le_refl _) ⟨_,_,_,Heap.get?_push_size _ rfl⟩,rfl,q _ I.fresh⟩
 ·subst h;obtain⟨u,v,rfl,⟨t,rfl⟩,⟨t',rfl⟩⟩:=r.two;exact call_range_2 ⟨.ref _,_,I.laid (o:=.rng lo hi) (fun b o e=>Heap.get?_push_of_some _ e) (Nat.le_refl _) ⟨_,_,_,Heap.get?_push_size _ rfl⟩,rfl,q _ I.fresh⟩
theorem qnX{lo hi:Int}:Builtin.Range.rangeSize lo hi 1=((hi-lo).toNat:Nat):=by
 rw [rangeSize_one];split<;>lia
theorem qkT(hc:X.calm=true):qx X (.type "list") (fun vs H Q=>∃p lo hi,vs=[.ref p]∧H p=some (.rng lo hi)∧qh lo=true∧qh hi=true∧∀q,H q=none→Q (.ref q) (upd H q (.lst (qcG lo (hi-lo).toNat)))):=by
 intro pins s σ H xs us Q I r h;obtain⟨p,lo,hi,rfl,hp,z1,z2,q⟩:=h;obtain⟨u,rfl,ru⟩:=r.one;cases ru;obtain⟨t,u,v,e⟩:=I.hok p _ hp;obtain⟨a1,a2⟩:=qaK z1;obtain⟨b1,b2⟩:=qaK z2;refine call_list_range (I.ok.hd hc) e (small_one (by lia) (by lia) (by lia) (by lia)) qnX (by lia) fun h' tk acc c' hk hS hacc=>?_
 refine⟨.ref _,_,I.laid (h':=h') (t':=tk) (o:=.lst (qcG lo (hi-lo).toNat)) hk (Nat.le_refl _) ⟨by simp [qcG,sizeLine_eq];lia,acc.toList,c',qfx hacc,by simpa using hS⟩,rfl,q _ I.fresh⟩
theorem qlo(hc:X.calm=true):qx X (.type "tuple") (fun vs H Q=>∃p lo hi,vs=[.ref p]∧H p=some (.rng lo hi)∧qh lo=true∧qh hi=true∧∀q,H q=none→Q (.ref q) (upd H q (.tup (qcG lo (hi-lo).toNat)))):=by
 intro pins s σ H xs us Q I r h;obtain⟨p,lo,hi,rfl,hp,z1,z2,q⟩:=h;obtain⟨u,rfl,ru⟩:=r.one;cases ru;obtain⟨t,u,v,e⟩:=I.hok p _ hp;obtain⟨a1,a2⟩:=qaK z1;obtain⟨b1,b2⟩:=qaK z2;refine qeK (I.ok.hd hc) e (small_one (by lia) (by lia) (by lia) (by lia)) qnX (by lia) fun h' tk acc hk hacc=>?_
 have I1:Inv X pins σ H {s with heap:=h',toks:=tk}:=I.kept hk;refine⟨.ref _,_,I1.laid (t':=tk) (o:=.tup (qcG lo (hi-lo).toNat)) (fun b o e=>Heap.get?_push_of_some _ e) (Nat.le_refl _) ⟨by simp [qcG,sizeLine_eq];lia,acc.toList,qfx hacc,⟨_,Heap.get?_push_size _ rfl,rfl,0,by simp⟩⟩,rfl,q _ I1.fresh⟩
end
section
variable{w:W}{g:Gc}{c:Cc}{E:XK}{X:Cx}{a b:Expr}{ia ib:EV.E}{pos p2 p3 pos3:Pos}
theorem qqg(O:XO w g c E X){x:Str}{e:Expr}{es:List Expr}{t:TA}(h:glob c x=some .rng)(ha:PA X (e::es) t)(hs:∀z∈e::es,isStar z=false) :
  PE X (.Call (.Name x p3) (e::es) [] pos3) (tCB (fun vs H Q=>∃lo hi,(vs=[.int hi]∧lo=0∨vs=[.int lo,.int hi])∧∀p,H p=none→Q (.ref p) (upd H p (.rng lo hi))) t):=by
 obtain⟨h1,rfl⟩:=O.gm h;exact qcT qmg (O.gl h) h1 (by decide +kernel) ha (qE h).2.2.2 (qE h).2.2.1 (qt (hs e List.mem_cons_self)) (qhj fun z hz=>hs z (List.mem_cons_of_mem _ hz))
theorem qnN(O:XO w g c E X)(hc:X.calm=true){x y:Str}{n:String}{bb:Option B1}{e:Expr}{es:List Expr}{it:It}{t:TA}(hT:glob c x=some (.ty n bb))(h:glob c y=some .rng)(ha:PA X (e::es) t)(hs:∀z∈e::es,isStar z=false)
  (hn:n = "tuple"∨n = "list")
  (k:∀σ H (Q:List V→Hp→Prop) τ S (P:List D→Prop),SE g c τ σ H S→tR g E H (evI w it τ) P→(∀lo hi vs H',qf H H'→(vs=[.int hi]∧lo=0∨vs=[.int lo,.int hi])→qh lo=true→qh hi=true→P (qS lo (hi-lo).toNat)→Q vs H')→t σ H Q) :
  PE X (.Call (.Name x p2) [.Call (.Name y p3) (e::es) [] pos3] [] pos) (tE w g c E (if n = "tuple" then .rtup it else .rlst it)):=by
 obtain⟨h1,h2,_,_⟩:=O.gm hT;have hr:=qqg (p3:=p3) (pos3:=pos3) O h ha hs;rcases hn with rfl|rfl
 ·refine PE.imp (qcT (qlo hc) (O.gl hT) h1 h2 (zA hr qau) (qE hT).2.2.2 (qE hT).2.2.1) fun σ H Q ⟨τ,S,se,q⟩=>?_
  rw [if_pos rfl]at q;simp only [qw,ze,zd,zi,zj,qV,zf,zo,zg,qI,qG,qO,qP,qL,qB,qF,qM,qy,qN,qz,qW,qo,qJ,qX,qH,qA,qR,qT,qK,qU,qY]at q;refine k σ H _ τ S _ se (tR.bnd q) fun lo hi vs H' s hv z1 z2 hP=>⟨lo,hi,hv,fun p hp=>⟨p,lo,hi,rfl,zw,z1,z2,fun r hr=>?_⟩⟩
  have s1:=za (o:=.rng lo hi) hp;exact hP _ _ (qcD.of ((s.trans s1).trans (za hr)) (qbO (se.sub.same (s.trans s1)) hr qdE) rfl)
 ·refine PE.imp (qcT (qkT hc) (O.gl hT) h1 h2 (zA hr qau) (qE hT).2.2.2 (qE hT).2.2.1) fun σ H Q ⟨τ,S,se,q⟩=>?_
  rw [if_neg (by decide)]at q;simp only [qw,ze,zd,zi,zj,qV,zf,zo,zg,qI,qG,qO,qP,qL,qB,qF,qM,qy,qN,qz,qW,qo,qJ,qX,qH,qA,qR,qT,qK,qU,qY]at q;refine k σ H _ τ S _ se (tR.bnd q) fun lo hi vs H' s hv z1 z2 hP=>⟨lo,hi,hv,fun p hp=>⟨p,lo,hi,rfl,zw,z1,z2,fun r hr=>?_⟩⟩
  have s1:=za (o:=.rng lo hi) hp;exact hP _ _ (qcD.new ((s.trans s1).trans (za hr)) (qbm (se.sub.same (s.trans s1)) hr qdE) (qcC (s.trans s1) hr qdE))
theorem qrM(ha:PE X a (tE w g c E ia))(hs:isStar a=false):PA X [a] (qfl (tE w g c E ia) qjQ):=zA ha qau (qt hs)
theorem qmf:∀σ H (Q:List V→Hp→Prop) τ S (P:List D→Prop),SE g c τ σ H S→tR g E H (evI w (.rng ia) τ) P→(∀lo hi vs H',qf H H'→(vs=[.int hi]∧lo=0∨vs=[.int lo,.int hi])→qh lo=true→qh hi=true→P (qS lo (hi-lo).toNat)→Q vs H')→qfl (tE w g c E ia) qjQ σ H Q:=by
 intro σ H Q τ S P se q k;simp only [evI]at q;refine zk se q fun da va H1 e1 p1 k1=>?_
 cases da with
 |int j=>
  simp only at k1;cases z:qh j with
  |true=>rw [z,if_pos rfl]at k1;exact k 0 j _ H1 p1.same (.inl ⟨by rw [p1.rb.int],rfl⟩) (by decide) z (by rw [Int.sub_zero];exact k1)
  |false=>rw [z]at k1;exact k1.elim
 |_=>exact k1.elim
theorem qmW:∀σ H (Q:List V→Hp→Prop) τ S (P:List D→Prop),SE g c τ σ H S→tR g E H (evI w (.rng2 ia ib) τ) P→(∀lo hi vs H',qf H H'→(vs=[.int hi]∧lo=0∨vs=[.int lo,.int hi])→qh lo=true→qh hi=true→P (qS lo (hi-lo).toNat)→Q vs H')→qfl (tE w g c E ia) (qfl (tE w g c E ib) qjQ) σ H Q:=by
 intro σ H Q τ S P se q k;simp only [evI]at q;refine zk se q fun da va H1 e1 p1 k1=>zk (se.up p1.same) k1 fun db vb H2 e2 p2 k2=>?_
 cases da with
 |int i=>
  cases db with
  |int j=>
   simp only at k2;cases z:qh i&&qh j with
   |true=>
    rw [z,if_pos rfl]at k2;simp only [Bool.and_eq_true]at z;exact k i j _ H2 (p1.same.trans p2.same) (.inr (by rw [p1.rb.int,p2.rb.int])) z.1 z.2 k2
   |false=>rw [z]at k2;exact k2.elim
  |_=>exact k2.elim
 |_=>exact k2.elim
end
structure Snd(w:W)(g:Gc)(n:Nat):Prop where
 e:∀{c:Cc}{E:XK}{X:Cx} (O:XO w g c E X) {x:Expr}{ir:EV.E},cE n c x=some ir→PE X x (tE w g c E ir)
 bo:∀{c:Cc}{E:XK}{X:Cx} (O:XO w g c E X) {op:PySem.BoolOp}{vs:List Expr}{pos:Pos}{ir:EV.E},cBo n c op vs=some ir→PE X (.BoolOp op vs pos) (tE w g c E ir)∧esc ir=true
 o:∀{c:Cc}{E:XK}{X:Cx} (O:XO w g c E X) {x:Option Expr}{ir:OE},cO n c x=some ir→PO X x (tOe w g c E ir)
 es:∀{c:Cc}{E:XK}{X:Cx} (O:XO w g c E X) {x:List Expr}{ir:Es},cEs n c x=some ir→PA X x (tA w g c E ir)
 i:∀{c:Cc}{E:XK}{X:Cx} (O:XO w g c E X) {tg x:Expr}{ir:It},cI n c x=some ir→qgc ir tg=true→PI X tg x (tIt w g c E ir)
 t:∀{c:Cc}{E:XK}{X:Cx} (O:XO w g c E X) {x:Expr}{ir:T},cT n c x=some ir→PT X x (tT w g c E ir)
 ts:∀{c:Cc}{E:XK}{X:Cx} (O:XO w g c E X) {op:PySem.BoolOp}{vs:List Expr}{pos:Pos}{ir:T},cTs n c op vs=some ir→PW X (.BoolOp op vs pos) (tT w g c E ir)
 ifs:∀{c:Cc}{E:XK}{X:Cx} (O:XO w g c E X) {x:List Expr}{ir:T},qdS n c x=some ir→PTs X x (tT w g c E ir)
section
variable{w:W}{g:Gc}{n:Nat}
theorem Snd.ifs_succ(ih:Snd w g n){c:Cc}{E:XK}{X:Cx}(O:XO w g c E X){x:List Expr}{ir:T}(h:qdS (n+1) c x=some ir):PTs X x (tT w g c E ir):=by
 match x with
 | []=>
  simp only [qdS,Option.some.injEq]at h;subst h;intro pins s σ H Q I ⟨τ,S,se,q⟩;exact qpU pins s σ H Q I (q H (qf.refl _))
 | [t]=>simp only [qdS]at h;exact qpI (ih.t O h)
 |_::_::_=>simp [qdS]at h
theorem Snd.bo_succ(ih:Snd w g n){c:Cc}{E:XK}{X:Cx}(O:XO w g c E X){op:PySem.BoolOp}{vs:List Expr}{pos:Pos}{ir:EV.E}(h:cBo (n+1) c op vs=some ir):PE X (.BoolOp op vs pos) (tE w g c E ir)∧esc ir=true:=by
 match vs with
 | []=>simp [cBo]at h
 | [a]=>
  simp only [cBo,Option.bind_eq_bind,Option.bind_eq_some_iff]at h;obtain⟨ia,h1,h⟩:=h;split at h
  ·rename_i he
   cases h;exact⟨qqe (ih.e O h1),he⟩
  ·cases h
 |a::b::r=>
  simp only [cBo,Option.bind_eq_bind,Option.bind_eq_some_iff]at h;obtain⟨ia,h1,ir',h2,h⟩:=h;obtain⟨r1,r2⟩:=ih.bo O (pos:=pos) h2;cases op with
  |And=>cases h;exact⟨qsL (ih.e O h1) r1 r2,rfl⟩
  |Or=>cases h;exact⟨qtF (ih.e O h1) r1 r2,rfl⟩
theorem Snd.o_succ(ih:Snd w g n){c:Cc}{E:XK}{X:Cx}(O:XO w g c E X){x:Option Expr}{ir:OE}(h:cO (n+1) c x=some ir):PO X x (tOe w g c E ir):=by
 cases x with
 |none=>simp only [cO,Option.some.injEq]at h;subst h;exact qph
 |some e=>
  simp only [cO,Option.map_eq_some_iff]at h;obtain⟨ie,h1,rfl⟩:=h;exact qpo (ih.e O h1)
theorem Snd.es_succ(ih:Snd w g n){c:Cc}{E:XK}{X:Cx}(O:XO w g c E X){x:List Expr}{ir:Es}(h:cEs (n+1) c x=some ir):PA X x (tA w g c E ir):=by
 match x with
 | []=>simp only [cEs,Option.some.injEq]at h;subst h;exact qsl
 |e::r=>
  have hs:=qbi h e List.mem_cons_self;simp only [cEs,hs,Bool.false_eq_true,if_false,Option.bind_eq_bind,Option.bind_eq_some_iff]at h;obtain⟨ie,h1,ir',h2,h⟩:=h;cases h;exact qpq (ih.e O h1) (ih.es O h2) hs
theorem Snd.ts_succ(ih:Snd w g n){c:Cc}{E:XK}{X:Cx}(O:XO w g c E X){op:PySem.BoolOp}{vs:List Expr}{pos:Pos}{ir:T}(h:cTs (n+1) c op vs=some ir):PW X (.BoolOp op vs pos) (tT w g c E ir):=by
 match vs with
 | []=>simp [cTs]at h
 | [a]=>
  simp only [cTs]at h;cases op with
  |And=>exact qoO (ih.t O h)
  |Or=>exact qqd (ih.t O h)
 |a::b::r=>
  simp only [cTs,Option.bind_eq_bind,Option.bind_eq_some_iff]at h;obtain⟨ia,h1,ir',h2,h⟩:=h;cases op with
  |And=>cases h;exact qqY (ih.t O h1) (ih.ts O h2)
  |Or=>cases h;exact qtn (ih.t O h1) (ih.ts O h2)
theorem Snd.t_succ(ih:Snd w g n){c:Cc}{E:XK}{X:Cx}(O:XO w g c E X){x:Expr}{ir:T}(h:cT (n+1) c x=some ir):PT X x (tT w g c E ir):=by
 unfold cT at h;split at h
 ·simp only [Option.map_eq_some_iff]at h;obtain⟨ia,h1,rfl⟩:=h;exact qsc (ih.t O h1)
 ·exact(ih.ts O h).pt
 ·cases h
 ·split at h
  ·simp only [Option.bind_eq_bind,Option.bind_eq_some_iff]at h;obtain⟨ia,h1,ib,h2,h⟩:=h;split at h
   ·rename_i hs;cases h;exact qqi O (ih.e O h1) (ih.e O h2) hs
   ·cases h
  ·simp only [Option.bind_eq_bind,Option.bind_eq_some_iff]at h;obtain⟨ia,h1,ib,h2,id',h3,h⟩:=h;split at h
   ·rename_i hs
    simp only [Bool.and_eq_true]at hs;cases h;exact qoG O (ih.e O h1) (ih.e O h2) (ih.e O h3) hs.2
   ·cases h
  ·cases h
 ·rename_i n1 n2 n3 n4
  simp only [Option.map_eq_some_iff]at h;obtain⟨ia,h1,rfl⟩:=h;refine qrE O (ih.e O h1) fun whole=>?_
  cases x with
  |UnaryOp op a p=>cases op<;>first|rfl|exact(n1 _ _ rfl).elim
  |BoolOp op vs p=>exact(n2 _ _ _ rfl).elim
  |IfExp a b d p=>exact(n3 _ _ _ _ rfl).elim
  |Compare a ops bs p=>exact(n4 _ _ _ _ rfl).elim
  |_=>rfl
theorem Snd.i_succ(ih:Snd w g n){c:Cc}{E:XK}{X:Cx}(O:XO w g c E X){tg x:Expr}{ir:It}(h:cI (n+1) c x=some ir)(ht:qgc ir tg=true):PI X tg x (tIt w g c E ir):=by
 have sq:∀{x:Expr}{ir:It},(cE n c x).map It.seq=some ir→PI X tg x (tIt w g c E ir):=fun {x ir} h=>by
  simp only [Option.map_eq_some_iff]at h;obtain⟨ia,h1,rfl⟩:=h;exact qsq O (ih.e O h1)
 have tup:isTup tg=true→∃es k p,tg=.Tuple es k p:=fun h=>by cases tg<;>first|exact⟨_,_,_,rfl⟩|(simp [isTup]at h)
 unfold cI at h;split at h
 ·rename_i f p as q
  split at h
  ·exact sq h
  ·split at h
   ·rename_i hg
    split at h
    ·rename_i a
     split at h
     ·cases h
     ·rename_i hs
      simp only [Option.map_eq_some_iff]at h;obtain⟨ia,h1,rfl⟩:=h;exact qss O hg (ih.e O h1) (by simpa using hs)
    ·rename_i a b
     split at h
     ·cases h
     ·rename_i hs
      have hs:isStar a=false∧isStar b=false:=by simpa using hs
      simp only [Option.bind_eq_bind,Option.bind_eq_some_iff]at h;obtain⟨ia,h1,ib,h2,h⟩:=h;cases h;exact qpK O hg (ih.e O h1) (ih.e O h2) hs.1 hs.2
    ·cases h
   ·rename_i hg
    split at h
    ·rename_i a
     split at h
     ·cases h
     ·rename_i hs
      simp only [Option.map_eq_some_iff]at h;obtain⟨ia,h1,rfl⟩:=h;obtain⟨es,k,p',rfl⟩:=tup ht;exact qpy O hg (ih.e O h1) (by simpa using hs)
    ·cases h
   ·rename_i hg
    split at h
    ·rename_i a b
     split at h
     ·cases h
     ·rename_i hs
      have hs:isStar a=false∧isStar b=false:=by simpa using hs
      simp only [Option.bind_eq_bind,Option.bind_eq_some_iff]at h;obtain⟨ia,h1,ib,h2,h⟩:=h;cases h;obtain⟨es,k,p',rfl⟩:=tup ht;exact qri O hg (ih.e O h1) (ih.e O h2) hs.1 hs.2
    ·cases h
   ·exact sq h
 ·exact sq h
end
section
variable{w:W}{g:Gc}{n:Nat}
theorem Snd.call_name(ih:Snd w g n){c:Cc}{E:XK}{X:Cx}(O:XO w g c E X){f:Str}{p pos:Pos}{as:List Expr}{ir:EV.E}(h:cE (n+1) c (.Call (.Name f p) as [] pos)=some ir):PE X (.Call (.Name f p) as [] pos) (tE w g c E ir):=by
 simp only [cE]at h;split at h
 ·cases h
 ·split at h
  ·rename_i fr hg
   simp only [Option.bind_eq_bind,Option.bind_eq_some_iff]at h;obtain⟨ies,h1,h⟩:=h;split at h
   ·rename_i hc
    simp only [Bool.and_eq_true,Bool.not_eq_true']at hc;cases h
    match as with
    | []=>simp at hc
    |e::es=>exact qrg O hg (ih.es O h1) hc.1 (qbi h1)
   ·split at h
    ·rename_i hc
     simp only [Bool.not_eq_true']at hc;cases h
     match as with
     | []=>simp at hc
     |e::es=>exact qpB O hg (ih.es O h1) (qbi h1)
    ·cases h
  ·rename_i b hg
   simp only [Option.bind_eq_bind,Option.bind_eq_some_iff]at h;obtain⟨ies,h1,h⟩:=h;split at h
   ·rename_i hc
    simp only [Bool.and_eq_true,Bool.not_eq_true',Bool.or_eq_true,beq_iff_eq]at hc;cases h
    match as with
    | []=>simp at hc
    |e::es=>exact qui O hg (by rcases hc.2 with (z|z)|z;exact .inl (O.calm z);exact .inr (.inl z);exact .inr (.inr z)) (ih.es O h1) (qbi h1)
   ·cases h
  ·rename_i t b hg
   have plain:∀{ies:Es},cEs n c as=some ies→as.isEmpty=false→PE X (.Call (.Name f p) as [] pos) (tE w g c E (.bi b ies)):=fun {ies} h1 he=>by
    match as with
    | []=>simp at he
    |e::es=>exact qtO O hg (ih.es O h1) (qbi h1)
   split at h
   ·rename_i y p' as' q
    split at h
    ·rename_i hr
     simp only [Bool.and_eq_true,beq_iff_eq]at hr;split at h
     ·rename_i hc
      simp only [Bool.and_eq_true,Bool.or_eq_true,beq_iff_eq]at hc;split at h
      ·rename_i a
       split at h
       ·cases h
       ·rename_i hs
        have hs:isStar a=false:=by simpa using hs
        simp only [Option.bind_eq_bind,Option.bind_eq_some_iff]at h;obtain⟨ia,h1,h⟩:=h;cases h;exact qnN O (O.calm hc.1) hg hr.2 (qrM (ih.e O h1) hs) (by intro z hz;simp at hz;rw [hz];exact hs) hc.2 qmf
      ·rename_i a d
       split at h
       ·cases h
       ·rename_i hs
        have hs:isStar a=false∧isStar d=false:=by simpa using hs
        simp only [Option.bind_eq_bind,Option.bind_eq_some_iff]at h;obtain⟨ia,h1,ib,h2,h⟩:=h;cases h;exact qnN O (O.calm hc.1) hg hr.2 (zA (ih.e O h1) (zA (ih.e O h2) qau (qt hs.2)) (qt hs.1)) (by intro z hz;simp at hz;rcases hz with rfl|rfl;exact hs.1;exact hs.2) hc.2 qmW
      ·cases h
     ·cases h
    ·simp only [Option.bind_eq_bind,Option.bind_eq_some_iff]at h;obtain⟨ies,h1,h⟩:=h;cases h;exact plain h1 rfl
   ·simp only [Option.bind_eq_bind,Option.bind_eq_some_iff]at h;obtain⟨ies,h1,h⟩:=h;split at h
    ·rename_i hc
     cases h;exact plain h1 (by simpa using hc)
    ·cases h
  ·rename_i hg
   split at h
   ·rename_i a k
    split at h
    ·cases h
    ·rename_i hs
     simp only [Option.bind_eq_bind,Option.bind_eq_some_iff]at h;obtain⟨ia,h1,cl,h2,h⟩:=h;cases h;exact qtj O hg (ih.e O h1) h2 (by simpa using hs)
   ·cases h
  ·cases h
theorem qfR:∀{n:Nat}{c:Cc}{l:List Expr}{es:Es},cEs n c l=some es→l.length≤n
 | 0,_,_,_,h=>by simp [cEs]at h
 |n+1,_,[],_,_=>by simp
 |n+1,c,x::l,es,h=>by
  have hs:=qbi h x List.mem_cons_self;simp only [cEs,hs,Bool.false_eq_true,if_false,Option.bind_eq_bind,Option.bind_eq_some_iff]at h;obtain⟨_,_,r,hr,_⟩:=h;have:=qfR hr
  simpa using this
theorem qjf{c:Cc}{elt:Expr}{gs:List Comprehension}{sc:Scope}{p:Pos}{ir:EV.E}(h:cE (n+1) c (.ListComp elt gs sc p)=some ir) :
  ∃tgt it ifs iit itg it' ie,gs=[⟨tgt,it,ifs,0⟩]∧(c.calm=true∧zv it=true)∧(qdf (fun x=>c.nm.lookup x) c.N (zY sc.names) (qel c sc.names) sc=true∧(zY sc.names).Nodup)∧cI n c it=some iit∧cTg (qaR c sc) tgt=some itg∧qdS n (qaR c sc) ifs=some it'∧cE n (qaR c sc) elt=some ie∧(esc ie=true∧qgc iit tgt=true)∧ir=.comp iit (qel c sc.names) itg it' ie:=by
 unfold cE at h;dsimp only at h;split at h
 ·rename_i tgt it ifs asy
  split at h
  ·cases h
  ·rename_i hs
   have hs:(asy=0∧c.calm=true)∧zv it=true:=by simpa using hs
   obtain⟨⟨rfl,hs1⟩,hs2⟩:=hs;split at h
   ·cases h
   ·rename_i hk
    have hk:qdf (fun x=>c.nm.lookup x) c.N (zY sc.names) (qel c sc.names) sc=true∧(zY sc.names).Nodup:=by simpa using hk
    simp only [Option.bind_eq_bind,Option.bind_eq_some_iff]at h;obtain⟨iit,h1,itg,h2,it',h3,ie,h4,h⟩:=h;split at h
    ·rename_i he
     simp only [Bool.and_eq_true]at he;cases h;exact⟨tgt,it,ifs,iit,itg,it',ie,rfl,⟨hs1,hs2⟩,hk,h1,h2,h3,h4,he,rfl⟩
    ·cases h
 ·cases h
theorem Snd.e_succ(ih:Snd w g n)(hn:n≤100000){c:Cc}{E:XK}{X:Cx}(O:XO w g c E X){x:Expr}{ir:EV.E}(h:cE (n+1) c x=some ir):PE X x (tE w g c E ir):=by
 have h0:=h;unfold cE at h;split at h
 ·-- Name
  rename_i y p
  split at h
  ·rename_i i hl
   have:=qts (w:=w) (E:=E) (pos:=p) O hl;cases ho:c.own.contains y with
   |true=>rw [ho]at h this;cases h;exact this
   |false=>rw [ho]at h this;cases h;exact this
  ·split at h
   ·rename_i hg;cases h;exact qsB O hg
   ·cases h
 ·split at h
  ·cases h;exact qhf qrI fun _=>.int _
  ·cases h;exact qhf qtf fun _=>.bl _
  ·cases h;exact qhf qrZ fun _=>.non
  ·cases h;exact qhf qqn fun _=>.str _
  ·cases h
 ·simp only [Option.bind_eq_bind,Option.bind_eq_some_iff]at h;obtain⟨o,ho,ia,h1,ib,h2,h⟩:=h;cases h;exact qtN O ho (ih.e O h1) (ih.e O h2)
 ·rename_i op a p
  simp only [Option.bind_eq_bind,Option.bind_eq_some_iff]at h;obtain⟨ia,h1,h⟩:=h;cases op with
  |USub=>cases h;exact qsV (ih.e O h1)
  |Invert=>cases h
  |Not=>cases h;exact qtk (ih.e O h1)
  |UAdd=>cases h
 ·exact(ih.bo O h).1
 ·split at h
  ·simp only [Option.bind_eq_bind,Option.bind_eq_some_iff]at h;obtain⟨ia,h1,ib,h2,h⟩:=h;split at h
   ·rename_i hs;cases h;exact qsG O (ih.e O h1) (ih.e O h2) hs
   ·cases h
  ·simp only [Option.bind_eq_bind,Option.bind_eq_some_iff]at h;obtain⟨ia,h1,ib,h2,id',h3,h⟩:=h;split at h
   ·rename_i hs
    simp only [Bool.and_eq_true]at hs;cases h;exact qrJ O (ih.e O h1) (ih.e O h2) (ih.e O h3) hs.2
   ·cases h
  ·simp only [Option.bind_eq_bind,Option.bind_eq_some_iff]at h;obtain⟨ia,h1,ib,h2,id',h3,if',h4,h⟩:=h;split at h
   ·rename_i hs
    simp only [Bool.and_eq_true]at hs;cases h;exact qqo O (ih.e O h1) (ih.e O h2) (ih.e O h3) (ih.e O h4) hs.2
   ·cases h
  ·cases h
 ·simp only [Option.bind_eq_bind,Option.bind_eq_some_iff]at h;obtain⟨it,h1,ia,h2,ib,h3,h⟩:=h;split at h
  ·rename_i hs
   simp only [Bool.and_eq_true]at hs;cases h;exact qsQ (ih.t O h1) (ih.e O h2) (ih.e O h3) hs.1 hs.2
  ·cases h
 ·simp only [Option.bind_eq_bind,Option.bind_eq_some_iff]at h;obtain⟨ies,h1,h⟩:=h;split at h
  ·rename_i hs;cases h
   exact qsw (ih.es O h1) hs fun τ ds e=>by rw [qeM h1 e];exact Nat.le_trans (qfR h1) hn
  ·cases h
 ·simp only [Option.bind_eq_bind,Option.bind_eq_some_iff]at h;obtain⟨ies,h1,h⟩:=h;split at h
  ·rename_i hs;cases h
   exact qsD (ih.es O h1) hs fun τ ds e=>by rw [qeM h1 e];exact Nat.le_trans (qfR h1) hn
  ·cases h
 ·split at h
  ·rename_i lo hi st' sp
   split at h
   ·cases h
   ·rename_i hst
    have hst:st'=none:=by simpa using hst
    subst hst;simp only [Option.bind_eq_bind,Option.bind_eq_some_iff]at h;obtain⟨ia,h1,il,h2,ih',h3,h⟩:=h;cases h;exact qtJ O (ih.e O h1) (ih.o O h2) (ih.o O h3)
  ·split at h
   ·cases h
   ·rename_i hs
    simp only [Option.bind_eq_bind,Option.bind_eq_some_iff]at h;obtain⟨ia,h1,ib,h2,h⟩:=h;cases h;exact quh O (ih.e O h1) (ih.e O h2) (by simpa using hs)
 ·-- ListComp
  rename_i elt gs sc p
  obtain⟨tgt,it,ifs,iit,itg,it',ie,rfl,hs,hk,h1,h2,h3,h4,he,rfl⟩:=qjf h0;have hS:zT X (zY sc.names) (qel c sc.names) sc:=zT.of (by
   have e1:(fun x=>c.nm.lookup x)=X.env.kindOf:=by funext x;show _=X.env.scope.names.lookup x;rw [O.nm]
   rw [←e1,O.N];exact hk.1)
  refine qrV O (O.calm hs.1) hS hk.2 (ih.i O h1 he.2) (fun cl C s₀ H₀ fp=>?_) he.1 hs.2;have OY:=O.comp hS.kind hk.2 cl C s₀ H₀ fp;exact⟨qjS OY h2,ih.ifs OY h3,ih.e OY h4⟩
 ·split at h
  ·split at h
   ·exact ih.call_name O h0
   ·cases h
  ·split at h
   ·split at h
    ·split at h
     ·split at h
      ·cases h
      ·rename_i hc
       simp only [Bool.or_eq_true,Bool.not_eq_true',not_or,Bool.not_eq_true,Bool.not_eq_false]at hc;simp only [Option.bind_eq_bind,Option.bind_eq_some_iff]at h;obtain⟨ia,h1,h⟩:=h;obtain⟨⟨⟨⟨⟨c1,c2⟩,c3⟩,c4⟩,c5⟩,c6⟩:=hc;have c3:=eq_of_beq c3;subst c3;split at h
       ·rename_i hg
        cases h;exact qoe O (O.calm c2) true (eq_of_beq hg) (eq_of_beq c5) (ih.e O h1) c1
       ·split at h
        ·rename_i hg
         cases h;exact qoe O (O.calm c2) false (eq_of_beq hg) (eq_of_beq c5) (ih.e O h1) c1
        ·cases h
     ·cases h
    ·cases h
   ·cases h
  ·cases h
 ·cases h
theorem qmj:Snd w g 0:=⟨fun _ _ _ h=>by simp [cE]at h,fun _ _ _ _ _ h=>by simp [cBo]at h,fun _ _ _ h=>by simp [cO]at h,fun _ _ _ h=>by simp [cEs]at h,fun _ _ _ _ h=>by simp [cI]at h,fun _ _ _ h=>by simp [cT]at h,fun _ _ _ _ _ h=>by simp [cTs]at h,fun _ _ _ h=>by simp [qdS]at h⟩
theorem snd:∀n,n≤100000→Snd w g n
 | 0,_=>qmj
 |n+1,h=>
  have ih:=snd n (Nat.le_of_succ_le h)
  ⟨fun O _ _ q=>ih.e_succ (Nat.le_of_succ_le h) O q,fun O _ _ _ _ q=>ih.bo_succ O q,fun O _ _ q=>ih.o_succ O q,fun O _ _ q=>ih.es_succ O q,fun O _ _ _ q t=>ih.i_succ O q t,fun O _ _ q=>ih.t_succ O q,fun O _ _ _ _ q=>ih.ts_succ O q,fun O _ _ q=>ih.ifs_succ O q⟩
end
noncomputable def zl(c:Cc)(i:Nat):Prop:=∃x,c.N[i]? = some x∧c.own.contains x=true
structure SS(g:Gc)(c:Cc)(H0:Hp)(B:Sh)(τ:Env)(σ:L2.St)(H:Hp)(S:Sh):Prop where
 se:SE g c τ σ H S
 lenN:τ.length=c.N.length
 same:qf H0 H
 sub0:Sub B H0
 hd:∀a,S.h a=(B.h a||S.o a)
 new:∀a,S.o a=true→H0 a=none
 own:∀i d,zl c i→τ[i]? = some (some d)→∃a vs ds,σ[i]? = some (some (.ref a))∧S.o a=true∧d=.lst ds∧H a=some (.lst vs)∧qq g (hid H S) ds vs
 inj:∀i j d e a,zl c i→zl c j→τ[i]? = some (some d)→τ[j]? = some (some e)→σ[i]? = some (some (.ref a))→σ[j]? = some (some (.ref a))→i=j
 frz:c.frz=true→(∀i,zl c i→σ[i]? = B.z[i]?)∧qf B.y H
section
variable{g:Gc}{c:Cc}{H0:Hp}{B:Sh}{τ:Env}{σ:L2.St}{H H':Hp}{S:Sh}
theorem SS.up(s:SS g c H0 B τ σ H S)(e:qf H H'):SS g c H0 B τ σ H' S:=
 ⟨s.se.up e,s.lenN,s.same.trans e,s.sub0,s.hd,s.new,fun i d hi h=>let ⟨a,vs,ds,h1,h2,h3,h4,h5⟩:=s.own i d hi h;⟨a,vs,ds,h1,h2,h3,e _ _ h4,h5.mono (qr e)⟩,s.inj,fun z=>⟨(s.frz z).1,(s.frz z).2.trans e⟩⟩
theorem SS.set{i:Nat}{d:D}{v:V}(s:SS g c H0 B τ σ H S)(hi:¬ zl c i)(r:Rep g (hid H S) d v):SS g c H0 B (τ.set i (some d)) (σ.set i (some v)) H S:=by
 refine⟨s.se.set r,by simp [s.lenN],s.same,s.sub0,s.hd,s.new,fun j e hj h=>?_,fun j k e f a hj hk h1 h2 h3 h4=>?_,fun z=>⟨fun j hj=>?_,(s.frz z).2⟩⟩
 ·have hij:i≠j:=fun z=>hi (z▸hj)
  rw [List.getElem?_set_ne hij]at h ⊢;exact s.own j e hj h
 ·have hij:i≠j:=fun z=>hi (z▸hj)
  have hik:i≠k:=fun z=>hi (z▸hk)
  rw [List.getElem?_set_ne hij]at h1 h3;rw [List.getElem?_set_ne hik]at h2 h4;exact s.inj j k e f a hj hk h1 h2 h3 h4
 ·rw [List.getElem?_set_ne (fun z:i=j=>hi (z▸hj))];exact(s.frz z).1 j hj
theorem SS.setAll:∀{is:List Nat}{ds:List D}{vs:List V}{τ τ':Env}{σ:L2.St}{Q:L2.St→Hp→Prop},SS g c H0 B τ σ H S→(∀i∈is,¬ zl c i)→qq g (hid H S) ds vs→EV.setAll is ds τ=.ok τ'→(∀σ',SS g c H0 B τ' σ' H S→Q σ' H)→qeg is vs σ H Q
 | [],_,_,τ,τ',σ,Q,se,_,.nil,h,k=>by
  simp only [EV.setAll,R.ok.injEq]at h;subst h;exact⟨rfl,k σ se⟩
 |i::is,_,_,τ,τ',σ,Q,se,ho,.cons r rs,h,k=>by
  simp only [EV.setAll]at h;exact⟨_,_,rfl,SS.setAll (se.set (ho i List.mem_cons_self) r) (fun j hj=>ho j (List.mem_cons_of_mem _ hj)) rs h k⟩
 | [],_,_,τ,τ',σ,Q,se,_,.cons r rs,h,k=>by simp [EV.setAll]at h
 |i::is,_,_,τ,τ',σ,Q,se,_,.nil,h,k=>by simp [EV.setAll]at h
theorem qkn{tg:Tg}(h:qdR c tg):match tg with | .nm i=>¬ zl c i | .tp is=>∀i∈is,¬ zl c i:=by
 cases tg with
 |nm i=>rintro⟨x,h1,h2⟩;rw [h x h1]at h2;cases h2
 |tp is=>rintro i hi ⟨x,h1,h2⟩;rw [h i hi x h1]at h2;cases h2
theorem SS.store{X:Cx}(O:X.K=g.K){tg:Tg}{d:D}{v:V}{τ':Env}{Q:L2.St→Hp→Prop}(s:SS g c H0 B τ σ H S)(hf:qdR c tg)(r:Rep g (hid H S) d v)(h:EV.store tg d τ=.ok τ')(k:∀σ',SS g c H0 B τ' σ' H S→Q σ' H):gT X.K tg v σ H Q:=by
 have ho:=qkn hf;cases tg with
 |nm i=>
  simp only [EV.store,R.ok.injEq]at h;subst h;exact k _ (s.set ho r)
 |tp is=>
  cases d with
  |tup ds=>
   simp only [EV.store]at h;split at h
   ·rename_i hl
    cases r with
    |tup h1 r1=>exact⟨_,_,rfl,by rw [O];exact qar qad h1,by rw [←r1.length];exact hl,s.setAll ho r1 h k⟩
   ·cases h
  |_=>simp [EV.store]at h
noncomputable def qnV(S:Sh)(a:Addr):Sh:=⟨fun b=>S.o b||b==a,fun b=>S.h b||b==a,S.z,S.y⟩
theorem SS.setOwn{i:Nat}{d:D}{v:V}(s:SS g c H0 B τ σ H S)(hz:c.frz=false)(hi:zl c i)(hlt:i<τ.length)(e:qf H H')(f:Fr g H S H' d v):∃S',SS g c H0 B (τ.set i (some d)) (σ.set i (some v)) H' S'∧qf (hid H S) (hid H' S'):=by
 obtain⟨a,vs,ds,rfl,rfl,h1,h2,h3⟩:=f;have up:qf (hid H S) (hid H' (qnV S a)):=fun b o hb=>by
  obtain⟨z1,z2⟩:=qtZ.mp hb;refine qtZ.mpr ⟨?_,e _ _ z2⟩;show (S.h b||b==a)=false;rw [z1]
  simpa using fun z:b=a=>by rw [z,h1]at z2;cases z2
 have hlt':i<σ.length:=by rw [←s.se.len];exact hlt
 refine⟨qnV S a,⟨⟨by simp [s.se.len],fun j e' hj=>?_,fun b hb n=>?_⟩,by simp [s.lenN],s.same.trans e,s.sub0,fun b=>?_,fun b hb=>?_,fun j e' hj h=>?_,fun j k e1 e2 b hj hk q1 q2 q3 q4=>?_,fun z=>by rw [hz]at z;cases z⟩,up⟩
 ·by_cases hij:i=j
  ·subst hij;simp [hlt]at hj;subst hj;refine⟨.ref a,by simp [hlt'],.inr ⟨a,vs,ds,by show (S.o a||a==a)=true;simp,rfl,rfl,h2,h3⟩,fun x hx hn=>?_⟩;obtain⟨y,hy1,hy2⟩:=hi;rw [hy1]at hx;cases hx;rw [hn]at hy2;cases hy2
  ·rw [List.getElem?_set_ne hij]at hj ⊢;obtain⟨u,z1,z2,z3⟩:=s.se.val j e' hj;refine⟨u,z1,?_,fun x hx hn=>(z3 x hx hn).mono up⟩;rcases z2 with z2|⟨a',vs',ds',y1,y2,y3,y4,y5⟩
   ·exact .inl (z2.mono up)
   ·exact .inr ⟨a',vs',ds',by show (S.o a'||a'==a)=true;rw [y1];rfl,y2,y3,e _ _ y4,y5.mono up⟩
 ·have hb:(S.h b||b==a)=true∨(S.o b||b==a)=true:=hb;by_cases hba:b=a
  ·rw [hba,h2]at n;cases n
  ·have:S.h b=true∨S.o b=true:=by
    rcases hb with z|z
    ·exact .inl (by simpa [hba]using z)
    ·exact .inr (by simpa [hba]using z)
   exact(s.se.sub.same e) b this n
 ·show (S.h b||b==a)=(B.h b||(S.o b||b==a))
  rw [s.hd b,Bool.or_assoc]
 ·have hb:(S.o b||b==a)=true:=hb;by_cases hba:b=a
  ·rw [hba];exact s.same.free h1
  ·exact s.new b (by simpa [hba]using hb)
 ·by_cases hij:i=j
  ·subst hij;simp [hlt]at h;subst h;exact⟨a,vs,ds,by simp [hlt'],by show (S.o a||a==a)=true;simp,rfl,h2,h3⟩
  ·rw [List.getElem?_set_ne hij]at h ⊢;obtain⟨a',vs',ds',y1,y2,y3,y4,y5⟩:=s.own j e' hj h;exact⟨a',vs',ds',y1,by show (S.o a'||a'==a)=true;rw [y2];rfl,y3,e _ _ y4,y5.mono up⟩
 ·have other:∀j e1 b,i≠j→zl c j→τ[j]? = some (some e1)→σ[j]? = some (some (.ref b))→b≠a:=fun j e1 b hij hj q1 q3 z=>by
   obtain⟨a',vs',ds',y1,y2,y3,y4,y5⟩:=s.own j e1 hj q1;rw [q3]at y1;cases y1;rw [z,h1]at y4;cases y4
  by_cases hij:i=j
  ·by_cases hik:i=k
   ·rw [←hij,←hik]
   ·subst hij;rw [List.getElem?_set_ne hik]at q2 q4;have q3':b=a:=by
     have:(σ.set i (some (.ref a)))[i]? = some (some (.ref a)):=by simp [hlt']
     rw [this]at q3;cases q3;rfl
    exact absurd q3' (other k e2 b hik hk q2 q4)
  ·by_cases hik:i=k
   ·subst hik;rw [List.getElem?_set_ne hij]at q1 q3;have q4':b=a:=by
     have:(σ.set i (some (.ref a)))[i]? = some (some (.ref a)):=by simp [hlt']
     rw [this]at q4;cases q4;rfl
    exact absurd q4' (other j e1 b hij hj q1 q3)
   ·rw [List.getElem?_set_ne hij]at q1 q3;rw [List.getElem?_set_ne hik]at q2 q4;exact s.inj j k e1 e2 b hj hk q1 q2 q3 q4
theorem SS.change{i:Nat}{a:Addr}{d0:D}{vs:List V}{ds:List D}(s:SS g c H0 B τ σ H S)(hz:c.frz=false)(hi:zl c i)(h0:τ[i]? = some (some d0))(ha:σ[i]? = some (some (.ref a)))(r:qq g (hid H S) ds vs):SS g c H0 B (τ.set i (some (.lst ds))) σ (upd H a (.lst vs)) S∧qf (hid H S) (hid (upd H a (.lst vs)) S):=by
 have hlt:i<τ.length:=(List.getElem?_eq_some_iff.mp h0).1;obtain⟨a',vs0,ds0,y1,y2,y3,y4,y5⟩:=s.own i d0 hi h0;rw [ha]at y1;cases y1;have hh:S.h a=true:=by rw [s.hd,y2,Bool.or_true]
 have he:hid (upd H a (.lst vs)) S=hid H S:=qdi hh;have other:∀j e,i≠j→zl c j→τ[j]? = some (some e)→∀b,σ[j]? = some (some (.ref b))→b≠a:=fun j e hij hj h b hb z=>by
  subst z;exact hij (s.inj i j d0 e b hi hj h0 h ha hb)
 refine⟨⟨⟨by simp [s.se.len],fun j e hj=>?_,fun b hb n=>?_⟩,by simp [s.lenN],fun b o hb=>?_,s.sub0,s.hd,s.new,fun j e hj h=>?_,fun j k e1 e2 b hj hk q1 q2 q3 q4=>?_,fun z=>by rw [hz]at z;cases z⟩,by rw [he];exact qf.refl _⟩
 ·by_cases hij:i=j
  ·subst hij;simp [hlt]at hj;subst hj;refine⟨.ref a,ha,.inr ⟨a,vs,ds,y2,rfl,rfl,zw,by rw [he];exact r⟩,fun x hx hn=>?_⟩;obtain⟨y,hy1,hy2⟩:=hi;rw [hy1]at hx;cases hx;rw [hn]at hy2;cases hy2
  ·rw [List.getElem?_set_ne hij]at hj;obtain⟨u,z1,z2,z3⟩:=s.se.val j e hj;by_cases ho:zl c j
   ·obtain⟨b,ws,es,w1,w2,w3,w4,w5⟩:=s.own j e ho hj;rw [z1]at w1;cases w1;refine⟨_,z1,.inr ⟨b,ws,es,w2,rfl,w3,by rw [qm (other j e hij ho hj b z1)];exact w4,by rw [he];exact w5⟩,fun x hx hn=>?_⟩;obtain⟨y,hy1,hy2⟩:=ho;rw [hy1]at hx;cases hx;rw [hn]at hy2;cases hy2
   ·have st:Rep g (hid H S) e u:=by
     cases q:c.N[j]? with
     |some x=>
      refine z3 x q ?_;cases q2:c.own.contains x with
      |false=>rfl
      |true=>exact absurd ⟨x,q,q2⟩ ho
     |none=>
      have h1:=(List.getElem?_eq_some_iff.mp hj).1;have h2:=List.getElem?_eq_none_iff.mp q;have h3:=s.lenN;lia
    exact⟨u,z1,.inl (by rw [he];exact st),fun _ _ _=>by rw [he];exact st⟩
 ·by_cases hba:b=a
  ·subst hba;rw [zw]at n;cases n
  ·rw [qm hba]at n;exact s.se.sub b hb n
 ·by_cases hba:b=a
  ·subst hba;rw [s.new b y2]at hb;cases hb
  ·rw [qm hba];exact s.same _ _ hb
 ·by_cases hij:i=j
  ·subst hij;simp [hlt]at h;subst h;exact⟨a,vs,ds,ha,y2,rfl,zw,by rw [he];exact r⟩
  ·rw [List.getElem?_set_ne hij]at h;obtain⟨b,ws,es,w1,w2,w3,w4,w5⟩:=s.own j e hj h;exact⟨b,ws,es,w1,w2,w3,by rw [qm (other j e hij hj h b w1)];exact w4,by rw [he];exact w5⟩
 ·have f:∀k e,(τ.set i (some (.lst ds)))[k]? = some (some e)→∃e',τ[k]? = some (some e'):=fun k e h=>by
   by_cases hik:i=k
   ·subst hik;exact⟨d0,h0⟩
   ·rw [List.getElem?_set_ne hik]at h;exact⟨e,h⟩
  obtain⟨e1',q1'⟩:=f j e1 q1;obtain⟨e2',q2'⟩:=f k e2 q2;exact s.inj j k e1' e2' b hj hk q1' q2' q3 q4
end
noncomputable def qcB(g:Gc)(c:Cc)(E:XK)(fr:Bool)(H0:Hp)(B:Sh)(H:Hp)(S:Sh)(D:Ends):O→Prop
 | .nx τ'=>∀σ' H' S',SS g c H0 B τ' σ' H' S'→qf (hid H S) (hid H' S')→D.nx σ' H'
 | .bk τ'=>∀σ' H' S',SS g c H0 B τ' σ' H' S'→qf (hid H S) (hid H' S')→D.bk σ' H'
 | .ct τ'=>∀σ' H' S',SS g c H0 B τ' σ' H' S'→qf (hid H S) (hid H' S')→D.ct σ' H'
 | .rt d=>∀v H',qf H0 H'→Rep g (hid H' B) d v→(fr=true→Fr g H0 B H' d v)→D.rt v H'
 | .ex k=>∀H' C,qf H0 H'→g.clA k=some C→E (.ref C) none H'
 | .no=>False
section
variable(w:W)(g:Gc)(c:Cc)(E:XK)(fr:Bool)
noncomputable def tS(s:EV.S):TS:=fun D σ H=>∃H0 B τ S,SS g c H0 B τ σ H S∧qcB g c E fr H0 B H S D (evS w s τ)
noncomputable def tSs(s:Ss):TS:=fun D σ H=>∃H0 B τ S,SS g c H0 B τ σ H S∧qcB g c E fr H0 B H S D (qe w s τ)
end
structure XS(w:W)(g:Gc)(c:Cc)(E:XK)(X:Cx):Prop extends XO w g c E X where
 thr:c.thr=true→Throws X E
 exc:∀x C,c.G.lookup x=some .exc→g.clA x=some C→qlT g.K C
 cat:∀k x,w.cat k x=true→∀C D,g.clA k=some C→g.clA x=some D→PySem.W.exmOne g.K (.ref C) (.ref D)=some true
 frm:X.ex=[]∧X.stack=X.env::X.outer∧X.env.frame=some X.env.locals
 gh:∀x k,c.GH.lookup x=some k→k≠.exc∧∀v,GM w g X.prog X.w X.mg X.base (X.A.mark v) false x k
section
variable{w:W}{g:Gc}{c:Cc}{E:XK}{fr:Bool}{X:Cx}{H0:Hp}{B:Sh}{τ:Env}{σ:L2.St}{H H':Hp}{S:Sh}{Ed:Ends}
theorem qcB.up{o:O}{S':Sh}(h:qcB g c E fr H0 B H S Ed o)(e:qf (hid H S) (hid H' S')):qcB g c E fr H0 B H' S' Ed o:=by
 cases o with
 |nx t=>exact fun σ' H2 S2 s e2=>h σ' H2 S2 s (e.trans e2)
 |bk t=>exact fun σ' H2 S2 s e2=>h σ' H2 S2 s (e.trans e2)
 |ct t=>exact fun σ' H2 S2 s e2=>h σ' H2 S2 s (e.trans e2)
 |rt d=>exact h
 |ex k=>exact h
 |no=>exact h
theorem s_e{e:EV.E}{f:D→O}{Q:VK}(ss:SS g c H0 B τ σ H S)(h:qcB g c E fr H0 B H S Ed ((evE w e τ).out f))(k:∀d v H',evE w e τ=.ok d→qcD g c e S H d v H'→qcB g c E fr H0 B H S Ed (f d)→Q v H'):tE w g c E e σ H Q:=by
 refine⟨τ,S,ss.se,?_⟩;cases q:evE w e τ with
 |ok d=>rw [q]at h;exact fun v H' p=>k d v H' q p h
 |ex x=>rw [q]at h;exact fun H' C s hc=>h H' C (ss.same.trans s) hc
 |no=>rw [q]at h;exact h
theorem s_t{t:T}{f:Bool→O}{Q:Bool→Hp→Prop}(ss:SS g c H0 B τ σ H S)(h:qcB g c E fr H0 B H S Ed ((evT w t τ).out f))(k:∀b H',evT w t τ=.ok b→qf H H'→qcB g c E fr H0 B H S Ed (f b)→Q b H'):tT w g c E t σ H Q:=by
 refine⟨τ,S,ss.se,?_⟩;cases q:evT w t τ with
 |ok d=>rw [q]at h;exact fun H' p=>k d H' q p h
 |ex x=>rw [q]at h;exact fun H' C s hc=>h H' C (ss.same.trans s) hc
 |no=>rw [q]at h;exact h
theorem qoj(ss:SS g c H0 B τ σ H S){b:Addr}(h:S.h b=false):B.h b=false:=by
 have:=ss.hd b;rw [h]at this;cases q:B.h b with
 |false=>rfl
 |true=>rw [q]at this;cases this
theorem qtG(ss:SS g c H0 B τ σ H S):qf (hid H' S) (hid H' B):=fun b o h=>by
 obtain⟨z1,z2⟩:=qtZ.mp h;exact qtZ.mpr ⟨qoj ss z1,z2⟩
theorem qgN:∀{is:List Nat}{ds:List EV.D}{τ:Env}{x:Str},setAll is ds τ≠.ex x
 | [],[],_,_,h=>by cases h
 | [],_::_,_,_,h=>by cases h
 |_::_,[],_,_,h=>by cases h
 |i::is,d::ds,τ,x,h=>by simp only [setAll]at h;exact qgN h
theorem qoR{pos:Pos}:PS X (.Pass pos) (tS w g c E fr .pass):=PS.imp qpE fun D σ H ⟨H0,B,τ,S,ss,h⟩=>h σ H S ss (qf.refl _)
theorem qrd{pos:Pos}:PS X (.Break pos) (tS w g c E fr .brk):=PS.imp qnn fun D σ H ⟨H0,B,τ,S,ss,h⟩=>h σ H S ss (qf.refl _)
theorem qrl{pos:Pos}:PS X (.Continue pos) (tS w g c E fr .cnt):=PS.imp qiF fun D σ H ⟨H0,B,τ,S,ss,h⟩=>h σ H S ss (qf.refl _)
theorem qbG{e:Expr}{t:Option Expr}{l:Nat}{env:PySem.Env}(h:qbs e=false):swapsWith e t l env=pure false:=by
 cases e<;>first|rfl|(simp [qbs]at h)
theorem qrS{e:Expr}{ie:EV.E}{pos:Pos}(he:PE X e (tE w g c E ie))(hc:qbs e=false):PS X (.Expr e pos) (tS w g c E fr (.exp ie)):=
 PS.imp (qiT he (qbG hc)) fun D σ H ⟨H0,B,τ,S,ss,h⟩=>by
  simp only [zH,qaJ,qas,qaI,zt,qaG,zU,qaE,qaF,zR,qaf,qap,qah,qag,qak,qac,zM]at h;exact s_e ss h fun d v H' _ p k=>k σ H' S (ss.up p.same) (qr p.same)
theorem qoD{pos:Pos}(hf:fr=false):PS X (.Return none pos) (tS w g c E fr .retN):=PS.imp qpQ fun D σ H ⟨H0,B,τ,S,ss,h⟩=>h _ _ ss.same .non (by rw [hf];intro z;cases z)
theorem qgf(ss:SS g c H0 B τ σ H S){a:Addr}{vs:List V}{ds:List EV.D}(h1:H0 a=none)(h2:H' a=some (.lst vs))(h3:qq g (hid H' (zV S a)) ds vs):Rep g (hid H' B) (.lst ds) (.ref a)∧Fr g H0 B H' (.lst ds) (.ref a):=by
 have up:qf (hid H' (zV S a)) (hid H' (zV B a)):=fun b o hb=>by
  obtain⟨z1,z2⟩:=qtZ.mp hb;refine qtZ.mpr ⟨?_,z2⟩;have z1:(S.h b||b==a)=false:=z1;simp only [Bool.or_eq_false_iff]at z1;show (B.h b||b==a)=false;rw [qoj ss z1.1,z1.2];rfl
 exact⟨.lst (SqL.of (qtZ.mpr ⟨ss.sub0.free h1,h2⟩)) (h3.mono (up.trans qgp)),⟨a,vs,ds,rfl,rfl,h1,h2,h3.mono up⟩⟩
theorem qhC(ss:SS g c H0 B τ σ H S){a:Addr}{vs:List V}{ds:List EV.D}(y1:S.o a=true)(y3:qq g (hid H' S) ds vs):qq g (hid H' (zV S a)) ds vs:=y3.mono fun b o hb=>by
 have hh:S.h a=true:=by rw [ss.hd,y1,Bool.or_true]
 obtain⟨z1,z2⟩:=qtZ.mp hb;refine qtZ.mpr ⟨?_,z2⟩;show (S.h b||b==a)=false;rw [z1]
 simpa using fun z:b=a=>by rw [z,hh]at z1;cases z1
theorem qma{e:Expr}{ie:EV.E}{pos:Pos}(he:PE X e (tE w g c E ie))(hf:fr=true→fresh c ie=true):PS X (.Return (some e) pos) (tS w g c E fr (.ret ie)):=
 PS.imp (qlV he) fun D σ H ⟨H0,B,τ,S,ss,h⟩=>by
  simp only [zH,qaJ,qas,qaI,zt,qaG,zU,qaE,qaF,zR,qaf,qap,qah,qag,qak,qac,zM]at h;refine s_e ss h fun d v H' _ p k=>?_
  have k:∀v H',qf H0 H'→Rep g (hid H' B) d v→(fr=true→Fr g H0 B H' d v)→D.rt v H':=k;have s1:=ss.up p.same;by_cases hz:fr=true
  ·obtain⟨a,vs,ds,rfl,rfl,h1,h2,h3⟩:=p.fr (hf hz);obtain⟨r1,r2⟩:=qgf (H':=H') ss (ss.same.free h1) h2 h3;exact k _ H' s1.same r1 fun _=>r2
  ·rcases p.rb with r|⟨a,vs,ds,y1,rfl,rfl,y2,y3⟩
   ·exact k v H' s1.same (r.mono (qtG ss)) fun z=>absurd z hz
   ·obtain⟨r1,r2⟩:=qgf (H':=H') ss (ss.new a y1) y2 (qhC ss y1 y3);exact k _ H' s1.same r1 fun _=>r2
theorem qlK(O:XO w g c E X){x:Str}{i:Nat}{p pos:Pos}(h:loc c x=some i)(ho:c.own.contains x=true):PS X (.Return (some (.Name x p)) pos) (tS w g c E fr (.ret (.own i))):=by
 obtain⟨h1,h2,h3,h4⟩:=zK h;refine PS.imp (qlV (qfm (i:=i) (by rw [O.N];exact h1) (by unfold Vis;rw [O.nm];exact h2) h3 h4)) fun D σ H ⟨H0,B,τ,S,ss,h⟩=>?_
 simp only [zH,qaJ,qas,qaI,zt,qaG,zU,qaE,qaF,zR,qaf,qap,qah,qag,qak,qac,zM,qw,ze,zd,zi,zj,qV,zf,zo,zg,qI,qG,qO,qP,qL,qB,qF,qM,qy,qN,qz,qW,qo,qJ,qX,qH,qA,qR,qT,qK,qU,qY,zE]at h;cases q:τ[i]? with
 |none=>rw [q]at h;exact h.elim
 |some o=>
  cases o with
  |none=>rw [q]at h;exact h.elim
  |some d=>
   rw [q]at h;obtain⟨a,vs,ds,z1,y1,rfl,y2,y3⟩:=ss.own i d ⟨x,h1,ho⟩ q;obtain⟨r1,r2⟩:=qgf (H':=H) ss (ss.new a y1) y2 (qhC ss y1 y3);exact⟨_,z1,h _ H ss.same r1 fun _=>r2⟩
theorem qeh{e:Expr}{ie:EV.E}{i:Nat}{st:Stmt}{te:TE}(hp:PS X st (qjt te (qcP i)))(hr:∀σ H Q,tE w g c E ie σ H Q→te σ H Q)(hlt:i<c.N.length)(hk:(zl c i∧fresh c ie=true∧c.frz=false)∨(¬ zl c i∧esc ie=true)):PS X st (tS w g c E fr (.set (.nm i) ie)):=
 PS.imp hp fun D σ H ⟨H0,B,τ,S,ss,h⟩=>by
  simp only [zH,qaJ,qas,qaI,zt,qaG,zU,qaE,qaF,zR,qaf,qap,qah,qag,qak,qac,zM,store]at h;refine hr σ H _ (s_e ss h fun d v H' _ p k=>?_);have k:∀σ' H2 S2,SS g c H0 B (τ.set i (some d)) σ' H2 S2→qf (hid H S) (hid H2 S2)→D.nx σ' H2:=k;rcases hk with ⟨ho,hf,hfz⟩|⟨ho,he⟩
  ·obtain⟨S',s1,s2⟩:=ss.setOwn hfz ho (by rw [ss.lenN];exact hlt) p.same (p.fr hf);exact k _ _ S' s1 s2
  ·exact k _ _ S ((ss.up p.same).set ho (p.st he)) (qr p.same)
theorem qpa(O:XO w g c E X){tg e:Expr}{itg:Tg}{ie:EV.E}{pos:Pos}(he:PE X e (tE w g c E ie))(hg:PG X tg (gT X.K itg))(hf:qdR c itg)(hes:esc ie=true)(hs:swapsWithSole [tg] e pos.line X.env=pure false)(hw:swappedStores [tg] e X.env=pure none)(h1:(assignEach [tg] X.env).map (·.2)=[assign tg X.env]) :
  PS X (.Assign [tg] e pos) (tS w g c E fr (.set itg ie)):=
 PS.imp (qln he hg hs hw h1) fun D σ H ⟨H0,B,τ,S,ss,h⟩=>by
  simp only [zH,qaJ,qas,qaI,zt,qaG,zU,qaE,qaF,zR,qaf,qap,qah,qag,qak,qac,zM]at h;refine s_e ss h fun d v H' _ p k=>?_
  cases q:store itg d τ with
  |ok τ'=>
   rw [q]at k;exact(ss.up p.same).store O.K hf (p.st hes) q fun σ' s1=>k σ' H' S s1 (qr p.same)
  |ex z=>cases itg<;>simp only [store]at q<;>first|cases q|(split at q<;>first|cases q|(split at q<;>first|(exact absurd q (qgN))|cases q))
  |no=>rw [q]at k;exact k.elim
theorem qtg{env:PySem.Env}{x y:Str}{px py pt pt2:Pos}{kt k2:Nat}{a b:Expr}(bk:env.blockKind=.function)(kx:env.kindOf x=some .local)(ky:env.kindOf y=some .local)(hl:px.line=py.line)(hxy:x≠y)(ha:isStar a=false)(hb:isStar b=false)(h1:[a,b].all (foldedForSure 8)=false)(h2:[a,b].all (constantsAlone 8)=false) :
  swappedStores [.Tuple [.Name x px,.Name y py] kt pt] (.Tuple [a,b] k2 pt2) env=pure (some [x,y]):=by
 have ed:[x,y].eraseDups=[x,y]:=by
  have:(y==x)=false:=by simpa using fun z:y=x=>hxy z.symm
  simp [List.eraseDups_cons,this]
 have b1:(env.blockKind != .function)=false:=by rw [bk];rfl
 have hp:(Expr.Name x px).pos=px:=rfl;unfold swappedStores;simp only [b1,List.filterMap_cons,List.filterMap_nil,List.head?_cons,Option.map_some,Option.getD_some,hp,kx,ky,hl,beq_self_eq_true,Bool.and_self,if_true,ed,h1,h2];rw [if_neg (by simp),if_neg,if_neg (by simp),if_neg Bool.false_ne_true,if_neg Bool.false_ne_true];simp only [List.any_cons,List.any_nil,Bool.or_false,Bool.or_eq_true];rintro(h|h)
 ·split at h
  ·cases ha
  ·cases h
 ·split at h
  ·cases hb
  ·cases h
theorem qrs(O:XO w g c E X)(hc:X.calm=true){x y:Str}{i j:Nat}{a b:Expr}{ia ib:EV.E}{px py pt pos:Pos}{kt k2 pt2}(hx:qaW c x=some i)(hy:qaW c y=some j)(lx:c.nm.lookup x=some .local)(ly:c.nm.lookup y=some .local)(hij:i≠j)
  (ha:PE X a (tE w g c E ia)) (hb:PE X b (tE w g c E ib)) (hsa:isStar a=false) (hsb:isStar b=false) (hfa:[a,b].all (foldedForSure 8)=false) (hca:[a,b].all (constantsAlone 8)=false) (hl:(px.line==py.line)=true) (hi:¬ zl c i) (hea:esc ia=true) (hk:(zl c j∧fresh c ib=true∧c.frz=false)∨(¬ zl c j∧esc ib=true)) :
  PS X (.Assign [.Tuple [.Name x px,.Name y py] kt pt] (.Tuple [a,b] k2 pt2) pos) (tS w g c E fr (.par i j ia ib)):=by
 obtain⟨l1,_⟩:=zF hx;obtain⟨l3,_⟩:=zK l1;obtain⟨m1,_⟩:=zF hy;obtain⟨m3,_⟩:=zK m1;have hst:=qt (es:=[]) (env:=X.env) hsb;have hst2:=qt (es:=[b]) (env:=X.env) hsa;have hxy:x≠y:=fun z=>by subst z;rw [hx]at hy;cases hy;exact hij rfl
 have hw:swappedStores [.Tuple [.Name x px,.Name y py] kt pt] (.Tuple [a,b] k2 pt2) X.env=pure (some [x,y]):=by
  refine qtg ?_ ?_ ?_ (eq_of_beq hl) hxy hsa hsb hfa hca
  ·unfold Env.blockKind;rw [O.kind];rfl
  ·show X.env.scope.names.lookup x=_;rw [O.nm,lx]
  ·show X.env.scope.names.lookup y=_;rw [O.nm,ly]
 refine PS.imp (qrr (i:=i) (j:=j) hc (by rw [O.N];exact O.nd) (by rw [O.N];exact l3) (by rw [O.N];exact m3) hij (by rw [O.nm];exact lx) (by rw [O.nm];exact ly) (zA ha (zA hb qau hst) hst2) hw rfl) fun D σ H ⟨H0,B,τ,S,ss,h⟩=>?_
 simp only [zH,qaJ,qas,qaI,zt,qaG,zU,qaE,qaF,zR,qaf,qap,qah,qag,qak,qac,zM]at h;refine s_e ss h fun d v H1 _ p1 k1=>?_
 refine s_e (ss.up p1.same) (qcB.up k1 (qr p1.same)) fun d2 v2 H2 _ p2 k2=>?_
 refine⟨v,v2,rfl,?_⟩;have k2:∀σ' H' S',SS g c H0 B ((τ.set i (some d)).set j (some d2)) σ' H' S'→qf (hid H1 S) (hid H' S')→D.nx σ' H':=k2;have s1:=(ss.up p1.same).set hi (p1.st hea);have hlt:j<(τ.set i (some d)).length:=by rw [List.length_set,ss.lenN];exact(List.getElem?_eq_some_iff.mp m3).1
 rcases hk with ⟨ho,hf,hfz⟩|⟨ho,he⟩
 ·obtain⟨S',z1,z2⟩:=s1.setOwn hfz ho hlt p2.same (p2.fr hf);exact k2 _ _ S' z1 z2
 ·exact k2 _ _ S ((s1.up p2.same).set ho (p2.st he)) (qr p2.same)
end
section
variable{w:W}{g:Gc}{c:Cc}{E:XK}{fr:Bool}{X:Cx}{H0:Hp}{B:Sh}{τ:Env}{σ:L2.St}{H H':Hp}{S:Sh}{Ed:Ends}
theorem qiS{i:Nat}{d:EV.D}(h:zE τ i=.ok d):τ[i]? = some (some d):=by
 unfold zE at h;split at h
 ·rename_i q;cases h;exact q
 ·cases h
theorem qrw(O:XO w g c E X)(hfz:c.frz=false){x:Str}{i:Nat}{a:Expr}{ia:EV.E}{p ap cp pos:Pos}(h:loc c x=some i)(ho:c.own.contains x=true)(ha:PE X a (tE w g c E ia))(hes:esc ia=true)(hs:isStar a=false)(hl:(ap.endLine==cp.line)=true) :
  PS X (.Expr (.Call (.Attribute (.Name x p) "append" ap) [a] [] cp) pos) (tS w g c E fr (.app i ia)):=by
 obtain⟨h1,h2,h3,h4⟩:=zK h;have hv:PE X (.Name x p) (qir i):=qfm (i:=i) (by rw [O.N];exact h1) (by unfold Vis;rw [O.nm];exact h2) h3 h4;have hst:=qt (es:=[]) (env:=X.env) hs;have hb:=qtr (X:=X) (apos:=ap) (cpos:=cp) PySem.F.plainAttrs_list PySem.F.slot_list_append PySem.F.type_list_append qgM hv (zA ha qau hst) rfl (by rw [hst];rfl) hl hst rfl;refine PS.imp (qiT hb rfl) fun D σ H ⟨H0,B,τ,S,ss,k⟩=>?_
 simp only [zH,qaJ,qas,qaI,zt,qaG,zU,qaE,qaF,zR,qaf,qap,qah,qag,qak,qac,zM]at k;cases q:zE τ i with
 |ex z=>unfold zE at q;split at q<;>cases q
 |no=>rw [q]at k;exact k.elim
 |ok d0=>
  rw [q]at k;have q':=qiS q;have hi:zl c i:=⟨x,h1,ho⟩
  obtain⟨ad,vs,ds,z1,y1,rfl,y2,y3⟩:=ss.own i d0 hi q';refine⟨_,z1,.inl ⟨rfl,vs,SqL.of y2⟩,s_e ss k fun d v H1 _ p1 k1=>?_⟩;simp only at k1;by_cases hz:ds.length<SZ
  ·rw [if_pos hz]at k1;have s1:=ss.up p1.same;have y2':=p1.same _ _ y2;obtain⟨s2,s3⟩:=s1.change (vs:=vs++[v]) (ds:=ds++[d]) hfz hi q' z1 ((y3.mono (qr p1.same)).append (.cons (p1.st hes) .nil));exact⟨ad,vs,v,rfl,rfl,y2',by rw [←y3.length,sizeLine_eq];unfold SZ at hz;lia,k1 _ _ S s2 ((qr p1.same).trans s3)⟩
  ·rw [if_neg hz]at k1;exact k1.elim
theorem qoE(O:XO w g c E X)(hfz:c.frz=false){x:Str}{i:Nat}{k e:Expr}{ik ie:EV.E}{p sp pos:Pos}(h:loc c x=some i)(ho:c.own.contains x=true)(hk:PE X k (tE w g c E ik))(he:PE X e (tE w g c E ie))(hes:esc ie=true)(hsl:isSlice k=false)(hc:qbs e=false) :
  PS X (.Assign [.Subscript (.Name x p) k sp] e pos) (tS w g c E fr (.seti i ik ie)):=by
 obtain⟨h1,h2,h3,h4⟩:=zK h;have hv:PE X (.Name x p) (qir i):=qfm (i:=i) (by rw [O.N];exact h1) (by unfold Vis;rw [O.nm];exact h2) h3 h4;have hg:PG X (.Subscript (.Name x p) k sp) (qrK (qir i) (tE w g c E ik) qoi):=qsa hv hk set_list (by intro v;cases k<;>first|rfl|(simp [isSlice]at hsl));refine PS.imp (qln he hg (by simp only [swapsWithSole];exact qbG hc) rfl rfl) fun D σ H ⟨H0,B,τ,S,ss,k⟩=>?_
 simp only [zH,qaJ,qas,qaI,zt,qaG,zU,qaE,qaF,zR,qaf,qap,qah,qag,qak,qac,zM]at k;refine s_e ss k fun d v H1 _ p1 k1=>?_
 cases q:zE τ i with
 |ex z=>unfold zE at q;split at q<;>cases q
 |no=>rw [q]at k1;exact k1.elim
 |ok d0=>
  rw [q]at k1;have q':=qiS q;have hi:zl c i:=⟨x,h1,ho⟩
  have s1:=ss.up p1.same;obtain⟨ad,vs,ds,z1,y1,rfl,y2,y3⟩:=s1.own i d0 hi q';refine⟨_,z1,s_e s1 (qcB.up k1 (qr p1.same)) fun n vn H2 _ p2 k2=>?_⟩;cases n with
  |int j=>
   simp only at k2;cases qj:ixN ds.length j with
   |none=>rw [qj]at k2;exact k2.elim
   |some m=>
    rw [qj]at k2;have s2:=s1.up p2.same;have y2':=p2.same _ _ y2;obtain⟨s3,s4⟩:=s2.change (vs:=vs.set m v) (ds:=ds.set m d) hfz hi q' z1 ((y3.mono (qr p2.same)).set ((p1.st hes).mono (qr p2.same)) m);exact⟨ad,vs,j,m,rfl,p2.rb.int,y2',by rw [←y3.length];exact qj,k2 _ _ S s3 ((qr p2.same).trans s4)⟩
  |_=>exact k2.elim
theorem qje:PSs X [] (tSs w g c E fr .nil):=PSs.imp qox fun D σ H ⟨H0,B,τ,S,ss,h⟩=>by
 simp only [qe]at h;exact h σ H S ss (qf.refl _)
theorem qho{s:Stmt}{r:List Stmt}{is:EV.S}{ir:Ss}(h1:PS X s (tS w g c E fr is))(h2:PSs X r (tSs w g c E fr ir)):PSs X (s::r) (tSs w g c E fr (.cons is ir)):=
 PSs.imp (qic h1 h2) fun D σ H ⟨H0,B,τ,S,ss,h⟩=>by
  simp only [qe]at h;refine⟨H0,B,τ,S,ss,?_⟩;cases q:evS w is τ with
  |nx τ'=>rw [q]at h;exact fun σ' H' S' s' e=>⟨H0,B,τ',S',s',qcB.up h e⟩
  |bk τ'=>rw [q]at h;exact h
  |ct τ'=>rw [q]at h;exact h
  |rt d=>rw [q]at h;exact h
  |ex k=>rw [q]at h;exact h
  |no=>rw [q]at h;exact h
theorem qqA{t:Expr}{a b:List Stmt}{it:T}{ia ib:Ss}{pos:Pos}(ht:PT X t (tT w g c E it))(ha:PSs X a (tSs w g c E fr ia))(hb:PSs X b (tSs w g c E fr ib)):PS X (.If t a b pos) (tS w g c E fr (.ite it ia ib)):=
 PS.imp (qtC ht ha hb) fun D σ H ⟨H0,B,τ,S,ss,h⟩=>by
  simp only [zH,qaJ,qas,qaI,zt,qaG,zU,qaE,qaF,zR,qaf,qap,qah,qag,qak,qac,zM]at h;refine s_t ss h fun z H1 _ s1 k1=>?_
  cases z with
  |true=>exact⟨H0,B,τ,S,ss.up s1,qcB.up k1 (qr s1)⟩
  |false=>exact⟨H0,B,τ,S,ss.up s1,qcB.up k1 (qr s1)⟩
theorem PS.nox'{st:Stmt}{t:TS}(h:PS X.nox st t):PS X st t:=fun pins s σ H D I hw=>
 wpAny_mono (h pins s σ H D (I.wish _) hw) (fun _ _ q=>q.unwish) fun _ _ z=>False.elim z
theorem XO.nox(O:XO w g c E X):XO w g c E0 X.nox:=⟨O.K,O.nm,O.N,O.nd,O.calm,O.units,O.fn,O.kind,qkD rfl rfl,O.gok,O.fns,O.sub⟩
theorem XS.nox(O:XS w g c E X):XS w g c E0 X.nox:=⟨O.toXO.nox,fun _ _ _ _ _ _ _ _ _ _ _ z=>False.elim z,O.exc,O.cat,O.frm,O.gh⟩
theorem qhk{o:O}(h:qcB g c E fr H0 B H S Ed o.noEx):qcB g c E0 fr H0 B H S Ed o∧(∀k,o≠.ex k)∧o≠.no:=by
 cases o with
 |ex k=>exact h.elim
 |no=>exact h.elim
 |nx t=>exact⟨h,(fun _ z=>by cases z),(fun z=>by cases z)⟩
 |bk t=>exact⟨h,(fun _ z=>by cases z),(fun z=>by cases z)⟩
 |ct t=>exact⟨h,(fun _ z=>by cases z),(fun z=>by cases z)⟩
 |rt t=>exact⟨h,(fun _ z=>by cases z),(fun z=>by cases z)⟩
noncomputable def frozen(c:Cc)(b:Bool):Cc:={c with frz:=c.frz||b}
theorem XS.froze(O:XS w g c E X){b:Bool}:XS w g (frozen c b) E X:=
 ⟨⟨O.K,O.nm,O.N,O.nd,O.calm,O.units,O.fn,O.kind,O.pass,O.gok,O.fns,O.sub⟩,O.thr,O.exc,O.cat,O.frm,O.gh⟩
noncomputable def qcZ(B:Sh)(b:Bool)(σ:L2.St)(H:Hp):Sh:=if b=true then ⟨B.o,B.h,σ,H⟩else B
theorem qif{b:Bool}:(qcZ B b σ H).h=B.h:=by unfold qcZ;split<;>rfl
theorem qpT{b:Bool}{H1:Hp}:hid H1 (qcZ B b σ H)=hid H1 B:=by funext a;unfold hid;rw [qif]
theorem SS.froze(b:Bool)(ss:SS g c H0 B τ σ H S):SS g (frozen c b) H0 (qcZ B b σ H) τ σ H S:=by
 refine⟨⟨ss.se.len,ss.se.val,ss.se.sub⟩,ss.lenN,ss.same,?_,?_,ss.new,ss.own,ss.inj,fun z=>?_⟩
 ·unfold qcZ;split
  ·exact ss.sub0
  ·exact ss.sub0
 ·rw [qif];exact ss.hd
 ·cases b with
  |true=>exact⟨fun i _=>rfl,qf.refl _⟩
  |false=>
   have z:(c.frz||false)=true:=z;rw [Bool.or_false]at z;exact ss.frz z
theorem SS.thaw{b:Bool}{σ1:L2.St}{H1:Hp}{τ1:Env}{S1:Sh}(s0:SS g c H0 B τ1 σ1 H1 S1)(ss:SS g (frozen c b) H0 (qcZ B b σ1 H1) τ σ H S):SS g c H0 B τ σ H S:=by
 refine⟨⟨ss.se.len,ss.se.val,ss.se.sub⟩,ss.lenN,ss.same,s0.sub0,?_,ss.new,ss.own,ss.inj,fun z=>?_⟩
 ·have:=ss.hd;rw [qif]at this;exact this
 ·have f:=ss.frz (by show (c.frz||b)=true;rw [z];rfl);cases b with
  |true=>exact⟨fun i hi=>(f.1 i hi).trans ((s0.frz z).1 i hi),(s0.frz z).2.trans f.2⟩
  |false=>exact f
theorem SS.iced{b:Bool}{σ1:L2.St}{H1:Hp}(hb:b=true)(ss:SS g (frozen c b) H0 (qcZ B b σ1 H1) τ σ H S):qf H1 H:=by
 subst hb;exact(ss.frz (by show (c.frz||true)=true;rw [Bool.or_true])).2
theorem qqH(O:XO w g c E X)(hc:X.calm=true){tg it:Expr}{b:List Stmt}{itg:Tg}{iit:It}{ib:Ss}{pos:Pos}(hi:PI X.nox tg it (tIt w g c E0 iit))(hg:PG X.nox tg (gT X.K itg))(hf:qdR c itg)(hb:PSs X.nox b (tSs w g (frozen c (owned iit)) E0 fr ib))(hs:zv it=true) :
  PS X (.For tg it b [] pos) (tS w g c E fr (.for itg iit ib)):=by
 refine PS.nox' (PS.imp (qqO (X:=X.nox) PassesOwn.never hc hi hg hb (fun x=>by cases it<;>first|rfl|(simp [zv]at hs))) fun D σ H ⟨H0,B,τ,S,ss,h⟩=>?_);simp only [zH,qaJ,qas,qaI,zt,qaG,zU,qaE,qaF,zR,qaf,qap,qah,qag,qak,qac,zM]at h;obtain⟨h,nex,nno⟩:=qhk h;cases q:evI w iit τ with
 |ex z=>rw [q]at nex;exact absurd rfl (nex z)
 |no=>rw [q]at nno;exact absurd rfl nno
 |ok ds=>
  rw [q]at h nex nno;simp only [R.out_ok]at h nex nno;refine⟨τ,S,ss.se,?_⟩;rw [q];intro J H1 s1 kW kS;generalize hr:qbd itg (fun σ=>qe w ib σ) ds τ=r at h nex nno;refine⟨fun i m σ' H'=>m=ds.length-i∧i≤ds.length∧∃τ' S',SS g (frozen c (owned iit)) H0 (qcZ B (owned iit) σ H1) τ' σ' H' S'∧qf (hid H1 S) (hid H' S')∧qbd itg (fun σ=>qe w ib σ) (ds.drop i) τ'=r,⟨ds.length,rfl,Nat.zero_le _,τ,S,(ss.up s1).froze _,qf.refl _,hr⟩,?_⟩;rintro i m σ' H' ⟨rfl,hi',τ',S',ss',e',hl⟩;have gg:Goes g J ds H' S':=by
   cases hw:owned iit with
   |false=>exact kS hw H' S' e' ss'.se.sub
   |true=>exact kW H' S' (ss'.iced hw) e' ss'.se.sub
  obtain⟨g1,g2⟩:=gg;have eH:qf (hid H S) (hid H' S'):=(qr s1).trans e';by_cases hlt:i<ds.length
  ·have hd:ds[i]? = some ds[i]:=List.getElem?_eq_getElem hlt;obtain⟨go1,go2⟩:=g2 i ds[i] hd;refine .inr ⟨go1,fun σ2 H2=>∃τ' S',SS g (frozen c (owned iit)) H0 (qcZ B (owned iit) σ H1) τ' σ2 H2 S'∧qf (hid H1 S) (hid H2 S')∧qbd itg (fun σ=>qe w ib σ) (ds.drop (i+1)) τ'=r,fun σ2 H2 z=>⟨ds.length-(i+1),by lia,rfl,hlt,z⟩,fun x H2 hy=>?_⟩;obtain⟨s2,rx⟩:=go2 x H2 hy;rw [List.drop_eq_getElem_cons hlt]at hl;simp only [qbd]at hl;cases q1:store itg ds[i] τ' with
   |ex z=>rw [q1]at hl;exact absurd hl.symm (nex z)
   |no=>rw [q1]at hl;exact absurd hl.symm nno
   |ok τ1=>
    rw [q1]at hl;simp only [R.out_ok]at hl;refine(ss'.up s2).store O.K hf rx q1 fun σ1 ss1=>⟨H0,_,τ1,S',ss1,?_⟩
    cases q2:qe w ib τ1 with
    |nx τ2=>rw [q2]at hl;exact fun σ2 H3 S3 s3 e3=>⟨τ2,S3,s3,(e'.trans (qr s2)).trans e3,hl⟩
    |ct τ2=>rw [q2]at hl;exact fun σ2 H3 S3 s3 e3=>⟨τ2,S3,s3,(e'.trans (qr s2)).trans e3,hl⟩
    |bk τ2=>
     rw [q2]at hl;simp only at hl;rw [←hl]at h;exact fun σ2 H3 S3 s3 e3=>h σ2 H3 S3 ((ss.up s1).thaw s3) ((eH.trans (qr s2)).trans e3)
    |rt d=>
     rw [q2]at hl;simp only at hl;rw [←hl]at h;refine fun v H3 s3 r3 f3=>h v H3 s3 (by rw [qpT]at r3;exact r3) fun z=>?_
     have f3:=f3 z;unfold qcZ at f3;split at f3
     ·exact f3
     ·exact f3
    |ex z=>rw [q2]at hl;exact absurd hl.symm (nex z)
    |no=>rw [q2]at hl;exact absurd hl.symm nno
  ·have e:i=ds.length:=by lia
   subst e;rw [List.drop_length]at hl;simp only [qbd]at hl;rw [←hl]at h;exact .inl ⟨g1 ds.length (Nat.le_refl _),h σ' H' S' ((ss.up s1).thaw ss') eH⟩
theorem qmU{t:Expr}{b:List Stmt}{it:T}{ib:Ss}{pos:Pos}(ht:PT X.nox t (tT w g c E0 it))(hb:PSs X.nox b (tSs w g c E0 fr ib)):PS X (.While t b [] pos) (tS w g c E fr (.while it ib)):=by
 refine PS.nox' (PS.imp (qmY (X:=X.nox) PassesOwn.never ht hb) fun D σ H ⟨H0,B,τ,S,ss,h⟩=>?_);simp only [zH,qaJ,qas,qaI,zt,qaG,zU,qaE,qaF,zR,qaf,qap,qah,qag,qak,qac,zM]at h;obtain⟨h,nex,nno⟩:=qhk h;generalize hr:qbC (fun σ=>evT w it σ) (fun σ=>qe w ib σ) qeS τ=r at h nex nno;refine⟨fun m σ' H'=>∃τ' S',SS g c H0 B τ' σ' H' S'∧qf (hid H S) (hid H' S')∧qbC (fun σ=>evT w it σ) (fun σ=>qe w ib σ) m τ'=r,⟨qeS,τ,S,ss,qf.refl _,hr⟩,?_⟩;rintro m σ' H' ⟨τ',S',ss',e',hl⟩;cases m with
 |zero=>simp only [qbC]at hl;exact absurd hl.symm nno
 |succ m=>
  simp only [qbC]at hl;cases q:evT w it τ' with
  |ex z=>rw [q]at hl;exact absurd hl.symm (nex z)
  |no=>rw [q]at hl;exact absurd hl.symm nno
  |ok z=>
   rw [q]at hl;simp only [R.out_ok]at hl;refine⟨τ',S',ss'.se,?_⟩;rw [q];intro H1 s1;cases z with
   |false=>
    simp only [Bool.false_eq_true,if_false]at hl;rw [if_neg Bool.false_ne_true];rw [←hl]at h;exact h σ' H1 S' (ss'.up s1) (e'.trans (qr s1))
   |true=>
    simp only [if_true]at hl;rw [if_pos rfl];refine⟨fun σ2 H2=>∃τ' S',SS g c H0 B τ' σ2 H2 S'∧qf (hid H S) (hid H2 S')∧qbC (fun σ=>evT w it σ) (fun σ=>qe w ib σ) m τ'=r,fun σ2 H2 z=>⟨m,Nat.lt_succ_self m,z⟩,H0,B,τ',S',ss'.up s1,?_⟩;have e1:=e'.trans (qr (S:=S') s1);cases q2:qe w ib τ' with
    |nx τ2=>rw [q2]at hl;exact fun σ2 H3 S3 s3 e3=>⟨τ2,S3,s3,e1.trans e3,hl⟩
    |ct τ2=>rw [q2]at hl;exact fun σ2 H3 S3 s3 e3=>⟨τ2,S3,s3,e1.trans e3,hl⟩
    |bk τ2=>
     rw [q2]at hl;simp only at hl;rw [←hl]at h;exact fun σ2 H3 S3 s3 e3=>h σ2 H3 S3 s3 (e1.trans e3)
    |rt d=>rw [q2]at hl;simp only at hl;rw [←hl]at h;exact h
    |ex z=>rw [q2]at hl;exact absurd hl.symm (nex z)
    |no=>rw [q2]at hl;exact absurd hl.symm nno
end
section
variable{w:W}{g:Gc}{c:Cc}{E:XK}{fr:Bool}{X:Cx}{H0:Hp}{B:Sh}{τ:Env}{σ:L2.St}{H H':Hp}{S:Sh}{Ed:Ends}
theorem qlz{s:Stmt}:PS X s (tS w g c E fr .unk):=fun pins s σ H D I ⟨H0,B,τ,S,ss,h⟩=>by
 simp only [zH,qaJ,qas,qaI,zt,qaG,zU,qaE,qaF,zR,qaf,qap,qah,qag,qak,qac,zM]at h;exact h.elim
theorem qrN(O:XO w g c E X)(hfz:c.frz=false){x:Str}{i:Nat}{k a:Expr}{ik ia:EV.E}{p ap cp pos:Pos}(h:loc c x=some i)(ho:c.own.contains x=true)(hk:PE X k (tE w g c E ik))(ha:PE X a (tE w g c E ia))(hes:esc ia=true)(hsk:isStar k=false)(hs:isStar a=false)(hl:(ap.endLine==cp.line)=true) :
  PS X (.Expr (.Call (.Attribute (.Name x p) "insert" ap) [k,a] [] cp) pos) (tS w g c E fr (.ins i ik ia)):=fun pins s σ H D I ⟨H0,B,τ,S,ss,h⟩=>by
 simp only [zH,qaJ,qas,qaI,zt,qaG,zU,qaE,qaF,zR,qaf,qap,qah,qag,qak,qac,zM]at h;exact False.elim h
end
theorem qkc{e:Expr}{x:Str}{ap cp:Pos}{k a:Expr}(h:qog e=some (x,ap,k,a,cp)):∃p,e=.Call (.Attribute (.Name x p) "insert" ap) [k,a] [] cp:=by cases h
theorem qkF{ts:List Expr}{k:Nat}{p:Pos}{e:Expr}{env:PySem.Env}(h:isTup e=true→qkz e=true):swappedStores [.Tuple ts k p] e env=pure none:=by
 cases e<;>first|rfl|skip
 rename_i vs k2 p2
 have h:vs.all (foldedForSure 8)=true:=h rfl;unfold swappedStores;simp only [h,if_true];split
 ·rfl
 ·split
  ·rfl
  ·split
   ·rfl
   ·rfl
theorem qnC{ts:List Expr}{e:Expr}{x y:Str}{a b:Expr}(h:qnk ts e=some (x,y,a,b)):∃px py k2 pt2,ts=[.Name x px,.Name y py]∧e=.Tuple [a,b] k2 pt2∧isStar a=false∧isStar b=false∧[a,b].all (foldedForSure 8)=false∧[a,b].all (constantsAlone 8)=false∧(px.line==py.line)=true:=by
 unfold qnk at h;split at h
 ·split at h
  ·split at h
   ·rename_i hc
    simp only [Bool.and_eq_true,Bool.not_eq_true']at hc;cases h;exact⟨_,_,_,_,rfl,rfl,hc.1.1.1.1,hc.1.1.1.2,hc.1.1.2,hc.1.2,hc.2⟩
   ·cases h
  ·cases h
 ·cases h
section
variable{w:W}{g:Gc}{c:Cc}{E:XK}{fr:Bool}{X:Cx}
theorem qku(O:XO w g c E X){n:Nat}(hn:n≤100000){x:Str}{i:Nat}{elt:Expr}{gs:List Comprehension}{sc:Scope}{p p' pos:Pos}{ie:EV.E}(hl:qaW c x=some i)(h:cE n c (.ListComp elt gs sc p)=some ie)(hk:(zl c i∧fresh c ie=true∧c.frz=false)∨(¬ zl c i∧esc ie=true)) :
  PS X (.Assign [.Name x p'] (.ListComp elt gs sc p) pos) (tS w g c E fr (.set (.nm i) ie)):=by
 obtain⟨l1,l2⟩:=zF hl;obtain⟨l3,_⟩:=zK l1;have hlt:i<c.N.length:=(List.getElem?_eq_some_iff.mp l3).1;have hN:X.N.Nodup:=by rw [O.N];exact O.nd
 have hix:X.N[i]? = some x:=by rw [O.N];exact l3
 have hx:L2.Loc X.env.scope x:=by unfold L2.Loc;rw [O.nm];rcases l2 with z|z;exact .inl z;exact .inr z.1
 have hf:X.fn x=true∨X.env.scope.names.lookup x=some .local:=by
  rcases l2 with z|z
  ·exact .inr (by rw [O.nm];exact z)
  ·exact .inl (O.fn x z.2)
 cases hb:(X.env.blockKind==.function&&X.env.kindOf x==some .local&&p'.line==p.line && !(sc.names.any fun(n,k)=>n==x&&(k==.local||k==.cell)))with
 |false=>
  have hs:swapsWith (.ListComp elt gs sc p) (some (.Name x p')) pos.line X.env=pure false:=by rw [←hb];rfl
  exact qeh (e:=.ListComp elt gs sc p) (qlY hN hix hx ((snd n hn).e O h) hs hf) (fun _ _ _ z=>z) hlt hk
 |true=>
  have hs:swapsWith (.ListComp elt gs sc p) (some (.Name x p')) pos.line X.env=pure true:=by rw [←hb];rfl
  match n,h with
  | 0,h=>simp [cE]at h
  |m+1,h=>
   have ih:=snd (w:=w) (g:=g) m (Nat.le_of_succ_le hn);obtain⟨tgt,it,ifs,iit,itg,it',ie',rfl,hs1,hk1,h1,h2,h3,h4,he,rfl⟩:=qjf h;have hS:zT X (zY sc.names) (qel c sc.names) sc:=zT.of (by
    have e1:(fun x=>c.nm.lookup x)=X.env.kindOf:=by funext x;show _=X.env.scope.names.lookup x;rw [O.nm]
    rw [←e1,O.N];exact hk1.1)
   refine qeh (e:=.ListComp elt [⟨tgt,it,ifs,0⟩] sc p) (qjD (tb:=fun acc=>qhg acc (tE w g (qaR c sc) E0 ie')) hN hix hx (O.calm hs1.1) hS (ih.i O h1 he.2) (fun cl C s₀ H₀ fp=>?_) (by simp) hs hf (fun x=>by
    have q:=hs1.2;cases it<;>first|rfl|cases q)) (fun σ H Q q=>qdT O hS he.1 q) hlt hk
   have OY:=O.comp hS.kind hk1.2 cl C s₀ H₀ fp;exact⟨qjS OY h2,ih.ifs OY h3,fun acc=>qji rfl (ih.e OY h4)⟩
end
structure qnD(w:W)(g:Gc)(n:Nat):Prop where
 s:∀{c:Cc}{E:XK}{X:Cx} (O:XS w g c E X) {fr:Bool}{x:Stmt}{ir:EV.S},cS n c fr x=some ir→PS X x (tS w g c E fr ir)
 ss:∀{c:Cc}{E:XK}{X:Cx} (O:XS w g c E X) {fr:Bool}{x:List Stmt}{ir:Ss},cSs n c fr x=some ir→PSs X x (tSs w g c E fr ir)
section
variable{w:W}{g:Gc}{n:Nat}
theorem qnD.ss_succ(ih:qnD w g n){c:Cc}{E:XK}{X:Cx}(O:XS w g c E X){fr:Bool}{x:List Stmt}{ir:Ss}(h:cSs (n+1) c fr x=some ir):PSs X x (tSs w g c E fr ir):=by
 match x with
 | []=>simp only [cSs,Option.some.injEq]at h;subst h;exact qje
 |s::r=>
  simp only [cSs,Option.bind_eq_bind,Option.bind_eq_some_iff]at h;obtain⟨ir',h2,h⟩:=h;cases h;cases h1:cS n c fr s with
  |none=>exact qho qlz (ih.ss O h2)
  |some is=>exact qho (ih.s O h1) (ih.ss O h2)
theorem qfF{c:Cc}{x:Str}{i:Nat}(h:c.N[i]? = some x):zl c i↔c.own.contains x=true:=⟨fun⟨y,h1,h2⟩=>by rw [h]at h1;cases h1;exact h2,fun h2=>⟨x,h,h2⟩⟩
theorem qjN{e:Expr}{x m:Str}{ap cp:Pos}{a:Expr}(h:qjX e=some (x,m,ap,a,cp)):∃p,e=.Call (.Attribute (.Name x p) m ap) [a] [] cp:=by
 unfold qjX at h;split at h
 ·split at h
  ·split at h
   ·split at h
    ·split at h
     ·rename_i hk;cases h;rw [List.isEmpty_iff]at hk;subst hk;exact⟨_,rfl⟩
     ·cases h
    ·cases h
   ·cases h
  ·cases h
 ·cases h
theorem qnD.s_succ(ih:qnD w g n)(hn:n≤100000){c:Cc}{E:XK}{X:Cx}(O:XS w g c E X){fr:Bool}{x:Stmt}{ir:EV.S}(h:cS (n+1) c fr x=some ir):PS X x (tS w g c E fr ir):=by
 have K:=snd (w:=w) (g:=g) n hn;unfold cS at h;split at h
 ·rename_i ts0 e pos
  split at h
  ·rename_i t0
   split at h
   ·-- x = e
    rename_i y p
    simp only [Option.bind_eq_bind,Option.bind_eq_some_iff]at h;obtain⟨i,hl,ie,h1,h⟩:=h;obtain⟨l1,l2⟩:=zF hl;obtain⟨l3,_⟩:=zK l1;have ho:=qfF l3;have hk:((zl c i∧fresh c ie=true∧c.frz=false)∨(¬ zl c i∧esc ie=true))∧ir=.set (.nm i) ie:=by
     split at h
     ·rename_i hy
      split at h
      ·rename_i hf;cases h;exact⟨.inl ⟨ho.mpr hy,by simpa using hf⟩,rfl⟩
      ·cases h
     ·rename_i hy
      split at h
      ·rename_i hf;cases h;exact⟨.inr ⟨fun z=>hy (ho.mp z),hf⟩,rfl⟩
      ·cases h
    obtain⟨hk,rfl⟩:=hk;cases hc:qbs e with
    |false=>
     refine qeh (e:=e) (qlY (i:=i) (by rw [O.N];exact O.nd) (by rw [O.N];exact l3) (by unfold L2.Loc;rw [O.nm];rcases l2 with z|z;exact .inl z;exact .inr z.1) (K.e O.toXO h1) (qbG hc) ?_) (fun _ _ _ z=>z) (List.getElem?_eq_some_iff.mp l3).1 hk;rcases l2 with z|z
     ·exact .inr (by rw [O.nm];exact z)
     ·exact .inl (O.fn y z.2)
    |true=>
     cases e with
     |ListComp elt gs sc p=>exact qku O.toXO hn hl h1 hk
     |SetComp elt gs sc p=>match n,h1 with
      | 0,h1=>cases h1
      |m+1,h1=>cases h1
     |DictComp a b gs sc p=>match n,h1 with
      | 0,h1=>cases h1
      |m+1,h1=>cases h1
     |_=>cases hc
   ·-- (a, b) = e
    rename_i ts k p
    split at h
    ·rename_i x y a b hp
     simp only [Option.bind_eq_bind,Option.bind_eq_some_iff]at h;obtain⟨i,hx,j,hy,ia,h1,ib,h2,h⟩:=h;obtain⟨px,py,k2,pt2,rfl,rfl,hsa,hsb,hfa,hca,hl⟩:=qnC hp;split at h
     ·cases h
     ·rename_i hc
      simp only [Bool.or_eq_true,Bool.not_eq_true',not_or,Bool.not_eq_true,Bool.not_eq_false]at hc;obtain⟨⟨⟨⟨⟨⟨⟨c1,c2⟩,c3⟩,c4⟩,c5⟩,c6⟩,c7⟩,c8⟩:=hc;obtain⟨l1,_⟩:=zF hx;obtain⟨l3,_⟩:=zK l1;obtain⟨m1,_⟩:=zF hy;obtain⟨m3,_⟩:=zK m1;have oi:=qfF l3;have oj:=qfF m3;have hk:((zl c j∧fresh c ib=true∧c.frz=false)∨(¬ zl c j∧esc ib=true))∧ir=.par i j ia ib:=by
       split at h
       ·rename_i hy'
        split at h
        ·rename_i hf;cases h;exact⟨.inl ⟨oj.mpr hy',by simpa using hf⟩,rfl⟩
        ·cases h
       ·rename_i hy'
        split at h
        ·rename_i hf;cases h;exact⟨.inr ⟨fun z=>hy' (oj.mp z),hf⟩,rfl⟩
        ·cases h
      obtain⟨hk,rfl⟩:=hk;exact qrs O.toXO (O.calm c1) hx hy (eq_of_beq c2) (eq_of_beq c3) (by simpa using c4) (K.e O.toXO h1) (K.e O.toXO h2) c7 c8 hfa hca hl (fun z=>by have:=oi.mp z;rw [c5]at this;cases this) c6 hk
    simp only [Option.bind_eq_bind,Option.bind_eq_some_iff]at h;obtain⟨tg,h1,ie,h2,h⟩:=h;split at h
    ·cases h
    ·rename_i hc
     have hc:((isTup e=true→qkz e=true)∧qbs e=false)∧esc ie=true:=by simpa using hc
     cases h;refine qpa O.toXO (K.e O.toXO h2) (qjS O.toXO h1) (qig h1) hc.2 (by simp only [swapsWithSole];exact qbG hc.1.2) ?_ rfl;exact qkF hc.1.1
   ·-- x[k] = e
    split at h
    ·simp only [Option.bind_eq_bind,Option.bind_eq_some_iff]at h;obtain⟨i,hl,ie,h1,ik,h2,h⟩:=h;split at h
     ·rename_i hc
      simp only [Bool.and_eq_true,Bool.not_eq_true']at hc;cases h;exact qoE O.toXO hc.2 (zF hl).1 hc.1.1.1.1 (K.e O.toXO h2) (K.e O.toXO h1) hc.1.1.1.2 hc.1.1.2 hc.1.2
     ·cases h
    ·cases h
   ·cases h
  ·cases h
 ·split at h
  ·-- x.insert(k, a)
   rename_i he
   obtain⟨p,rfl⟩:=qkc he;simp only [Option.bind_eq_bind,Option.bind_eq_some_iff]at h;obtain⟨i,hl,ik,h0,ia,h1,h⟩:=h;split at h
   ·rename_i hc
    simp only [Bool.and_eq_true,Bool.not_eq_true',beq_iff_eq]at hc;cases h;obtain⟨⟨⟨⟨⟨c2,c3⟩,c4⟩,c5⟩,c6⟩,c7⟩:=hc;exact qrN O.toXO c7 (zF hl).1 c2 (K.e O.toXO h0) (K.e O.toXO h1) c3 c4 c5 (by simpa using c6)
   ·cases h
  split at h
  ·-- x.append(a)
   rename_i he
   obtain⟨p,rfl⟩:=qjN he;simp only [Option.bind_eq_bind,Option.bind_eq_some_iff]at h;obtain⟨i,hl,ia,h1,h⟩:=h;split at h
   ·rename_i hc
    simp only [Bool.and_eq_true,Bool.not_eq_true',beq_iff_eq]at hc;cases h;obtain⟨⟨⟨⟨⟨rfl,c2⟩,c3⟩,c4⟩,c5⟩,c6⟩:=hc;exact qrw O.toXO c6 (zF hl).1 c2 (K.e O.toXO h1) c3 c4 (by simpa using c5)
   ·cases h
  ·split at h
   ·cases h
   ·rename_i hc
    simp only [Option.bind_eq_bind,Option.bind_eq_some_iff]at h;obtain⟨ie,h1,h⟩:=h;cases h;exact qrS (K.e O.toXO h1) (by simpa using hc)
 ·split at h
  ·-- return e
   rename_i e
   simp only [Option.bind_eq_bind,Option.bind_eq_some_iff]at h;obtain⟨ie,h1,h⟩:=h;split at h
   ·rename_i hf
    split at h
    ·rename_i y p
     split at h
     ·rename_i ho
      simp only [Option.map_eq_some_iff]at h;obtain⟨i,hl,rfl⟩:=h;exact qlK O.toXO hl ho
     ·cases h
    ·split at h
     ·rename_i hfr
      cases h;exact qma (K.e O.toXO h1) fun _=>hfr
     ·cases h
   ·rename_i hf
    cases h;exact qma (K.e O.toXO h1) fun z=>absurd z hf
  ·split at h
   ·cases h
   ·rename_i hf
    cases h;exact qoD (by simpa using hf)
 ·simp only [Option.bind_eq_bind,Option.bind_eq_some_iff]at h;obtain⟨it,h1,ia,h2,ib,h3,h⟩:=h;cases h;exact qqA (K.t O.toXO h1) (ih.ss O h2) (ih.ss O h3)
 ·split at h
  ·cases h
  ·rename_i tg0 it0 b0 els0 pos0 hc
   have hc:(els0=[]∧c.calm=true)∧zv it0=true:=by simpa using hc
   obtain⟨⟨rfl,hc1⟩,hc2⟩:=hc;simp only [Option.bind_eq_bind,Option.bind_eq_some_iff]at h;obtain⟨tg,h1,it,h2,h⟩:=h;split at h
   ·cases h
   ·rename_i ho
    have ho:qgc it tg0=true:=by simpa using ho
    simp only [Option.bind_eq_some_iff]at h;obtain⟨ib,h3,h⟩:=h;cases h;exact qqH O.toXO (O.calm hc1) (K.i O.toXO.nox h2 ho) (qjS O.toXO.nox h1) (qig h1) (ih.ss O.nox.froze h3) hc2
 ·split at h
  ·cases h
  ·rename_i els0 _ hc
   have hc:els0=[]∧c.calm=true:=by simpa using hc
   obtain⟨rfl,hc⟩:=hc;simp only [Option.bind_eq_bind,Option.bind_eq_some_iff]at h;obtain⟨it,h1,ib,h2,h⟩:=h;cases h;exact qmU (K.t O.toXO.nox h1) (ih.ss O.nox h2)
 ·cases h;exact qoR
 ·cases h;exact qrd
 ·cases h;exact qrl
 ·cases h
theorem qnl:∀n,n≤100000→qnD w g n
 | 0,_=>⟨fun _ _ _ _ h=>by simp [cS]at h,fun _ _ _ _ h=>by simp [cSs]at h⟩
 |n+1,h=>
  have ih:=qnl n (Nat.le_of_succ_le h)
  ⟨fun O _ _ _ q=>ih.s_succ (Nat.le_of_succ_le h) O q,fun O _ _ _ q=>ih.ss_succ O q⟩
end
section
variable{w:W}{g:Gc}{c:Cc}{E:XK}{fr:Bool}{X:Cx}{H0:Hp}{B:Sh}{τ:Env}{σ:L2.St}{H H':Hp}{S:Sh}{n:Nat}
theorem SS.demote(s:SS g c H0 B τ σ H S){c':Cc}(hN:c'.N=c.N)(ho:c'.own=[])(hz:c'.frz=false):SS g c' H0 B τ σ H ⟨fun _=>false,B.h,B.z,B.y⟩:=by
 have no:∀i,¬ zl c' i:=fun i ⟨x,_,h⟩=>by rw [ho]at h;cases h
 have up:qf (hid H S) (hid H ⟨fun _=>false,B.h,B.z,B.y⟩):=fun b o h=>by
  obtain⟨h1,h2⟩:=qtZ.mp h;refine qtZ.mpr ⟨?_,h2⟩;have:=s.hd b;rw [h1]at this;show B.h b=false;cases q:B.h b with
  |false=>rfl
  |true=>rw [q]at this;cases this
 have val:∀(i:Nat) (d:D),τ[i]? = some (some d)→∃v,σ[i]? = some (some v)∧Rep g (hid H ⟨fun _=>false,B.h,B.z,B.y⟩) d v:=fun i d h=>by
  obtain⟨v,h1,h2,_⟩:=s.se.val i d h;refine⟨v,h1,?_⟩;rcases h2 with h2|⟨a,vs,ds,z1,rfl,rfl,z4,z5⟩
  ·exact h2.mono up
  ·exact .lst (SqL.of (qtZ.mpr ⟨s.sub0.free (s.new a z1),z4⟩)) (z5.mono up)
 refine⟨⟨s.se.len,fun i d h=>?_,fun a ha=>?_⟩,by rw [s.lenN,hN],s.same,s.sub0,fun a=>by simp,fun a ha=>(by cases ha),fun i d hi _=>(no i hi).elim,fun i j d e a hi _ _ _ _ _=>(no i hi).elim,fun z=>by rw [hz]at z;cases z⟩
 ·obtain⟨v,h1,h2⟩:=val i d h;exact⟨v,h1,.inl h2,fun _ _ _=>h2⟩
 ·rcases ha with ha|ha
  ·exact s.sub0.same s.same a (.inl ha)
  ·cases ha
noncomputable def qnY(g:Gc)(E:XK)(fr:Bool)(H0:Hp)(B:Sh)(D:Ends):O→Prop
 | .nx _=>∀σ' H',qf H0 H'→D.nx σ' H'
 | .rt d=>∀v H',qf H0 H'→Rep g (hid H' B) d v→(fr=true→Fr g H0 B H' d v)→D.rt v H'
 | .ex k=>∀H' C,qf H0 H'→g.clA k=some C→E (.ref C) none H'
 |_=>False
theorem qnY.out{D:Ends}{o:O}(h:qnY g E fr H0 B D o):qcB g c E fr H0 B H S D o:=by
 cases o with
 |nx t=>exact fun σ' H' S' ss _=>h σ' H' ss.same
 |rt d=>exact h
 |ex k=>exact h
 |bk t=>exact h.elim
 |ct t=>exact h.elim
 |no=>exact h.elim
noncomputable def quk(w:W)(g:Gc)(c:Cc)(E:XK)(fr:Bool)(s:Ss):TS:=fun D σ H=>∃H0 B τ S,SS g c H0 B τ σ H S∧qnY g E fr H0 B D (qe w s τ)
theorem qkX(hn:n≤100000)(O:XS w g c E X):∀{x:List Stmt}{ir:Ss},qgb n c fr x=some ir→PSs X x (quk w g c E fr ir)
 | [],ir,h=>by
  cases h;exact PSs.imp qje fun D σ H ⟨H0,B,τ,S,ss,z⟩=>⟨H0,B,τ,S,ss,z.out⟩
 |s::r,ir,h=>by
  unfold qgb at h;split at h
  ·have O':XS w g (noOwn c) E X:=⟨⟨O.K,O.nm,O.N,O.nd,O.calm,O.units,O.fn,O.kind,O.pass,O.gok,O.fns,O.sub⟩,O.thr,O.exc,O.cat,O.frm,O.gh⟩
   exact PSs.imp ((qnl n hn).ss O' h) fun D σ H ⟨H0,B,τ,S,ss,z⟩=>⟨H0,B,τ,_,ss.demote rfl rfl rfl,z.out⟩
  ·simp only [Option.bind_eq_bind,Option.bind_eq_some_iff]at h;obtain⟨ir',h1,h⟩:=h;cases h;have hr:=qkX hn O h1;have hs:PS X s (tS w g c E fr ((cS n c fr s).getD .unk)):=by
    cases q:cS n c fr s with
    |none=>exact qlz
    |some is=>exact(qnl n hn).s O q
   refine PSs.imp (qic hs hr) fun D σ H ⟨H0,B,τ,S,ss,z⟩=>?_
   simp only [qe]at z;refine⟨H0,B,τ,S,ss,?_⟩;cases q:evS w ((cS n c fr s).getD .unk) τ with
   |nx τ'=>rw [q]at z;exact fun σ' H' S' s' e=>⟨H0,B,τ',S',s',z⟩
   |bk τ'=>rw [q]at z;exact z.elim
   |ct τ'=>rw [q]at z;exact z.elim
   |rt d=>rw [q]at z;exact z
   |ex k=>rw [q]at z;exact z
   |no=>rw [q]at z;exact z
end
noncomputable def GM0(p:Pr)(g:Gc)(mg:Str→Option Value)(x:Str):GK→Prop
 | .fn _=>∃f,g.fnA x=some f
 | .val=>∃u v d,mg x=some u∧RelV v u∧p.glb x=some d∧∀H,Rep g H d v
 | .bi b=>mg x=none∧x=b1N b∧∃id,b1V b=.builtin id
 | .rng=>mg x=none∧x = "range"
 | .enum=>mg x=none∧x = "enumerate"
 | .zip=>mg x=none∧x = "zip"
 | .isi=>mg x=none∧x = "isinstance"
 | .ty n b=>mg x=none∧bootBuiltins x=some (.type n)∧(n∈["int","bool","str","list","tuple"]∨n = "ValueError")∧∀b',b=some b'→x=b1N b'∧b1V b'=.type n
 | .exc=>∃C,mg x=some (.ref C)∧g.clA x=some C∧qlT g.K C
 | .exk=>∃C,mg x=some (.ref C)∧g.clA x=some C
structure Ground(p:Pr)(g:Gc)(G GH GU:List (Str×GK))(mg:Str→Option Value):Prop where
 fn:∀x f,g.fnA x=some f→∃st own fr fd fnn,p.fns x=some fnn∧cFn G GH own fr st=some fnn∧Fun g.K x x st f fd∧Binds g.K fd (argNames (zc st)) []∧PySem.W.keepIn g.K (.ref f)=true∧mg x=some (.ref f)∧G.lookup x=some (.fn fr)
 gl:∀x k,G.lookup x=some k→GM0 p g mg x k
 gu:∀x k,GU.lookup x=some k→(∀fr,k≠.fn fr)∧k≠.exc∧GM0 p g mg x k
 gh:∀x k,GH.lookup x=some k→GU.lookup x=some k
 sub:∀k cl b,p.sub k cl=some b→∃C cv,g.clA k=some C∧qaL g.K C∧PySem.W.kitOne g.K (.ref C) cv=some b∧match cl with
  | .ty n=>n = "ValueError"∧cv=.type n
  | .ex x=>∃D,g.clA x=some D∧cv=.ref D
 cat:∀k x,p.cat k x=true→∀C D,g.clA k=some C→g.clA x=some D→PySem.W.exmOne g.K (.ref C) (.ref D)=some true
abbrev wAt(p:Pr)(k:Nat):W:=⟨qc p k,p.glb,p.sub,p.cat⟩
theorem qmO{N ps:List Str}{sc:Scope}(h:qhe N ps sc=true):qda N ps sc:=by
 unfold qhe at h;simp only [Bool.and_eq_true,beq_iff_eq,Bool.not_eq_true',decide_eq_true_eq,List.all_eq_true,Bool.or_eq_true,bne_iff_ne,ne_eq]at h;obtain⟨⟨⟨⟨⟨⟨h1,h2⟩,h3⟩,h4⟩,h5⟩,h6⟩,h7⟩:=h;exact⟨h1,h2,h3,h4,h5,h6,h7⟩
theorem qkY{G GH:List (Str×GK)}{own:List Str}{fr:Bool}{st:Stmt}{fnn:Fn}(h:cFn G GH own fr st=some fnn):qhe (qdc (zc st) (qZ st)) (argNames (zc st)) (qZ st)=true∧(argNames (zc st)).any own.contains=false ∧
  ∃b,qgb qhY ⟨(qZ st).names,qdc (zc st) (qZ st),own,G,true,true,false,GH,[],false⟩ fr (qal st)=some b∧fnn=⟨(argNames (zc st)).length,(qdc (zc st) (qZ st)).length,fr,b⟩:=by
 unfold cFn at h;dsimp only at h;split at h
 ·cases h
 ·rename_i hc
  simp only [Bool.or_eq_true,Bool.not_eq_true',not_or,Bool.not_eq_false,Bool.not_eq_true]at hc;simp only [Option.bind_eq_bind,Option.bind_eq_some_iff,Option.some.injEq]at h;obtain⟨b,h1,h2⟩:=h;exact⟨hc.1,hc.2,b,h1,h2.symm⟩
section
variable{P:Program}{w:World}{K:PySem.W.Frag}{mg:Str→Option Value}{base:Heap}{N:List Str}{qual:Str}{scope:Scope}{f:Addr}{cd:Value}{A:Around}{outer:List PySem.Env}{s₀:Shared}{H₀:Hp}{E:XK}
end
theorem GM0.gm{p:Pr}{g:Gc}{mg:Str→Option Value}{x:Str}{k:GK}{P:Program}{wl:World}{base:Heap}{A:Around}{calm:Bool}{n:Nat}(h:GM0 p g mg x k)(hf:∀fr,k≠.fn fr):GM (wAt p n) g P wl mg base A calm x k:=by
 cases k with
 |fn fr'=>exact absurd rfl (hf fr')
 |exc=>obtain⟨C,h1,h2,_⟩:=h;exact⟨C,h1,h2⟩
 |val=>exact h
 |bi b=>exact h
 |rng=>exact h
 |enum=>exact h
 |zip=>exact h
 |isi=>exact h
 |ty n b=>exact h
 |exk=>exact h
theorem qmi{w:W}{g:Gc}{c:Cc}{E:XK}{X:Cx}{N ps own:List Str}{sc:Scope}{fr:Bool}{body:List Stmt}{b:Ss}(hcN:c.N=N)(hco:c.own=own)(hcz:c.frz=false)(FS:qda N ps sc)(c2:ps.any own.contains=false)(c3:qgb qhY c fr body=some b)
  (O:XS w g c E X) {vs:List V}{ds:List D}{B:Sh}{H:Hp}{Q:VK} (hB:Sub B H) (rv:qq g (hid H B) ds vs) (hl:ds.length=ps.length)
  (h:tR g E H (match qe w b (ds.map some++List.replicate (N.length-ps.length) none)with
   | .nx _=>if fr then .no else .ok .non
   | .rt d=>.ok d
   | .ex c=>.ex c
   |_=>.no) (fun d=>∀v H',qf H H'→Rep g (hid H' B) d v→(fr=true→Fr g H B H' d v)→Q v H')) :
  ∃t,PSs X body t∧t {nx:=fun _ H'=>Q .non H',rt:=Q} (start N vs) H:=by
 have hNl:ps.length≤N.length:=by have:=congrArg List.length FS.pre;rw [List.length_take]at this;lia
 refine⟨_,qkX (by decide) O c3,H,B,ds.map some++List.replicate (N.length-ps.length) none,⟨fun _=>false,B.h,B.z,B.y⟩,?_,?_⟩
 ·-- at the start
  have hh:hid H ⟨fun _=>false,B.h,B.z,B.y⟩=hid H B:=rfl;have hvl:=rv.length;have par:∀i d,(ds.map some++List.replicate (N.length-ps.length) none)[i]? = some (some d)→i<ps.length∧ds[i]? = some d:=fun i d hi=>by
   by_cases hlt:i<ds.length
   ·rw [List.getElem?_append_left (by simpa using hlt),List.getElem?_map]at hi;refine⟨by lia,?_⟩;cases q:ds[i]? with
    |none=>rw [q]at hi;cases hi
    |some e=>rw [q]at hi;simpa using hi
   ·rw [List.getElem?_append_right (by simpa using hlt)]at hi;rw [List.getElem?_replicate]at hi;split at hi<;>cases hi
  have noOwn:∀i d,zl c i→(ds.map some++List.replicate (N.length-ps.length) none)[i]? = some (some d)→False:=fun i d ⟨y,h1,h2⟩ hi=>by
   obtain⟨hlt,_⟩:=par i d hi;rw [hcN]at h1;rw [hco]at h2;have:N.take ps.length=ps:=FS.pre;have hy:ps[i]? = some y:=by
    rw [←this,List.getElem?_take,if_pos hlt];exact h1
   have:=List.any_eq_false.mp c2 y (List.mem_of_getElem? hy);exact this h2
  refine⟨⟨by simp [L2.start];lia,fun i d hi=>?_,fun a ha=>?_⟩,by simp [hcN];lia,qf.refl _,hB,(fun a=>by simp),(fun a ha=>by cases ha),(fun i d ho hi=>(noOwn i d ho hi).elim),fun i j d e a ho _ hi _ _ _=>(noOwn i d ho hi).elim,fun z=>by rw [hcz]at z;cases z⟩
  ·obtain⟨hlt,hd⟩:=par i d hi;obtain⟨v,h1,h2⟩:=rv.get hd;have hlt':i<vs.length:=by lia
   refine⟨v,?_,.inl h2,fun _ _ _=>h2⟩;unfold L2.start;rw [List.getElem?_append_left (by simpa using hlt'),List.getElem?_map,h1]
   rfl
  ·refine hB a ?_;rcases ha with ha|ha
   ·exact .inl ha
   ·cases ha
 ·-- at the end
  cases q:qe w b (ds.map some++List.replicate (N.length-ps.length) none)with
  |nx τ'=>
   rw [q]at h;simp only at h;cases fr with
   |true=>exact h.elim
   |false=>exact fun σ' H' hs=>h .non H' hs .non (by intro z;cases z)
  |rt d=>rw [q]at h;exact h
  |ex z=>rw [q]at h;exact h
  |bk z=>rw [q]at h;exact h.elim
  |ct z=>rw [q]at h;exact h.elim
  |no=>rw [q]at h;exact h.elim
section
variable{p:Pr}{g:Gc}{G GH GU:List (Str×GK)}{mg:Str→Option Value}{P:Program}{wl:World}{base:Heap}
theorem Ground.ok(T:Ground p g G GH GU mg):∀(k:Nat) (x:Str) (f:Addr) (st:Stmt) (own:List Str) (fr:Bool) (fd:FuncData) (fnn:Fn),p.fns x=some fnn→cFn G GH own fr st=some fnn→Fun g.K x x st f fd →
  qdZ P wl g.K mg base (CX1 P wl) k f fd (argNames (zc st)) (spF (wAt p k) g x fr)
 | 0,x,f,st,own,fr,fd,fnn,_,_,_=>⟨fun vs H Q E ⟨S,ds,_,_,h⟩=>h.elim,fun A outer s H args us vs Q E _ _ _ _ ⟨S,ds,_,_,h⟩=>h.elim⟩
 |k+1,x,f,st,own,fr,fd,fnn,hf,hc,F=>by
  obtain⟨c1,c2,b,c3,rfl⟩:=qkY hc;have FS:=qmO c1;generalize hN:qdc (zc st) (qZ st)=N at *;generalize hps:argNames (zc st)=ps at *;have call:∀ds,qc p (k+1) x ds=zS (wAt p k) ⟨ps.length,N.length,fr,b⟩ ds:=fun ds=>by simp only [qc,hf]
  have lenOf:∀vs H Q E,spF (wAt p (k+1)) g x fr vs H Q E→vs.length=ps.length:=fun vs H Q E ⟨S,ds,_,r,h⟩=>by
   have h:tR g E H (qc p (k+1) x ds) _:=h;rw [call]at h;unfold zS at h;by_cases hl:ds.length=ps.length
   ·rw [←r.length];exact hl
   ·rw [if_neg hl]at h;exact h.elim
  refine F.ok1 FS lenOf fun cdv A outer s H vs Q E hr hsp=>?_
  obtain⟨B,ds,hB,rv,h⟩:=hsp;have h:tR g E H (qc p (k+1) x ds) (fun d=>∀v H',qf H H'→Rep g (hid H' B) d v→(fr=true→Fr g H B H' d v)→Q v H'):=h;rw [call]at h;unfold zS at h;by_cases hl:ds.length=ps.length
  ·rw [if_pos hl]at h
   -- the ground of the body
   have calls:∀y fy,g.fnA y=some fy→∃fry,G.lookup y=some (.fn fry)∧qfh (wAt p k) g P wl mg base (A.deeper (envOfC x (qZ st) s.heap.objs.size f cdv)) true y fy fry:=fun y fy hy=>by
    obtain⟨sty,owny,fry,fdy,fny,z1,z2,z3,z4,z5,z6,z7⟩:=T.fn y fy hy;exact⟨fry,z7,z6,z5,k,fdy,_,z4,.inl ⟨rfl,Ground.ok T k y fy sty owny fry fdy fny z1 z2 z3,hr⟩⟩
   have O:XS (wAt p k) g ⟨(qZ st).names,N,own,G,true,true,false,GH,[],false⟩ E (qdI (CX1 P wl) P wl g.K mg base N x (qZ st) f cdv A outer s H E):=by
    refine⟨⟨rfl,rfl,rfl,FS.nd,fun _=>rfl,hr.units,fun _ _=>rfl,FS.kind,qsY,fun y ky hy=>?_,fun _ y fy hy=>?_,T.sub⟩,(fun z=>by cases z),fun y C hy hC=>?_,T.cat,⟨rfl,rfl,rfl⟩,fun y ky hy=>?_⟩
    ·have:=T.gl y ky hy;by_cases hf:∃fr,ky=.fn fr
     ·obtain⟨fr',rfl⟩:=hf;obtain⟨fy,h1⟩:=this;obtain⟨fry,h2,h3⟩:=calls y fy h1;have hy:G.lookup y=some (.fn fr'):=hy;rw [hy]at h2;cases h2;exact⟨fy,h1,h3⟩
     ·exact this.gm fun fr z=>hf ⟨fr,z⟩
    ·obtain⟨fry,_,h3⟩:=calls y fy hy;exact⟨fry,h3⟩
    ·obtain⟨C',_,h2,h3⟩:=T.gl y .exc hy;rw [h2]at hC;cases hC;exact h3
    ·obtain⟨u1,u2,u3⟩:=T.gu y ky (T.gh y ky hy);exact⟨u2,fun v=>u3.gm u1⟩
   exact qmi rfl rfl rfl FS c2 c3 O hB rv hl h
  ·rw [if_neg hl]at h;exact h.elim
end
end EV
namespace WB
open PySem PySem.Spec PyProof.Rows L2
structure Dd(K:PySem.W.Frag)(n:Str)(st:Stmt)(f:Addr):Prop where
 a:PySem.W.nsIn K mainGlobals n=some (some (.ref f))
 l:∃oc od an sl kV dc pm cd ct,K.lookup f=some ⟨oc,od,.func (PySem.W.fnOf n n (zc st) (qal st) (qZ st) .none kV dc pm an cd ct),sl⟩∧PySem.W.codeIn K cd n=true
 k:PySem.W.keepIn K (.ref f)=true
theorem qk{K:PySem.W.Frag}{n:Str}{st:Stmt}{f:Addr}{od an:Option Addr}{sl:Array (Option Value)}{oc kV dc pm cd ct:Value}(a:PySem.W.nsIn K mainGlobals n=some (some (.ref f)))
  (l:K.lookup f=some ⟨oc,od,.func (PySem.W.fnOf n n (zc st) (qal st) (qZ st) .none kV dc pm an cd ct),sl⟩) (c:PySem.W.codeIn K cd n=true) (k:PySem.W.keepIn K (.ref f)=true):Dd K n st f:=
 ⟨a,⟨oc,od,an,sl,kV,dc,pm,cd,ct,l,c⟩,k⟩
theorem Dd.fn{K:PySem.W.Frag}{n:Str}{st:Stmt}{f:Addr}(d:Dd K n st f):∃fd,Fun K n n st f fd:=by
 obtain⟨oc,od,an,sl,kV,dc,pm,cd,ct,l,c⟩:=d.l;exact⟨_,qls (st:=st) l c d.k⟩
theorem qse{us:List Value}(h:us.length=1):∃a,us=[a]:=List.length_eq_one_iff.mp h
theorem qra{n:Nat}{us:List Value}(h:us.length=n+1):∃a r,us=a::r∧r.length=n:=by
 cases us with
 |nil=>cases h
 |cons a r=>exact⟨a,r,rfl,Nat.succ.inj h⟩
theorem qrB{us:List Value}(h:us.length=2):∃a b,us=[a,b]:=by
 obtain⟨a,r,e,h⟩:=qra h;obtain⟨b,q⟩:=qse h;subst q;exact⟨a,b,e⟩
theorem qtM{us:List Value}(h:us.length=3):∃a b c,us=[a,b,c]:=by
 obtain⟨a,r,e,h⟩:=qra h;obtain⟨b,c,q⟩:=qrB h;subst q;exact⟨a,b,c,e⟩
structure Dk(K:PySem.W.Frag)(n:Str)(D:Addr):Prop where
 a:PySem.W.nsIn K mainGlobals n=some (some (.ref D))
 c:∃x,PySem.W.clsIn K D=some x
 t:PySem.W.typeIn K (.ref D)=some (.type "type")
end WB
namespace EV
open PySem PySem.Spec PySem.P PyProof.Rows L2
structure Ent where
 x:Str
 st:Stmt
 own:List Str
 fr:Bool
 fn:Fn
noncomputable def prT(tab:List Ent)(vals:List (Str×D))(qbv:List (Str×Str))(subs:List ((Str×Cl)×Bool):=[]):Pr:=⟨fun x=>(tab.find? (·.x==x)).map (·.fn),fun x=>vals.lookup x,fun k c=>subs.lookup (k,c),fun k x=>qbv.contains (k,x)⟩
noncomputable def unx:GK→GK
 | .exc=>.exk
 |k=>k
noncomputable def qdy(oth:List (Str×GK)):List (Str×GK):=oth.map fun y=>(y.1,unx y.2)
noncomputable def qeE(us:List Ent)(oth:List (Str×GK)):List (Str×GK):=us.map (fun e=>(e.x,GK.fn e.fr))++qdy oth
theorem qiU{x:Str}{k:GK}:∀{oth:List (Str×GK)},(qdy oth).lookup x=some k→∃k0,oth.lookup x=some k0∧k=unx k0
 | [],h=>by cases h
 | (y,k1)::r,h=>by
  have h:List.lookup x ((y,unx k1)::qdy r)=some k:=h;rw [List.lookup_cons]at h;split at h
  ·rename_i q;cases h;exact⟨k1,by rw [List.lookup_cons,q],rfl⟩
  ·rename_i q
   obtain⟨k0,h1,h2⟩:=qiU h;exact⟨k0,by rw [List.lookup_cons,q];exact h1,h2⟩
theorem qiM{x:Str}{k:GK}{oth:List (Str×GK)}:∀{us:List Ent},(qeE us oth).lookup x=some k→(∃e∈us,e.x=x∧k=.fn e.fr)∨(qdy oth).lookup x=some k
 | [],h=>.inr h
 |a::r,h=>by
  have h:List.lookup x ((a.x,GK.fn a.fr)::qeE r oth)=some k:=h;rw [List.lookup_cons]at h;split at h
  ·rename_i q;cases h;exact .inl ⟨a,List.mem_cons_self,(eq_of_beq q).symm,rfl⟩
  ·rcases qiM h with ⟨e,h1,h2⟩|h1
   ·exact .inl ⟨e,List.mem_cons_of_mem _ h1,h2⟩
   ·exact .inr h1
noncomputable def qca(K:PySem.W.Frag)(ns:List Str)(x:Str):Option Addr:=if ns.contains x then (match PySem.W.nsIn K mainGlobals x with
 |some (some (.ref f))=>some f
 |_=>none)else none
noncomputable def gOf(K:PySem.W.Frag)(fns cls:List Str):Gc:=⟨K,qca K fns,qca K cls⟩
theorem qcI{K:PySem.W.Frag}{ns:List Str}{x:Str}{f:Addr}(h:PySem.W.nsIn K mainGlobals x=some (some (.ref f)))(hx:ns.contains x=true):qca K ns x=some f:=by
 unfold qca;rw [if_pos hx,h]
theorem qdA{K:PySem.W.Frag}{ns:List Str}{x:Str}{f:Addr}(h:qca K ns x=some f):ns.contains x=true∧PySem.W.nsIn K mainGlobals x=some (some (.ref f)):=by
 unfold qca at h;split at h
 ·rename_i hx
  split at h
  ·rename_i q;cases h;exact⟨hx,q⟩
  ·cases h
 ·cases h
noncomputable def Bnd(e:Ent):Prop:=∀(kV doc pm:Value) (an:Option Addr) (cdv ct:Value) (us:List Value),us.length=(argNames (zc e.st)).length→bindArgs (PySem.W.fnOf e.x e.x (zc e.st) (qal e.st) (qZ e.st) .none kV doc pm an cdv ct) ⟨us,[]⟩=pure ((argNames (zc e.st)).zip us)
structure qfa(K:PySem.W.Frag)(G:List (Str×GK))(e:Ent):Prop where
 dd:∃f,WB.Dd K e.x e.st f
 bnd:Bnd e
noncomputable def qqs(K:PySem.W.Frag)(vals:List (Str×D))(x:Str):GK→Prop
 | .fn _=>True
 | .val=>∃u v d,PySem.W.nsIn K mainGlobals x=some (some u)∧RelV v u∧vals.lookup x=some d∧∀g H,g.K=K→Rep g H d v
 | .bi b=>PySem.W.nsIn K mainGlobals x=some none∧x=b1N b∧∃id,b1V b=.builtin id
 | .rng=>PySem.W.nsIn K mainGlobals x=some none∧x = "range"
 | .enum=>PySem.W.nsIn K mainGlobals x=some none∧x = "enumerate"
 | .zip=>PySem.W.nsIn K mainGlobals x=some none∧x = "zip"
 | .isi=>PySem.W.nsIn K mainGlobals x=some none∧x = "isinstance"
 | .ty n b=>PySem.W.nsIn K mainGlobals x=some none∧bootBuiltins x=some (.type n)∧(n∈["int","bool","str","list","tuple"]∨n = "ValueError")∧∀b',b=some b'→x=b1N b'∧b1V b'=.type n
 | .exc=>∃C,PySem.W.nsIn K mainGlobals x=some (some (.ref C))∧PySem.W.excIn K C qem "ValueError.__new__" = true
 | .exk=>∃C,PySem.W.nsIn K mainGlobals x=some (some (.ref C))
noncomputable def qof(K:PySem.W.Frag)(cls:List Str)(y:(Str×Cl)×Bool):Prop:=∃C cv,cls.contains y.1.1=true∧PySem.W.nsIn K mainGlobals y.1.1=some (some (.ref C))∧qaL K C∧PySem.W.kitOne K (.ref C) cv=some y.2∧match y.1.2 with
 | .ty n=>n = "ValueError"∧cv=.type n
 | .ex x=>∃D,cls.contains x=true∧PySem.W.nsIn K mainGlobals x=some (some (.ref D))∧cv=.ref D
theorem qie{α β:Type} [BEq α] [LawfulBEq α]{a:α}{b:β}:∀{l:List (α×β)},l.lookup a=some b→(a,b)∈l
 | (c,d)::r,h=>by
  rw [List.lookup_cons]at h;split at h
  ·rename_i q;cases h;rw [eq_of_beq q];exact List.mem_cons_self
  ·exact List.mem_cons_of_mem _ (qie h)
theorem qhE{tab:List Ent}{e:Ent}(hn:(tab.map (·.x)).Nodup)(he:e∈tab):tab.find? (·.x==e.x)=some e:=by
 induction tab with
 |nil=>simp at he
 |cons a r ih=>
  simp only [List.map_cons,List.nodup_cons]at hn;rw [List.find?_cons];rcases List.mem_cons.mp he with rfl|h
  ·simp
  ·have:(a.x==e.x)=false:=by
    cases q:a.x==e.x with
    |false=>rfl
    |true=>
     have:=eq_of_beq q;exact absurd (this▸List.mem_map.mpr ⟨e,h,rfl⟩) hn.1
   rw [this];exact ih hn.2 h
theorem qlb{K:PySem.W.Frag}{h:Heap}{mg:Str→Option Value}(X:K.In h)(N:h.Ns mainGlobals mg){tab:List Ent}{oth G:List (Str×GK)}{vals:List (Str×D)}(hG:G=tab.map (fun e=>(e.x,GK.fn e.fr))++oth)
  (hnd:(tab.map (·.x)).Nodup) (ho:∀x k,oth.lookup x=some k→qqs K vals x k) (hof:∀x fr,oth.lookup x≠some (.fn fr)) {us:List Ent} (hus:∀e∈us,e∈tab) (hcu:∀e∈us,qrj (qdy oth) e.own e.fr e.st=some e.fn) (hc:∀e∈tab,cFn G (qeE us oth) e.own e.fr e.st=some e.fn) (he:∀e∈tab,qfa K G e) (cls:List Str) {qbv:List (Str×Str)} (hcat:∀y∈qbv,∃C D,PySem.W.nsIn K mainGlobals y.1=some (some (.ref C))∧PySem.W.nsIn K mainGlobals y.2=some (some (.ref D))∧PySem.W.exmOne K (.ref C) (.ref D)=some true) (hcl:∀x,(oth.lookup x=some .exc∨oth.lookup x=some .exk)→cls.contains x=true)
  {subs:List ((Str×Cl)×Bool)} (hsub:∀y∈subs,qof K cls y) :
  Ground (prT tab vals qbv subs) (gOf K (tab.map (·.x)) cls) G (qeE us oth) (qdy oth) mg:=by
 have lk:∀x k,G.lookup x=some k→(∃e∈tab,e.x=x∧k=.fn e.fr)∨oth.lookup x=some k:=by
  subst hG;clear hnd hc he hus
  induction tab with
  |nil=>intro x k hx;exact .inr hx
  |cons a r ih=>
   intro x k hx;simp only [List.map_cons,List.cons_append,List.lookup_cons]at hx;split at hx
   ·rename_i q;cases hx;exact .inl ⟨a,List.mem_cons_self,(eq_of_beq q).symm,rfl⟩
   ·rcases ih x k hx with ⟨e,h1,h2⟩|h1
    ·exact .inl ⟨e,List.mem_cons_of_mem _ h1,h2⟩
    ·exact .inr h1
 have lkE:∀e∈tab,G.lookup e.x=some (.fn e.fr):=by
  subst hG;clear hc he lk hus
  induction tab with
  |nil=>intro e h;simp at h
  |cons a r ih=>
   intro e hm;simp only [List.map_cons,List.nodup_cons]at hnd;simp only [List.map_cons,List.cons_append,List.lookup_cons];rcases List.mem_cons.mp hm with rfl|hm
   ·rw [beq_self_eq_true]
   ·have:(e.x==a.x)=false:=by
     cases q:e.x==a.x with
     |false=>rfl
     |true=>exact absurd ((eq_of_beq q)▸List.mem_map.mpr ⟨e,hm,rfl⟩) hnd.1
    rw [this];exact ih hnd.2 e hm
 have hca:∀k x,qbv.contains (k,x)=true→∀C D,qca K cls k=some C→qca K cls x=some D→PySem.W.exmOne K (.ref C) (.ref D)=some true:=fun k x z C D h1 h2=>by
  obtain⟨C',D',e1,e2,e3⟩:=hcat (k,x) (by simpa using z);have a1:=(qdA h1).2;have a2:=(qdA h2).2;rw [e1]at a1;rw [e2]at a2;cases a1;cases a2;exact e3
 have fnd:∀e∈tab,∃f fd,qca K (tab.map (·.x)) e.x=some f∧Fun K e.x e.x e.st f fd∧Binds K fd (argNames (zc e.st)) []∧PySem.W.keepIn K (.ref f)=true∧mg e.x=some (.ref f):=fun e hm=>by
  obtain⟨⟨f',d⟩,hb⟩:=he e hm;obtain⟨fd,F⟩:=d.fn;exact⟨f',fd,qcI d.a (by simpa using List.mem_map.mpr ⟨e,hm,rfl⟩),F,F.binds hb,d.k,PySem.W.mg_of X N d.a⟩
 have fne:∀e∈tab,(prT tab vals qbv subs).fns e.x=some e.fn:=fun e hm=>by show (tab.find? (·.x==e.x)).map (·.fn)=_;rw [qhE hnd hm];rfl
 have gl:∀x k,oth.lookup x=some k→GM0 (prT tab vals qbv subs) (gOf K (tab.map (·.x)) cls) mg x k:=fun x k hk=>by
  have:=ho x k hk;cases k with
  |fn fr=>exact absurd hk (hof x fr)
  |val=>obtain⟨u,v,d,h1,h2,h3,h4⟩:=this;exact⟨u,v,d,PySem.W.mg_of X N h1,h2,h3,fun H=>h4 _ H rfl⟩
  |bi b=>exact⟨PySem.W.mg_none_of X N this.1,this.2⟩
  |rng=>exact⟨PySem.W.mg_none_of X N this.1,this.2⟩
  |enum=>exact⟨PySem.W.mg_none_of X N this.1,this.2⟩
  |zip=>exact⟨PySem.W.mg_none_of X N this.1,this.2⟩
  |isi=>exact⟨PySem.W.mg_none_of X N this.1,this.2⟩
  |ty n b=>exact⟨PySem.W.mg_none_of X N this.1,this.2⟩
  |exc=>obtain⟨C,h1,h2⟩:=this;exact⟨C,PySem.W.mg_of X N h1,qcI h1 (hcl x (.inl hk)),h2⟩
  |exk=>obtain⟨C,h1⟩:=this;exact⟨C,PySem.W.mg_of X N h1,qcI h1 (hcl x (.inr hk))⟩
 refine⟨fun x f hf=>?_,fun x k hx=>?_,fun x k hx=>?_,fun x k hx=>?_,fun k cl b z=>?_,hca⟩
 ·obtain⟨h1,h2⟩:=qdA hf;obtain⟨e,hm,rfl⟩:=List.mem_map.mp (by simpa using h1:x∈tab.map (·.x));obtain⟨f',fd,z1,z2,z3,z4,z5⟩:=fnd e hm;have hf:qca K (tab.map (·.x)) e.x=some f:=hf;rw [hf]at z1;cases z1;exact⟨e.st,e.own,e.fr,fd,e.fn,fne e hm,hc e hm,z2,z3,z4,z5,lkE e hm⟩
 ·rcases lk x k hx with ⟨e,hm,rfl,rfl⟩|hk
  ·obtain⟨f',fd,z1,_⟩:=fnd e hm;exact⟨f',z1⟩
  ·exact gl x k hk
 ·obtain⟨k0,h1,rfl⟩:=qiU hx;have:=gl x k0 h1;cases k0 with
  |fn fr=>exact absurd h1 (hof x fr)
  |exc=>obtain⟨C,z1,z2,_⟩:=this;exact⟨by simp [unx],by simp [unx],⟨C,z1,z2⟩⟩
  |_=>exact⟨by simp [unx],by simp [unx],this⟩
 ·rcases qiM hx with ⟨e,hm,rfl,rfl⟩|hk
  ·have:=hcu e hm;cases this
  ·exact hk
 ·have z:subs.lookup (k,cl)=some b:=z;obtain⟨C,cv,h0,h1,h2,h3,h4⟩:=hsub _ (qie z);refine⟨C,cv,qcI h1 h0,h2,h3,?_⟩;cases cl with
  |ty n=>exact h4
  |ex x=>obtain⟨D,d0,d1,d2⟩:=h4;exact⟨D,qcI d1 d0,d2⟩
theorem qsW{l:PySem.W.OpenLaw}{q:Program}{loose:List Str}{XP:(Str→Option Value)→Heap→Prop}{YP:World→Heap→Prop}{d:DefRec}{K:Params→PySem.W.Frag}{tab:List Ent}{G:List (Str×GK)}{vals:List (Str×D)}{cls:List Str}{qbv:List (Str×Str)}{subs:List ((Str×Cl)×Bool)}{GH GU:List (Str×GK)}{e:Ent}{k:Nat}
  (hn:l.most=some 63) (hdf:d.params.defaults=[]) (hd:d.name=e.x) (hr:qbB k callerA) (hY:∀(w:World) (h:Heap),YP w h→(K w.params).In h) (hm:e∈tab) (hnd:(tab.map (·.x)).Nodup) (hx:e.x = "law") (hfr:e.fr=false) (hp:argNames (zc e.st)=[("_law_script" : Str)])
  (hG:∀(w:World) (mg:Str→Option Value) (h:Heap),(K w.params).In h→h.Ns mainGlobals mg→Ground (prT tab vals qbv subs) (gOf (K w.params) (tab.map (·.x)) cls) G GH GU mg∧qfa (K w.params) G e) (hc:cFn G GH e.own e.fr e.st=some e.fn)
  (hlaw:∀ns:List Int,ns.length≤63→qc (prT tab vals qbv subs) k "law" [.lst (ns.map D.int)]=.ok (.bl true)) :
  PySem.W.WalkO q loose XP YP l.row.toRowW d [] (fun f vs=>PySem.call f vs):=by
 refine L2.qoo (n:=63) (k:=k) (x:="_law_script") (CX:=fun w=>CX1 l.prog w) (sp:=fun w=>spF (wAt (prT tab vals qbv subs) k) (gOf (K w.params) (tab.map (·.x)) cls) "law" false) hn (by decide) hdf hr hY (fun w mg fa h KX N hfa=>?_) (fun w H a ns hl _ hS=>?_) fun w H s e s' z=>?_
 ·obtain⟨T,⟨f,dd⟩,hb⟩:=hG w mg h KX N;have e1:=hfa.symm.trans (hd▸PySem.W.mg_of KX N dd.a);cases e1;obtain⟨oc,od,an,sl,kV,dc,pm,cd,ct,lk,hcd⟩:=dd.l;refine⟨PySem.W.fnOf e.x e.x (zc e.st) (qal e.st) (qZ e.st) .none kV dc pm an cd ct,fun s u=>.of_eq ?_,fun base _ _=>?_⟩
  ·have:=hb kV dc pm an cd ct [u] (by rw [hp];rfl);rw [hp]at this;exact this
  ·have:=T.ok (P:=l.prog) (wl:=w) (base:=base) k e.x fa e.st e.own e.fr _ e.fn (by show (tab.find? (·.x==e.x)).map (·.fn)=_;rw [qhE hnd hm];rfl) hc (qls (st:=e.st) lk hcd dd.k);rw [hp,hx,hfr]at this;rw [hx];exact this
 ·refine⟨⟨fun _=>false,fun _=>false,[],fun _=>none⟩,[.lst (ns.map D.int)],(fun a z=>by rcases z with z|z<;>cases z),.cons (.lst (xs:=ns.map V.int) ?_ (qq.ofInts _)) .nil,?_⟩
  ·have:hid H ⟨fun _=>false,fun _=>false,[],fun _=>none⟩=H:=by funext b;unfold hid;rw [if_neg (by simp)]
   rw [this];exact hS
  ·show tR _ _ _ (qc (prT tab vals qbv subs) k "law" [.lst (ns.map D.int)]) _;rw [hlaw ns hl];intro v H' _ r _;cases r;rfl
 ·obtain⟨_,_,_,_,_,_,_,_,_,z⟩:=z;exact z
end EV
namespace KG
open EV
open PySem (Str)
open L2 (atI ixN ltP)
abbrev prD:Int×Int→D:=EV.pairD
theorem ql{w:W}{f:Fn}{ds:List D}{d:D}{τ:Env}(hl:ds.length=f.ps)(hτ:ds.map some++List.replicate (f.N-f.ps) none=τ)(h:qe w f.body τ=.rt d):zS w f ds=.ok d:=by
 rw [zS,if_pos hl,hτ,h]
theorem zh{w:W}{s:S}{r:Ss}{τ σ:Env}{o:O}(h:evS w s τ=.nx σ)(h':qe w r σ=o):qe w (.cons s r) τ=o:=by rw [qe,h];exact h'
theorem qbf{w:W}{it:It}{cap:List (Option Nat)}{t:T}{elt:E}{τ c:Env}{ds:List D}{g:D→List D}(h:evI w it τ=.ok ds)(hz:ds.length≤SZ)(hc:qaT cap τ=none::none::c)
  (hb:∀x∈ds,((evT w t (none::some x::c)).bind fun r=>if r then (evE w elt (none::some x::c)).bind fun d=>.ok [d]else .ok [])=.ok (g x)):evE w (.comp it cap (.nm 1) t elt) τ=.ok (.lst (ds.flatMap g)):=by
 have key:∀(l:List D) (v:Option D) (acc:List D),(∀x∈l,x∈ds)→zJ (fun x σ=>noEx ((store (.nm 1) x σ).bind fun σ'=>(evT w t σ').bind fun r=>if r then (evE w elt σ').bind fun d=>.ok (σ',[d])else .ok (σ',[]))) l (none::v::c) acc=.ok (acc++l.flatMap g):=by
  intro l
  induction l with
  |nil=>intro v acc _;simp [zJ]
  |cons x r ih=>
   intro v acc hm;have q:=hb x (hm x List.mem_cons_self);rw [zJ];have e:noEx ((store (.nm 1) x (none::v::c)).bind fun σ'=>(evT w t σ').bind fun r=>if r then (evE w elt σ').bind fun d=>.ok (σ',[d])else .ok (σ',[]))=.ok (none::some x::c,g x):=by
    simp only [store,R.bind_ok,List.set_cons_succ,List.set_cons_zero];cases ht:evT w t (none::some x::c)with
    |ok b=>
     rw [ht]at q;simp only [R.bind_ok]at q ⊢;cases b
     ·simp at q ⊢;rw [←q];rfl
     ·simp only [if_true]at q ⊢;cases he:evE w elt (none::some x::c)with
      |ok d=>rw [he]at q;simp only [R.bind_ok,R.ok.injEq]at q ⊢;rw [←q];rfl
      |ex=>rw [he]at q;cases q
      |no=>rw [he]at q;cases q
    |ex=>rw [ht]at q;cases q
    |no=>rw [ht]at q;cases q
   rw [e];simp only [R.bind_ok];rw [ih (some x) _ fun y hy=>hm y (List.mem_cons_of_mem _ hy),List.flatMap_cons,List.append_assoc]
 rw [qA,h];simp only [R.bind_ok];rw [if_neg (by lia),hc,key ds none [] fun _ h=>h]
 rfl
theorem qnW{w:W}{it:It}{cap:List (Option Nat)}{t:T}{elt:E}{τ c:Env}{ds:List D}{g:D→List D}(h:evI w it τ=.ok ds)(hz:ds.length≤SZ)(hc:qaT cap τ=none::none::none::c)
  (hb:∀x∈ds,∃a b,x=.tup [a,b]∧((evT w t (none::some a::some b::c)).bind fun r=>if r then (evE w elt (none::some a::some b::c)).bind fun d=>.ok [d]else .ok [])=.ok (g x)):evE w (.comp it cap (.tp [1,2]) t elt) τ=.ok (.lst (ds.flatMap g)):=by
 have key:∀(l:List D) (v u:Option D) (acc:List D),(∀x∈l,x∈ds)→zJ (fun x σ=>noEx ((store (.tp [1,2]) x σ).bind fun σ'=>(evT w t σ').bind fun r=>if r then (evE w elt σ').bind fun d=>.ok (σ',[d])else .ok (σ',[]))) l (none::v::u::c) acc=.ok (acc++l.flatMap g):=by
  intro l
  induction l with
  |nil=>intro v u acc _;simp [zJ]
  |cons x r ih=>
   intro v u acc hm;obtain⟨a,b,rfl,q⟩:=hb x (hm x List.mem_cons_self);rw [zJ];have e:noEx ((store (.tp [1,2]) (.tup [a,b]) (none::v::u::c)).bind fun σ'=>(evT w t σ').bind fun r=>if r then (evE w elt σ').bind fun d=>.ok (σ',[d])else .ok (σ',[]))=.ok (none::some a::some b::c,g (.tup [a,b])):=by
    simp only [store,setAll,List.length_cons,List.length_nil,if_true,R.bind_ok,List.set_cons_succ,List.set_cons_zero];cases ht:evT w t (none::some a::some b::c)with
    |ok b'=>
     rw [ht]at q;simp only [R.bind_ok]at q ⊢;cases b'
     ·simp at q ⊢;rw [q];rfl
     ·simp only [if_true]at q ⊢;cases he:evE w elt (none::some a::some b::c)with
      |ok d=>rw [he]at q;simp only [R.bind_ok,R.ok.injEq]at q ⊢;rw [←q];rfl
      |ex=>rw [he]at q;cases q
      |no=>rw [he]at q;cases q
    |ex=>rw [ht]at q;cases q
    |no=>rw [ht]at q;cases q
   rw [e];simp only [R.bind_ok];rw [ih (some a) (some b) _ fun y hy=>hm y (List.mem_cons_of_mem _ hy),List.flatMap_cons,List.append_assoc]
 rw [qA,h];simp only [R.bind_ok];rw [if_neg (by lia),hc,key ds none none [] fun _ h=>h]
 rfl
theorem qkb{w:W}{i:Int}:qbA w (.int i) (.ty "int")=.ok (.bl true):=rfl
theorem qkN{w:W}{i:Int}:qbA w (.int i) (.ty "bool")=.ok (.bl false):=rfl
theorem qjr{w:W}{i:List D}:qbA w (.tup i) (.ty "tuple")=.ok (.bl true):=rfl
theorem qmR{w:W}{i:List D}:qbA w (.tup i) (.ty "bool")=.ok (.bl false)∧qbA w (.tup i) (.ty "int")=.ok (.bl false)∧qbA w (.tup i) (.ty "str")=.ok (.bl false)∧qbA w (.tup i) (.ty "list")=.ok (.bl false):=⟨rfl,rfl,rfl,rfl⟩
theorem qnp{w:W}{i:Bool}:qbA w (.bl i) (.ty "bool")=.ok (.bl true):=rfl
theorem qmX(i:Int):(D.int i).asks=true:=rfl
theorem qoC(t:Int×Int):(prD t).asks=true:=rfl
theorem qfe:∀ns:List Int,plainAll (ns.map D.int)=true
 | []=>rfl
 |_::r=>qfe r
theorem qgs:∀ns:List Int,qbk (ns.map D.int)=0
 | []=>rfl
 |_::r=>by show max 0 (qbk _)=0;rw [qgs r];rfl
theorem qbn(ns:List Int):(D.tup (ns.map D.int)).asks=true:=by
 simp [D.asks,D.plain,D.deep,qfe,qgs]
theorem qeI:∀ns ms:List Int,eqvAll (ns.map D.int) (ms.map D.int)=decide (ns=ms)
 | [],[]=>rfl
 | [],_::_=>rfl
 |_::_,[]=>rfl
 |a::r,b::t=>by
  show (a==b&&eqvAll (r.map D.int) (t.map D.int))=_;rw [qeI r t];simp [Bool.decide_and]
  rfl
noncomputable def mn(a b:Int):Int:=if b<a then b else a
noncomputable def mx(a b:Int):Int:=if a<b then b else a
noncomputable def qaD(ts:List (Int×Int))(a b:Int):Bool:=ts.any fun t=>t.1==mn a b&&t.2==mx a b
theorem qrx(ts:List (Int×Int))(u v:Int):qg .isin (.tup [.int u,.int v]) (.tup (ts.map prD))=.ok (ts.any fun t=>t.1==u&&t.2==v):=by
 rw [qg];simp only [seq?];rw [if_pos (by simp only [Bool.and_eq_true,List.all_eq_true,List.mem_map];exact⟨rfl,fun x ⟨t,_,e⟩=>e▸qoC t⟩),inD,List.any_map]
 congr 2;funext t;show ((t.1==u)&&((t.2==v)&&true))=_;rw [Bool.and_true]
theorem qjl(ns:List Int)(a:Int):qg .isin (.int a) (.tup (ns.map D.int))=.ok (ns.any fun t=>t==a):=by
 rw [qg];simp only [seq?];rw [if_pos (by simp only [Bool.and_eq_true,List.all_eq_true,List.mem_map];exact⟨rfl,fun x ⟨t,_,e⟩=>e▸qmX t⟩),inD,List.any_map]
 rfl
theorem qgg(ns ms:List Int):qg .eq (.tup (ns.map D.int)) (.tup (ms.map D.int))=.ok (decide (ns=ms)):=by
 rw [qg]
 ·rw [if_pos (by simp only [Bool.and_eq_true];exact⟨qbn _,qbn _⟩)];show R.ok (eqvAll _ _)=_;rw [qeI]
 all_goals (intros;rintro⟨⟩)
structure GW(m:Int)(ts:List (Int×Int)):Prop where
 lo:1≤m
 hi:m≤8
 lt:ts.Pairwise fun s t=>ltP s t=true
 ok:∀t∈ts,0≤t.1∧t.1<t.2∧t.2<m
 len:ts.length≤28
structure GS(m:Int)(s:List Int):Prop where
 lt:s.Pairwise (· < ·)
 ok:∀i∈s,0≤i∧i<m
 len:s.length≤8
abbrev wb(m:Int)(ts:List (Int×Int)):D:=.tup [.int m,.tup (ts.map prD)]
abbrev tu(s:List Int):D:=.tup (s.map D.int)
theorem qdP{xs:List D}{i:Nat}(h:i<xs.length):atI xs (i:Int)=some xs[i]:=by
 rw [atI,ixN,if_pos (by lia),if_pos (by lia)];simp [h]
theorem all_true(xs:List D):bools? (xs.flatMap fun _=>[.bl true])=some (List.replicate xs.length true):=by
 induction xs with
 |nil=>rfl
 |cons x r ih=>show (bools? (r.flatMap fun _=>[.bl true])).map (true :: ·)=_;rw [ih];rfl
theorem qoI(n:Nat):(List.replicate n true).all id=true:=by simp
theorem qsk{s t:Int×Int}(h:ltP s t=true):qg .lt (prD s) (prD t)=.ok true:=by
 show R.ok (qbp [s.1,s.2] [t.1,t.2])=_;rw [ltP]at h;simp only [qbp];by_cases e:s.1=t.1
 ·rw [if_pos e]at h ⊢;by_cases e2:s.2=t.2
  ·rw [e2]at h;simp at h
  ·rw [if_neg e2,h]
 ·rw [if_neg e]at h ⊢;rw [h]
noncomputable def rng(m:Int):List Int:=(List.range m.toNat).map fun(i:Nat)=>(i:Int)
theorem zq(m:Int):qS 0 m.toNat=(rng m).map D.int:=by
 rw [qS,rng,List.map_map];simp
theorem zb(m:Int):(rng m).length=m.toNat:=by simp [rng]
theorem qcy{m i:Int}:i∈rng m↔0≤i∧i<m:=by
 simp only [rng,List.mem_map,List.mem_range];constructor
 ·rintro⟨a,h,rfl⟩;lia
 ·intro h;exact⟨i.toNat,by lia,by lia⟩
theorem qaZ(m:Int):(rng m).Pairwise (· < ·):=by
 rw [rng,List.pairwise_map];exact List.pairwise_lt_range.imp fun h=>by lia
theorem qcV(c:Int→Bool)(ns:List Int):(ns.map D.int).flatMap (fun x=>match x with | .int i=>if c i then [D.int i]else []|_=>[])=(ns.filter c).map D.int:=by
 induction ns with
 |nil=>rfl
 |cons a r ih=>
  rw [List.map_cons,List.flatMap_cons,ih,List.filter_cons];show (if c a=true then [D.int a]else [])++_=_;cases c a<;>rfl
theorem qlN(x y:Int)(h:0<y)(h':y≤2^64):small (x%y)=true:=by
 have a:=Int.emod_nonneg x (show y≠0 by lia);have b:=Int.emod_lt_of_pos x h;simp only [small,Bool.and_eq_true,decide_eq_true_eq];lia
noncomputable def st(c j:Int):Int:=
 ((((c%2147483647+977 * j+1) * 48271%2147483647) * ((c%2147483647+977 * j+1) * 48271%2147483647)%2147483629+40692 * (j+3)) * 69621%2147483647)/8
theorem GW.sub{m:Int}{ts ps:List (Int×Int)}(h:GW m ps)(s:ts.Sublist ps):GW m ts:=
 ⟨h.lo,h.hi,h.lt.sublist s,fun t ht=>h.ok t (s.subset ht),Nat.le_trans s.length_le h.len⟩
theorem eq_int(a b:Int):qg .eq (.int a) (.int b)=.ok (decide (a=b)):=by
 show R.ok (a==b)=_;congr 1
theorem lt_int(a b:Int):qg .lt (.int a) (.int b)=.ok (decide (a<b)):=rfl
theorem ints_map(ns:List Int):ints? (ns.map D.int)=some ns:=by
 induction ns with
 |nil=>rfl
 |cons a r ih=>show (ints? (r.map D.int)).map (a :: ·)=_;rw [ih];rfl
theorem qii{f:Int→D}(ns:List Int):(ns.map D.int).flatMap (fun x=>match x with | .int i=>[f i]|_=>[])=ns.map f:=by
 induction ns with
 |nil=>rfl
 |cons a r ih=>rw [List.map_cons,List.flatMap_cons,ih];rfl
noncomputable instance (m:Int) (ts:List (Int×Int)):Decidable (GW m ts):=
 decidable_of_iff (1≤m∧m≤8∧ts.Pairwise (fun s t=>ltP s t=true)∧(∀t∈ts,0≤t.1∧t.1<t.2∧t.2<m)∧ts.length≤28) ⟨fun⟨a,b,c,d,e⟩=>⟨a,b,c,d,e⟩,fun⟨a,b,c,d,e⟩=>⟨a,b,c,d,e⟩⟩
noncomputable def Ends(J:Env→Prop)(Q:D→Prop):O→Prop
 | .nx σ=>J σ
 | .rt d=>Q d
 |_=>False
section
variable{w:W}{J K:Env→Prop}{Q:D→Prop}{s:S}{r:Ss}{τ σ:Env}
theorem zy(h:J τ):Ends J Q (qe w .nil τ):=by rw [qe];exact h
theorem qQ(h:evS w s τ=.nx σ)(h':Ends J Q (qe w r σ)):Ends J Q (qe w (.cons s r) τ):=by rw [qe,h];exact h'
theorem qay(h:Ends K Q (evS w s τ))(h':∀σ,K σ→Ends J Q (qe w r σ)):Ends J Q (qe w (.cons s r) τ):=by
 rw [qe];cases q:evS w s τ with
 |nx σ=>rw [q]at h;exact h' σ h
 |rt d=>rw [q]at h;exact h
 |_=>rw [q]at h;exact h.elim
theorem qeq{e:E}{d:D}(h:evE w e τ=.ok d)(hq:Q d):Ends J Q (qe w (.cons (.ret e) r) τ):=by
 rw [qe,zt,h];exact hq
theorem qeW{t:T}{a b:Ss}{v:Bool}(h:evT w t τ=.ok v)(h1:v=true→Ends J Q (qe w a τ))(h2:v=false→Ends J Q (qe w b τ)):Ends J Q (evS w (.ite t a b) τ):=by
 rw [zU,h];cases v
 ·exact h2 rfl
 ·exact h1 rfl
theorem qbx{tg:Tg}{it:It}{b:Ss}{ds:List D}(I:List D→Env→Prop)(h:evI w it τ=.ok ds)(h0:I ds τ)(hs:∀x t σ,I (x::t) σ→∃σ1,store tg x σ=.ok σ1∧Ends (I t) Q (qe w b σ1))(hn:∀σ,I [] σ→Ends J Q (qe w r σ)):Ends J Q (qe w (.cons (.for tg it b) r) τ):=by
 have key:∀(l:List D) (σ:Env),I l σ→Ends (I []) Q (qbd tg (fun σ=>qe w b σ) l σ):=by
  intro l
  induction l with
  |nil=>intro σ q;exact q
  |cons x t ih=>
   intro σ q;obtain⟨σ1,a,b'⟩:=hs x t σ q;rw [qbd,a];simp only [R.out_ok];cases z:qe w b σ1 with
   |nx σ2=>rw [z]at b';exact ih σ2 b'
   |rt d=>rw [z]at b';exact b'
   |_=>rw [z]at b';exact b'.elim
 have hk:=key ds τ h0;refine qay (K:=I []) ?_ hn;rw [qaE,h];simp only [R.out_ok];cases z:qbd tg (fun σ=>qe w b σ) ds τ with
 |nx σ2=>rw [z]at hk;exact hk
 |rt d=>rw [z]at hk;exact hk
 |_=>rw [z]at hk;exact hk.elim
end
theorem qqJ{J J':Env→Prop}{Q:D→Prop}{o:O}(h:Ends J Q o)(hj:∀σ,J σ→J' σ):Ends J' Q o:=by
 cases o with
 |nx σ=>exact hj σ h
 |rt d=>exact h
 |_=>exact h.elim
noncomputable def qgh(m:Int):List Int:=(List.range (m-1).toNat).map fun(i:Nat)=>1+(i:Int)
noncomputable def qna(b:Int):List (Int×Int):=(rng b).map fun a=>(a,b)
noncomputable def qdV(m:Int):List (Int×Int):=(qgh m).flatMap qna
structure Pok(n:Int):Prop where
 nd:(qdV n).Nodup
 ok:∀t∈qdV n,0≤t.1∧t.1<t.2∧t.2<n
 len:(qdV n).length≤28
theorem pok(n:Int)(h1:1≤n)(h2:n≤8):Pok n:=by
 have:n=1∨n=2∨n=3∨n=4∨n=5∨n=6∨n=7∨n=8:=by lia
 rcases this with rfl|rfl|rfl|rfl|rfl|rfl|rfl|rfl<;>exact⟨by decide +kernel,by decide +kernel,by decide +kernel⟩
theorem qmb{s t:Int×Int}(h:ltP t s=false)(hn:s≠t):ltP s t=true:=by
 simp only [ltP]at h ⊢;by_cases e:s.1=t.1
 ·rw [if_pos e.symm]at h;rw [if_pos e];have:s.2≠t.2:=fun z=>hn (Prod.ext e z)
  simp at h ⊢;lia
 ·rw [if_neg (fun z=>e z.symm)]at h;rw [if_neg e];simp at h ⊢;lia
theorem qgH{l:List (Int×Int)}(h:l.Pairwise fun a b=>ltP b a=false)(hn:l.Nodup):l.Pairwise fun s t=>ltP s t=true:=
 List.Pairwise.imp₂ (fun a b h1 h2=>qmb h1 h2) h hn
theorem qow{n:Int}(h1:1≤n)(h2:n≤8){ts:List (Int×Int)}(s:ts.Sublist (qdV n)):GW n (zp ts):=by
 have P:=pok n h1 h2;have pm:=zZ ts;exact⟨by lia,by lia,qgH (qcl ts) (pm.nodup_iff.mpr (P.nd.sublist s)),fun t ht=>P.ok t (s.subset (pm.mem_iff.mp ht)),by rw [pm.length_eq];exact Nat.le_trans s.length_le P.len⟩
theorem qjn:∀ts:List (Int×Int),pairs? (ts.map prD)=some ts
 | []=>rfl
 |t::r=>by show (pairs? (r.map prD)).map (t :: ·)=_;rw [qjn r];rfl
theorem qfv(xs:List D):b1 .sorted [.lst xs]=(if xs.length<64 then (match pairs? xs with
   |some ps=>.ok (.lst ((zp ps).map pairD))
   |none=>qcc xs)else qcc xs):=rfl
theorem qfd(ts:List (Int×Int))(h:ts.length<64):b1 .sorted [.lst (ts.map prD)]=.ok (.lst ((zp ts).map prD)):=by
 rw [qfv,if_pos (by simpa using h),qjn]
noncomputable def hd(m:Int)(ts:List (Int×Int))(a:Int):List Int:=(rng m).filter fun b=>b==a||qaD ts a b
noncomputable def mk(m:Int)(ts:List (Int×Int))(s:List Int)(a:Int):List Int:=s.filter fun x=>(hd m ts a).any fun t=>t==x
end KG
noncomputable def KG.Z:=And.intro @EV.qe.eq_1 (And.intro @EV.qe.eq_2 (And.intro @EV.zH (And.intro @EV.qaJ (And.intro @EV.qaI (And.intro @EV.zt (And.intro @EV.qaG (And.intro @EV.zU (And.intro @EV.zR (And.intro @EV.qw (And.intro @EV.ze (And.intro @EV.zd (And.intro @EV.zi (And.intro @EV.zj (And.intro @EV.qV (And.intro @EV.zg (And.intro @EV.qI (And.intro @EV.qG (And.intro @EV.qO (And.intro @EV.qP (And.intro @EV.qL (And.intro @EV.qF (And.intro @EV.qM (And.intro @EV.qy (And.intro @EV.qN (And.intro @EV.qz (And.intro @EV.qo (And.intro @EV.qJ (And.intro @EV.qH (And.intro @EV.qC.eq_1 (And.intro @EV.qC.eq_2 (And.intro @EV.qdu (And.intro @EV.qce (And.intro @EV.qcN (And.intro @EV.qdB (And.intro @EV.qdC (And.intro @EV.qdz (And.intro @EV.qdD (And.intro @EV.evI.eq_1 (And.intro @EV.evI.eq_2 (And.intro @EV.evI.eq_3 (And.intro @EV.evI.eq_4 (And.intro @EV.evI.eq_5 (And.intro @EV.evO.eq_1 (And.intro @EV.evO.eq_2 (And.intro @EV.opI.eq_1 (And.intro @EV.opI.eq_2 (And.intro @EV.opI.eq_3 (And.intro @EV.opI.eq_4 (And.intro @EV.opI.eq_5 (And.intro @EV.opI.eq_6 (And.intro @EV.opI.eq_7 (And.intro @EV.opI.eq_8 (And.intro @EV.opI.eq_9 (And.intro @EV.opI.eq_10 (And.intro @EV.opI.eq_11 (And.intro @EV.b11.eq_1 (And.intro @EV.b11.eq_2 (And.intro @EV.b11.eq_3 (And.intro @EV.b11.eq_4 (And.intro @EV.b11.eq_5 (And.intro @EV.b11.eq_6 (And.intro @EV.b11.eq_7 (And.intro @EV.b11.eq_8 (And.intro @EV.b11.eq_9 (And.intro @EV.b11.eq_10 (And.intro @EV.b11.eq_11 (And.intro @EV.b11.eq_12 (And.intro @EV.b12.eq_1 (And.intro @EV.b12.eq_2 (And.intro @EV.b12.eq_3 (And.intro @EV.qai.eq_1 (And.intro @EV.qai.eq_2 (And.intro @EV.qab.eq_1 (And.intro @EV.qab.eq_2 (And.intro @EV.iiR.eq_1 (And.intro @EV.iiR.eq_2 (And.intro @EV.zE.eq_1 (And.intro @EV.store.eq_1 (And.intro @EV.store.eq_2 (And.intro @EV.store.eq_3 (And.intro @EV.setAll.eq_1 (And.intro @EV.setAll.eq_2 (And.intro @EV.setAll.eq_3 (And.intro @EV.truth.eq_1 (And.intro @EV.truth.eq_2 (And.intro @EV.truth.eq_3 (And.intro @EV.truth.eq_4 (And.intro @EV.truth.eq_5 (And.intro @EV.truth.eq_6 (And.intro @KG.qkb (And.intro @KG.qkN (And.intro @KG.qjr (And.intro @KG.qmR (@KG.qnp))))))))))))))))))))))))))))))))))))))))))))))))))))))))))))))))))))))))))))))))))))))))))))))
namespace KG
open EV
open PySem (Str)
open L2 (atI ixN ltP)
noncomputable def qcr:Fn:=⟨1,1,false,(.cons (.ret (.and (.isi (.var 0) (.ty "int")) (.not (.isi (.var 0) (.ty "bool"))))) .nil)⟩
noncomputable def qaO:Fn:=⟨3,3,false,(.cons (.ret (.and (.call "is_whole" (.cons (.var 0) .nil)) (.cmp2 .le .le (.var 1) (.var 0) (.var 2)))) .nil)⟩
noncomputable def qch:Fn:=⟨1,1,false,(.cons (.ret (.and (.isi (.var 0) (.ty "tuple")) (.cmp .eq (.bi .len (.cons (.var 0) .nil)) (.con (.int 2))))) .nil)⟩
noncomputable def qdl:Fn:=⟨1,1,false,(.cons (.ret (.bi .all (.cons (.comp (.rng (.op .sub (.bi .len (.cons (.var 0) .nil)) (.con (.int 1)))) [none,none,some 0] (.nm 1) .yes (.cmp .lt (.ix (.var 2) (.var 1)) (.ix (.var 2) (.op .add (.var 1) (.con (.int 1)))))) .nil))) .nil)⟩
noncomputable def qcE:Fn:=⟨1,3,false,(.cons (.ite (.not (.val (.call "is_pair" (.cons (.var 0) .nil)))) (.cons (.ret (.con (.bl false))) .nil) .nil) (.cons (.set (.tp [1,2]) (.var 0)) (.cons (.ite (.or (.not (.val (.call "is_between" (.cons (.var 1) (.cons (.con (.int 1)) (.cons (.glb "MOST") .nil)))))) (.not (.val (.isi (.var 2) (.ty "tuple"))))) (.cons (.ret (.con (.bl false))) .nil) .nil) (.cons (.ret (.and (.bi .all (.cons (.comp (.seq (.var 2)) [none,none,some 1] (.nm 1) .yes (.call "is_tie" (.cons (.var 1) (.cons (.var 2) .nil)))) .nil)) (.call "rises" (.cons (.var 2) .nil)))) .nil))))⟩
noncomputable def qcK:Fn:=⟨2,4,false,(.cons (.ite (.not (.val (.call "is_pair" (.cons (.var 0) .nil)))) (.cons (.ret (.con (.bl false))) .nil) .nil) (.cons (.set (.tp [2,3]) (.var 0)) (.cons (.ret (.and (.call "is_whole" (.cons (.var 2) .nil)) (.and (.call "is_whole" (.cons (.var 3) .nil)) (.cmp3 .le .lt .lt (.con (.int 0)) (.var 2) (.var 3) (.var 1))))) .nil)))⟩
noncomputable def qby:Fn:=⟨1,1,false,(.cons (.ite (.not (.val (.call "is_web" (.cons (.var 0) .nil)))) (.cons .unk .nil) .nil) .nil)⟩
noncomputable def qcw:Fn:=⟨1,1,false,(.cons (.exp (.call "need_web" (.cons (.var 0) .nil))) (.cons (.ret (.bi .tuple (.cons (.comp (.rng (.ix (.var 0) (.con (.int 0)))) [none,none,some 0] (.nm 1) .yes (.call "hood_of" (.cons (.var 2) (.cons (.var 1) .nil)))) .nil))) .nil))⟩
noncomputable def qbl:Fn:=⟨2,4,false,(.cons (.set (.tp [2,3]) (.var 0)) (.cons (.ret (.bi .tuple (.cons (.comp (.rng (.var 2)) [none,none,some 1,some 3] (.nm 1) (.or (.cmp .eq (.var 1) (.var 2)) (.val (.call "are_tied" (.cons (.var 3) (.cons (.var 2) (.cons (.var 1) .nil)))))) (.var 1)) .nil))) .nil))⟩
noncomputable def qaS:Fn:=⟨3,3,false,(.cons (.ret (.cmp .isin (.tup (.cons (.bi .min (.cons (.var 1) (.cons (.var 2) .nil))) (.cons (.bi .max (.cons (.var 1) (.cons (.var 2) .nil))) .nil))) (.var 0))) .nil)⟩
noncomputable def qci:Fn:=⟨2,2,false,(.cons (.ret (.bi .tuple (.cons (.comp (.seq (.var 1)) [none,none,some 0] (.nm 1) (.cmp .isin (.var 1) (.var 2)) (.var 1)) .nil))) .nil)⟩
noncomputable def qbu:Fn:=⟨2,2,false,(.cons (.ret (.comp (.seq (.var 0)) [none,none,some 1] (.nm 1) .yes (.call "mark_of" (.cons (.var 1) (.cons (.var 2) .nil))))) .nil)⟩
noncomputable def zD:Fn:=⟨1,3,false,(.cons (.set (.nm 1) (.lst (.cons (.tup .nil) .nil))) (.cons (.for (.nm 2) (.rng (.ix (.var 0) (.con (.int 0)))) (.cons (.set (.nm 1) (.op .add (.var 1) (.comp (.seq (.var 1)) [none,none,some 2] (.nm 1) .yes (.op .add (.var 1) (.tup (.cons (.var 2) .nil)))))) .nil)) (.cons (.ret (.bi .sorted (.cons (.var 1) .nil))) .nil)))⟩
noncomputable def zQ:Fn:=⟨1,2,false,(.cons (.set (.nm 1) (.call "hoods" (.cons (.var 0) .nil))) (.cons (.ret (.comp (.seq (.call "all_some" (.cons (.var 0) .nil))) [none,none,some 1] (.nm 1) (.cmp .notin (.tup .nil) (.call "marks_of" (.cons (.var 2) (.cons (.var 1) .nil)))) (.var 1))) .nil))⟩
noncomputable def qcF:Fn:=⟨1,1,false,(.cons (.ret (.bi .len (.cons (.call "first_fewest" (.cons (.var 0) .nil)) .nil))) .nil)⟩
noncomputable def qam:Fn:=⟨1,1,false,(.cons (.ret (.ix (.call "all_fewest" (.cons (.var 0) .nil)) (.con (.int 0)))) .nil)⟩
noncomputable def qbz:Fn:=⟨1,3,true,(.cons (.exp (.call "need_web" (.cons (.var 0) .nil))) (.cons (.set (.nm 1) (.call "all_holding" (.cons (.var 0) .nil))) (.cons (.set (.nm 2) (.bi .min (.cons (.comp (.seq (.var 1)) [none,none] (.nm 1) .yes (.bi .len (.cons (.var 1) .nil))) .nil))) (.cons (.ret (.comp (.seq (.var 1)) [none,none,some 2] (.nm 1) (.cmp .eq (.bi .len (.cons (.var 1) .nil)) (.var 2)) (.var 1))) .nil))))⟩
noncomputable def zx:Fn:=⟨2,2,false,(.cons (.ite (.cmp .lt (.var 1) (.bi .len (.cons (.var 0) .nil))) (.cons (.ret (.ix (.var 0) (.var 1))) .nil) .nil) (.cons (.ret (.con (.int 0))) .nil))⟩
noncomputable def zL:Fn:=⟨2,3,false,(.cons (.set (.nm 2) (.op .mod (.op .mul (.op .add (.op .add (.op .mod (.var 0) (.con (.int 2147483647))) (.op .mul (.con (.int 977)) (.var 1))) (.con (.int 1))) (.con (.int 48271))) (.con (.int 2147483647)))) (.cons (.set (.nm 2) (.op .mod (.op .mul (.var 2) (.var 2)) (.con (.int 2147483629)))) (.cons (.set (.nm 2) (.op .mod (.op .mul (.op .add (.var 2) (.op .mul (.con (.int 40692)) (.op .add (.var 1) (.con (.int 3))))) (.con (.int 69621))) (.con (.int 2147483647)))) (.cons (.ret (.op .fdiv (.var 2) (.con (.int 8)))) .nil))))⟩
noncomputable def qbJ:Fn:=⟨2,10,false,(.cons (.set (.nm 2) (.op .add (.con (.int 1)) (.op .mod (.var 0) (.var 1)))) (.cons (.set (.nm 3) (.op .fdiv (.var 0) (.var 1))) (.cons (.set (.nm 4) (.op .mod (.var 3) (.con (.int 6)))) (.cons (.set (.nm 5) (.lst .nil)) (.cons (.for (.nm 6) (.rng2 (.con (.int 1)) (.var 2)) (.cons (.for (.nm 7) (.rng (.var 6)) (.cons (.set (.nm 8) (.op .band (.op .shr (.op .fdiv (.var 3) (.con (.int 6))) (.op .add (.op .fdiv (.op .mul (.var 6) (.op .sub (.var 6) (.con (.int 1)))) (.con (.int 2))) (.var 7))) (.con (.int 1)))) (.cons (.ite (.cmp .eq (.var 4) (.con (.int 3))) (.cons (.set (.nm 8) (.op .fdiv (.op .mod (.call "_law_stir" (.cons (.var 0) (.cons (.op .add (.op .mul (.con (.int 8)) (.var 7)) (.var 6)) .nil))) (.con (.int 3))) (.con (.int 2)))) .nil) .nil) (.cons (.ite (.cmp .eq (.var 4) (.con (.int 4))) (.cons (.set (.nm 8) (.op .fdiv (.op .add (.op .mod (.call "_law_stir" (.cons (.var 0) (.cons (.op .add (.op .mul (.con (.int 8)) (.var 7)) (.var 6)) .nil))) (.con (.int 4))) (.con (.int 2))) (.con (.int 3)))) .nil) .nil) (.cons (.ite (.cmp .eq (.var 4) (.con (.int 5))) (.cons (.set (.nm 9) (.lst (.cons (.cmp .eq (.var 6) (.op .add (.var 7) (.con (.int 1)))) (.cons (.or (.cmp .eq (.var 6) (.op .add (.var 7) (.con (.int 1)))) (.cmp .eq (.op .sub (.var 6) (.var 7)) (.op .sub (.var 2) (.con (.int 1))))) (.cons (.cmp .eq (.var 7) (.con (.int 0))) (.cons (.con (.bl true)) (.cons (.and (.cmp .eq (.var 6) (.op .add (.var 7) (.con (.int 1)))) (.cmp .lt (.op .mod (.var 7) (.con (.int 3))) (.con (.int 2)))) .nil))))))) (.cons (.set (.nm 8) (.bi .int (.cons (.ix (.var 9) (.op .mod (.op .fdiv (.var 3) (.con (.int 6))) (.con (.int 5)))) .nil))) .nil)) .nil) (.cons (.ite (.cmp .eq (.var 8) (.con (.int 1))) (.cons (.app 5 (.tup (.cons (.var 7) (.cons (.var 6) .nil)))) .nil) .nil) .nil)))))) .nil)) (.cons (.ret (.tup (.cons (.var 2) (.cons (.bi .tuple (.cons (.bi .sorted (.cons (.own 5) .nil)) .nil)) .nil)))) .nil))))))⟩
noncomputable def qaM:Fn:=⟨1,4,false,(.cons (.set (.nm 1) (.comp (.rng (.ix (.var 0) (.con (.int 0)))) [none,none] (.nm 1) .yes (.op .shl (.con (.int 1)) (.var 1)))) (.cons (.for (.tp [2,3]) (.seq (.ix (.var 0) (.con (.int 1)))) (.cons (.seti 1 (.var 2) (.op .bor (.ix (.own 1) (.var 2)) (.op .shl (.con (.int 1)) (.var 3)))) (.cons (.seti 1 (.var 3) (.op .bor (.ix (.own 1) (.var 3)) (.op .shl (.con (.int 1)) (.var 2)))) .nil))) (.cons (.ret (.own 1)) .nil)))⟩
noncomputable def qaY:Fn:=⟨2,2,false,(.cons (.ret (.bi .tuple (.cons (.comp (.rng (.var 0)) [none,none,some 1] (.nm 1) (.cmp .eq (.op .band (.op .shr (.var 2) (.var 1)) (.con (.int 1))) (.con (.int 1))) (.var 1)) .nil))) .nil)⟩
noncomputable def qaz:Fn:=⟨1,1,false,(.cons (.ret (.bi .sum (.cons (.comp (.seq (.var 0)) [none,none] (.nm 1) .yes (.op .shl (.con (.int 1)) (.var 1))) .nil))) .nil)⟩
noncomputable def qaA:Fn:=⟨2,5,false,(.cons (.set (.nm 2) (.con (.int 0))) (.cons (.for (.tp [3,4]) (.enum (.var 0)) (.cons (.ite (.cmp .eq (.op .band (.op .shr (.var 1) (.var 3)) (.con (.int 1))) (.con (.int 1))) (.cons (.set (.nm 2) (.op .bor (.var 2) (.var 4))) .nil) .nil) .nil)) (.cons (.ret (.var 2)) .nil)))⟩
noncomputable def qaU:Fn:=⟨1,1,false,(.cons (.ret (.bi .sorted (.cons (.comp (.rng (.op .shl (.con (.int 1)) (.var 0))) [none,none,some 0] (.nm 1) .yes (.call "_law_some" (.cons (.var 2) (.cons (.var 1) .nil)))) .nil))) .nil)⟩
noncomputable def qan:Fn:=⟨1,3,false,(.cons (.set (.nm 1) (.call "_law_masks" (.cons (.var 0) .nil))) (.cons (.set (.nm 2) (.op .sub (.op .shl (.con (.int 1)) (.ix (.var 0) (.con (.int 0)))) (.con (.int 1)))) (.cons (.ret (.comp (.seq (.call "_law_all" (.cons (.ix (.var 0) (.con (.int 0))) .nil))) [none,none,some 2,some 1] (.nm 1) (.cmp .eq (.call "_law_held" (.cons (.var 3) (.cons (.call "_law_mask" (.cons (.var 1) .nil)) .nil))) (.var 2)) (.var 1))) .nil)))⟩
noncomputable def qbo:Fn:=⟨2,2,false,(.cons (.ret (.call "is_between" (.cons (.var 1) (.cons (.con (.int 0)) (.cons (.op .sub (.ix (.var 0) (.con (.int 0))) (.con (.int 1))) .nil))))) .nil)⟩
noncomputable def qcf:Fn:=⟨2,2,false,(.cons (.ite (.not (.val (.isi (.var 1) (.ty "tuple")))) (.cons (.ret (.con (.bl false))) .nil) .nil) (.cons (.ret (.and (.bi .all (.cons (.comp (.seq (.var 1)) [none,none,some 0] (.nm 1) .yes (.call "is_place" (.cons (.var 2) (.cons (.var 1) .nil)))) .nil)) (.call "rises" (.cons (.var 1) .nil)))) .nil))⟩
noncomputable def qbb:Fn:=⟨2,2,false,(.cons (.ite (.not (.val (.call "is_some" (.cons (.var 0) (.cons (.var 1) .nil))))) (.cons .unk .nil) .nil) .nil)⟩
noncomputable def qbI:Fn:=⟨2,2,false,(.cons (.exp (.call "need_web" (.cons (.var 0) .nil))) (.cons (.exp (.call "need_some" (.cons (.var 0) (.cons (.var 1) .nil)))) (.cons (.ret (.call "is_apart_by" (.cons (.call "marks_of" (.cons (.call "hoods" (.cons (.var 0) .nil)) (.cons (.var 1) .nil))) .nil))) .nil)))⟩
noncomputable def qaN:Fn:=⟨1,1,false,(.cons (.ret (.bi .len (.cons (.call "first_apart" (.cons (.var 0) .nil)) .nil))) .nil)⟩
noncomputable def qbg:Fn:=⟨1,3,false,(.cons (.exp (.call "need_web" (.cons (.var 0) .nil))) (.cons (.set (.nm 1) (.call "hoods" (.cons (.var 0) .nil))) (.cons (.set (.nm 2) (.comp (.seq (.call "all_some" (.cons (.var 0) .nil))) [none,none,some 1] (.nm 1) (.val (.call "is_apart_by" (.cons (.call "marks_of" (.cons (.var 2) (.cons (.var 1) .nil))) .nil))) (.var 1))) (.cons (.ret (.mxk true (.var 2))) .nil))))⟩
noncomputable def qbe:Fn:=⟨1,1,false,(.cons (.ret (.bi .all (.cons (.comp (.seq (.var 0)) [none,none] (.nm 1) .yes (.cmp .le (.bi .len (.cons (.var 1) .nil)) (.con (.int 1)))) .nil))) .nil)⟩
noncomputable def qct:Fn:=⟨1,2,true,(.cons (.exp (.call "need_web" (.cons (.var 0) .nil))) (.cons (.set (.nm 1) (.call "hoods" (.cons (.var 0) .nil))) (.cons (.ret (.comp (.seq (.call "all_some" (.cons (.var 0) .nil))) [none,none,some 1] (.nm 1) (.val (.call "is_once_by" (.cons (.call "marks_of" (.cons (.var 2) (.cons (.var 1) .nil))) .nil))) (.var 1))) .nil)))⟩
noncomputable def qbr:Fn:=⟨1,1,false,(.cons (.ret (.bi .all (.cons (.comp (.seq (.var 0)) [none,none] (.nm 1) .yes (.cmp .eq (.bi .len (.cons (.var 1) .nil)) (.con (.int 1)))) .nil))) .nil)⟩
structure Web(p:Pr):Prop where
 is_whole:p.fns "is_whole" = some qcr
 is_between:p.fns "is_between" = some qaO
 is_pair:p.fns "is_pair" = some qch
 rises:p.fns "rises" = some qdl
 is_web:p.fns "is_web" = some qcE
 is_tie:p.fns "is_tie" = some qcK
 need_web:p.fns "need_web" = some qby
 MOST:p.glb "MOST" = some (.int 8)
structure Base(p:Pr):Prop extends Web p where
 all_some:p.fns "all_some" = some zD
 _law_cell_at:p.fns "_law_cell_at" = some zx
 _law_stir:p.fns "_law_stir" = some zL
 _law_web:p.fns "_law_web" = some qbJ
 _law_some:p.fns "_law_some" = some qaY
structure qfJ(p:Pr):Prop where
 _law_cell_at:p.fns "_law_cell_at" = some zx
 _law_stir:p.fns "_law_stir" = some zL
 _law_web:p.fns "_law_web" = some qbJ
theorem Base.draw{p:Pr}(B:Base p):qfJ p:=⟨B._law_cell_at,B._law_stir,B._law_web⟩
structure Hds(p:Pr):Prop where
 hoods:p.fns "hoods" = some qcw
 hood_of:p.fns "hood_of" = some qbl
 are_tied:p.fns "are_tied" = some qaS
structure Nbr(p:Pr):Prop where
 hoods:p.fns "hoods" = some qcw
 hood_of:p.fns "hood_of" = some qbl
 are_tied:p.fns "are_tied" = some qaS
 mark_of:p.fns "mark_of" = some qci
 marks_of:p.fns "marks_of" = some qbu
structure qhI(p:Pr):Prop extends Nbr p where
 _law_masks:p.fns "_law_masks" = some qaM
noncomputable instance {p:Pr}:CoeOut (Base p) (Web p):=⟨fun b=>b.toWeb⟩
theorem Nbr.hds{p:Pr}(O:Nbr p):Hds p:=⟨O.hoods,O.hood_of,O.are_tied⟩
noncomputable instance {p:Pr}:CoeOut (Base p) (qfJ p):=⟨fun b=>b.draw⟩
noncomputable instance {p:Pr}:CoeOut (Nbr p) (Hds p):=⟨fun b=>b.hds⟩
noncomputable instance {p:Pr}:CoeOut (qhI p) (Nbr p):=⟨fun b=>b.toNbr⟩
structure qbZ(p:Pr):Prop where
 is_place:p.fns "is_place" = some qbo
 is_some:p.fns "is_some" = some qcf
 need_some:p.fns "need_some" = some qbb
section
variable{p:Pr}
theorem qd{k:Nat}{x:Str}{f:Fn}{ds:List D}(h:p.fns x=some f):qc p (k+1) x ds=zS ⟨qc p k,p.glb,p.sub,p.cat⟩ f ds:=by
 rw [qc,h]
theorem qek{k:Nat}{x:Str}{f:Fn}{ds:List D}{τ:Env}{Q:D→Prop}(hf:p.fns x=some f)(hl:ds.length=f.ps)(hτ:ds.map some++List.replicate (f.N-f.ps) none=τ)(h:Ends (fun _=>False) Q (qe (wAt p k) f.body τ)):∃d,qc p (k+1) x ds=.ok d∧Q d:=by
 rw [qd hf,zS,if_pos hl,hτ];cases z:qe ⟨qc p k,p.glb,p.sub,p.cat⟩ f.body τ with
 |rt d=>rw [z]at h;exact⟨d,rfl,h⟩
 |nx _=>rw [z]at h;exact h.elim
 |_=>rw [z]at h;exact h.elim
section
variable(B:Web p)
include B
theorem is_whole{k:Nat}(i:Int):qc p (k+1) "is_whole" [.int i]=.ok (.bl true):=by rw [qd B.is_whole];rfl
theorem is_between{k:Nat}(i a b:Int)(h:a≤i∧i≤b):qc p (k+2) "is_between" [.int i,.int a,.int b]=.ok (.bl true):=by
 rw [qd B.is_between];refine ql rfl rfl ?_;simp [KG.Z,qaO,is_whole B,qg,qhi,h.1,h.2]
theorem is_pair{k:Nat}(a b:D):qc p (k+1) "is_pair" [.tup [a,b]]=.ok (.bl true):=by
 rw [qd B.is_pair];refine ql rfl rfl ?_;simp [KG.Z,qch,b1,seq?,qg,D.asks,D.plain,D.deep,D.eqv]
theorem is_tie{k:Nat}(a b m:Int)(h:0≤a∧a<b∧b<m):qc p (k+2) "is_tie" [.tup [.int a,.int b],.int m]=.ok (.bl true):=by
 rw [qd B.is_tie];refine ql rfl rfl ?_;simp [KG.Z,qcK,is_pair B,is_whole B,qg,qhi,h.1,h.2.1,h.2.2]
theorem rises{k:Nat}(xs:List D)(hz:xs.length≤28)(h:∀(i:Nat) (q:i+1<xs.length),qg .lt xs[i] xs[i+1]=.ok true):qc p (k+1) "rises" [.tup xs]=.ok (.bl true):=by
 rw [qd B.rises];refine ql rfl rfl ?_;have hr:qh ((xs.length:Int)-1)=true:=by simp [qh];lia
 have hc:evE ⟨qc p k,p.glb,p.sub,p.cat⟩ (.comp (.rng (.op .sub (.bi .len (.cons (.var 0) .nil)) (.con (.int 1)))) [none,none,some 0] (.nm 1) .yes (.cmp .lt (.ix (.var 2) (.var 1)) (.ix (.var 2) (.op .add (.var 1) (.con (.int 1)))))) [some (.tup xs)]=.ok (.lst ((qS 0 ((xs.length:Int)-1).toNat).flatMap fun _=>[.bl true])):=by
  refine qbf (c:=[some (.tup xs)]) ?_ ?_ rfl ?_
  ·simp [KG.Z,b1,seq?,op2,hr]
  ·simp [qS,SZ];lia
  ·intro x hx;simp only [qS,List.mem_map,List.mem_range]at hx;obtain⟨i,hi,rfl⟩:=hx;have e1:atI xs ((0:Int)+(i:Int))=some xs[i]:=by rw [Int.zero_add];exact qdP (by lia)
   have e2:atI xs ((0:Int)+(i:Int)+1)=some xs[i+1]:=by rw [Int.zero_add];exact qdP (i:=i+1) (by lia)
   have e3:=h i (by lia);simp only [Int.zero_add]at e1 e2;simp [KG.Z,ixD,op2,e1,e2,e3]
 simp [KG.Z,qdl,hc,b1,all_true,qoI]
theorem is_web{k:Nat}{m:Int}{ts:List (Int×Int)}(h:GW m ts):qc p (k+3) "is_web" [wb m ts]=.ok (.bl true):=by
 rw [qd B.is_web];refine ql rfl rfl ?_;have hr:=rises B (k:=k+1) (ts.map prD) (by simpa using h.len) (fun i q=>by
  rw [List.getElem_map,List.getElem_map];exact qsk (List.pairwise_iff_getElem.mp h.lt i (i+1) (by simp at q;lia) (by simpa using q) (by lia)))
 have hc:evE ⟨qc p (k+2),p.glb,p.sub,p.cat⟩ (.comp (.seq (.var 2)) [none,none,some 1] (.nm 1) .yes (.call "is_tie" (.cons (.var 1) (.cons (.var 2) .nil)))) [some (wb m ts),some (.int m),some (.tup (ts.map prD))]=.ok (.lst ((ts.map prD).flatMap fun _=>[.bl true])):=by
  refine qbf (c:=[some (.int m)]) ?_ ?_ rfl ?_
  ·simp [KG.Z,seq?]
  ·simp [SZ];have:=h.len;lia
  ·intro x hx;rw [List.mem_map]at hx;obtain⟨t,ht,rfl⟩:=hx;have e:=is_tie B (k:=k) t.1 t.2 m (h.ok t ht);have e':qc p (k+2) "is_tie" [prD t,.int m]=.ok (.bl true):=e;simp [KG.Z,e']
 simp [KG.Z,qcE,is_pair B,is_between B m 1 8 ⟨h.lo,h.hi⟩,B.MOST,hc,b1,all_true,hr]
theorem need_web{k:Nat}{m:Int}{ts:List (Int×Int)}(h:GW m ts):qc p (k+4) "need_web" [wb m ts]=.ok .non:=by
 rw [qd B.need_web];simp only [zS];simp [KG.Z,qby,is_web B h]
end
theorem qkg(hf:p.fns "_law_stir" = some zL){k:Nat}(c j:Int):qc p (k+1) "_law_stir" [.int c,.int j]=.ok (.int (st c j)):=by
 have s1:small 977=true:=by decide
 have s2:small 48271=true:=by decide
 have s3:small 40692=true:=by decide
 have s4:small 69621=true:=by decide
 have s5:=qlN ((c%2147483647+977 * j+1) * 48271) 2147483647 (by decide) (by decide);rw [qd hf];refine ql rfl rfl ?_;simp [KG.Z,zL,op2,s1,s2,s3,s4,s5,st]
theorem qne(hf:p.fns "_law_cell_at" = some zx){k:Nat}(ns:List Int):∃x:Int,qc p (k+1) "_law_cell_at" [.lst (ns.map D.int),.int 0]=.ok (.int x):=by
 cases ns with
 |nil=>
  refine⟨0,?_⟩;have e1:b1 .len [.lst []]=.ok (.int 0):=rfl;have e3:qg .lt (.int 0) (.int 0)=.ok false:=rfl;rw [qd hf];refine ql rfl rfl ?_;simp [KG.Z,zx,e1,e3]
 |cons x r=>
  refine⟨x,?_⟩;have e1:b1 .len [.lst ((x::r).map D.int)]=.ok (.int (r.length+1:Nat)):=by
   show R.ok (D.int ((x::r).map D.int).length)=_;simp
  have e2:ixD (.lst ((x::r).map D.int)) (.int 0)=.ok (.int x):=by
   have:=qdP (xs:=(x::r).map D.int) (i:=0) (by simp);simp only [ixD];rw [show (0:Int)=((0:Nat):Int)from rfl,this];rfl
  simp only [List.map_cons]at e1 e2;have h0:(0:Int)<((r.length+1:Nat):Int):=by lia
  have e3:qg .lt (.int 0) (.int ((r.length+1:Nat):Int))=.ok true:=by rw [lt_int,decide_eq_true h0]
  generalize ((r.length+1:Nat):Int)=N at *;rw [qd hf];refine ql rfl rfl ?_;simp [KG.Z,zx,e1,e2,e3]
section
variable(B:Base p)
include B
theorem qpj{k:Nat}(ns:List Int):∃x:Int,qc p (k+1) "_law_cell_at" [.lst (ns.map D.int),.int 0]=.ok (.int x):=qne B._law_cell_at ns
end
section
variable(B:Web p)(S:qbZ p)
include B S
theorem is_place{k:Nat}(i m:Int)(t:D)(h:0≤i∧i<m):qc p (k+3) "is_place" [.tup [.int m,t],.int i]=.ok (.bl true):=by
 rw [qd S.is_place];refine ql rfl rfl ?_;simp [KG.Z,qbo,ixD,atI,ixN,op2,is_between B i 0 (m-1) (by lia)]
theorem is_some{k:Nat}{m:Int}{t:D}{s:List Int}(h:GS m s):qc p (k+4) "is_some" [.tup [.int m,t],tu s]=.ok (.bl true):=by
 rw [qd S.is_some];refine ql rfl rfl ?_;have hr:=rises B (k:=k+2) (s.map D.int) (by simp;have:=h.len;lia) (fun i q=>by
  rw [List.getElem_map,List.getElem_map];have:=List.pairwise_iff_getElem.mp h.lt i (i+1) (by simp at q;lia) (by simpa using q) (by lia);simp [qg,qhi,this])
 have hc:evE ⟨qc p (k+3),p.glb,p.sub,p.cat⟩ (.comp (.seq (.var 1)) [none,none,some 0] (.nm 1) .yes (.call "is_place" (.cons (.var 2) (.cons (.var 1) .nil)))) [some (.tup [.int m,t]),some (tu s)]=.ok (.lst ((s.map D.int).flatMap fun _=>[.bl true])):=by
  refine qbf (c:=[some (.tup [.int m,t])]) ?_ ?_ rfl ?_
  ·simp [KG.Z,seq?]
  ·simp [SZ];have:=h.len;lia
  ·intro x hx;rw [List.mem_map]at hx;obtain⟨i,hi,rfl⟩:=hx;simp [KG.Z,is_place B S i m t (h.ok i hi)]
 simp [KG.Z,qcf,hc,b1,all_true,hr]
theorem need_some{k:Nat}{m:Int}{t:D}{s:List Int}(h:GS m s):qc p (k+5) "need_some" [.tup [.int m,t],tu s]=.ok .non:=by
 rw [qd S.need_some];simp only [zS];simp [KG.Z,qbb,is_some B S h]
end
section
variable(B:Web p)(O:Hds p)
include O
theorem are_tied{k:Nat}(ts:List (Int×Int))(a b:Int):qc p (k+1) "are_tied" [.tup (ts.map prD),.int a,.int b]=.ok (.bl (qaD ts a b)):=by
 rw [qd O.are_tied];refine ql rfl rfl ?_;simp [KG.Z,qaS,b1,qrx,qaD,mn,mx]
theorem hood_of{k:Nat}{m:Int}{ts:List (Int×Int)}(h:GW m ts)(a:Int):qc p (k+2) "hood_of" [wb m ts,.int a]=.ok (tu (hd m ts a)):=by
 rw [qd O.hood_of];refine ql rfl rfl ?_;have h1:=h.lo;have h2:=h.hi;have hc:evE ⟨qc p (k+1),p.glb,p.sub,p.cat⟩ (.comp (.rng (.var 2)) [none,none,some 1,some 3] (.nm 1) (.or (.cmp .eq (.var 1) (.var 2)) (.val (.call "are_tied" (.cons (.var 3) (.cons (.var 2) (.cons (.var 1) .nil)))))) (.var 1)) [some (wb m ts),some (.int a),some (.int m),some (.tup (ts.map prD))]=.ok (.lst ((hd m ts a).map D.int)):=by
  rw [hd,←qcV,←zq];refine qbf (c:=[some (.int a),some (.tup (ts.map prD))]) ?_ ?_ rfl ?_
  ·have:qh m=true:=by simp [qh];lia
   simp [KG.Z,this]
  ·simp [qS,SZ];lia
  ·intro x hx;rw [zq,List.mem_map]at hx;obtain⟨b,hb,rfl⟩:=hx;have e:qg .eq (.int b) (.int a)=.ok (b==a):=rfl;simp [KG.Z,e,are_tied O];by_cases q:b=a
   ·simp [q]
   ·simp [q];cases qaD ts a b<;>simp
 simp [KG.Z,qbl,hc,b1,seq?]
include B
theorem hoods{k:Nat}{m:Int}{ts:List (Int×Int)}(h:GW m ts):qc p (k+5) "hoods" [wb m ts]=.ok (.tup ((rng m).map fun a=>tu (hd m ts a))):=by
 rw [qd O.hoods];refine ql rfl rfl ?_;have h1:=h.lo;have h2:=h.hi;have hc:evE ⟨qc p (k+4),p.glb,p.sub,p.cat⟩ (.comp (.rng (.ix (.var 0) (.con (.int 0)))) [none,none,some 0] (.nm 1) .yes (.call "hood_of" (.cons (.var 2) (.cons (.var 1) .nil)))) [some (wb m ts)]=.ok (.lst ((rng m).map fun a=>tu (hd m ts a))):=by
  rw [←qii,←zq];refine qbf (c:=[some (wb m ts)]) ?_ ?_ rfl ?_
  ·have:qh m=true:=by simp [qh];lia
   simp [KG.Z,this,ixD,atI,ixN]
  ·simp [qS,SZ];lia
  ·intro x hx;rw [zq,List.mem_map]at hx;obtain⟨b,hb,rfl⟩:=hx;simp [KG.Z,hood_of O h]
 simp [KG.Z,qcw,need_web B h,hc,b1,seq?]
end
section
variable(O:Nbr p)
include O
theorem mark_of{k:Nat}(n s:List Int)(hz:s.length≤8):qc p (k+1) "mark_of" [tu n,tu s]=.ok (tu (s.filter fun x=>n.any fun t=>t==x)):=by
 rw [qd O.mark_of];refine ql rfl rfl ?_;have hc:evE ⟨qc p k,p.glb,p.sub,p.cat⟩ (.comp (.seq (.var 1)) [none,none,some 0] (.nm 1) (.cmp .isin (.var 1) (.var 2)) (.var 1)) [some (tu n),some (tu s)]=.ok (.lst ((s.filter fun x=>n.any fun t=>t==x).map D.int)):=by
  rw [←qcV];refine qbf (c:=[some (tu n)]) ?_ ?_ rfl ?_
  ·simp [KG.Z,seq?]
  ·simp [SZ];lia
  ·intro x hx;rw [List.mem_map]at hx;obtain⟨b,hb,rfl⟩:=hx;simp [KG.Z,qjl];by_cases q:b∈n<;>simp [q]
 simp [KG.Z,qci,hc,b1,seq?]
theorem marks_of{k:Nat}(ns:List Int)(f:Int→List Int)(s:List Int)(hz:s.length≤8)(hn:ns.length≤8):qc p (k+2) "marks_of" [.tup (ns.map fun a=>tu (f a)),tu s]=.ok (.lst (ns.map fun a=>tu (s.filter fun x=>(f a).any fun t=>t==x))):=by
 rw [qd O.marks_of];refine ql rfl rfl ?_;have hc:evE ⟨qc p (k+1),p.glb,p.sub,p.cat⟩ (.comp (.seq (.var 0)) [none,none,some 1] (.nm 1) .yes (.call "mark_of" (.cons (.var 1) (.cons (.var 2) .nil)))) [some (.tup (ns.map fun a=>tu (f a))),some (tu s)]=.ok (.lst ((ns.map fun a=>tu (f a)).flatMap fun x=>match qc p (k+1) "mark_of" [x,tu s]with | .ok d=>[d]|_=>[])):=by
  refine qbf (c:=[some (tu s)]) ?_ ?_ rfl ?_
  ·simp [KG.Z,seq?]
  ·simp [SZ];lia
  ·intro x hx;rw [List.mem_map]at hx;obtain⟨b,hb,rfl⟩:=hx;simp [KG.Z,mark_of O (f b) s hz]
 have he:((ns.map fun a=>tu (f a)).flatMap fun x=>match qc p (k+1) "mark_of" [x,tu s]with | .ok d=>[d]|_=>[])=ns.map fun a=>tu (s.filter fun x=>(f a).any fun t=>t==x):=by
  clear hc hn
  induction ns with
  |nil=>rfl
  |cons a r ih=>rw [List.map_cons,List.flatMap_cons,ih,mark_of O (f a) s hz];rfl
 simp [KG.Z,qbu,hc,he]
end
end
theorem qco{α:Type}{w:W}{it:It}{cap:List (Option Nat)}{t:T}{elt:E}{τ c:Env}{l:List α}{f:α→D}(q:α→Bool)(g:α→D)(h:evI w it τ=.ok (l.map f))(hz:l.length≤SZ)(hc:qaT cap τ=none::none::c)
  (hb:∀a∈l,evT w t (none::some (f a)::c)=.ok (q a)∧(q a=true→evE w elt (none::some (f a)::c)=.ok (g a))):evE w (.comp it cap (.nm 1) t elt) τ=.ok (.lst ((l.filter q).map g)):=by
 have key:∀(r:List α) (v:Option D) (acc:List D),(∀x∈r,x∈l)→zJ (fun x σ=>noEx ((store (.nm 1) x σ).bind fun σ'=>(evT w t σ').bind fun r=>if r then (evE w elt σ').bind fun d=>.ok (σ',[d])else .ok (σ',[]))) (r.map f) (none::v::c) acc=.ok (acc++(r.filter q).map g):=by
  intro r
  induction r with
  |nil=>intro v acc _;simp [zJ]
  |cons x r ih=>
   intro v acc hm;obtain⟨h1,h2⟩:=hb x (hm x List.mem_cons_self);rw [List.map_cons,zJ];have e:noEx ((store (.nm 1) (f x) (none::v::c)).bind fun σ'=>(evT w t σ').bind fun r=>if r then (evE w elt σ').bind fun d=>.ok (σ',[d])else .ok (σ',[]))=.ok (none::some (f x)::c,if q x then [g x]else []):=by
    simp only [store,R.bind_ok,List.set_cons_succ,List.set_cons_zero,h1];cases hq:q x with
    |false=>rfl
    |true=>simp only [if_true,h2 hq,R.bind_ok];rfl
   rw [e];simp only [R.bind_ok];rw [ih (some (f x)) _ fun y hy=>hm y (List.mem_cons_of_mem _ hy),List.filter_cons,List.append_assoc];cases q x<;>simp
 rw [qA,h];simp only [R.bind_ok];rw [if_neg (by simp;lia),hc,key l none [] fun _ h=>h]
 rfl
theorem qdm{α:Type}{w:W}{it:It}{cap:List (Option Nat)}{elt:E}{τ c:Env}{l:List α}{f:α→D}(g:α→D)(h:evI w it τ=.ok (l.map f))(hz:l.length≤SZ)(hc:qaT cap τ=none::none::c)
  (hb:∀a∈l,evE w elt (none::some (f a)::c)=.ok (g a)):evE w (.comp it cap (.nm 1) .yes elt) τ=.ok (.lst (l.map g)):=by
 have:=qco (t:=.yes) (elt:=elt) (f:=f) (fun _=>true) g h hz hc fun a ha=>⟨rfl,fun _=>hb a ha⟩
 rwa [List.filter_eq_self.mpr (fun _ _=>rfl)]at this
theorem qav{w:W}{e:E}{τ:Env}{xs:List D}(h:evE w e τ=.ok (.lst xs)):evI w (.seq e) τ=.ok xs:=by rw [evI.eq_1,h];rfl
theorem qdh{w:W}{e:E}{τ:Env}{xs:List D}(h:evE w e τ=.ok (.tup xs)):evI w (.seq e) τ=.ok xs:=by rw [evI.eq_1,h];rfl
theorem qgl{α:Type}(l:List α)(f:α→Bool):bools? (l.map fun a=>D.bl (f a))=some (l.map f):=by
 induction l with
 |nil=>rfl
 |cons a r ih=>rw [List.map_cons,bools?,ih];rfl
theorem qlv{α:Type}(l:List α)(f:α→Bool):b1 .all [.lst (l.map fun a=>D.bl (f a))]=.ok (.bl (l.all f)):=by
 rw [b1,b11];simp only [qab];rw [qgl];simp only [qai];rw [List.all_map];rfl
theorem qat(s:List Int):b1 .len [tu s]=.ok (.int s.length):=by
 show R.ok (D.int ((s.map D.int).length:Nat))=_;rw [List.length_map]
theorem qmr{x:Int}{r:List Int}:b1 .min [.lst ((x::r).map D.int)]=.ok (.int (zm false x r)):=by
 rw [b1,b11];simp only [qab];rw [ints_map];rfl
theorem qms{x:Int}{r:List Int}:b1 .max [.lst ((x::r).map D.int)]=.ok (.int (zm true x r)):=by
 rw [b1,b11];simp only [qab];rw [ints_map];rfl
theorem sum_ints(ns:List Int):b1 .sum [.lst (ns.map D.int)]=.ok (.int ns.sum):=by
 rw [b1,b11];simp only [qab];rw [ints_map];rfl
theorem ne_int(a b:Int):qg .ne (.int a) (.int b)=.ok (!decide (a=b)):=by
 show R.ok (!(a==b))=_
 congr 1
theorem qtu(a b:Bool):qg .ne (.bl a) (.bl b)=.ok (!decide (a=b)):=by
 cases a<;>cases b<;>rfl
theorem qiu(l:List Int)(f:Int→List Int):qg .notin (.tup []) (.lst (l.map fun a=>tu (f a)))=.ok (l.all fun a=>!(f a).isEmpty):=by
 rw [qg];simp only [seq?];rw [if_pos (by simp only [Bool.and_eq_true,List.all_eq_true,List.mem_map];exact⟨rfl,fun x ⟨t,_,e⟩=>e▸qbn _⟩),inD,List.any_map]
 congr 1
 rw [List.not_any_eq_all_not]
 congr 1;funext a
 show (!D.eqv (tu (f a)) (.tup []))=_;rw [show D.eqv (tu (f a)) (.tup [])=eqvAll ((f a).map D.int) []from by simp [D.eqv]];cases f a<;>rfl
theorem ix0{α:Type}(f:α→D)(a:α)(r:List α):ixD (.lst ((a::r).map f)) (.int 0)=.ok (f a):=by
 have:=qdP (xs:=(a::r).map f) (i:=0) (by simp);simp only [ixD];rw [show (0:Int)=((0:Nat):Int)from rfl,this];rfl
theorem qoA(ns:List Int)(lo hi:Option Int):∃cs:List Int,cutD (ns.map D.int) lo hi=cs.map D.int∧cs.length≤ns.length:=by
 refine⟨(ns.drop _).take _,by rw [cutD,←List.map_drop,←List.map_take],by simp;lia⟩
theorem fx{α:Type}{f:α→D}{r:List D}{x:D}{l:List α}(e:x::r=l.map f):∃a l',l=a::l'∧x=f a∧r=l'.map f:=by
 cases l with
 |nil=>cases e
 |cons a l'=>rw [List.map_cons]at e;injection e with e1 e2;exact⟨a,l',rfl,e1,e2⟩
theorem qlk{w:W}{f:Fn}{ds:List D}{τ:Env}{Q:D→Prop}(hl:ds.length=f.ps)(hτ:ds.map some++List.replicate (f.N-f.ps) none=τ)(h:Ends (fun _=>False) Q (qe w f.body τ)):∃d,zS w f ds=.ok d∧Q d:=by
 rw [zS,if_pos hl,hτ];cases z:qe w f.body τ with
 |rt d=>rw [z]at h;exact⟨d,rfl,h⟩
 |nx _=>rw [z]at h;exact h.elim
 |_=>rw [z]at h;exact h.elim
noncomputable def qcL:Fn:=⟨2,2,false,(.cons (.exp (.call "need_web" (.cons (.var 0) .nil))) (.cons (.exp (.call "need_some" (.cons (.var 0) (.cons (.var 1) .nil)))) (.cons (.ret (.call "places_marked" (.cons (.call "marks_of" (.cons (.call "hoods" (.cons (.var 0) .nil)) (.cons (.var 1) .nil))) (.cons (.tup .nil) .nil)))) .nil)))⟩
noncomputable def qaB:Fn:=⟨2,2,false,(.cons (.ret (.cmp .eq (.call "unheld" (.cons (.var 0) (.cons (.var 1) .nil))) (.tup .nil))) .nil)⟩
noncomputable def zG:Fn:=⟨2,2,false,(.cons (.ret (.bi .tuple (.cons (.comp (.enum (.var 0)) [none,none,none,some 1] (.tp [1,2]) (.cmp .eq (.var 2) (.var 3)) (.var 1)) .nil))) .nil)⟩
noncomputable def qdd:Fn:=⟨2,2,false,(.cons (.exp (.call "need_web" (.cons (.var 0) .nil))) (.cons (.exp (.call "need_some" (.cons (.var 0) (.cons (.var 1) .nil)))) (.cons (.ret (.call "spare_by" (.cons (.call "marks_of" (.cons (.call "hoods" (.cons (.var 0) .nil)) (.cons (.var 1) .nil))) (.cons (.var 1) .nil)))) .nil)))⟩
noncomputable def qcv:Fn:=⟨2,2,false,(.cons (.ret (.bi .tuple (.cons (.comp (.seq (.var 1)) [none,none,some 0] (.nm 1) (.cmp .notin (.tup (.cons (.var 1) .nil)) (.var 2)) (.var 1)) .nil))) .nil)⟩
noncomputable def qhl:Fn:=⟨1,3,false,(.cons (.set (.nm 1) (.lst .nil)) (.cons (.for (.nm 2) (.rng (.var 0)) (.cons (.set (.nm 1) (.op .add (.var 1) (.comp (.rng2 (.op .add (.var 2) (.con (.int 1))) (.var 0)) [none,none,some 2] (.nm 1) .yes (.tup (.cons (.var 2) (.cons (.var 1) .nil)))))) .nil)) (.cons (.ret (.var 1)) .nil)))⟩
noncomputable def qgT:Fn:=⟨2,5,false,(.cons (.set (.nm 2) (.lst .nil)) (.cons (.for (.tp [3,4]) (.enum (.call "_law_pairs" (.cons (.var 0) .nil))) (.cons (.ite (.and (.cmp .eq (.op .mod (.var 1) (.con (.int 2))) (.con (.int 0))) (.cmp .eq (.op .mod (.op .shr (.op .fdiv (.var 1) (.con (.int 2))) (.var 3)) (.con (.int 2))) (.con (.int 1)))) (.cons (.app 2 (.var 4)) .nil) .nil) (.cons (.ite (.and (.cmp .eq (.op .mod (.var 1) (.con (.int 2))) (.con (.int 1))) (.cmp .lt (.op .mod (.call "_law_stir" (.cons (.var 1) (.cons (.var 3) .nil))) (.con (.int 5))) (.op .add (.con (.int 1)) (.op .mod (.op .fdiv (.var 1) (.con (.int 2))) (.con (.int 3)))))) (.cons (.app 2 (.var 4)) .nil) .nil) .nil))) (.cons (.ret (.tup (.cons (.var 0) (.cons (.bi .tuple (.cons (.own 2) .nil)) .nil)))) .nil)))⟩
noncomputable def qfK:Fn:=⟨2,2,false,(.cons (.ite (.cmp .eq (.op .mod (.var 1) (.con (.int 2))) (.con (.int 0))) (.cons (.ret (.bi .tuple (.cons (.comp (.rng (.var 0)) [none,none,some 1] (.nm 1) (.cmp .eq (.op .mod (.op .shr (.op .fdiv (.var 2) (.con (.int 2))) (.var 1)) (.con (.int 2))) (.con (.int 1))) (.var 1)) .nil))) .nil) .nil) (.cons (.ret (.bi .tuple (.cons (.comp (.rng (.var 0)) [none,none,some 1] (.nm 1) (.cmp .lt (.op .mod (.call "_law_stir" (.cons (.var 2) (.cons (.op .add (.var 1) (.con (.int 60))) .nil))) (.con (.int 4))) (.op .add (.con (.int 1)) (.op .mod (.op .fdiv (.var 2) (.con (.int 2))) (.con (.int 3))))) (.var 1)) .nil))) .nil))⟩
structure Un(p:Pr):Prop where
 places_marked:p.fns "places_marked" = some zG
 unheld:p.fns "unheld" = some qcL
structure Lw(p:Pr):Prop where
 _law_stir:p.fns "_law_stir" = some zL
 _law_pairs:p.fns "_law_pairs" = some qhl
 _law_web_by:p.fns "_law_web_by" = some qgT
 _law_some_by:p.fns "_law_some_by" = some qfK
section
variable{p:Pr}
theorem qnH{xs:List D}:∀{k:Nat}{x:D},x∈zO k xs→∃(i:Nat) (d:D),d∈xs∧x=.tup [.int i,d]:=by
 induction xs with
 |nil=>intro k x h;cases h
 |cons a r ih=>
  intro k x h;rw [zO,List.mem_cons]at h;rcases h with rfl|h
  ·exact⟨k,a,List.mem_cons_self,rfl⟩
  ·obtain⟨i,d,h1,h2⟩:=ih h;exact⟨i,d,List.mem_cons_of_mem _ h1,h2⟩
theorem qmJ{xs:List D}:∀{k:Nat},(zO k xs).length=xs.length:=by
 induction xs with
 |nil=>intro k;rfl
 |cons a r ih=>intro k;rw [zO,List.length_cons,ih,List.length_cons]
theorem places_marked(hf:p.fns "places_marked" = some zG){k:Nat}(m:Int)(hm:m≤8)(f:Int→List Int)(z:List Int):qc p (k+1) "places_marked" [.lst ((rng m).map fun a=>tu (f a)),(tu z)]=.ok (tu ((rng m).filter fun a=>decide (f a=z))):=by
 rw [qd hf];refine ql rfl rfl ?_;have hc:evE ⟨qc p k,p.glb,p.sub,p.cat⟩ (.comp (.enum (.var 0)) [none,none,none,some 1] (.tp [1,2]) (.cmp .eq (.var 2) (.var 3)) (.var 1)) [some (.lst ((rng m).map fun a=>tu (f a))),some ((tu z))]=.ok (.lst ((zO 0 ((rng m).map fun a=>tu (f a))).flatMap fun x=>match x with | .tup [i,d]=>(match qg .eq d ((tu z))with | .ok true=>[i]|_=>[])|_=>[])):=by
  refine qnW (c:=[some ((tu z))]) ?_ ?_ rfl ?_
  ·simp [KG.Z]
  ·rw [qmJ];simp [SZ,zb];lia
  ·intro x hx;obtain⟨i,d,hd,rfl⟩:=qnH hx;rw [List.mem_map]at hd;obtain⟨b,hb,rfl⟩:=hd;refine⟨_,_,rfl,?_⟩;have e:qg .eq (tu (f b)) (tu z)=.ok (decide (f b=z)):=qgg (f b) z;simp [KG.Z,e];by_cases q:f b=z
   ·simp [q]
   ·simp [q]
 have he:∀(n j:Nat),((zO j (((List.range' j n).map fun(i:Nat)=>(i:Int)).map fun a=>tu (f a))).flatMap fun x=>match x with | .tup [i,d]=>(match qg .eq d ((tu z))with | .ok true=>[i]|_=>[])|_=>[])=((((List.range' j n).map fun(i:Nat)=>(i:Int)).filter fun a=>decide (f a=z)).map D.int):=by
  intro n
  induction n with
  |zero=>intro j;rfl
  |succ n ih=>
   intro j;rw [List.range'_succ,List.map_cons,List.map_cons,zO,List.flatMap_cons,ih (j+1),List.filter_cons];have e:qg .eq (tu (f j)) (tu z)=.ok (decide (f j=z)):=qgg (f j) z;simp only [e];by_cases q:f j=z
   ·simp [q]
   ·simp [q]
 have he':=he m.toNat 0;rw [←List.range_eq_range']at he';rw [show (List.range m.toNat).map (fun(i:Nat)=>(i:Int))=rng m from rfl]at he';simp [KG.Z,zG,hc,he',b1,seq?]
noncomputable def un(m:Int)(ts:List (Int×Int))(s:List Int):List Int:=(rng m).filter fun a=>decide (mk m ts s a=[])
theorem unheld(B:Web p)(S:qbZ p)(O:Nbr p)(U:Un p){k:Nat}{m:Int}{ts:List (Int×Int)}(h:GW m ts){s:List Int}(g:GS m s):qc p (k+6) "unheld" [wb m ts,tu s]=.ok (tu (un m ts s)):=by
 have e1:=marks_of O (k:=k+3) (rng m) (hd m ts) s g.len (by rw [zb];have:=h.hi;lia);have e2:=places_marked U.places_marked (k:=k+4) m h.hi (fun a=>s.filter fun x=>(hd m ts a).any fun t=>t==x) [];have e2:qc p (k+5) "places_marked" [.lst ((rng m).map fun a=>tu (s.filter fun x=>(hd m ts a).any fun t=>t==x)),.tup []]=_:=e2;rw [qd U.unheld];refine ql rfl rfl ?_;simp [KG.Z,qcL,need_web B h,need_some B S g,hoods B O h,e1,e2];simp [un,mk]
theorem qkZ(B:Web p)(S:qbZ p)(O:Nbr p)(U:Un p)(hf:p.fns "holds_all" = some qaB){k:Nat}{m:Int}{ts:List (Int×Int)}(h:GW m ts){s:List Int}(g:GS m s):qc p (k+7) "holds_all" [wb m ts,tu s]=.ok (.bl (decide (un m ts s=[]))):=by
 have e:qg .eq (tu (un m ts s)) (.tup [])=.ok (decide (un m ts s=[])):=qgg (un m ts s) [];rw [qd hf];refine ql rfl rfl ?_;simp [KG.Z,qaB,unheld B S O U h g,e]
theorem GS.filter{m:Int}(h1:1≤m)(h2:m≤8)(c:Int→Bool):GS m ((rng m).filter c):=
 ⟨(qaZ m).sublist List.filter_sublist,fun i hi=>qcy.mp (List.mem_filter.mp hi).1,Nat.le_trans (List.length_filter_le _ _) (by rw [zb];lia)⟩
theorem qhy:∀{a b:List Int},a.Pairwise (· < ·)→b.Pairwise (· < ·)→(∀x,x∈a↔x∈b)→a=b
 | [],[],_,_,_=>rfl
 | [],y::_,_,_,h=>absurd ((h y).mpr List.mem_cons_self) (by simp)
 |x::_,[],_,_,h=>absurd ((h x).mp List.mem_cons_self) (by simp)
 |x::r,y::t,ha,hb,h=>by
  rw [List.pairwise_cons]at ha hb;have e:x=y:=by
   rcases List.mem_cons.mp ((h x).mp List.mem_cons_self)with q|q
   ·exact q
   ·rcases List.mem_cons.mp ((h y).mpr List.mem_cons_self)with q'|q'
    ·exact q'.symm
    ·have:=hb.1 x q;have:=ha.1 y q';lia
  subst e;rw [qhy ha.2 hb.2 fun z=>⟨fun q=>by
   rcases List.mem_cons.mp ((h z).mp (List.mem_cons_of_mem _ q))with e|e
   ·subst e;have:=ha.1 z q;lia
   ·exact e,fun q=>by
   rcases List.mem_cons.mp ((h z).mpr (List.mem_cons_of_mem _ q))with e|e
   ·subst e;have:=hb.1 z q;lia
   ·exact e⟩]
theorem GS.none{m:Int}:GS m []:=⟨List.Pairwise.nil,by simp,by simp⟩
theorem GS.all{m:Int}(h1:1≤m)(h2:m≤8):GS m (rng m):=⟨qaZ m,fun i hi=>qcy.mp hi,by rw [zb];lia⟩
end
abbrev L(M c:Int)(m:Int)(ts:List (Int×Int))(b a dr ro:Option D):Env:=[some (.int c),some (.int M),some (.int m),some (.int (c/M)),some (.int (c/M%6)),some (.lst (ts.map prD)),b,a,dr,ro]
noncomputable def qmy:S:=(.set (.nm 8) (.op .band (.op .shr (.op .fdiv (.var 3) (.con (.int 6))) (.op .add (.op .fdiv (.op .mul (.var 6) (.op .sub (.var 6) (.con (.int 1)))) (.con (.int 2))) (.var 7))) (.con (.int 1))))
noncomputable def qpZ:S:=(.ite (.cmp .eq (.var 4) (.con (.int 3))) (.cons (.set (.nm 8) (.op .fdiv (.op .mod (.call "_law_stir" (.cons (.var 0) (.cons (.op .add (.op .mul (.con (.int 8)) (.var 7)) (.var 6)) .nil))) (.con (.int 3))) (.con (.int 2)))) .nil) .nil)
noncomputable def qqu:S:=(.ite (.cmp .eq (.var 4) (.con (.int 4))) (.cons (.set (.nm 8) (.op .fdiv (.op .add (.op .mod (.call "_law_stir" (.cons (.var 0) (.cons (.op .add (.op .mul (.con (.int 8)) (.var 7)) (.var 6)) .nil))) (.con (.int 4))) (.con (.int 2))) (.con (.int 3)))) .nil) .nil)
noncomputable def qrX:S:=(.ite (.cmp .eq (.var 4) (.con (.int 5))) (.cons (.set (.nm 9) (.lst (.cons (.cmp .eq (.var 6) (.op .add (.var 7) (.con (.int 1)))) (.cons (.or (.cmp .eq (.var 6) (.op .add (.var 7) (.con (.int 1)))) (.cmp .eq (.op .sub (.var 6) (.var 7)) (.op .sub (.var 2) (.con (.int 1))))) (.cons (.cmp .eq (.var 7) (.con (.int 0))) (.cons (.con (.bl true)) (.cons (.and (.cmp .eq (.var 6) (.op .add (.var 7) (.con (.int 1)))) (.cmp .lt (.op .mod (.var 7) (.con (.int 3))) (.con (.int 2)))) .nil))))))) (.cons (.set (.nm 8) (.bi .int (.cons (.ix (.var 9) (.op .mod (.op .fdiv (.var 3) (.con (.int 6))) (.con (.int 5)))) .nil))) .nil)) .nil)
noncomputable def qrU:S:=(.ite (.cmp .eq (.var 8) (.con (.int 1))) (.cons (.app 5 (.tup (.cons (.var 7) (.cons (.var 6) .nil)))) .nil) .nil)
noncomputable def win:Ss:=(.cons qmy (.cons qpZ (.cons qqu (.cons qrX (.cons qrU .nil)))))
abbrev LQ(M c:Int)(n:Int)(ts:List (Int×Int))(b a:Int):Env→Prop:=fun σ=>∃(i:Int) (v4:Option D),σ=L M c n ts (some (.int b)) (some (.int a)) (some (.int i)) v4
section
variable{p:Pr}{k:Nat}{M c:Int}{n:Int}{ts:List (Int×Int)}{a b:Int}{i:Int}{v3 v4:Option D}{Q:D→Prop}
theorem w0(ha:0≤a)(hb0:0≤b)(hb:b<8):Ends (LQ M c n ts b a) Q (evS (wAt p (k+1)) qmy (L M c n ts (some (.int b)) (some (.int a)) v3 v4)):=by
 have hbs:small b=true:=by simp [small];lia
 have hsh:0≤b * (b-1)/2+a:=by
  have:0≤b * (b-1):=by
   by_cases q:b=0
   ·rw [q];decide
   ·exact Int.mul_nonneg (by lia) (by lia)
  lia
 rw [qmy];simp [KG.Z,op2,hbs,hsh];exact⟨_,_,rfl⟩
theorem w1(B:qfJ p):Ends (LQ M c n ts b a) Q (evS (wAt p (k+1)) qpZ (L M c n ts (some (.int b)) (some (.int a)) (some (.int i)) v4)):=by
 have s8:small 8=true:=by decide
 refine qeW (v:=decide (c/M%6=3)) (by simp [KG.Z,eq_int]) (fun _=>qay (K:=LQ M c n ts b a) ?_ fun _ h=>zy h) fun _=>zy ⟨_,_,rfl⟩
 simp [KG.Z,op2,s8,qkg B._law_stir];exact⟨_,_,rfl⟩
theorem w2(B:qfJ p):Ends (LQ M c n ts b a) Q (evS (wAt p (k+1)) qqu (L M c n ts (some (.int b)) (some (.int a)) (some (.int i)) v4)):=by
 have s8:small 8=true:=by decide
 refine qeW (v:=decide (c/M%6=4)) (by simp [KG.Z,eq_int]) (fun _=>qay (K:=LQ M c n ts b a) ?_ fun _ h=>zy h) fun _=>zy ⟨_,_,rfl⟩
 simp [KG.Z,op2,s8,qkg B._law_stir];exact⟨_,_,rfl⟩
theorem w3:Ends (LQ M c n ts b a) Q (evS (wAt p (k+1)) qrX (L M c n ts (some (.int b)) (some (.int a)) (some (.int i)) v4)):=by
 have hrow:∃b1 b2 b3 b5:Bool,evE (wAt p (k+1)) (.lst (.cons (.cmp .eq (.var 6) (.op .add (.var 7) (.con (.int 1)))) (.cons (.or (.cmp .eq (.var 6) (.op .add (.var 7) (.con (.int 1)))) (.cmp .eq (.op .sub (.var 6) (.var 7)) (.op .sub (.var 2) (.con (.int 1))))) (.cons (.cmp .eq (.var 7) (.con (.int 0))) (.cons (.con (.bl true)) (.cons (.and (.cmp .eq (.var 6) (.op .add (.var 7) (.con (.int 1)))) (.cmp .lt (.op .mod (.var 7) (.con (.int 3))) (.con (.int 2)))) .nil)))))) (L M c n ts (some (.int b)) (some (.int a)) (some (.int i)) v4)=.ok (.lst [.bl b1,.bl b2,.bl b3,.bl true,.bl b5]):=by
  by_cases q1:b=a+1
  ·exact⟨true,true,decide (a=0),decide (a%3<2),by simp [KG.Z,op2,eq_int,lt_int,q1]⟩
  ·exact⟨false,decide (b-a=n-1),decide (a=0),false,by simp [KG.Z,op2,eq_int,lt_int,q1]⟩
 obtain⟨b1,b2,b3,b5,hrow⟩:=hrow;have hix:∃z:Bool,ixD (.lst [.bl b1,.bl b2,.bl b3,.bl true,.bl b5]) (.int (c/M/6%5))=.ok (.bl z):=by
  have:c/M/6%5=0∨c/M/6%5=1∨c/M/6%5=2∨c/M/6%5=3∨c/M/6%5=4:=by lia
  rcases this with h|h|h|h|h<;>rw [h]
  ·exact⟨b1,rfl⟩
  ·exact⟨b2,rfl⟩
  ·exact⟨b3,rfl⟩
  ·exact⟨true,rfl⟩
  ·exact⟨b5,rfl⟩
 obtain⟨z,hix⟩:=hix;have hint:EV.b1 .int [.bl z]=.ok (.int (if z then 1 else 0)):=rfl;refine qeW (v:=decide (c/M%6=5)) (by simp [KG.Z,eq_int]) (fun _=>?_) fun _=>zy ⟨_,_,rfl⟩
 refine qQ (σ:=L M c n ts (some (.int b)) (some (.int a)) (some (.int i)) (some (.lst [.bl b1,.bl b2,.bl b3,.bl true,.bl b5]))) (by rw [zH,hrow];rfl) ?_;refine qay (K:=LQ M c n ts b a) ?_ fun _ h=>zy h
 simp [KG.Z,op2,hix,hint];exact⟨_,_,rfl⟩
theorem w4(hl:ts.length<SZ):Ends (fun σ=>∃(us:List (Int×Int)) (v4:Option D),(us=ts∨us=ts++[(a,b)])∧σ=L M c n us (some (.int b)) (some (.int a)) (some (.int i)) v4) Q (evS (wAt p (k+1)) qrU (L M c n ts (some (.int b)) (some (.int a)) (some (.int i)) v4)):=by
 refine qeW (v:=decide (i=1)) (by simp [KG.Z,eq_int]) (fun _=>?_) fun _=>zy ⟨ts,_,.inl rfl,rfl⟩
 refine qQ (σ:=L M c n (ts++[(a,b)]) (some (.int b)) (some (.int a)) (some (.int i)) v4) ?_ (zy ⟨_,_,.inr rfl,rfl⟩);simp [KG.Z,hl]
 rfl
theorem qqz(B:qfJ p)(ha:0≤a)(hb0:0≤b)(hb:b<8)(hl:ts.length<SZ):Ends (fun σ=>∃(us:List (Int×Int)) (v3 v4:Option D),(us=ts∨us=ts++[(a,b)])∧σ=L M c n us (some (.int b)) (some (.int a)) v3 v4) Q (qe (wAt p (k+1)) win (L M c n ts (some (.int b)) (some (.int a)) v3 v4)):=by
 refine qay (w0 ha hb0 hb) ?_;rintro _ ⟨i,v4,rfl⟩;refine qay (w1 B) ?_;rintro _ ⟨i,v4,rfl⟩;refine qay (w2 B) ?_;rintro _ ⟨i,v4,rfl⟩;refine qay w3 ?_;rintro _ ⟨i,v4,rfl⟩;refine qay (w4 hl) ?_;rintro _ ⟨us,v4,h,rfl⟩;exact zy ⟨us,_,_,h,rfl⟩
end
theorem qja{p:Pr}(B:qfJ p){k:Nat}(M c:Int)(hM:1≤M∧M≤8):∃ts,GW (1+c%M) ts∧qc p (k+2) "_law_web" [.int c,.int M]=.ok (wb (1+c%M) ts):=by
 have q1:=Int.emod_nonneg c (show M≠0 by lia);have q2:=Int.emod_lt_of_pos c (show 0<M by lia);have h1:1≤1+c%M:=by lia
 have h2:1+c%M≤8:=by lia
 have p0:0<M:=by lia
 have p1:M<1000000000000000000000000000000:=by lia
 generalize hn:1+c%M=n at h1 h2 ⊢;have P:=pok n h1 h2
 suffices h:∃d,qc p (k+2) "_law_web" [.int c,.int M]=.ok d∧∃ts,GW n ts∧d=wb n ts by
  obtain⟨d,e,ts,g,rfl⟩:=h;exact⟨ts,g,e⟩
 refine qek (k:=k+1) (τ:=[some (.int c),some (.int M),none,none,none,none,none,none,none,none]) B._law_web rfl rfl ?_;refine qQ (σ:=[some (.int c),some (.int M),some (.int n),none,none,none,none,none,none,none]) (by simp [KG.Z,op2,hn,p0]) ?_;refine qQ (σ:=[some (.int c),some (.int M),some (.int n),some (.int (c/M)),none,none,none,none,none,none]) (by simp [KG.Z,op2,p0,p1]) ?_;refine qQ (σ:=[some (.int c),some (.int M),some (.int n),some (.int (c/M)),some (.int (c/M%6)),none,none,none,none,none]) (by simp [KG.Z,op2,p0,p1]) ?_;refine qQ (σ:=L M c n [] none none none none) (by simp [KG.Z]) ?_;have hm:qh n=true:=by simp [qh];lia
 have s1:qh 1=true:=by decide
 have hr:qS 1 (n-1).toNat=(qgh n).map D.int:=by
  rw [qS,qgh,List.map_map];rfl
 have m1:∀b∈qgh n,0≤b∧b<8:=by
  intro b hb;simp only [qgh,List.mem_map,List.mem_range]at hb;obtain⟨i,hi,rfl⟩:=hb;lia
 refine qbx (ds:=(qgh n).map D.int) (fun r σ=>∃(bs:List Int) (ts:List (Int×Int)) (v1 v2 v3 v4:Option D),r=bs.map D.int∧(∀b∈bs,0≤b∧b<8)∧(ts++bs.flatMap qna).Sublist (qdV n)∧σ=L M c n ts v1 v2 v3 v4) (by rw [←hr];simp [KG.Z,hm,s1]) ⟨_,[],none,none,none,none,rfl,m1,(by rw [qdV];simp),rfl⟩ ?_ ?_
 ·rintro x t σ ⟨bs,ts,v1,v2,v3,v4,e,hb,hs,rfl⟩;cases bs with
  |nil=>cases e
  |cons b bs=>
   rw [List.map_cons]at e;injection e with e1 e2
   subst e1 e2;obtain⟨hb0,hb8⟩:=hb b List.mem_cons_self;refine⟨L M c n ts (some (.int b)) v2 v3 v4,rfl,?_⟩;have hbm:qh b=true:=by simp [qh];lia
   refine qbx (ds:=(rng b).map D.int) (fun r σ=>∃(as:List Int) (ts:List (Int×Int)) (v2 v3 v4:Option D),r=as.map D.int∧(∀a∈as,0≤a)∧(ts++(as.map fun a=>(a,b))++bs.flatMap qna).Sublist (qdV n)∧σ=L M c n ts (some (.int b)) v2 v3 v4) (by rw [←zq];simp [KG.Z,hbm]) ⟨_,ts,_,_,_,rfl,(fun a ha=>(qcy.mp ha).1),(by rw [List.flatMap_cons,←List.append_assoc]at hs;exact hs),rfl⟩ ?_ ?_
   ·rintro x t σ ⟨as,ts,v2,v3,v4,e,ha,hs,rfl⟩;cases as with
    |nil=>cases e
    |cons a as=>
     rw [List.map_cons]at e;injection e with e1 e2
     subst e1 e2;refine⟨L M c n ts (some (.int b)) (some (.int a)) v3 v4,rfl,?_⟩;have hlen:ts.length<SZ:=by
      have h1:=hs.length_le;have h2:=P.len;simp only [List.length_append]at h1;simp only [SZ];lia
     have W:=qqz B (k:=k) (M:=M) (c:=c) (n:=n) (ts:=ts) (v3:=v3) (v4:=v4) (Q:=fun d=>∃ts,GW n ts∧d=wb n ts) (ha a List.mem_cons_self) hb0 hb8 hlen;refine qqJ W ?_;rintro _ ⟨us,v3,v4,h,rfl⟩;refine⟨as,us,_,v3,v4,rfl,fun a' q=>ha a' (List.mem_cons_of_mem _ q),?_,rfl⟩;rcases h with rfl|rfl
     ·refine List.Sublist.trans ?_ hs;simp
     ·simpa using hs
   ·rintro σ ⟨as,ts,v2,v3,v4,e,ha,hs,rfl⟩;cases as with
    |cons a as=>cases e
    |nil=>exact zy ⟨bs,ts,_,_,_,_,rfl,fun b' q=>hb b' (List.mem_cons_of_mem _ q),by simpa using hs,rfl⟩
 ·rintro σ ⟨bs,ts,v1,v2,v3,v4,e,hb,hs,rfl⟩;cases bs with
  |cons b bs=>cases e
  |nil=>
   have hs:ts.Sublist (qdV n):=by simpa using hs
   have hl:ts.length<64:=by have:=hs.length_le;have:=P.len;lia
   refine qeq (d:=wb n (zp ts)) ?_ ⟨_,qow h1 h2 hs,rfl⟩;have e1:=qfd ts hl;have e2:b1 .tuple [.lst ((zp ts).map prD)]=.ok (.tup ((zp ts).map prD)):=rfl;simp [KG.Z,e1,e2]
end KG
namespace KG
open EV
open PySem (Str Builtin.bitAnd Builtin.bitOr)
open L2 (atI ixN ltP)
theorem qmn(a b:Nat):PySem.Builtin.bitAnd (a:Int) (b:Int)=((a &&& b:Nat):Int):=by
 simp [PySem.Builtin.bitAnd]
theorem qiX(a b:Nat):PySem.Builtin.bitOr (a:Int) (b:Int)=((a |||b:Nat):Int):=by
 have h:∀n:Nat,¬ (0≤PySem.Builtin.bitNot (n:Int)):=fun n=>by simp [PySem.Builtin.bitNot];lia
 have e:∀n:Nat,PySem.Builtin.bitNot (PySem.Builtin.bitNot (n:Int))=n:=fun n=>by simp [PySem.Builtin.bitNot];lia
 unfold PySem.Builtin.bitOr;have:PySem.Builtin.bitAnd (PySem.Builtin.bitNot (a:Int)) (PySem.Builtin.bitNot (b:Int))=PySem.Builtin.bitNot (((PySem.Builtin.bitNot (PySem.Builtin.bitNot (a:Int))).toNat ||| (PySem.Builtin.bitNot (PySem.Builtin.bitNot (b:Int))).toNat:Nat):Int):=by
  simp [PySem.Builtin.bitAnd,h a,h b]
 rw [this,e,e,e];simp
theorem qfQ(n:Nat)(i:Nat):PySem.Builtin.bitAnd ((n:Int)/2^i) 1=if n.testBit i then 1 else 0:=by
 have e:((n:Int)/2^i)=((n/2^i:Nat):Int):=by simp
 rw [e,show (1:Int)=((1:Nat):Int)from rfl,qmn,Nat.and_one_is_mod,Nat.testBit_eq_decide_div_mod_eq];by_cases h:n/2^i%2=1
 ·simp [h]
 ·have:n/2^i%2=0:=by lia
  simp [this]
noncomputable def bs(m:Int)(n:Nat):List Int:=(rng m).filter fun i=>n.testBit i.toNat
theorem qdG{m:Int}(h:m≤8)(n:Nat):GS m (bs m n):=
 ⟨(qaZ m).sublist List.filter_sublist,fun i hi=>qcy.mp (List.mem_filter.mp hi).1,Nat.le_trans (List.length_filter_le _ _) (by rw [zb];lia)⟩
theorem quv{m:Int}{n:Nat}{i:Int}:i∈bs m n↔(0≤i∧i<m)∧n.testBit i.toNat=true:=by
 rw [bs,List.mem_filter,qcy]
noncomputable def subs:Nat→List (List Int)
 | 0=>[[]]
 |j+1=>subs j++(subs j).map (· ++ [(j:Int)])
theorem qfC(m:Int)(h1:1≤m)(h2:m≤8):subs m.toNat=(List.range (2^m.toNat)).map (bs m):=by
 have:m=1∨m=2∨m=3∨m=4∨m=5∨m=6∨m=7∨m=8:=by lia
 rcases this with rfl|rfl|rfl|rfl|rfl|rfl|rfl|rfl<;>decide +kernel
theorem qeO:∀j,(subs j).length=2^j
 | 0=>rfl
 |j+1=>by rw [subs,List.length_append,List.length_map,qeO j,Nat.pow_succ];lia
theorem qhB:∀ts:List (List Int),tups? (ts.map tu)=some ts
 | []=>rfl
 |t::r=>by
  show (ints? (t.map D.int)).bind (fun n=>(tups? (r.map tu)).map (n :: ·))=_;rw [ints_map,qhB r];rfl
theorem qeP:∀j,1≤j→∃b r,subs j=[]::b::r
 | 1,_=>⟨_,_,rfl⟩
 |j+2,_=>by
  obtain⟨b,r,e⟩:=qeP (j+1) (by lia);rw [subs,e];exact⟨_,_,rfl⟩
theorem qkV(j:Nat)(h:1≤j):qbL (subs j)=true:=by
 obtain⟨b,r,e⟩:=qeP j h;rw [e];rfl
theorem qil{m:Nat}(h:m≤8):2^m≤256:=Nat.pow_le_pow_right (by decide) h
theorem qey{j:Nat}(h1:1≤j):b1 .sorted [.lst ((subs j).map tu)]=.ok (.lst ((zr (subs j)).map tu)):=by
 have hT:qcc ((subs j).map tu)=.ok (.lst ((zr (subs j)).map tu)):=by
  rw [qcc,qhB];show (if qbL (subs j)=true then _ else _)=_;rw [qkV j h1];rfl
 rw [qfv];obtain⟨b,r,e⟩:=qeP j h1;have hp:pairs? ((subs j).map tu)=none:=by rw [e];rfl
 rw [hp];simp only;rw [hT];split<;>rfl
theorem qcM{p:Pr}(hf:p.fns "all_some" = some zD){k:Nat}{m:Int}{t:D}(h1:1≤m)(h2:m≤8):qc p (k+1) "all_some" [.tup [.int m,t]]=.ok (.lst ((zr (subs m.toNat)).map tu)):=by
 obtain⟨d,e,rfl⟩:∃d,qc p (k+1) "all_some" [.tup [.int m,t]]=.ok d∧d=.lst ((zr (subs m.toNat)).map tu):=by
  refine qek (k:=k) (τ:=[some (.tup [.int m,t]),none,none]) hf rfl rfl ?_;refine qQ (σ:=[some (.tup [.int m,t]),some (.lst ((subs 0).map tu)),none]) (by simp [KG.Z];rfl) ?_;have hm:qh m=true:=by simp [qh];lia
  have hx:ixD (.tup [.int m,t]) (.int 0)=.ok (.int m):=rfl;refine qbx (ds:=(rng m).map D.int) (fun r σ=>∃(j:Nat) (v2:Option D),j≤m.toNat∧r=((List.range' j (m.toNat-j)).map fun(i:Nat)=>(i:Int)).map D.int∧σ=[some (.tup [.int m,t]),some (.lst ((subs j).map tu)),v2]) (by rw [←zq];simp [KG.Z,hm,hx]) ⟨0,none,by lia,by rw [rng,List.range_eq_range'];rfl,rfl⟩ ?_ ?_
  ·rintro x r σ ⟨j,v2,hj,e,rfl⟩;by_cases hjm:j=m.toNat
   ·subst hjm;simp at e
   ·have ej:m.toNat-j=(m.toNat-(j+1))+1:=by lia
    rw [ej,List.range'_succ,List.map_cons,List.map_cons]at e;injection e with e1 e2
    subst e1 e2;refine⟨[some (.tup [.int m,t]),some (.lst ((subs j).map tu)),some (.int j)],rfl,?_⟩;have hl:=qeO j;have hp:=qil (m:=j) (by lia);have hc:evE (wAt p k) (.comp (.seq (.var 1)) [none,none,some 2] (.nm 1) .yes (.op .add (.var 1) (.tup (.cons (.var 2) .nil)))) [some (.tup [.int m,t]),some (.lst ((subs j).map tu)),some (.int j)]=.ok (.lst (((subs j).map (· ++ [(j:Int)])).map tu)):=by
     have he:((subs j).map tu).flatMap (fun x=>match x with | .tup xs=>[D.tup (xs++[.int j])]|_=>[])=((subs j).map (· ++ [(j:Int)])).map tu:=by
      generalize subs j=l
      induction l with
      |nil=>rfl
      |cons a r ih=>rw [List.map_cons,List.flatMap_cons,ih];simp [tu]
     rw [←he];refine qbf (c:=[some (.int j)]) ?_ ?_ rfl ?_
     ·simp [KG.Z,seq?]
     ·simp [SZ];lia
     ·intro x hx;rw [List.mem_map]at hx;obtain⟨s,hs,rfl⟩:=hx;have hsl:s.length≤j:=by
       have:∀(n:Nat) (s:List Int),s∈subs n→s.length≤n:=by
        intro n
        induction n with
        |zero=>intro s hs;simp [subs]at hs;subst hs;simp
        |succ n ih=>
         intro s hs;rw [subs,List.mem_append,List.mem_map]at hs;rcases hs with hs|⟨u,hu,rfl⟩
         ·have:=ih s hs;lia
         ·have:=ih u hu;simp;lia
       exact this j s hs
      have e:op2 .add (tu s) (.tup [.int j])=.ok (.tup (s.map D.int++[.int j])):=by
       rw [op2,if_pos (by simp [SZ];lia)]
      simp [KG.Z,e]
    have e3:op2 .add (.lst ((subs j).map tu)) (.lst (((subs j).map (· ++ [(j:Int)])).map tu))=.ok (.lst ((subs (j+1)).map tu)):=by
     rw [op2,if_pos (by simp [SZ];lia),subs,List.map_append]
    refine qQ (σ:=[some (.tup [.int m,t]),some (.lst ((subs (j+1)).map tu)),some (.int j)]) (by rw [zH,qV,hc,qw];simp only [zE,List.getElem?_cons_succ,List.getElem?_cons_zero,R.bind_ok];rw [e3];rfl) (zy ⟨j+1,_,by lia,rfl,rfl⟩)
  ·rintro σ ⟨j,v2,hj,e,rfl⟩;have:j=m.toNat:=by
    have:=congrArg List.length e;simp at this;lia
   subst this;exact qeq (d:=.lst ((zr (subs m.toNat)).map tu)) (by simp [KG.Z,qey (j:=m.toNat) (by lia)]) rfl
 exact e
section
variable{p:Pr}(B:Base p)
include B
theorem qmH{k:Nat}{m:Int}(h1:0≤m)(h2:m≤8)(n:Nat):qc p (k+1) "_law_some" [.int m,.int n]=.ok (tu (bs m n)):=by
 rw [qd B._law_some];refine ql rfl rfl ?_;have hc:evE ⟨qc p k,p.glb,p.sub,p.cat⟩ (.comp (.rng (.var 0)) [none,none,some 1] (.nm 1) (.cmp .eq (.op .band (.op .shr (.var 2) (.var 1)) (.con (.int 1))) (.con (.int 1))) (.var 1)) [some (.int m),some (.int n)]=.ok (.lst ((bs m n).map D.int)):=by
  rw [bs,←qcV,←zq];refine qbf (c:=[some (.int n)]) ?_ ?_ rfl ?_
  ·have:qh m=true:=by simp [qh];lia
   simp [KG.Z,this]
  ·simp [qS,SZ];lia
  ·intro x hx;rw [zq,List.mem_map]at hx;obtain⟨b,hb,rfl⟩:=hx;obtain⟨b0,b1⟩:=qcy.mp hb;have e:=qfQ n b.toNat;have e2:qg .eq (.int (PySem.Builtin.bitAnd ((n:Int)/2^b.toNat) 1)) (.int 1)=.ok (n.testBit b.toNat):=by
    rw [e,eq_int];cases n.testBit b.toNat<;>rfl
   simp [KG.Z,op2,b0,e2];cases n.testBit b.toNat<;>simp
 simp [KG.Z,qaY,hc,b1,seq?]
theorem all_some{k:Nat}{m:Int}{t:D}(h1:1≤m)(h2:m≤8):qc p (k+1) "all_some" [.tup [.int m,t]]=.ok (.lst ((zr (subs m.toNat)).map tu)):=qcM B.all_some h1 h2
end
end KG
namespace KG
open EV
open PySem (Str)
open L2 (atI ixN ltP)
theorem qmo(m:Int)(h1:1≤m)(h2:m≤8)(n:Nat)(h:n<2^m.toNat):((bs m n).map fun i=>(1:Int) * 2^i.toNat).sum=n:=by
 have:m=1∨m=2∨m=3∨m=4∨m=5∨m=6∨m=7∨m=8:=by lia
 have key:∀m:Fin 9,1≤m.val→∀n,n<2^m.val→((bs (m.val:Int) n).map fun i=>(1:Int) * 2^i.toNat).sum=n:=by decide +kernel
 have:=key ⟨m.toNat,by lia⟩ (by show 1≤m.toNat;lia) n h;rw [show ((⟨m.toNat,by lia⟩:Fin 9).val:Int)=m by show (m.toNat:Int)=m;lia]at this;exact this
theorem qdk(i:Int)(h:0≤i)(h':i≤8):opI .shl 1 i=.ok (.int (1 * 2^i.toNat)):=by
 rw [opI,if_pos ⟨h,by lia,by decide⟩]
theorem qbW(i:Int):(1:Int) * 2^i.toNat=((2^i.toNat:Nat):Int):=by simp
section
variable{p:Pr}(B:Base p)
include B
theorem qmL(hf:p.fns "_law_mask" = some qaz){k:Nat}{m:Int}(h1:1≤m)(h2:m≤8){n:Nat}(h:n<2^m.toNat):qc p (k+1) "_law_mask" [tu (bs m n)]=.ok (.int n):=by
 rw [qd hf];refine ql (τ:=[some (tu (bs m n))]) rfl rfl ?_;have G:=qdG h2 n;have hc:evE ⟨qc p k,p.glb,p.sub,p.cat⟩ (.comp (.seq (.var 0)) [none,none] (.nm 1) .yes (.op .shl (.con (.int 1)) (.var 1))) [some (tu (bs m n))]=.ok (.lst (((bs m n).map fun i=>(1:Int) * 2^i.toNat).map D.int)):=by
  rw [List.map_map,←qii];refine qbf (c:=[]) ?_ ?_ rfl ?_
  ·simp [KG.Z,seq?]
  ·simp [SZ];have:=G.len;lia
  ·intro x hx;rw [List.mem_map]at hx;obtain⟨b,hb,rfl⟩:=hx;have e:=qdk b (G.ok b hb).1 (by have:=(G.ok b hb).2;lia);have e2:op2 .shl (.int 1) (.int b)=.ok (.int (1 * 2^b.toNat)):=e;simp [KG.Z,e2]
 have hs:b1 .sum [.lst (((bs m n).map fun i=>(1:Int) * 2^i.toNat).map D.int)]=.ok (.int n):=by
  rw [b1,b11];simp only [qab];rw [ints_map,←qmo m h1 h2 n h];rfl
 show qe _ (.cons (.ret (.bi .sum (.cons _ .nil))) .nil) _=_;rw [qe,zt,qo,qC,hc];simp only [R.bind_ok,qC,hs,R.out_ok]
theorem qga(hf:p.fns "_law_all" = some qaU){k:Nat}{m:Int}(h1:1≤m)(h2:m≤8):qc p (k+2) "_law_all" [.int m]=.ok (.lst ((zr (subs m.toNat)).map tu)):=by
 rw [qd hf];refine ql (τ:=[some (.int m)]) rfl rfl ?_;have hp:=qil (m:=m.toNat) (by lia);have hc:evE ⟨qc p (k+1),p.glb,p.sub,p.cat⟩ (.comp (.rng (.op .shl (.con (.int 1)) (.var 0))) [none,none,some 0] (.nm 1) .yes (.call "_law_some" (.cons (.var 2) (.cons (.var 1) .nil)))) [some (.int m)]=.ok (.lst ((subs m.toNat).map tu)):=by
  have he:(qS 0 (2^m.toNat)).flatMap (fun x=>match x with | .int i=>[tu (bs m i.toNat)]|_=>[])=(subs m.toNat).map tu:=by
   rw [qfC m h1 h2,qS,List.flatMap_map,List.map_map];generalize List.range (2^m.toNat)=l
   induction l with
   |nil=>rfl
   |cons a r ih=>rw [List.flatMap_cons,ih,List.map_cons];simp [tu]
  rw [←he];refine qbf (c:=[some (.int m)]) ?_ ?_ rfl ?_
  ·have e:op2 .shl (.int 1) (.int m)=.ok (.int ((2^m.toNat:Nat):Int)):=by
    show opI .shl 1 m=_;rw [qdk m (by lia) h2,qbW]
   clear he;generalize 2^m.toNat=N at *;have:qh (N:Int)=true:=by simp only [qh,Bool.and_eq_true,decide_eq_true_eq];lia
   simp [KG.Z,e,this]
  ·simp [qS,SZ];lia
  ·intro x hx;simp only [qS,List.mem_map,List.mem_range]at hx;obtain⟨i,hi,rfl⟩:=hx;have e:=qmH B (k:=k) (m:=m) (by lia) h2 i;simp only [Int.zero_add];simp [KG.Z,e]
 have hs:=qey (j:=m.toNat) (by lia);show qe _ (.cons (.ret (.bi .sorted (.cons _ .nil))) .nil) _=_;rw [qe,zt,qo,qC,hc];simp only [R.bind_ok,qC,hs,R.out_ok]
end
noncomputable def near(ts:List (Int×Int))(q i:Nat):Bool:=q==i||ts.any fun t=>(t.1==(q:Int)&&t.2==(i:Int))||(t.1==(i:Int)&&t.2==(q:Int))
abbrev ln(N:List Nat):D:=.lst (N.map fun(x:Nat)=>D.int (x:Int))
structure qcq(m:Int)(ts:List (Int×Int))(N:List Nat):Prop where
 len:N.length=m.toNat
 bit:∀(q:Nat) (h:q<N.length) (i:Nat),N[q].testBit i=near ts q i
theorem qno(q i:Nat):near [] q i=(q==i):=by simp [near]
theorem qmZ(ts:List (Int×Int))(t:Int×Int)(q i:Nat):near (ts++[t]) q i=(near ts q i||((t.1==(q:Int)&&t.2==(i:Int))||(t.1==(i:Int)&&t.2==(q:Int)))):=by
 simp [near,List.any_append,Bool.or_assoc]
theorem qka{m:Int}{ts:List (Int×Int)}{N:List Nat}(h:qcq m ts N){a b:Nat}(hab:a≠b)(ha:a<N.length)(hb:b<N.length):qcq m (ts++[((a:Int),(b:Int))]) ((N.set a (N[a] ||| 2^b)).set b (N[b] ||| 2^a)):=by
 refine⟨by simp [h.len],fun q hq i=>?_⟩;have hq':q<N.length:=by simpa using hq
 rw [qmZ];by_cases qb:q=b
 ·subst qb;have e:((N.set a (N[a] ||| 2^q)).set q (N[q] ||| 2^a))[q]=N[q] ||| 2^a:=by simp
  rw [e,Nat.testBit_or,h.bit q hb i,Nat.testBit_two_pow]
  congr 1
  by_cases z:a=i
  ·subst z;simp
  ·have:((a:Int)==(q:Int))=false:=by simp;lia
   have z2:((a:Int)==(i:Int))=false:=by simp;lia
   simp [z,this,z2]
 ·by_cases qa:q=a
  ·subst qa;have e:((N.set q (N[q] ||| 2^b)).set b (N[b] ||| 2^q))[q]=N[q] ||| 2^b:=by simp [List.getElem_set,Ne.symm qb]
   rw [e,Nat.testBit_or,h.bit q ha i,Nat.testBit_two_pow]
   congr 1
   by_cases z:b=i
   ·subst z;simp
   ·have z2:((b:Int)==(i:Int))=false:=by simp;lia
    have z3:((b:Int)==(q:Int))=false:=by simp;lia
    simp [z,z2,z3]
  ·have e:((N.set a (N[a] ||| 2^b)).set b (N[b] ||| 2^a))[q]=N[q]:=by simp [List.getElem_set,Ne.symm qb,Ne.symm qa]
   have z1:((a:Int)==(q:Int))=false:=by simp;lia
   have z2:((b:Int)==(q:Int))=false:=by simp;lia
   rw [e,h.bit q hq' i];simp [z1,z2]
theorem qod{N:List Nat}{a:Nat}(h:a<N.length):ixD (ln N) (.int (a:Int))=.ok (.int (N[a]:Nat)):=by
 have:=qdP (xs:=N.map fun(x:Nat)=>D.int (x:Int)) (i:=a) (by simpa using h);simp only [ixD];rw [this];simp
theorem qnL{N:List Nat}{a:Nat}(h:a<N.length):ixN (N.map fun(x:Nat)=>D.int (x:Int)).length (a:Int)=some a:=by
 rw [ixN,if_pos (by lia),if_pos (by simp;lia)];simp
theorem qkS(N:List Nat)(a v:Nat):(N.map fun(x:Nat)=>D.int (x:Int)).set a (.int (v:Int))=(N.set a v).map fun(x:Nat)=>D.int (x:Int):=by
 rw [List.map_set]
theorem qjy{p:Pr}(hf:p.fns "_law_masks" = some qaM){k:Nat}{m:Int}{ts:List (Int×Int)}(h:GW m ts):∃N,qcq m ts N∧qc p (k+1) "_law_masks" [wb m ts]=.ok (ln N):=by
 have h1:=h.lo;have h2:=h.hi
 suffices hs:∃d,qc p (k+1) "_law_masks" [wb m ts]=.ok d∧∃N,qcq m ts N∧d=ln N by
  obtain⟨d,e,N,g,rfl⟩:=hs;exact⟨N,g,e⟩
 refine qek (k:=k) (τ:=[some (wb m ts),none,none,none]) hf rfl rfl ?_;have hm:qh m=true:=by simp [qh];lia
 have hx:ixD (wb m ts) (.int 0)=.ok (.int m):=rfl;have hy:ixD (wb m ts) (.int 1)=.ok (.tup (ts.map prD)):=rfl;have hc:evE (wAt p k) (.comp (.rng (.ix (.var 0) (.con (.int 0)))) [none,none] (.nm 1) .yes (.op .shl (.con (.int 1)) (.var 1))) [some (wb m ts),none,none,none]=.ok (ln ((List.range m.toNat).map fun i=>2^i)):=by
  have he:((rng m).map D.int).flatMap (fun x=>match x with | .int i=>[D.int ((2^i.toNat:Nat):Int)]|_=>[])=((List.range m.toNat).map fun i=>2^i).map fun(x:Nat)=>D.int (x:Int):=by
   rw [rng,List.map_map,List.map_map,List.flatMap_map];generalize List.range m.toNat=l
   induction l with
   |nil=>rfl
   |cons a r ih=>rw [List.flatMap_cons,ih,List.map_cons];simp
  rw [ln,←he];refine qbf (c:=[]) ?_ ?_ rfl ?_
  ·rw [←zq];simp [KG.Z,hm,hx]
  ·simp [zb,SZ];lia
  ·intro x hx;rw [List.mem_map]at hx;obtain⟨b,hb,rfl⟩:=hx;have hb':=qcy.mp hb;have e2:op2 .shl (.int 1) (.int b)=.ok (.int ((2^b.toNat:Nat):Int)):=by
    show opI .shl 1 b=_;rw [qdk b hb'.1 (by lia),qbW]
   simp [KG.Z,e2]
 refine qQ (σ:=[some (wb m ts),some (ln ((List.range m.toNat).map fun i=>2^i)),none,none]) (by rw [zH,hc];rfl) ?_;refine qbx (ds:=ts.map prD) (fun r σ=>∃(us vs:List (Int×Int)) (N:List Nat) (v2 v3:Option D),us++vs=ts∧r=vs.map prD∧qcq m us N∧σ=[some (wb m ts),some (ln N),v2,v3]) (by simp [KG.Z,hy,seq?]) ⟨[],ts,_,none,none,rfl,rfl,⟨by simp,fun q hq i=>by rw [qno];simp [Nat.testBit_two_pow];rfl⟩,rfl⟩ ?_ ?_
 ·rintro x r σ ⟨us,vs,N,v2,v3,e,er,hN,rfl⟩;cases vs with
  |nil=>cases er
  |cons t vs=>
   rw [List.map_cons]at er;injection er with e1 e2
   subst e1 e2;have ht:=h.ok t (by rw [←e];simp);obtain⟨a,ha⟩:∃a:Nat,t.1=a:=⟨t.1.toNat,by lia⟩
   obtain⟨b,hb⟩:∃b:Nat,t.2=b:=⟨t.2.toNat,by lia⟩
   have et:t=((a:Int),(b:Int)):=Prod.ext ha hb;subst et;have la:a<N.length:=by rw [hN.len];lia
   have lb:b<N.length:=by rw [hN.len];lia
   have hab:a≠b:=by lia
   refine⟨[some (wb m ts),some (ln N),some (.int a),some (.int b)],rfl,?_⟩;have sh:∀i:Nat,i≤8→op2 .shl (.int 1) (.int i)=.ok (.int ((2^i:Nat):Int)):=fun i hi=>by
    show opI .shl 1 (i:Int)=_;rw [qdk i (by lia) (by lia),qbW];simp
   have bo:∀x y:Nat,op2 .bor (.int x) (.int y)=.ok (.int ((x |||y:Nat):Int)):=fun x y=>by
    show R.ok (D.int (PySem.Builtin.bitOr (x:Int) (y:Int)))=_;rw [qiX]
   have s1:evS (wAt p k) (.seti 1 (.var 2) (.op .bor (.ix (.own 1) (.var 2)) (.op .shl (.con (.int 1)) (.var 3)))) [some (wb m ts),some (ln N),some (.int a),some (.int b)]=.nx [some (wb m ts),some (ln (N.set a (N[a] ||| 2^b))),some (.int a),some (.int b)]:=by
    have e0:evE (wAt p k) (.op .bor (.ix (.own 1) (.var 2)) (.op .shl (.con (.int 1)) (.var 3))) [some (wb m ts),some (ln N),some (.int a),some (.int b)]=.ok (.int ((N[a] ||| 2^b:Nat):Int)):=by
     rw [qV,qV,qy,qw,qw,ze,zd];simp only [zE,List.getElem?_cons_succ,List.getElem?_cons_zero,R.bind_ok];rw [qod la,sh b (by lia)];exact bo _ _
    rw [qas,e0];simp only [R.out_ok,zE,qw,List.getElem?_cons_succ,List.getElem?_cons_zero];rw [qnL la];simp only [List.set_cons_succ,List.set_cons_zero];rw [qkS]
   have la':a<(N.set a (N[a] ||| 2^b)).length:=by simpa using la
   have lb':b<(N.set a (N[a] ||| 2^b)).length:=by simpa using lb
   have eb:(N.set a (N[a] ||| 2^b))[b]=N[b]:=by simp [List.getElem_set,hab]
   have s2:evS (wAt p k) (.seti 1 (.var 3) (.op .bor (.ix (.own 1) (.var 3)) (.op .shl (.con (.int 1)) (.var 2)))) [some (wb m ts),some (ln (N.set a (N[a] ||| 2^b))),some (.int a),some (.int b)]=.nx [some (wb m ts),some (ln ((N.set a (N[a] ||| 2^b)).set b (N[b] ||| 2^a))),some (.int a),some (.int b)]:=by
    have e0:evE (wAt p k) (.op .bor (.ix (.own 1) (.var 3)) (.op .shl (.con (.int 1)) (.var 2))) [some (wb m ts),some (ln (N.set a (N[a] ||| 2^b))),some (.int a),some (.int b)]=.ok (.int ((N[b] ||| 2^a:Nat):Int)):=by
     rw [qV,qV,qy,qw,qw,ze,zd];simp only [zE,List.getElem?_cons_succ,List.getElem?_cons_zero,R.bind_ok];rw [qod lb',eb,sh a (by lia)];exact bo _ _
    rw [qas,e0];simp only [R.out_ok,zE,qw,List.getElem?_cons_succ,List.getElem?_cons_zero];rw [qnL lb'];simp only [List.set_cons_succ,List.set_cons_zero];rw [qkS]
   exact qQ s1 (qQ s2 (zy ⟨us++[((a:Int),(b:Int))],vs,_,_,_,by simpa using e,rfl,qka hN hab la lb,rfl⟩))
 ·rintro σ ⟨us,vs,N,v2,v3,e,er,hN,rfl⟩;have:vs=[]:=by cases vs with|nil=>rfl|cons _ _=>cases er
  subst this;rw [List.append_nil]at e;subst e;exact qeq (d:=ln N) (by simp [KG.Z]) ⟨N,hN,rfl⟩
theorem qgv{p:Pr}(O:qhI p){k:Nat}{m:Int}{ts:List (Int×Int)}(h:GW m ts):∃N,qcq m ts N∧qc p (k+1) "_law_masks" [wb m ts]=.ok (ln N):=qjy O._law_masks h
noncomputable def hold(m:Int)(ts:List (Int×Int))(n i:Nat):Bool:=(List.range m.toNat).any fun q=>n.testBit q&&near ts q i
theorem qoJ(N:List Nat):∀j:Nat,zO j (N.map fun(x:Nat)=>D.int (x:Int))=(List.range' j N.length).map fun(q:Nat)=>.tup [.int (q:Int),.int ((N.getD (q-j) 0:Nat):Int)]:=by
 induction N with
 |nil=>intro j;rfl
 |cons a r ih=>
  intro j;rw [List.map_cons,zO,ih (j+1),List.length_cons,List.range'_succ,List.map_cons]
  congr 1
  ·simp
  ·refine List.map_congr_left fun q hq=>?_
   have:=(List.mem_range'_1.mp hq).1;have e:q-j=(q-(j+1))+1:=by lia
   rw [e,List.getD_cons_succ]
theorem qnr{p:Pr}(hf:p.fns "_law_held" = some qaA){k:Nat}{m:Int}{ts:List (Int×Int)}{N:List Nat}(hN:qcq m ts N)(n:Nat):∃H:Nat,(∀i,H.testBit i=hold m ts n i)∧qc p (k+1) "_law_held" [ln N,.int n]=.ok (.int H):=by
 suffices hs:∃d,qc p (k+1) "_law_held" [ln N,.int n]=.ok d∧∃H:Nat,(∀i,H.testBit i=hold m ts n i)∧d=.int H by
  obtain⟨d,e,H,g,rfl⟩:=hs;exact⟨H,g,e⟩
 refine qek (k:=k) (τ:=[some (ln N),some (.int n),none,none,none]) hf rfl rfl ?_;refine qQ (σ:=[some (ln N),some (.int n),some (.int ((0:Nat):Int)),none,none]) (by simp [KG.Z]) ?_;have hl:=hN.len;refine qbx (ds:=(List.range' 0 N.length).map fun(q:Nat)=>.tup [.int (q:Int),.int ((N.getD q 0:Nat):Int)]) (fun r σ=>∃(j H:Nat) (v3 v4:Option D),j≤N.length∧(r=(List.range' j (N.length-j)).map fun(q:Nat)=>.tup [.int (q:Int),.int ((N.getD q 0:Nat):Int)])∧(∀i,H.testBit i=(List.range j).any fun q=>n.testBit q&&near ts q i)∧σ=[some (ln N),some (.int n),some (.int (H:Int)),v3,v4]) (by have:=qoJ N 0;simp only [Nat.sub_zero]at this;simp [KG.Z,this]) ⟨0,0,none,none,by lia,rfl,by simp,rfl⟩ ?_ ?_
 ·rintro x r σ ⟨j,H,v3,v4,hj,er,hH,rfl⟩;by_cases hjm:j=N.length
  ·subst hjm;simp at er
  ·have ej:N.length-j=(N.length-(j+1))+1:=by lia
   have hj':j<N.length:=by lia
   rw [ej,List.range'_succ,List.map_cons]at er;injection er with e1 e2
   subst e1 e2;have eg:N.getD j 0=N[j]:=by simp [hj']
   rw [eg];refine⟨[some (ln N),some (.int n),some (.int (H:Int)),some (.int (j:Int)),some (.int (N[j]:Nat))],rfl,?_⟩;have e2:qg .eq (.int (PySem.Builtin.bitAnd ((n:Int)/2^j) 1)) (.int 1)=.ok (n.testBit j):=by
    rw [qfQ n j,eq_int];cases n.testBit j<;>rfl
   refine qay (K:=fun σ=>∃H':Nat,(∀i,H'.testBit i=(List.range (j+1)).any fun q=>n.testBit q&&near ts q i)∧σ=[some (ln N),some (.int n),some (.int (H':Int)),some (.int (j:Int)),some (.int (N[j]:Nat))]) ?_ ?_
   ·refine qeW (v:=n.testBit j) (by simp [KG.Z,op2,e2]) (fun q=>?_) fun q=>zy ⟨H,fun i=>?_,rfl⟩
    ·refine qQ (σ:=[some (ln N),some (.int n),some (.int ((H |||N[j]:Nat):Int)),some (.int (j:Int)),some (.int (N[j]:Nat))]) (by simp [KG.Z,op2,qiX]) (zy ⟨H |||N[j],fun i=>?_,rfl⟩);rw [Nat.testBit_or,hH,hN.bit j hj' i,List.range_succ,List.any_append];simp [q]
    ·rw [hH,List.range_succ,List.any_append];simp [q]
   ·rintro _ ⟨H',hH',rfl⟩;exact zy ⟨j+1,H',_,_,by lia,rfl,hH',rfl⟩
 ·rintro σ ⟨j,H,v3,v4,hj,er,hH,rfl⟩;have:j=N.length:=by
   have:=congrArg List.length er;simp at this;lia
  subst this;exact qeq (d:=.int (H:Int)) (by simp [KG.Z]) ⟨H,fun i=>by rw [hH,hold,hl],rfl⟩
theorem qcR(a b:Int)(t:Int×Int)(ht:t.1<t.2):(t.1==mn a b&&t.2==mx a b)=((t.1==a&&t.2==b)||(t.1==b&&t.2==a)):=by
 rw [Bool.eq_iff_iff];simp only [mn,mx,Bool.and_eq_true,Bool.or_eq_true,beq_iff_eq];split<;>split<;>lia
theorem qee{m:Int}{ts:List (Int×Int)}(h:GW m ts)(q i:Nat):near ts q i=(q==i||qaD ts q i):=by
 rw [near,qaD]
 congr 1
 rw [Bool.eq_iff_iff,List.any_eq_true,List.any_eq_true];constructor
 ·rintro⟨t,ht,e⟩;exact⟨t,ht,by rw [qcR _ _ t (h.ok t ht).2.1];exact e⟩
 ·rintro⟨t,ht,e⟩;exact⟨t,ht,by rw [qcR _ _ t (h.ok t ht).2.1]at e;exact e⟩
theorem qcO(ts:List (Int×Int))(a b:Int):qaD ts a b=qaD ts b a:=by
 rw [qaD,qaD]
 congr 1;funext t
 rw [Bool.eq_iff_iff];simp only [mn,mx,Bool.and_eq_true,beq_iff_eq];split<;>split<;>lia
theorem qdQ{m:Int}{ts:List (Int×Int)}{a b:Int}:b∈hd m ts a↔(0≤b∧b<m)∧(b=a∨qaD ts a b=true):=by
 rw [hd,List.mem_filter,qcy];simp
theorem qkP{m:Int}{ts:List (Int×Int)}(h:GW m ts)(n:Nat)(i:Nat)(hi:(i:Int)<m):(mk m ts (bs m n) (i:Int)=[])↔hold m ts n i=false:=by
 rw [mk,List.filter_eq_nil_iff,hold,List.any_eq_false];constructor
 ·intro hh q hq;have hq':(q:Int)<m:=by have:=List.mem_range.mp hq;lia
  have:=fun hb=>hh (q:Int) (quv.mpr ⟨⟨by lia,hq'⟩,hb⟩)
  simp only [List.any_eq_true,beq_iff_eq,exists_eq_right,qdQ]at this;intro hz;simp only [Bool.and_eq_true]at hz;refine this (by simpa using hz.1) ⟨⟨by lia,hq'⟩,?_⟩;have z:=hz.2;rw [qee h]at z;simp only [Bool.or_eq_true,beq_iff_eq]at z;rcases z with z|z
  ·left;lia
  ·right;rw [qcO];exact z
 ·intro hh x hx;obtain⟨⟨x0,xm⟩,xb⟩:=quv.mp hx;simp only [List.any_eq_true,beq_iff_eq,exists_eq_right,qdQ];rintro⟨_,hz⟩;refine hh x.toNat (List.mem_range.mpr (by lia)) ?_;simp only [Bool.and_eq_true];refine⟨xb,?_⟩;rw [qee h];simp only [Bool.or_eq_true,beq_iff_eq];rcases hz with hz|hz
  ·left;lia
  ·right;rw [qcO,show ((x.toNat:Nat):Int)=x by lia];exact hz
theorem qoz{m:Int}{ts:List (Int×Int)}(h:GW m ts)(n i:Nat)(hi:m.toNat≤i):hold m ts n i=false:=by
 rw [hold,List.any_eq_false];intro q hq;have hq':=List.mem_range.mp hq;simp only [Bool.and_eq_true,not_and];intro _;simp only [near,Bool.or_eq_true,beq_iff_eq,List.any_eq_true,Bool.and_eq_true,not_or,not_exists,not_and];refine⟨by lia,fun t ht=>?_⟩;have:=h.ok t ht;constructor<;>intro _<;>lia
theorem qbT{m:Int}(h1:1≤m)(h2:m≤8){s:List Int}(hs:s∈zr (subs m.toNat)):∃n,n<2^m.toNat∧s=bs m n:=by
 have:=(qbt _).mem_iff.mp hs;rw [qfC m h1 h2,List.mem_map]at this;obtain⟨n,hn,rfl⟩:=this;exact⟨n,List.mem_range.mp hn,rfl⟩
theorem qpr{m:Int}(h1:1≤m)(h2:m≤8){n:Nat}(hn:n<2^m.toNat):bs m n∈zr (subs m.toNat):=by
 refine(qbt _).mem_iff.mpr ?_;rw [qfC m h1 h2,List.mem_map];exact⟨n,List.mem_range.mpr hn,rfl⟩
theorem sub_len{m:Int}(h2:m≤8):(zr (subs m.toNat)).length≤256:=by
 rw [(qbt _).length_eq,qeO];exact qil (by lia)
noncomputable def hz(m:Int)(ts:List (Int×Int))(s:List Int):Bool:=(rng m).all fun a=>!(mk m ts s a).isEmpty
noncomputable def hl(m:Int)(ts:List (Int×Int)):List (List Int):=(zr (subs m.toNat)).filter (hz m ts)
theorem qdO{p:Pr}(B:Web p)(O:Nbr p)(ha:p.fns "all_some" = some zD)(hf:p.fns "all_holding" = some zQ){k:Nat}{m:Int}{ts:List (Int×Int)}(h:GW m ts):qc p (k+6) "all_holding" [wb m ts]=.ok (.lst ((hl m ts).map tu)):=by
 have h1:=h.lo;have h2:=h.hi;rw [qd hf];refine ql (τ:=[some (wb m ts),none]) rfl rfl ?_;have e0:=hoods B O (k:=k) h;have hc:evE ⟨qc p (k+5),p.glb,p.sub,p.cat⟩ (.comp (.seq (.call "all_some" (.cons (.var 0) .nil))) [none,none,some 1] (.nm 1) (.cmp .notin (.tup .nil) (.call "marks_of" (.cons (.var 2) (.cons (.var 1) .nil)))) (.var 1)) [some (wb m ts),some (.tup ((rng m).map fun a=>tu (hd m ts a)))]=.ok (.lst ((hl m ts).map tu)):=by
  refine qco (f:=tu) (c:=[some (.tup ((rng m).map fun a=>tu (hd m ts a)))]) (hz m ts) tu (qav ?_) ?_ rfl ?_
  ·simp [KG.Z,qcM ha (k:=k+4) (t:=.tup (ts.map prD)) h1 h2]
  ·have:=sub_len h2;simp [SZ];lia
  ·intro s hs;obtain⟨n,hn,rfl⟩:=qbT h1 h2 hs;have e1:=marks_of O (k:=k+3) (rng m) (hd m ts) (bs m n) (qdG h2 n).len (by rw [zb];lia);have e2:=qiu (rng m) (fun a=>(bs m n).filter fun x=>(hd m ts a).any fun t=>t==x);refine⟨?_,fun _=>rfl⟩;rw [qcN];have a1:evE ⟨qc p (k+5),p.glb,p.sub,p.cat⟩ (.call "marks_of" (.cons (.var 2) (.cons (.var 1) .nil))) [none,some (tu (bs m n)),some (.tup ((rng m).map fun a=>tu (hd m ts a)))]=.ok (.lst ((rng m).map fun a=>tu ((bs m n).filter fun x=>(hd m ts a).any fun t=>t==x))):=by
    rw [qz];show qc p (k+5) "marks_of" [.tup ((rng m).map fun a=>tu (hd m ts a)),tu (bs m n)]=_;exact e1
   have a0:evE ⟨qc p (k+5),p.glb,p.sub,p.cat⟩ (.tup .nil) [none,some (tu (bs m n)),some (.tup ((rng m).map fun a=>tu (hd m ts a)))]=.ok (.tup []):=by simp [KG.Z]
   rw [a1,a0];simp only [R.bind_ok];rw [e2]
   rfl
 show qe _ (.cons (.set (.nm 1) (.call "hoods" (.cons (.var 0) .nil))) (.cons (.ret _) .nil)) _=_;refine zh (σ:=[some (wb m ts),some (.tup ((rng m).map fun a=>tu (hd m ts a)))]) (by simp [KG.Z,e0]) ?_;rw [qe,zt,hc]
 rfl
theorem all_holding{p:Pr}(B:Base p)(O:qhI p)(hf:p.fns "all_holding" = some zQ){k:Nat}{m:Int}{ts:List (Int×Int)}(h:GW m ts):qc p (k+6) "all_holding" [wb m ts]=.ok (.lst ((hl m ts).map tu)):=qdO B.toWeb O.toNbr B.all_some hf h
theorem qmE{m:Int}{ts:List (Int×Int)}(h:GW m ts){n H:Nat}(hH:∀i,H.testBit i=hold m ts n i):decide (((H:Nat):Int)=((2^m.toNat:Nat):Int)-1)=hz m ts (bs m n):=by
 have h1:=h.lo;have hp:0<2^m.toNat:=Nat.two_pow_pos _;have e1:(((H:Nat):Int)=((2^m.toNat:Nat):Int)-1)↔H=2^m.toNat-1:=by lia
 rw [decide_eq_decide.mpr e1,Bool.eq_iff_iff,decide_eq_true_eq,hz,List.all_eq_true];constructor
 ·intro e a ha;obtain⟨a0,am⟩:=qcy.mp ha;have:=hH a.toNat;rw [e,Nat.testBit_two_pow_sub_one,decide_eq_true (by lia)]at this;have z:=qkP h n a.toNat (by lia);rw [←this,show ((a.toNat:Nat):Int)=a by lia]at z;cases q:mk m ts (bs m n) a with
  |nil=>exact absurd (z.mp q) (by simp)
  |cons _ _=>rfl
 ·intro e;refine Nat.eq_of_testBit_eq fun i=>?_
  rw [hH,Nat.testBit_two_pow_sub_one];by_cases hi:i<m.toNat
  ·rw [decide_eq_true hi];have:=e (i:Int) (qcy.mpr ⟨by lia,by lia⟩);cases q:hold m ts n i with
   |true=>rfl
   |false=>
    rw [(qkP h n i (by lia)).mpr q]at this;cases this
  ·rw [decide_eq_false hi];exact qoz h n i (by lia)
theorem qiL{p:Pr}(B:Base p)(O:qhI p)(hm:p.fns "_law_mask" = some qaz)(ha:p.fns "_law_all" = some qaU)(hh:p.fns "_law_held" = some qaA)(hf:p.fns "_law_holding" = some qan){k:Nat}{m:Int}{ts:List (Int×Int)}(h:GW m ts):qc p (k+3) "_law_holding" [wb m ts]=.ok (.lst ((hl m ts).map tu)):=by
 have h1:=h.lo;have h2:=h.hi;rw [qd hf];refine ql (τ:=[some (wb m ts),none,none]) rfl rfl ?_;obtain⟨N,hN,e0⟩:=qgv O (k:=k+1) h;have ex:ixD (wb m ts) (.int 0)=.ok (.int m):=rfl;have esh:op2 .shl (.int 1) (.int m)=.ok (.int ((2^m.toNat:Nat):Int)):=by
  show opI .shl 1 m=_;rw [qdk m (by lia) h2,qbW]
 have esb:∀X:Int,op2 .sub (.int X) (.int 1)=.ok (.int (X-1)):=fun _=>rfl
 have hc:evE ⟨qc p (k+2),p.glb,p.sub,p.cat⟩ (.comp (.seq (.call "_law_all" (.cons (.ix (.var 0) (.con (.int 0))) .nil))) [none,none,some 2,some 1] (.nm 1) (.cmp .eq (.call "_law_held" (.cons (.var 3) (.cons (.call "_law_mask" (.cons (.var 1) .nil)) .nil))) (.var 2)) (.var 1)) [some (wb m ts),some (ln N),some (.int (((2^m.toNat:Nat):Int)-1))]=.ok (.lst ((hl m ts).map tu)):=by
  refine qco (f:=tu) (c:=[some (.int (((2^m.toNat:Nat):Int)-1)),some (ln N)]) (hz m ts) tu (qav ?_) ?_ rfl ?_
  ·simp [KG.Z,ex,qga B ha (k:=k) h1 h2]
  ·have:=sub_len h2;simp [SZ];lia
  ·intro s hs;obtain⟨n,hn,rfl⟩:=qbT h1 h2 hs;obtain⟨H,hH,e1⟩:=qnr hh (k:=k+1) hN n;have e2:=qmL B hm (k:=k+1) h1 h2 hn;refine⟨?_,fun _=>rfl⟩;have e3:=qmE h hH;generalize ((2^m.toNat:Nat):Int)-1=X at *;simp [KG.Z,e2,e1,eq_int,e3]
 show qe _ (.cons (.set (.nm 1) (.call "_law_masks" (.cons (.var 0) .nil))) (.cons (.set (.nm 2) _) (.cons (.ret _) .nil))) _=_;refine zh (σ:=[some (wb m ts),some (ln N),none]) (by simp [KG.Z,e0]) ?_;refine zh (σ:=[some (wb m ts),some (ln N),some (.int (((2^m.toNat:Nat):Int)-1))]) (by generalize ((2^m.toNat:Nat):Int)=X at *;simp [KG.Z,ex,esh,esb]) ?_;rw [qe,zt,hc]
 rfl
theorem qki{m:Int}{ts:List (Int×Int)}(h:GW m ts):∃s r,hl m ts=s::r:=by
 have h1:=h.lo;have h2:=h.hi;have hm:bs m (2^m.toNat-1)∈hl m ts:=by
  rw [hl,List.mem_filter];refine⟨qpr h1 h2 (by have:=Nat.two_pow_pos m.toNat;lia),?_⟩;rw [hz,List.all_eq_true];intro a ha;obtain⟨a0,am⟩:=qcy.mp ha;have:a∈mk m ts (bs m (2^m.toNat-1)) a:=by
   rw [mk,List.mem_filter];refine⟨quv.mpr ⟨⟨a0,am⟩,by rw [Nat.testBit_two_pow_sub_one];simp;lia⟩,?_⟩;simp only [List.any_eq_true,beq_iff_eq,exists_eq_right,qdQ];exact⟨⟨a0,am⟩,by simp⟩
  cases q:mk m ts (bs m (2^m.toNat-1)) a with
  |nil=>rw [q]at this;cases this
  |cons _ _=>rfl
 cases q:hl m ts with
 |nil=>rw [q]at hm;cases hm
 |cons s r=>exact⟨s,r,rfl⟩
theorem qhd{m:Int}{ts:List (Int×Int)}(h:GW m ts){s:List Int}(hs:s∈hl m ts):GS m s:=by
 obtain⟨n,_,rfl⟩:=qbT h.lo h.hi (List.mem_filter.mp hs).1;exact qdG h.hi n
theorem qqh{m:Int}{ts:List (Int×Int)}(h:GW m ts):(hl m ts).length≤256:=Nat.le_trans (List.length_filter_le _ _) (sub_len h.hi)
structure Fw(p:Pr):Prop where
 all_some:p.fns "all_some" = some zD
 all_holding:p.fns "all_holding" = some zQ
 all_fewest:p.fns "all_fewest" = some qbz
 first_fewest:p.fns "first_fewest" = some qam
 fewest:p.fns "fewest" = some qcF
structure Sp(p:Pr):Prop where
 spare:p.fns "spare" = some qdd
 spare_by:p.fns "spare_by" = some qcv
noncomputable def ow(m:Int)(ts:List (Int×Int))(s:List Int)(x:Int):List Int:=(rng m).filter fun a=>decide (mk m ts s a=[x])
noncomputable def sp(m:Int)(ts:List (Int×Int))(s:List Int):List Int:=s.filter fun x=>decide (ow m ts s x=[])
theorem qlx(l:List Int)(f:Int→List Int)(z:List Int):qg .notin (tu z) (.lst (l.map fun a=>tu (f a)))=.ok (decide (l.filter (fun a=>decide (f a=z))=[])):=by
 have h:(l.map fun a=>tu (f a)).all D.asks=true:=by
  simp only [List.all_eq_true,List.mem_map];rintro x ⟨a,_,rfl⟩;exact qbn _
 simp only [qg,seq?,qbn,h,Bool.and_self,if_true]
 congr 1
 rw [inD,List.any_map];have e:∀a,((fun y=>y.eqv (tu z))∘fun a=>tu (f a)) a=decide (f a=z):=fun a=>by
  show D.eqv (.tup ((f a).map D.int)) (.tup (z.map D.int))=_;rw [D.eqv,qeI]
 rw [show (l.any ((fun y=>y.eqv (tu z))∘fun a=>tu (f a)))=l.any fun a=>decide (f a=z)from by congr 1;funext a;exact e a]
 induction l with
 |nil=>rfl
 |cons a r ih=>
  by_cases q:f a=z
  ·simp [List.filter_cons,q]
  ·simp only [List.any_cons,List.filter_cons,q,decide_false,Bool.false_or,Bool.false_eq_true,if_false];refine ih ?_;simp only [List.all_eq_true,List.mem_map];rintro x ⟨a,_,rfl⟩;exact qbn _
theorem qko(ns:List Int)(a:Int):qg .notin (.int a) (.tup (ns.map D.int))=.ok (!ns.any fun t=>t==a):=by
 have h:=qjl ns a;simp only [qg,seq?]at h ⊢;split at h
 ·rename_i q
  rw [if_pos q];injection h with h
  rw [h]
 ·cases h
section
variable{p:Pr}(B:Web p)(O:Nbr p)(S:qbZ p)
include B O S
theorem spare(P:Sp p){k:Nat}{m:Int}{ts:List (Int×Int)}(h:GW m ts){s:List Int}(g:GS m s):qc p (k+6) "spare" [wb m ts,tu s]=.ok (tu (sp m ts s)):=by
 have e1:=marks_of O (k:=k+3) (rng m) (hd m ts) s g.len (by rw [zb];have:=h.hi;lia);have z1:=need_web B (k:=k+1) h;have z2:qc p (k+5) "need_some" [wb m ts,tu s]=.ok .non:=need_some B S (k:=k) (t:=.tup (ts.map prD)) g;have z3:=hoods B O (k:=k) h;have hl:=g.len;have e2:qc p (k+5) "spare_by" [.lst ((rng m).map fun a=>tu (s.filter fun x=>(hd m ts a).any fun t=>t==x)),tu s]=.ok (tu (sp m ts s)):=by
  rw [qd P.spare_by];refine ql (τ:=[some (.lst ((rng m).map fun a=>tu (s.filter fun x=>(hd m ts a).any fun t=>t==x))),some (tu s)]) rfl rfl ?_;have hc:evE ⟨qc p (k+4),p.glb,p.sub,p.cat⟩ (.comp (.seq (.var 1)) [none,none,some 0] (.nm 1) (.cmp .notin (.tup (.cons (.var 1) .nil)) (.var 2)) (.var 1)) [some (.lst ((rng m).map fun a=>tu (s.filter fun x=>(hd m ts a).any fun t=>t==x))),some (tu s)]=.ok (.lst ((sp m ts s).map D.int)):=by
   refine qco (f:=D.int) (c:=[some (.lst ((rng m).map fun a=>tu (s.filter fun x=>(hd m ts a).any fun t=>t==x)))]) (fun x=>decide (ow m ts s x=[])) D.int (qdh rfl) (by simp [SZ];lia) rfl fun x hx=>⟨?_,fun _=>rfl⟩
   have q:=qlx (rng m) (mk m ts s) [x];exact q
  show qe _ (.cons (.ret (.bi .tuple (.cons _ .nil))) .nil) _=_;rw [qe,zt,qo,qC,hc];simp only [R.bind_ok,qC]
  rfl
 generalize hW:wb m ts=WB at *;generalize D.lst ((rng m).map fun a=>tu (s.filter fun x=>(hd m ts a).any fun t=>t==x))=MK at *;generalize (D.tup ((rng m).map fun a=>tu (hd m ts a)))=HD at *;generalize tu s=TS at *;rw [qd P.spare];refine ql rfl rfl ?_;simp [KG.Z,qdd,z1,z2,z3,e1,e2]
end
noncomputable def lsm(L:List (List Int)):Int:=match L.map (fun s=>(s.length:Int))with
 | []=>0
 |x::r=>zm false x r
noncomputable def few(L:List (List Int)):List (List Int):=L.filter fun s=>decide ((s.length:Int)=lsm L)
theorem qkW(i:Int)(r:List Int):zm false i r∈i::r:=by
 induction r generalizing i with
 |nil=>simp [zm]
 |cons j r ih=>
  rw [zm];have:=ih (if j<i then j else i);simp only [Bool.false_eq_true,if_false];rcases List.mem_cons.mp this with e|e
  ·rw [e];split<;>simp
  ·exact List.mem_cons_of_mem _ (List.mem_cons_of_mem _ e)
theorem qkA{L:List (List Int)}(h:L≠[]):∃s r,few L=s::r∧(s.length:Int)=lsm L:=by
 obtain⟨a,r,rfl⟩:∃a r,L=a::r:=by cases L with|nil=>exact absurd rfl h|cons a r=>exact⟨a,r,rfl⟩
 have hm:lsm (a::r)∈(a::r).map fun s=>(s.length:Int):=by
  rw [lsm,List.map_cons];exact qkW _ _
 obtain⟨s,hs,e⟩:=List.mem_map.mp hm;have:s∈few (a::r):=List.mem_filter.mpr ⟨hs,by simpa using e⟩;cases q:few (a::r)with
 |nil=>rw [q]at this;cases this
 |cons t u=>
  have ht:t∈few (a::r):=by rw [q];exact List.mem_cons_self
  exact⟨t,u,rfl,by simpa using (List.mem_filter.mp ht).2⟩
section
variable{w:W}{τ:Env}{L:List (List Int)}
theorem qpt(hL:L≠[])(hz:L.length≤256)(h:τ[1]? = some (some (.lst (L.map tu)))):evE w (.bi .min (.cons (.comp (.seq (.var 1)) [none,none] (.nm 1) .yes (.bi .len (.cons (.var 1) .nil))) .nil)) τ=.ok (.int (lsm L)):=by
 have h1:evE w (.comp (.seq (.var 1)) [none,none] (.nm 1) .yes (.bi .len (.cons (.var 1) .nil))) τ=.ok (.lst ((L.map fun s=>(s.length:Int)).map D.int)):=by
  rw [List.map_map];refine qdm (f:=tu) (c:=[]) (fun s=>.int s.length) (qav (by rw [qw,zE,h])) (by simp [SZ];lia) rfl fun s _=>?_
  simp [KG.Z,qat]
 have h2:b1 .min [.lst ((L.map fun s=>(s.length:Int)).map D.int)]=.ok (.int (lsm L)):=by
  cases L with
  |nil=>exact absurd rfl hL
  |cons a r=>rw [lsm,List.map_cons];exact qmr
 rw [qo,qC,h1];simp only [R.bind_ok,qC,h2]
theorem qnF(hz:L.length≤256)(h:τ[1]? = some (some (.lst (L.map tu))))(h2:τ[2]? = some (some (.int (lsm L)))):evE w (.comp (.seq (.var 1)) [none,none,some 2] (.nm 1) (.cmp .eq (.bi .len (.cons (.var 1) .nil)) (.var 2)) (.var 1)) τ=.ok (.lst ((few L).map tu)):=by
 refine qco (f:=tu) (c:=[some (.int (lsm L))]) (fun s=>decide ((s.length:Int)=lsm L)) tu (qav (by rw [qw,zE,h])) (by simp [SZ];lia) (by simp [qaT,h2]) fun s _=>⟨?_,fun _=>rfl⟩
 simp [KG.Z,qat,eq_int]
end
theorem all_fewest{p:Pr}(B:Web p)(O:Nbr p)(F:Fw p){k:Nat}{m:Int}{ts:List (Int×Int)}(h:GW m ts):qc p (k+7) "all_fewest" [wb m ts]=.ok (.lst ((few (hl m ts)).map tu)):=by
 obtain⟨a,r,hL⟩:=qki h;have hn:hl m ts≠[]:=by rw [hL];simp
 have hz:=qqh h;have e0:=qdO B O F.all_some F.all_holding (k:=k) h;have e1:=need_web B (k:=k+2) h;rw [qd F.all_fewest];refine ql (τ:=[some (wb m ts),none,none]) rfl rfl ?_;show qe _ (.cons (.exp _) (.cons (.set (.nm 1) _) (.cons (.set (.nm 2) _) (.cons (.ret _) .nil)))) _=_;refine zh (σ:=[some (wb m ts),none,none]) (by simp [KG.Z,e1]) ?_;refine zh (σ:=[some (wb m ts),some (.lst ((hl m ts).map tu)),none]) (by simp [KG.Z,e0]) ?_;refine zh (σ:=[some (wb m ts),some (.lst ((hl m ts).map tu)),some (.int (lsm (hl m ts)))]) (by rw [zH,qpt hn hz rfl];rfl) ?_;rw [qe,zt,qnF hz rfl rfl];rfl
theorem first_fewest{p:Pr}(B:Web p)(O:Nbr p)(F:Fw p){k:Nat}{m:Int}{ts:List (Int×Int)}(h:GW m ts){s:List Int}{r:List (List Int)}(e:few (hl m ts)=s::r):qc p (k+8) "first_fewest" [wb m ts]=.ok (tu s):=by
 have e1:=all_fewest B O F (k:=k) h;rw [e]at e1;have e2:=ix0 tu s r;rw [List.map_cons]at e1 e2;rw [qd F.first_fewest];refine ql rfl rfl ?_;simp [KG.Z,qam,e1,e2]
theorem fewest{p:Pr}(B:Web p)(O:Nbr p)(F:Fw p){k:Nat}{m:Int}{ts:List (Int×Int)}(h:GW m ts){s:List Int}{r:List (List Int)}(e:few (hl m ts)=s::r):qc p (k+9) "fewest" [wb m ts]=.ok (.int s.length):=by
 rw [qd F.fewest];refine ql rfl rfl ?_;simp [KG.Z,qcF,first_fewest B O F (k:=k) h e,qat]
theorem qeN:∀(i:Int) (r:List Int),∀x∈i::r,zm false i r≤x
 |i,[],x,h=>by simp at h;subst h;simp [zm]
 |i,j::r,x,h=>by
  rw [zm];simp only [Bool.false_eq_true,if_false];have a:=qeN (if j<i then j else i) r (if j<i then j else i) List.mem_cons_self;have b:(if j<i then j else i)≤i∧(if j<i then j else i)≤j:=by split<;>lia
  rcases List.mem_cons.mp h with rfl|h
  ·exact Int.le_trans a b.1
  ·rcases List.mem_cons.mp h with rfl|h
   ·exact Int.le_trans a b.2
   ·exact qeN _ r x (List.mem_cons_of_mem _ h)
theorem qqq{L:List (List Int)}{s:List Int}(h:s∈L):lsm L≤(s.length:Int):=by
 cases L with
 |nil=>cases h
 |cons a r=>rw [lsm,List.map_cons];exact qeN _ _ _ (by rw [←List.map_cons (f:=fun s:List Int=>(s.length:Int))];exact List.mem_map.mpr ⟨s,h,rfl⟩)
theorem qcS:∀(j:Nat) (s:List Int),s.Pairwise (· < ·)→(∀i∈s,0≤i∧i<(j:Int))→s∈subs j
 | 0,s,_,h=>by
  cases s with
  |nil=>simp [subs]
  |cons a r=>have:=h a List.mem_cons_self;lia
 |j+1,s,hp,h=>by
  rw [subs,List.mem_append,List.mem_map];rcases List.eq_nil_or_concat s with rfl|⟨t,x,rfl⟩
  ·exact .inl (qcS j [] .nil (by simp))
  ·rw [List.concat_eq_append]at *;have hp':=List.pairwise_append.mp hp;have hx:=h x (by simp);by_cases e:x=(j:Int)
   ·subst e;exact .inr ⟨t,qcS j t hp'.1 fun i hi=>⟨(h i (by simp [hi])).1,hp'.2.2 i hi _ (by simp)⟩,rfl⟩
   ·refine .inl (qcS j _ hp fun i hi=>⟨(h i hi).1,?_⟩);rcases List.mem_append.mp hi with hi|hi
    ·have:=hp'.2.2 i hi x (by simp);lia
    ·rw [List.mem_singleton.mp hi];lia
theorem qiq{p x:List Int}:∀{l:List (List Int)},x∈qck p l↔x=p∨x∈l
 | []=>by simp [qck]
 |q::r=>by
  rw [qck];split
  ·rw [List.mem_cons,qiq,List.mem_cons];constructor
   ·rintro(h|h|h)
    ·exact .inr (.inl h)
    ·exact .inl h
    ·exact .inr (.inr h)
   ·rintro(h|h|h)
    ·exact .inr (.inl h)
    ·exact .inl h
    ·exact .inr (.inr h)
  ·simp
theorem qlJ{x:List Int}:∀{l:List (List Int)},x∈zr l↔x∈l
 | []=>by simp [zr]
 |q::r=>by rw [zr,qiq,qlJ,List.mem_cons]
theorem qlH{m:Int}(h1:1≤m){s:List Int}(g:GS m s):s∈zr (subs m.toNat):=qlJ.mpr (qcS _ s g.lt fun i hi=>by have:=g.ok i hi;lia)
theorem qnO{m:Int}{ts:List (Int×Int)}{s:List Int}:hz m ts s=decide (un m ts s=[]):=by
 rw [Bool.eq_iff_iff,decide_eq_true_eq,un,List.filter_eq_nil_iff,hz,List.all_eq_true];refine forall_congr' fun a=>forall_congr' fun _=>?_
 cases mk m ts s a<;>simp
theorem qsn{m:Int}{ts:List (Int×Int)}(h1:1≤m){s:List Int}(g:GS m s)(hu:un m ts s=[]):s∈hl m ts:=by
 rw [hl,List.mem_filter];exact⟨qlH h1 g,by rw [qnO,hu];rfl⟩
theorem qhb{m:Int}{ts:List (Int×Int)}{s:List Int}(hs:s∈hl m ts):un m ts s=[]:=by
 rw [hl,List.mem_filter]at hs;have:=hs.2;rw [qnO]at this
 simpa using this
section
variable{p:Pr}(B:Web p)
include B
end
end KG
namespace K26
open PySem PySem.Spec PyProof.Rows L2 EV
noncomputable def top(i:Nat):Stmt:=PySem.Challenge.pw_holdplaces_k26_whole_no_fewer_hold_all.main.body.getD i (.Pass ⟨0,0,0,0⟩)
abbrev qcr:Fn:=KG.qcr
abbrev qaO:Fn:=KG.qaO
abbrev qch:Fn:=KG.qch
abbrev qdl:Fn:=KG.qdl
abbrev qcE:Fn:=KG.qcE
abbrev qcK:Fn:=KG.qcK
abbrev qby:Fn:=KG.qby
abbrev qbo:Fn:=KG.qbo
abbrev qcw:Fn:=KG.qcw
abbrev qbl:Fn:=KG.qbl
abbrev qaS:Fn:=KG.qaS
abbrev qcf:Fn:=KG.qcf
abbrev qbb:Fn:=KG.qbb
noncomputable def zX:Fn:=⟨2,3,false,(.cons (.set (.nm 2) (.call "unheld" (.cons (.var 0) (.cons (.var 1) .nil)))) (.cons (.ite (.val (.var 2)) (.cons .unk .nil) .nil) .nil))⟩
abbrev qcL:Fn:=KG.qcL
abbrev qaB:Fn:=KG.qaB
abbrev qdd:Fn:=KG.qdd
abbrev qci:Fn:=KG.qci
abbrev qbu:Fn:=KG.qbu
abbrev zG:Fn:=KG.zG
abbrev qcv:Fn:=KG.qcv
abbrev zD:Fn:=KG.zD
abbrev zQ:Fn:=KG.zQ
noncomputable def qdJ:Fn:=⟨2,4,false,(.cons (.exp (.call "need_web" (.cons (.var 0) .nil))) (.cons (.exp (.call "need_some" (.cons (.var 0) (.cons (.var 1) .nil)))) (.cons (.exp (.call "need_all" (.cons (.var 0) (.cons (.var 1) .nil)))) (.cons (.set (.nm 2) (.var 1)) (.cons (.set (.nm 3) (.call "spare" (.cons (.var 0) (.cons (.var 2) .nil)))) (.cons (.while (.val (.var 3)) (.cons (.set (.nm 2) (.call "without" (.cons (.var 2) (.cons (.ix (.var 3) (.neg (.con (.int 1)))) .nil)))) (.cons (.set (.nm 3) (.call "spare" (.cons (.var 0) (.cons (.var 2) .nil)))) .nil))) (.cons (.ret (.var 2)) .nil)))))))⟩
noncomputable def qcQ:Fn:=⟨2,2,false,(.cons (.ret (.bi .tuple (.cons (.comp (.seq (.var 0)) [none,none,some 1] (.nm 1) (.cmp .ne (.var 1) (.var 2)) (.var 1)) .nil))) .nil)⟩
abbrev qcF:Fn:=KG.qcF
abbrev qam:Fn:=KG.qam
abbrev qbz:Fn:=KG.qbz
abbrev qbI:Fn:=KG.qbI
abbrev qaN:Fn:=KG.qaN
abbrev qbg:Fn:=KG.qbg
noncomputable def qbF:Fn:=⟨3,3,false,(.cons (.exp (.call "need_web" (.cons (.var 0) .nil))) (.cons (.exp (.call "need_some" (.cons (.var 0) (.cons (.var 1) .nil)))) (.cons (.exp (.call "need_all" (.cons (.var 0) (.cons (.var 1) .nil)))) (.cons (.ret (.and (.call "is_some" (.cons (.var 0) (.cons (.var 2) .nil))) (.and (.cmp .eq (.bi .len (.cons (.var 2) .nil)) (.bi .len (.cons (.var 1) .nil))) (.call "is_apart" (.cons (.var 0) (.cons (.var 2) .nil)))))) .nil))))⟩
noncomputable def qaw:Fn:=⟨1,2,false,(.cons (.set (.nm 1) (.call "first_apart" (.cons (.var 0) .nil))) (.cons (.ret (.ite (.cmp .eq (.bi .len (.cons (.var 1) .nil)) (.call "fewest" (.cons (.var 0) .nil))) (.var 1) (.con .non))) .nil))⟩
abbrev qct:Fn:=KG.qct
noncomputable def qcd:Fn:=⟨1,3,false,(.cons (.exp (.call "need_web" (.cons (.var 0) .nil))) (.cons (.ite (.val (.bi .any (.cons (.comp (.seq (.call "hoods" (.cons (.var 0) .nil))) [none,none] (.nm 1) .yes (.cmp .eq (.bi .len (.cons (.var 1) .nil)) (.con (.int 1)))) .nil))) (.cons (.ret (.con .non)) .nil) .nil) (.cons (.set (.nm 1) (.rtup (.rng (.ix (.var 0) (.con (.int 0)))))) (.cons (.set (.nm 2) (.call "leaned" (.cons (.var 0) (.cons (.var 1) .nil)))) (.cons (.ret (.tup (.cons (.var 2) (.cons (.bi .tuple (.cons (.comp (.seq (.var 1)) [none,none,some 2] (.nm 1) (.cmp .notin (.var 1) (.var 2)) (.var 1)) .nil)) .nil)))) .nil)))))⟩
abbrev qbe:Fn:=KG.qbe
abbrev qbr:Fn:=KG.qbr
noncomputable def qeC:Fn:=⟨2,4,false,(.cons (.exp (.call "need_web" (.cons (.var 0) .nil))) (.cons (.exp (.call "need_web" (.cons (.var 1) .nil))) (.cons (.set (.nm 2) (.ix (.var 0) (.con (.int 0)))) (.cons (.set (.nm 3) (.op .add (.var 2) (.ix (.var 1) (.con (.int 0))))) (.cons (.exp (.call "need_room" (.cons (.var 3) .nil))) (.cons (.ret (.call "web_of" (.cons (.var 3) (.cons (.op .add (.bi .list (.cons (.ix (.var 0) (.con (.int 1))) .nil)) (.comp (.seq (.ix (.var 1) (.con (.int 1)))) [none,none,none,some 2] (.tp [1,2]) .yes (.tup (.cons (.op .add (.var 3) (.var 1)) (.cons (.op .add (.var 3) (.var 2)) .nil))))) .nil)))) .nil))))))⟩
noncomputable def qdW:Fn:=⟨1,3,false,(.cons (.exp (.call "need_web" (.cons (.var 0) .nil))) (.cons (.set (.tp [1,2]) (.var 0)) (.cons (.exp (.call "need_room" (.cons (.op .mul (.con (.int 2)) (.var 1)) .nil))) (.cons (.ret (.call "web_of" (.cons (.op .mul (.con (.int 2)) (.var 1)) (.cons (.op .add (.bi .list (.cons (.var 2) .nil)) (.comp (.rng (.var 1)) [none,none,some 1] (.nm 1) .yes (.tup (.cons (.var 1) (.cons (.op .add (.var 2) (.var 1)) .nil))))) .nil)))) .nil))))⟩
noncomputable def qdK:Fn:=⟨2,2,false,(.cons (.ret (.tup (.cons (.var 0) (.cons (.bi .tuple (.cons (.bi .sorted (.cons (.var 1) .nil)) .nil)) .nil)))) .nil)⟩
noncomputable def qbX:Fn:=⟨1,1,false,(.cons (.ite (.cmp .gt (.var 0) (.glb "MOST")) (.cons .unk .nil) .nil) .nil)⟩
abbrev zx:Fn:=KG.zx
abbrev zL:Fn:=KG.zL
abbrev qbJ:Fn:=KG.qbJ
abbrev qaM:Fn:=KG.qaM
abbrev qaY:Fn:=KG.qaY
abbrev qaz:Fn:=KG.qaz
abbrev qaA:Fn:=KG.qaA
abbrev qaU:Fn:=KG.qaU
abbrev qan:Fn:=KG.qan
noncomputable def qaq:Fn:=⟨1,8,false,(.cons (.par 1 2 (.call "fewest" (.cons (.var 0) .nil)) (.call "most_apart" (.cons (.var 0) .nil))) (.cons (.ite (.or (.cmp .lt (.var 1) (.var 2)) (.not (.val (.call "holds_all" (.cons (.var 0) (.cons (.call "first_fewest" (.cons (.var 0) .nil)) .nil)))))) (.cons (.ret (.con (.bl false))) .nil) .nil) (.cons (.ite (.not (.val (.call "is_apart" (.cons (.var 0) (.cons (.call "first_apart" (.cons (.var 0) .nil)) .nil))))) (.cons (.ret (.con (.bl false))) .nil) .nil) (.cons (.for (.nm 3) (.seq (.call "_law_holding" (.cons (.var 0) .nil))) (.cons (.ite (.or (.cmp .lt (.bi .len (.cons (.var 3) .nil)) (.var 2)) (.cmp .lt (.bi .len (.cons (.var 3) .nil)) (.var 1))) (.cons (.ret (.con (.bl false))) .nil) .nil) .nil)) (.cons (.set (.nm 4) (.call "paper_for" (.cons (.var 0) .nil))) (.cons (.ite (.cmp .ne (.cmp .is (.var 4) (.con .non)) (.cmp .gt (.var 1) (.var 2))) (.cons (.ret (.con (.bl false))) .nil) .nil) (.cons (.for (.nm 5) (.seq (.call "all_fewest" (.cons (.var 0) .nil))) (.cons (.ite (.and (.cmp .isnot (.var 4) (.con .non)) (.not (.val (.call "is_paper" (.cons (.var 0) (.cons (.var 5) (.cons (.var 4) .nil))))))) (.cons (.ret (.con (.bl false))) .nil) .nil) .nil)) (.cons (.for (.nm 3) (.seq (.call "all_once" (.cons (.var 0) .nil))) (.cons (.ite (.or (.cmp .ne (.bi .len (.cons (.var 3) .nil)) (.var 1)) (.not (.val (.call "is_paper" (.cons (.var 0) (.cons (.var 3) (.cons (.var 3) .nil))))))) (.cons (.ret (.con (.bl false))) .nil) .nil) .nil)) (.cons (.set (.nm 6) (.call "two_parts" (.cons (.var 0) .nil))) (.cons (.ite (.and (.cmp .isnot (.var 6) (.con .non)) (.or (.not (.val (.call "holds_all" (.cons (.var 0) (.cons (.ix (.var 6) (.con (.int 0))) .nil))))) (.not (.val (.call "holds_all" (.cons (.var 0) (.cons (.ix (.var 6) (.con (.int 1))) .nil))))))) (.cons (.ret (.con (.bl false))) .nil) .nil) (.cons (.ite (.and (.cmp .isnot (.var 6) (.con .non)) (.cmp .gt (.op .mul (.con (.int 2)) (.var 1)) (.ix (.var 0) (.con (.int 0))))) (.cons (.ret (.con (.bl false))) .nil) .nil) (.cons (.set (.nm 7) (.bi .max (.cons (.comp (.seq (.call "_law_masks" (.cons (.var 0) .nil))) [none,none,some 0] (.nm 1) .yes (.bi .sum (.cons (.comp (.rng (.ix (.var 2) (.con (.int 0)))) [none,none,some 1] (.nm 1) .yes (.op .band (.op .shr (.var 2) (.var 1)) (.con (.int 1)))) .nil))) .nil))) (.cons (.ret (.cmp .ge (.op .mul (.var 7) (.var 1)) (.ix (.var 0) (.con (.int 0))))) .nil)))))))))))))⟩
noncomputable def qff:Fn:=⟨1,6,false,(.cons (.for (.nm 1) (.seq (.op .add (.lst (.cons (.call "_law_cell_at" (.cons (.var 0) (.cons (.con (.int 0)) .nil))) .nil)) (.sl (.var 0) (.some (.con (.int 1))) (.some (.con (.int 3)))))) (.cons (.ite (.not (.val (.call "_law_web_right" (.cons (.call "_law_web" (.cons (.var 1) (.cons (.con (.int 8)) .nil))) .nil)))) (.cons (.ret (.con (.bl false))) .nil) .nil) (.cons (.par 2 3 (.call "_law_web" (.cons (.call "_law_stir" (.cons (.var 1) (.cons (.con (.int 1)) .nil))) (.cons (.con (.int 4)) .nil))) (.call "_law_web" (.cons (.call "_law_stir" (.cons (.var 1) (.cons (.con (.int 2)) .nil))) (.cons (.con (.int 4)) .nil)))) (.cons (.set (.nm 4) (.call "beside" (.cons (.var 2) (.cons (.var 3) .nil)))) (.cons (.ite (.cmp .ne (.call "fewest" (.cons (.var 4) .nil)) (.op .add (.call "fewest" (.cons (.var 2) .nil)) (.call "fewest" (.cons (.var 3) .nil)))) (.cons (.ret (.con (.bl false))) .nil) .nil) (.cons (.ite (.cmp .ne (.call "most_apart" (.cons (.var 4) .nil)) (.op .add (.call "most_apart" (.cons (.var 2) .nil)) (.call "most_apart" (.cons (.var 3) .nil)))) (.cons (.ret (.con (.bl false))) .nil) .nil) (.cons (.set (.nm 5) (.call "crowned" (.cons (.var 2) .nil))) (.cons (.ite (.or (.cmp .ne (.call "fewest" (.cons (.var 5) .nil)) (.ix (.var 2) (.con (.int 0)))) (.or (.cmp .ne (.call "most_apart" (.cons (.var 5) .nil)) (.ix (.var 2) (.con (.int 0)))) (.not (.val (.call "_law_web_right" (.cons (.var 5) .nil)))))) (.cons (.ret (.con (.bl false))) .nil) .nil) (.cons (.ite (.not (.val (.call "is_paper" (.cons (.var 5) (.cons (.rtup (.rng (.ix (.var 2) (.con (.int 0))))) (.cons (.rtup (.rng2 (.ix (.var 2) (.con (.int 0))) (.op .mul (.con (.int 2)) (.ix (.var 2) (.con (.int 0)))))) .nil)))))) (.cons (.ret (.con (.bl false))) .nil) .nil) .nil))))))))) (.cons (.ret (.con (.bl true))) .nil))⟩
abbrev qjP:Ent:=⟨"is_whole",top 7,[],false,qcr⟩
abbrev qhQ:Ent:=⟨"is_between",top 8,[],false,qaO⟩
abbrev qlD:Ent:=⟨"is_pair",top 9,[],false,qch⟩
abbrev qoY:Ent:=⟨"rises",top 10,[],false,qdl⟩
abbrev qmz:Ent:=⟨"is_web",top 13,[],false,qcE⟩
abbrev qmP:Ent:=⟨"is_tie",top 14,[],false,qcK⟩
abbrev qkj:Ent:=⟨"need_web",top 15,[],false,qby⟩
abbrev qke:Ent:=⟨"is_place",top 16,[],false,qbo⟩
abbrev qpR:Ent:=⟨"hoods",top 17,[],false,qcw⟩
abbrev qlA:Ent:=⟨"hood_of",top 18,[],false,qbl⟩
abbrev qjB:Ent:=⟨"are_tied",top 19,[],false,qaS⟩
abbrev qkC:Ent:=⟨"is_some",top 21,[],false,qcf⟩
abbrev qiJ:Ent:=⟨"need_some",top 22,[],false,qbb⟩
abbrev qjK:Ent:=⟨"need_all",top 23,[],false,zX⟩
abbrev qmK:Ent:=⟨"unheld",top 24,[],false,qcL⟩
abbrev qiv:Ent:=⟨"holds_all",top 25,[],false,qaB⟩
abbrev qpG:Ent:=⟨"spare",top 26,[],false,qdd⟩
abbrev qlP:Ent:=⟨"mark_of",top 27,[],false,qci⟩
abbrev qjZ:Ent:=⟨"marks_of",top 28,[],false,qbu⟩
abbrev qfs:Ent:=⟨"places_marked",top 29,[],false,zG⟩
abbrev qjz:Ent:=⟨"spare_by",top 30,[],false,qcv⟩
abbrev qjU:Ent:=⟨"all_some",top 31,[],false,zD⟩
abbrev qgZ:Ent:=⟨"all_holding",top 32,[],false,zQ⟩
abbrev qmx:Ent:=⟨"leaned",top 34,[],false,qdJ⟩
abbrev qlp:Ent:=⟨"without",top 35,[],false,qcQ⟩
abbrev qmt:Ent:=⟨"fewest",top 37,[],false,qcF⟩
abbrev qfY:Ent:=⟨"first_fewest",top 38,[],false,qam⟩
abbrev qhz:Ent:=⟨"all_fewest",top 39,[],true,qbz⟩
abbrev qkp:Ent:=⟨"is_apart",top 40,[],false,qbI⟩
abbrev qhN:Ent:=⟨"most_apart",top 41,[],false,qaN⟩
abbrev qgV:Ent:=⟨"first_apart",top 42,[],false,qbg⟩
abbrev qkx:Ent:=⟨"is_paper",top 43,[],false,qbF⟩
abbrev qix:Ent:=⟨"paper_for",top 44,[],false,qaw⟩
abbrev qkm:Ent:=⟨"all_once",top 45,[],true,qct⟩
abbrev qiA:Ent:=⟨"two_parts",top 46,[],false,qcd⟩
abbrev qgX:Ent:=⟨"is_apart_by",top 47,[],false,qbe⟩
abbrev qhw:Ent:=⟨"is_once_by",top 48,[],false,qbr⟩
abbrev qmM:Ent:=⟨"beside",top 50,[],false,qeC⟩
abbrev qkG:Ent:=⟨"crowned",top 51,[],false,qdW⟩
abbrev qmu:Ent:=⟨"web_of",top 52,[],false,qdK⟩
abbrev qiK:Ent:=⟨"need_room",top 53,[],false,qbX⟩
abbrev qfH:Ent:=⟨"_law_cell_at",top 55,[],false,zx⟩
abbrev qiw:Ent:=⟨"_law_stir",top 56,[],false,zL⟩
abbrev qju:Ent:=⟨"_law_web",top 57,[Str.ofString "_law_ties"],false,qbJ⟩
abbrev qhG:Ent:=⟨"_law_masks",top 58,[Str.ofString "_law_found"],false,qaM⟩
abbrev qiy:Ent:=⟨"_law_some",top 59,[],false,qaY⟩
abbrev qiD:Ent:=⟨"_law_mask",top 60,[],false,qaz⟩
abbrev qiB:Ent:=⟨"_law_held",top 61,[],false,qaA⟩
abbrev qjF:Ent:=⟨"_law_all",top 62,[],false,qaU⟩
abbrev qfT:Ent:=⟨"_law_holding",top 63,[],false,qan⟩
abbrev qeL:Ent:=⟨"_law_web_right",top 64,[],false,qaq⟩
abbrev qej:Ent:=⟨"law",top 65,[],false,qff⟩
abbrev tab:List Ent:=[qjP,qhQ,qlD,qoY,qmz,qmP,qkj,qke,qpR,qlA,qjB,qkC,qiJ,qjK,qmK,qiv,qpG,qlP,qjZ,qfs,qjz,qjU,qgZ,qmx,qlp,qmt,qfY,qhz,qkp,qhN,qgV,qkx,qix,qkm,qiA,qgX,qhw,qmM,qkG,qmu,qiK,qfH,qiw,qju,qhG,qiy,qiD,qiB,qjF,qfT,qeL,qej]
abbrev oth:List (Str×GK):=[(Str.ofString "NoWeb",GK.exc),(Str.ofString "NoPlaces",GK.exc),(Str.ofString "NotAll",GK.exk),(Str.ofString "TooGreat",GK.exk),(Str.ofString "MOST",GK.val),(Str.ofString "len",GK.bi .len),(Str.ofString "tuple",GK.ty "tuple" (some .tuple)),(Str.ofString "list",GK.ty "list" (some .list)),(Str.ofString "int",GK.ty "int" (some .int)),(Str.ofString "bool",GK.ty "bool" (some .bool)),(Str.ofString "sorted",GK.bi .sorted),(Str.ofString "all",GK.bi .all),(Str.ofString "any",GK.bi .any),(Str.ofString "min",GK.bi .min),(Str.ofString "max",GK.bi .max),(Str.ofString "sum",GK.bi .sum),(Str.ofString "range",GK.rng),(Str.ofString "enumerate",GK.enum),(Str.ofString "isinstance",GK.isi)]
abbrev vals:List (Str×D):=[(Str.ofString "MOST",(.int 8))]
abbrev G:List (Str×GK):=tab.map (fun e=>(e.x,GK.fn e.fr))++oth
abbrev qbv:List (Str×Str):=[]
abbrev us:List Ent:=[]
abbrev subs:List ((Str×Cl)×Bool):=[]
abbrev p:Pr:=prT tab vals qbv subs
theorem qeu:p.fns "_law_web_right" = some qaq:=by kernel_rfl
theorem qqr:p.fns "law" = some qff:=by kernel_rfl
end K26
namespace KG
open EV
open PySem (Str)
open L2 (atI ixN ltP)
section
variable(m:Int)(ts:List (Int×Int))
noncomputable def grow:Nat→List Int→List Int
 | 0,s=>s
 |n+1,s=>match un m ts s with
  | []=>s
  |a::_=>grow n (sortI (s++[a]))
noncomputable def fr(h:List Int)(a:Int):Bool:=decide (((hd m ts a).filter fun x=>h.any fun t=>t==x)=[])
end
section
variable{m:Int}{ts:List (Int×Int)}
theorem qlS{h:List Int}{a:Int}:fr m ts h a=true↔∀x∈h,x∉hd m ts a:=by
 rw [fr,decide_eq_true_eq,List.filter_eq_nil_iff];constructor
 ·intro q x hx hd;exact q x hd (by simp [hx])
 ·intro q x hx z;simp only [List.any_eq_true,beq_iff_eq]at z;obtain⟨y,hy,rfl⟩:=z;exact q y hy hx
theorem qtB{h:List Int}{a:Int}:(mk m ts h a=[])↔fr m ts h a=true:=by
 rw [qlS,mk,List.filter_eq_nil_iff];constructor
 ·intro q x hx hd;exact q x hx (by simp [hd])
 ·intro q x hx z;simp only [List.any_eq_true,beq_iff_eq]at z;obtain⟨y,hy,rfl⟩:=z;exact q _ hx hy
theorem qen{a:Int}(ha:0≤a∧a<m):a∈hd m ts a:=by
 rw [hd,List.mem_filter,qcy];exact⟨ha,by simp⟩
theorem qto(h:List Int):un m ts h=(rng m).filter fun a=>fr m ts h a:=by
 rw [un];refine List.filter_congr fun a _=>?_
 rw [Bool.eq_iff_iff,decide_eq_true_eq];exact qtB
theorem GS.of{s:List Int}(h1:1≤m)(h2:m≤8)(lt:s.Pairwise (· < ·))(ok:∀i∈s,0≤i∧i<m):GS m s:=by
 refine⟨lt,ok,?_⟩;have:s=(rng m).filter fun i=>s.any fun t=>t==i:=qhy lt ((qaZ m).sublist List.filter_sublist) fun x=>by
  rw [List.mem_filter,qcy];simp only [List.any_eq_true,beq_iff_eq,exists_eq_right];exact⟨fun q=>⟨ok x q,q⟩,fun q=>q.2⟩
 rw [this];refine Nat.le_trans (List.length_filter_le _ _) ?_;rw [zb];lia
end
noncomputable def both(s:List Int)(t:Int×Int):Bool:=(s.any fun x=>x==t.1)&&(s.any fun x=>x==t.2)
theorem qty{w:W}{it:It}{cap:List (Option Nat)}{t:T}{elt:E}{τ c:Env}{l:List (Int×Int)}(q:Int×Int→Bool)(g:Int×Int→D)(h:evI w it τ=.ok (l.map prD))(hz:l.length≤SZ)(hc:qaT cap τ=none::none::none::c)
  (hb:∀x∈l,evT w t (none::some (.int x.1)::some (.int x.2)::c)=.ok (q x)∧evE w elt (none::some (.int x.1)::some (.int x.2)::c)=.ok (g x)):evE w (.comp it cap (.tp [1,2]) t elt) τ=.ok (.lst ((l.filter q).map g)):=by
 have e:=qnW (g:=fun d=>match d with | .tup [.int a,.int b]=>(if q (a,b)then [g (a,b)]else [])|_=>[]) h (by simpa using hz) hc (t:=t) (elt:=elt) fun x hx=>by
  obtain⟨y,hy,rfl⟩:=List.mem_map.mp hx;refine⟨.int y.1,.int y.2,rfl,?_⟩;rw [(hb y hy).1];simp only [R.bind_ok];cases z:q y with
  |true=>rw [if_pos rfl,(hb y hy).2];simp [prD,pairD,z]
  |false=>simp [prD,pairD,z]
 rw [e]
 congr 2
 clear e h hz hb
 induction l with
 |nil=>rfl
 |cons x r ih=>
  rw [List.map_cons,List.flatMap_cons,ih,List.filter_cons];cases z:q x<;>simp [prD,pairD,z]
theorem qqy{α:Type}(l:List α)(f:α→Bool):b1 .any [.lst (l.map fun a=>D.bl (f a))]=.ok (.bl (l.any f)):=by
 rw [b1,b11];simp only [qab];rw [qgl];simp only [qai];rw [List.any_map];rfl
noncomputable def ls(L:List (List Int)):Int:=match L.map (fun s=>(s.length:Int))with
 | []=>0
 |x::r=>zm true x r
noncomputable def gr(L:List (List Int)):List (List Int):=L.filter fun s=>decide ((s.length:Int)=ls L)
theorem qnb(i:Int)(r:List Int):zm true i r∈i::r:=by
 induction r generalizing i with
 |nil=>simp [zm]
 |cons j r ih=>
  rw [zm];have:=ih (if i<j then j else i);simp only [if_true];rcases List.mem_cons.mp this with e|e
  ·rw [e];split<;>simp
  ·exact List.mem_cons_of_mem _ (List.mem_cons_of_mem _ e)
theorem qnQ{L:List (List Int)}(h:L≠[]):∃s r,gr L=s::r∧s∈L:=by
 obtain⟨a,r,rfl⟩:∃a r,L=a::r:=by cases L with|nil=>exact absurd rfl h|cons a r=>exact⟨a,r,rfl⟩
 have hm:ls (a::r)∈(a::r).map fun s=>(s.length:Int):=by
  rw [ls,List.map_cons];exact qnb _ _
 obtain⟨s,hs,e⟩:=List.mem_map.mp hm;have:s∈gr (a::r):=List.mem_filter.mpr ⟨hs,by simpa using e⟩;cases q:gr (a::r)with
 |nil=>rw [q]at this;cases this
 |cons t u=>
  have ht:t∈gr (a::r):=by rw [q];exact List.mem_cons_self
  exact⟨t,u,rfl,(List.mem_filter.mp ht).1⟩
theorem qia:∀L:List (List Int),lens? (L.map tu)=some (L.map fun s=>(s.length:Int))
 | []=>rfl
 |s::r=>by
  show (seq? (tu s)).bind (fun xs=>(lens? (r.map tu)).map ((xs.length:Int) :: ·))=_;rw [qia r];show some (((s.map D.int).length:Int)::_)=_;rw [List.length_map];rfl
theorem qeX(n:Int):∀(L:List (List Int)) {s:List Int}{r:List (List Int)},(L.filter fun s=>decide ((s.length:Int)=n))=s::r→pickK n (L.map tu) (L.map fun s=>(s.length:Int))=.ok (tu s)
 | [],_,_,h=>by cases h
 |t::L,s,r,h=>by
  rw [List.map_cons,List.map_cons,pickK];rw [List.filter_cons]at h;by_cases e:(t.length:Int)=n
  ·rw [if_pos e];rw [if_pos (by simpa using e)]at h;cases h;rfl
  ·rw [if_neg e];rw [if_neg (by simpa using e)]at h;exact qeX n L h
theorem qrY{L:List (List Int)}{s:List Int}{r:List (List Int)}(h:gr L=s::r):qdt true (.lst (L.map tu))=.ok (tu s):=by
 simp only [qdt,qab];rw [qia];simp only [qai];cases L with
 |nil=>cases h
 |cons a L=>
  have:=qeX (ls (a::L)) (a::L) h;rw [←this];rfl
section
variable{m:Int}{ts:List (Int×Int)}
theorem qge{s:List Int}{x:Int}:(s.any fun t=>t==x)=true↔x∈s:=by
 simp only [List.any_eq_true,beq_iff_eq,exists_eq_right]
theorem qiZ(h:GW m ts){t:Int×Int}(ht:t∈ts):qaD ts t.1 t.2=true∧qaD ts t.2 t.1=true:=by
 have e:qaD ts t.1 t.2=true:=by
  rw [qaD,List.any_eq_true];refine⟨t,ht,?_⟩;rw [qcR _ _ _ (h.ok t ht).2.1];simp
 exact⟨e,by rw [qcO];exact e⟩
theorem qoQ(h:GW m ts){a b:Int}(e:qaD ts a b=true):∃t∈ts,(t.1=a∧t.2=b)∨(t.1=b∧t.2=a):=by
 rw [qaD,List.any_eq_true]at e;obtain⟨t,ht,e⟩:=e;rw [qcR _ _ _ (h.ok t ht).2.1]at e;simp only [Bool.or_eq_true,Bool.and_eq_true,beq_iff_eq]at e;exact⟨t,ht,e⟩
theorem qdw:∀(i:Int) (r:List Int),∀x∈i::r,x≤zm true i r
 |i,[],x,h=>by simp at h;subst h;simp [zm]
 |i,j::r,x,h=>by
  rw [zm];simp only [if_true];have a:=qdw (if i<j then j else i) r (if i<j then j else i) List.mem_cons_self;have b:i≤(if i<j then j else i)∧j≤(if i<j then j else i):=by split<;>lia
  rcases List.mem_cons.mp h with rfl|h
  ·exact Int.le_trans b.1 a
  ·rcases List.mem_cons.mp h with rfl|h
   ·exact Int.le_trans b.2 a
   ·exact qdw _ r x (List.mem_cons_of_mem _ h)
theorem qta{L:List (List Int)}{s:List Int}(h:s∈L):(s.length:Int)≤ls L:=by
 cases L with
 |nil=>cases h
 |cons a r=>rw [ls,List.map_cons];exact qdw _ _ _ (by rw [←List.map_cons (f:=fun s:List Int=>(s.length:Int))];exact List.mem_map.mpr ⟨s,h,rfl⟩)
end
noncomputable def qdJ:Fn:=⟨2,4,false,(.cons (.exp (.call "need_web" (.cons (.var 0) .nil))) (.cons (.exp (.call "need_some" (.cons (.var 0) (.cons (.var 1) .nil)))) (.cons (.exp (.call "need_all" (.cons (.var 0) (.cons (.var 1) .nil)))) (.cons (.set (.nm 2) (.var 1)) (.cons (.set (.nm 3) (.call "spare" (.cons (.var 0) (.cons (.var 2) .nil)))) (.cons (.while (.val (.var 3)) (.cons (.set (.nm 2) (.call "without" (.cons (.var 2) (.cons (.ix (.var 3) (.neg (.con (.int 1)))) .nil)))) (.cons (.set (.nm 3) (.call "spare" (.cons (.var 0) (.cons (.var 2) .nil)))) .nil))) (.cons (.ret (.var 2)) .nil)))))))⟩
noncomputable def qcQ:Fn:=⟨2,2,false,(.cons (.ret (.bi .tuple (.cons (.comp (.seq (.var 0)) [none,none,some 1] (.nm 1) (.cmp .ne (.var 1) (.var 2)) (.var 1)) .nil))) .nil)⟩
noncomputable def zX:Fn:=⟨2,3,false,(.cons (.set (.nm 2) (.call "unheld" (.cons (.var 0) (.cons (.var 1) .nil)))) (.cons (.ite (.val (.var 2)) (.cons .unk .nil) .nil) .nil))⟩
structure Ld(p:Pr):Prop where
 leaned:p.fns "leaned" = some qdJ
 without:p.fns "without" = some qcQ
theorem qoL{m:Int}{ts:List (Int×Int)}{s:List Int}(g:GS m s){x:Int}(hx:x∈s):(un m ts (s.filter fun y=>!decide (y=x))=un m ts s)↔x∈sp m ts s:=by
 have mkl:∀a,mk m ts (s.filter fun y=>!decide (y=x)) a=(mk m ts s a).filter fun y=>!decide (y=x):=fun a=>by
  rw [mk,mk,List.filter_filter,List.filter_filter]
  congr 1
  funext y;rw [Bool.and_comm]
 have nd:∀a,(mk m ts s a).Pairwise (· < ·):=fun a=>g.lt.sublist List.filter_sublist
 rw [sp,List.mem_filter];constructor
 ·intro e;refine⟨hx,?_⟩;rw [decide_eq_true_eq];cases q:ow m ts s x with
  |nil=>rfl
  |cons a r=>
   have ha:a∈ow m ts s x:=by rw [q];exact List.mem_cons_self
   rw [ow,List.mem_filter,decide_eq_true_eq]at ha;have h1:a∈un m ts (s.filter fun y=>!decide (y=x)):=by
    rw [un,List.mem_filter,decide_eq_true_eq,mkl,ha.2];exact⟨ha.1,by simp⟩
   rw [e,un,List.mem_filter,decide_eq_true_eq,ha.2]at h1;cases h1.2
 ·rintro⟨_,e⟩;rw [decide_eq_true_eq]at e;rw [un,un];refine List.filter_congr fun a ha=>?_
  rw [mkl];refine decide_eq_decide.mpr ⟨fun z=>?_,fun z=>by rw [z];rfl⟩;have all:∀y∈mk m ts s a,y=x:=fun y hy=>by
   have:=List.filter_eq_nil_iff.mp z y hy
   simpa using this
  match q:mk m ts s a with
  | []=>rfl
  | [y]=>
   have:y=x:=all y (by rw [q];exact List.mem_cons_self);subst this;have:a∈ow m ts s y:=by rw [ow,List.mem_filter,decide_eq_true_eq];exact⟨ha,q⟩
   rw [e]at this;cases this
  |y::y'::r=>
   have n:=nd a;rw [q]at n;have h1:=all y (by rw [q];exact List.mem_cons_self);have h2:=all y' (by rw [q];exact List.mem_cons_of_mem _ List.mem_cons_self);have:=(List.pairwise_cons.mp n).1 y' List.mem_cons_self;lia
theorem GS.less{m:Int}{s:List Int}(g:GS m s)(c:Int→Bool):GS m (s.filter c):=
 ⟨g.lt.sublist List.filter_sublist,fun i hi=>g.ok i (List.mem_filter.mp hi).1,Nat.le_trans (List.length_filter_le _ _) g.len⟩
noncomputable def lw(m:Int)(ts:List (Int×Int)):Nat→List Int→List Int
 | 0,s=>s
 |n+1,s=>match sp m ts s with
  | []=>s
  |a::r=>lw m ts n (s.filter fun y=>!decide (y=(a::r).getLast (by simp)))
section
variable{m:Int}{ts:List (Int×Int)}
theorem qsj{s:List Int}(q:sp m ts s=[]):∀n,lw m ts n s=s
 | 0=>rfl
 |n+1=>by rw [lw,q]
theorem qrc{s:List Int}{x:Int}(h:x∈sp m ts s):x∈s:=by rw [sp,List.mem_filter]at h;exact h.1
theorem qmT{s:List Int}{x:Int}(hx:x∈s):(s.filter fun y=>!decide (y=x)).length<s.length:=List.length_filter_lt_length_iff_exists.mpr ⟨x,hx,by simp⟩
theorem qkl:∀(n:Nat) (s:List Int),GS m s→un m ts s=[]→s.length≤n→GS m (lw m ts n s)∧un m ts (lw m ts n s)=[]∧sp m ts (lw m ts n s)=[]∧∀x∈lw m ts n s,x∈s
 | 0,s,g,hu,hn=>by
  have:s=[]:=List.length_eq_zero_iff.mp (by lia);subst this;exact⟨g,hu,rfl,fun _ z=>z⟩
 |n+1,s,g,hu,hn=>by
  rw [lw];split
  ·rename_i q;exact⟨g,hu,q,fun _ z=>z⟩
  ·rename_i a r q
   have hl:(a::r).getLast (by simp)∈sp m ts s:=by rw [q];exact List.getLast_mem _
   have hs:=qrc hl;have e:=(qoL (ts:=ts) g hs).mpr hl;have:=qmT hs;obtain⟨r1,r2,r3,r4⟩:=qkl n _ (GS.less g fun y=>!decide (y=(a::r).getLast (by simp))) (e.trans hu) (by lia);exact⟨r1,r2,r3,fun x hx=>(List.mem_filter.mp (r4 x hx)).1⟩
theorem qlF:un m ts (rng m)=[]:=by
 rw [un,List.filter_eq_nil_iff];intro a ha z;rw [decide_eq_true_eq,mk,List.filter_eq_nil_iff]at z;exact z a ha (qge.mpr (qen (qcy.mp ha)))
theorem qtv{s:List Int}(hn:sp m ts s=[]){x:Int}(hx:x∈s):ow m ts s x≠[]:=fun z=>by
 rw [sp,List.filter_eq_nil_iff]at hn;exact hn x hx (by simpa using z)
end
theorem qpL{u:List Int}(hu:u≠[]):ixD (tu u) (.int (-1))=.ok (.int (u.getLast hu)):=by
 have hl:0<u.length:=List.length_pos_iff.mpr hu;have e:atI (u.map D.int) (-1)=some (.int (u.getLast hu)):=by
  have h2:ixN (u.map D.int).length (-1)=some (u.length-1):=by
   unfold ixN;rw [List.length_map,if_neg (by decide),if_pos (by lia)]
   congr 1;lia
  unfold atI;rw [h2];show (u.map D.int)[u.length-1]? = _;rw [List.getElem?_map,List.getLast_eq_getElem,List.getElem?_eq_getElem (by lia)]
  rfl
 simp only [ixD,tu];rw [e]
section
variable{p:Pr}(B:Web p)(O:Nbr p)(S:qbZ p)
include B O S
theorem qio(U:Un p)(hf:p.fns "need_all" = some zX){k:Nat}{m:Int}{ts:List (Int×Int)}(h:GW m ts){s:List Int}(g:GS m s)(hu:un m ts s=[]):qc p (k+7) "need_all" [wb m ts,tu s]=.ok .non:=by
 have e:=unheld B S O U (k:=k) h g;rw [hu]at e;have e6:tu []=.tup []:=rfl;rw [e6]at e;rw [qd hf];simp only [zS];generalize wb m ts=WB at *;generalize tu s=TS at *;simp [KG.Z,zX,e]
theorem qkd(N:Ld p){k:Nat}{m:Int}{s:List Int}(g:GS m s)(x:Int):qc p (k+1) "without" [tu s,.int x]=.ok (tu (s.filter fun y=>!decide (y=x))):=by
 have hl:=g.len;rw [qd N.without];refine ql (τ:=[some (tu s),some (.int x)]) rfl rfl ?_;have hc:evE ⟨qc p k,p.glb,p.sub,p.cat⟩ (.comp (.seq (.var 0)) [none,none,some 1] (.nm 1) (.cmp .ne (.var 1) (.var 2)) (.var 1)) [some (tu s),some (.int x)]=.ok (.lst ((s.filter fun y=>!decide (y=x)).map D.int)):=
  qco (f:=D.int) (c:=[some (.int x)]) (fun y=>!decide (y=x)) D.int (qdh rfl) (by simp [SZ];lia) rfl fun y _=>⟨ne_int y x,fun _=>rfl⟩
 show qe _ (.cons (.ret (.bi .tuple (.cons _ .nil))) .nil) _=_;rw [qe,zt,qo,qC,hc];simp only [R.bind_ok,qC]
 rfl
end
theorem qiW{m:Int}{ts:List (Int×Int)}(x:Option D){test:Env→R Bool}{body:Env→EV.O}
  (ht:∀s u,test [some (wb m ts),x,some (tu s),some (tu u)]=.ok (!u.isEmpty))
  (hb:∀s a r,GS m s→sp m ts s=a::r→body [some (wb m ts),x,some (tu s),some (tu (a::r))]=.nx [some (wb m ts),x,some (tu (s.filter fun y=>!decide (y=(a::r).getLast (by simp)))),some (tu (sp m ts (s.filter fun y=>!decide (y=(a::r).getLast (by simp)))))]) :
  ∀(j n:Nat) (s:List Int),GS m s→j<n→sp m ts (lw m ts j s)=[]→qbC test body n [some (wb m ts),x,some (tu s),some (tu (sp m ts s))]=.nx [some (wb m ts),x,some (tu (lw m ts j s)),some (tu [])]
 |j,n+1,s,g,hj,hu=>by
  rw [qbC,ht];cases q:sp m ts s with
  |nil=>
   simp only [R.out_ok,List.isEmpty_nil,Bool.not_true,Bool.false_eq_true,if_false];rw [qsj q]
  |cons a r=>
   match j,hj,hu with
   | 0,_,hu=>rw [lw,q]at hu;cases hu
   |j+1,hj,hu=>
    have eg:lw m ts (j+1) s=lw m ts j (s.filter fun y=>!decide (y=(a::r).getLast (by simp))):=by rw [lw,q]
    rw [eg]at hu ⊢;simp only [R.out_ok,List.isEmpty_cons,Bool.not_false,if_true];rw [hb s a r g q];exact qiW x ht hb j n _ (GS.less g _) (by lia) hu
theorem leaned{p:Pr}(B:Web p)(O:Nbr p)(S:qbZ p)(U:Un p)(P:Sp p)(N:Ld p)(hA:p.fns "need_all" = some zX){k:Nat}{m:Int}{ts:List (Int×Int)}(h:GW m ts){s:List Int}(g:GS m s)(hu:un m ts s=[]):qc p (k+8) "leaned" [wb m ts,tu s]=.ok (tu (lw m ts 8 s)):=by
 have z1:=need_web B (k:=k+3) h;have z2:qc p (k+7) "need_some" [wb m ts,tu s]=.ok .non:=need_some B S (k:=k+2) (t:=.tup (ts.map prD)) g;have z3:=qio B O S U hA (k:=k) h g hu;have z4:∀s,GS m s→qc p (k+7) "spare" [wb m ts,tu s]=.ok (tu (sp m ts s)):=fun s g=>spare B O S P (k:=k+1) h g
 have i2:=(qkl (m:=m) (ts:=ts) 8 s g hu g.len).2.2.1;rw [qd N.leaned];refine ql (τ:=[some (wb m ts),some (tu s),none,none]) rfl rfl ?_;show qe _ (.cons (.exp _) (.cons (.exp _) (.cons (.exp _) (.cons (.set (.nm 2) _) (.cons (.set (.nm 3) _) (.cons (.while _ _) (.cons (.ret (.var 2)) .nil))))))) _=_;have z5:=z4 s g;refine zh (σ:=[some (wb m ts),some (tu s),none,none]) (by
  generalize wb m ts=WB at *;simp [KG.Z,z1]) ?_
 refine zh (σ:=[some (wb m ts),some (tu s),none,none]) (by
  generalize wb m ts=WB at *;generalize tu s=TS at *;simp [KG.Z,z2]) ?_
 refine zh (σ:=[some (wb m ts),some (tu s),none,none]) (by
  generalize wb m ts=WB at *;generalize tu s=TS at *;simp [KG.Z,z3]) ?_
 refine zh (σ:=[some (wb m ts),some (tu s),some (tu s),none]) (by
  generalize wb m ts=WB at *;generalize tu s=TS at *;simp [KG.Z]) ?_
 refine zh (σ:=[some (wb m ts),some (tu s),some (tu s),some (tu (sp m ts s))]) (by
  generalize wb m ts=WB at *;generalize tu (sp m ts s)=TU at *;generalize tu s=TS at *;simp [KG.Z,z5]) ?_
 refine zh (σ:=[some (wb m ts),some (tu s),some (tu (lw m ts 8 s)),some (tu [])]) ?_ ?_
 ·rw [qaF];have:=qiW (m:=m) (ts:=ts) (some (tu s)) (test:=fun σ=>evT ⟨qc p (k+7),p.glb,p.sub,p.cat⟩ (.val (.var 3)) σ) (body:=fun σ=>qe ⟨qc p (k+7),p.glb,p.sub,p.cat⟩ (.cons (.set (.nm 2) (.call "without" (.cons (.var 2) (.cons (.ix (.var 3) (.neg (.con (.int 1)))) .nil)))) (.cons (.set (.nm 3) (.call "spare" (.cons (.var 0) (.cons (.var 2) .nil)))) .nil)) σ) (fun s u=>by
    show truth (tu u)=_;rw [tu,truth];cases u<;>rfl) (fun s a r g q=>by
    have e1:=qpL (u:=a::r) (by simp);have e2:=qkd B O S N (k:=k+6) g ((a::r).getLast (by simp));have e3:=z4 _ (GS.less g fun y=>!decide (y=(a::r).getLast (by simp)));generalize (a::r).getLast _=la at *;generalize tu (sp m ts (s.filter fun y=>!decide (y=la)))=TU at *;generalize tu (s.filter fun y=>!decide (y=la))=T1 at *;generalize wb m ts=WB at *;generalize tu (a::r)=TR at *;generalize tu s=TS at *;simp [KG.Z,zf,e1,e2,e3]) 8 qeS s g (by decide) i2
  rw [this];rfl
 ·simp [KG.Z]
section
variable{m:Int}{ts:List (Int×Int)}
noncomputable def ap(m:Int)(ts:List (Int×Int))(s:List Int):Bool:=(rng m).all fun a=>decide ((mk m ts s a).length≤1)
theorem qbh{s:List Int}:un m ts s=[]↔∀a,0≤a→a<m→∃x∈s,x∈hd m ts a:=by
 rw [qto,List.filter_eq_nil_iff];constructor
 ·intro h a h0 h1;have:=h a (qcy.mpr ⟨h0,h1⟩);rw [qlS]at this;exact Classical.byContradiction fun z=>this fun x hx hd=>z ⟨x,hx,hd⟩
 ·intro h a ha z;obtain⟨x,hx,hd⟩:=h a (qcy.mp ha).1 (qcy.mp ha).2;exact qlS.mp z x hx hd
theorem mem_mk{s:List Int}{a x:Int}:x∈mk m ts s a↔x∈s∧x∈hd m ts a:=by rw [mk,List.mem_filter,qge]
theorem qfX:∀{l:List Int},l.Pairwise (· < ·)→(l.length≤1↔∀x∈l,∀y∈l,x=y)
 | [],_=>by simp
 | [a],_=>by simp
 |a::b::r,h=>by
  constructor
  ·intro z;simp at z
  ·intro z;have e:=z a (by simp) b (by simp);have:=(List.pairwise_cons.mp h).1 b (by simp);lia
theorem qbc{s:List Int}(g:GS m s):ap m ts s=true↔∀a,0≤a→a<m→∀x∈s,∀y∈s,x∈hd m ts a→y∈hd m ts a→x=y:=by
 rw [ap,List.all_eq_true];constructor
 ·intro h a h0 h1 x hx y hy ex ey;have:=h a (qcy.mpr ⟨h0,h1⟩);rw [decide_eq_true_eq]at this;have this:=(qfX (l:=mk m ts s a) (g.lt.sublist List.filter_sublist)).mp this;exact this x (mem_mk.mpr ⟨hx,ex⟩) y (mem_mk.mpr ⟨hy,ey⟩)
 ·intro h a ha;rw [decide_eq_true_eq];refine(qfX (l:=mk m ts s a) (g.lt.sublist List.filter_sublist)).mpr ?_;intro x hx y hy;have x':=mem_mk.mp hx;have y':=mem_mk.mp hy;exact h a (qcy.mp ha).1 (qcy.mp ha).2 x x'.1 y y'.1 x'.2 y'.2
theorem qfr{a x:Int}(ha:0≤a∧a<m)(h:x∈hd m ts a):a∈hd m ts x:=by
 rw [qdQ]at h ⊢;exact⟨ha,h.2.imp Eq.symm fun e=>by rw [qcO];exact e⟩
theorem qmF{s d:List Int}(gs:GS m s)(ha:ap m ts s=true)(gd:GS m d)(hu:un m ts d=[]):s.length≤d.length:=by
 rw [qbc gs]at ha;rw [qbh]at hu;have hf:∀x∈s,((mk m ts d x).head?).getD 0∈d∧((mk m ts d x).head?).getD 0∈hd m ts x:=by
  intro x hx;obtain⟨y,hy,ey⟩:=hu x (gs.ok x hx).1 (gs.ok x hx).2;have:y∈mk m ts d x:=mem_mk.mpr ⟨hy,ey⟩;cases q:mk m ts d x with
  |nil=>rw [q]at this;cases this
  |cons z r=>
   have hz:z∈mk m ts d x:=by rw [q];simp
   exact mem_mk.mp hz
 have nd:(s.map fun x=>((mk m ts d x).head?).getD 0).Nodup:=by
  rw [List.Nodup,List.pairwise_map];refine gs.lt.imp_of_mem fun {x y} hx hy hlt e=>?_
  have h1:=hf x hx;have h2:=hf y hy;rw [←e]at h2;have:=ha _ (gd.ok _ h1.1).1 (gd.ok _ h1.1).2 x hx y hy (qfr (gs.ok x hx) h1.2) (qfr (gs.ok y hy) h2.2);lia
 have sub:(s.map fun x=>((mk m ts d x).head?).getD 0) ⊆ d:=fun z hz=>by
  obtain⟨x,hx,rfl⟩:=List.mem_map.mp hz;exact(hf x hx).1
 simpa using List.Nodup.length_le_of_subset nd sub
noncomputable def fw(m:Int)(ts:List (Int×Int)):Int:=lsm (hl m ts)
noncomputable def al(m:Int)(ts:List (Int×Int)):List (List Int):=(zr (subs m.toNat)).filter (ap m ts)
noncomputable def ma(m:Int)(ts:List (Int×Int)):Int:=ls (al m ts)
theorem qli(h:GW m ts){s:List Int}(g:GS m s)(ha:ap m ts s=true):s∈al m ts:=by
 rw [al,List.mem_filter];exact⟨qlH h.lo g,ha⟩
theorem qnS(h:GW m ts){s:List Int}(hs:s∈al m ts):GS m s∧ap m ts s=true:=by
 rw [al,List.mem_filter]at hs;obtain⟨n,_,rfl⟩:=qbT h.lo h.hi hs.1;exact⟨qdG h.hi n,hs.2⟩
theorem qnP(h:GW m ts):al m ts≠[]:=fun z=>by
 have:([]:List Int)∈al m ts:=qli h GS.none ((qbc GS.none).mpr (by simp));rw [z]at this;cases this
theorem qep(h:GW m ts):∃d,GS m d∧un m ts d=[]∧(d.length:Int)=fw m ts:=by
 obtain⟨a,q,hL⟩:=qki h;obtain⟨t,r,e,ht⟩:=qkA (L:=hl m ts) (by rw [hL];simp);have:t∈few (hl m ts):=by rw [e];exact List.mem_cons_self
 rw [few,List.mem_filter]at this;exact⟨t,qhd h this.1,qhb this.1,ht⟩
theorem qfj(h:GW m ts){d:List Int}(g:GS m d)(hu:un m ts d=[]):fw m ts≤d.length:=qqq (qsn h.lo g hu)
theorem qfk(h:GW m ts):∃s,GS m s∧ap m ts s=true∧(s.length:Int)=ma m ts:=by
 obtain⟨t,r,e,ht⟩:=qnQ (qnP h);have:t∈gr (al m ts):=by rw [e];exact List.mem_cons_self
 rw [gr,List.mem_filter]at this;obtain⟨g,a⟩:=qnS h ht;exact⟨t,g,a,by rw [ma];simpa using this.2⟩
theorem qhh(h:GW m ts){s:List Int}(g:GS m s)(ha:ap m ts s=true):(s.length:Int)≤ma m ts:=qta (qli h g ha)
theorem paper(h:GW m ts){s d:List Int}(gs:GS m s)(ha:ap m ts s=true)(gd:GS m d)(hu:un m ts d=[])(e:s.length=d.length):fw m ts=d.length∧ma m ts=d.length:=by
 obtain⟨d',g1,u1,e1⟩:=qep h;obtain⟨s',g2,a2,e2⟩:=qfk h;have:=qfj h gd hu;have:=qhh h gs ha;have:=qmF gs ha g1 u1;have:=qmF g2 a2 gd hu;lia
theorem qmk(h:GW m ts){a b:Int}:qaD ts a b=true↔(a,b)∈ts∨(b,a)∈ts:=by
 constructor
 ·intro e;obtain⟨t,ht,e⟩:=qoQ h e;rcases e with ⟨rfl,rfl⟩|⟨rfl,rfl⟩
  ·exact .inl ht
  ·exact .inr ht
 ·rintro(e|e)
  ·exact(qiZ h e).1
  ·exact(qiZ h e).2
theorem qae(h:GW m ts){a x:Int}:x∈hd m ts a↔(0≤x∧x<m)∧(x=a∨(a,x)∈ts∨(x,a)∈ts):=by
 rw [qdQ,qmk h]
end
noncomputable def outer(n:Int):List Int:=(rng n).map (n + ·)
section
variable{n:Int}{ts tc:List (Int×Int)}(h:GW n ts)(hn:n≤4)(h':GW (2 * n) tc)(hm:∀t:Int×Int,t∈tc↔t∈ts∨(0≤t.1∧t.1<n∧t.2=n+t.1))
include h hn h' hm
theorem qsI:GS (2 * n) (rng n):=⟨qaZ n,fun i hi=>by have:=qcy.mp hi;lia,by rw [zb];lia⟩
theorem qgF{x:Int}:x∈outer n↔n≤x∧x<2 * n:=by
 rw [outer,List.mem_map];constructor
 ·rintro⟨a,ha,rfl⟩;have:=qcy.mp ha;lia
 ·intro z;exact⟨x-n,qcy.mpr (by lia),by lia⟩
theorem qlX:GS (2 * n) (outer n):=by
 refine⟨?_,fun i hi=>by have:=(qgF h hn h' hm).mp hi;have:=h.lo;lia,by rw [outer,List.length_map,zb];lia⟩;rw [outer,List.pairwise_map];exact(qaZ n).imp fun z=>by lia
theorem qjp{a x:Int}(ha:0≤a∧a<2 * n):x∈hd (2 * n) tc a↔(0≤x∧x<2 * n)∧(x=a∨((a,x)∈ts∨(x,a)∈ts)∨(a<n∧x=n+a)∨(x<n∧a=n+x)):=by
 rw [qae h',hm,hm];have r1:(a,x)∈ts→0≤a∧x<n:=fun z=>by have:=h.ok _ z;simp at this;lia
 constructor
 ·rintro⟨z,z2⟩;refine⟨z,?_⟩;rcases z2 with e|(e|e)|(e|e)
  ·exact .inl e
  ·exact .inr (.inl (.inl e))
  ·exact .inr (.inr (.inl ⟨e.2.1,e.2.2⟩))
  ·exact .inr (.inl (.inr e))
  ·exact .inr (.inr (.inr ⟨e.2.1,e.2.2⟩))
 ·rintro⟨z,z2⟩;refine⟨z,?_⟩;rcases z2 with e|(e|e)|e|e
  ·exact .inl e
  ·exact .inr (.inl (.inl e))
  ·exact .inr (.inr (.inl e))
  ·exact .inr (.inl (.inr ⟨ha.1,e.1,e.2⟩))
  ·exact .inr (.inr (.inr ⟨z.1,e.1,e.2⟩))
theorem qsM{a b:Int}(e:(a,b)∈ts):0≤a∧a<n∧0≤b∧b<n:=by
 have:=h.ok _ e;simp at this;lia
theorem qkr:un (2 * n) tc (rng n)=[]:=by
 rw [qbh];intro a h0 h1;by_cases q:a<n
 ·exact⟨a,qcy.mpr ⟨h0,q⟩,(qjp h hn h' hm ⟨h0,h1⟩).mpr ⟨⟨h0,h1⟩,.inl rfl⟩⟩
 ·exact⟨a-n,qcy.mpr (by lia),(qjp h hn h' hm ⟨h0,h1⟩).mpr ⟨by lia,.inr (.inr (.inr (by lia)))⟩⟩
theorem qkU{a x:Int}(ha:0≤a∧a<2 * n)(hx:x∈outer n)(e:x∈hd (2 * n) tc a):x=if a<n then n+a else a:=by
 have hx:=(qgF h hn h' hm).mp hx;obtain⟨_,e⟩:=(qjp h hn h' hm ha).mp e;have r:=fun {a b:Int}=>qsM (a:=a) (b:=b) h hn h' hm
 rcases e with e|(e|e)|e|e
 ·rw [if_neg (by lia)];exact e
 ·have:=r e;lia
 ·have:=r e;lia
 ·rw [if_pos e.1];exact e.2
 ·lia
theorem qsT:ap (2 * n) tc (outer n)=true:=by
 rw [qbc (qlX h hn h' hm)];intro a h0 h1 x hx y hy ex ey;rw [qkU h hn h' hm ⟨h0,h1⟩ hx ex,qkU h hn h' hm ⟨h0,h1⟩ hy ey]
theorem qrO:(outer n).length=(rng n).length∧((rng n).length:Int)=n:=by
 rw [outer,List.length_map,zb];have:=h.lo;exact⟨rfl,by lia⟩
end
noncomputable def join(n:Int)(s t:List Int):List Int:=s++t.map (n + ·)
noncomputable def qdF(n:Int)(s:List Int):List Int:=s.filter fun x=>decide (x<n)
noncomputable def qcY(n:Int)(s:List Int):List Int:=(s.filter fun x=>!decide (x<n)).map (· - n)
theorem split_len(n:Int):∀s:List Int,s.length=(qdF n s).length+(qcY n s).length
 | []=>rfl
 |x::s=>by
  have:=split_len n s;rw [qdF,qcY,List.filter_cons,List.filter_cons];rw [qdF,qcY]at this;by_cases q:x<n
  ·simp only [q,decide_true,if_true,Bool.not_true,Bool.false_eq_true,if_false,List.length_cons,List.length_map]at this ⊢;lia
  ·simp only [q,decide_false,Bool.not_false,Bool.false_eq_true,if_false,if_true,List.map_cons,List.length_cons,List.length_map]at this ⊢;lia
theorem qhV(n:Int)(s t:List Int):(join n s t).length=s.length+t.length:=by simp [join]
section
variable{n k:Int}{ts us tb:List (Int×Int)}(h:GW n ts)(g:GW k us)(hb:GW (n+k) tb)(hm:∀t:Int×Int,t∈tb↔t∈ts∨(t.1-n,t.2-n)∈us)
include h g hb hm
theorem qfL{a x:Int}(ha:0≤a∧a<n):x∈hd (n+k) tb a↔x∈hd n ts a:=by
 rw [qae hb,qae h,hm,hm];have r:∀{a b:Int},(a,b)∈us→0≤a∧0≤b:=fun z=>by have:=g.ok _ z;simp at this;lia
 have r':∀{a b:Int},(a,b)∈ts→(0≤a∧a<n)∧0≤b∧b<n:=fun z=>by have:=h.ok _ z;simp at this;lia
 have gl:=g.lo;constructor
 ·rintro⟨z,e|(e|e)|(e|e)⟩
  ·exact⟨by lia,.inl e⟩
  ·exact⟨(r' e).2,.inr (.inl e)⟩
  ·have:=r e;simp at this;lia
  ·exact⟨(r' e).1,.inr (.inr e)⟩
  ·have:=r e;simp at this;lia
 ·rintro⟨z,e|e|e⟩
  ·exact⟨by lia,.inl e⟩
  ·exact⟨by lia,.inr (.inl (.inl e))⟩
  ·exact⟨by lia,.inr (.inr (.inl e))⟩
theorem qfE{a x:Int}(ha:n≤a∧a<n+k):x∈hd (n+k) tb a↔x-n∈hd k us (a-n):=by
 rw [qae hb,qae g,hm,hm];have r':∀{a b:Int},(a,b)∈ts→(0≤a∧a<n)∧0≤b∧b<n:=fun z=>by have:=h.ok _ z;simp at this;lia
 have r:∀{a b:Int},(a,b)∈us→(0≤a∧a<k)∧0≤b∧b<k:=fun z=>by have:=g.ok _ z;simp at this;lia
 have hlo:=h.lo;constructor
 ·rintro⟨z,e|(e|e)|(e|e)⟩
  ·exact⟨by lia,.inl (by lia)⟩
  ·have:=r' e;lia
  ·exact⟨(r e).2,.inr (.inl e)⟩
  ·have:=r' e;lia
  ·exact⟨(r e).1,.inr (.inr e)⟩
 ·rintro⟨z,e|e|e⟩
  ·exact⟨by lia,.inl (by lia)⟩
  ·exact⟨by lia,.inr (.inl (.inr e))⟩
  ·exact⟨by lia,.inr (.inr (.inr e))⟩
theorem mem_join{s t:List Int}{x:Int}:x∈join n s t↔x∈s∨x-n∈t:=by
 rw [join,List.mem_append,List.mem_map];refine or_congr_right ⟨?_,fun z=>⟨x-n,z,by lia⟩⟩;rintro⟨a,ha,rfl⟩;rw [show n+a-n=a by lia];exact ha
theorem qfS{s t:List Int}(gs:GS n s)(gt:GS k t):GS (n+k) (join n s t):=by
 have h1:=h.lo;have g1:=g.lo;refine GS.of hb.lo hb.hi ?_ fun i hi=>?_
 ·rw [join,List.pairwise_append];refine⟨gs.lt,?_,fun x hx y hy=>?_⟩
  ·rw [List.pairwise_map];exact gt.lt.imp fun z=>by lia
  ·obtain⟨a,ha,rfl⟩:=List.mem_map.mp hy;have:=gs.ok x hx;have:=gt.ok a ha;lia
 ·rcases(mem_join h g hb hm).mp hi with z|z
  ·have:=gs.ok i z;lia
  ·have:=gt.ok _ z;lia
theorem qhK{s:List Int}(gs:GS (n+k) s):GS n (qdF n s):=by
 refine GS.of h.lo h.hi (gs.lt.sublist List.filter_sublist) fun i hi=>?_
 rw [qdF,List.mem_filter,decide_eq_true_eq]at hi;exact⟨(gs.ok i hi.1).1,hi.2⟩
theorem qhU{s:List Int}(gs:GS (n+k) s):GS k (qcY n s):=by
 refine GS.of g.lo g.hi ?_ fun i hi=>?_
 ·rw [qcY,List.pairwise_map];exact(gs.lt.sublist List.filter_sublist).imp fun z=>by lia
 ·rw [qcY,List.mem_map]at hi;obtain⟨x,hx,rfl⟩:=hi;rw [List.mem_filter]at hx;have:=gs.ok x hx.1;have:¬ x<n:=by simpa using hx.2
  lia
theorem qfN{s:List Int}{x:Int}:x∈qdF n s↔x∈s∧x<n:=by rw [qdF,List.mem_filter,decide_eq_true_eq]
theorem qfU{s:List Int}{x:Int}:x∈qcY n s↔n+x∈s∧0≤x:=by
 rw [qcY,List.mem_map];constructor
 ·rintro⟨a,ha,rfl⟩;rw [List.mem_filter]at ha;have:¬ a<n:=by simpa using ha.2
  rw [show n+(a-n)=a by lia];exact⟨ha.1,by lia⟩
 ·rintro⟨z,q⟩;exact⟨n+x,List.mem_filter.mpr ⟨z,by simp;lia⟩,by lia⟩
theorem qkQ{s t:List Int}(u1:un n ts s=[])(u2:un k us t=[]):un (n+k) tb (join n s t)=[]:=by
 rw [qbh]at u1 u2 ⊢;intro a h0 h1;by_cases q:a<n
 ·obtain⟨x,hx,e⟩:=u1 a h0 q;exact⟨x,(mem_join h g hb hm).mpr (.inl hx),(qfL h g hb hm ⟨h0,q⟩).mpr e⟩
 ·obtain⟨x,hx,e⟩:=u2 (a-n) (by lia) (by lia);refine⟨n+x,(mem_join h g hb hm).mpr (.inr (by rw [show n+x-n=x by lia];exact hx)),(qfE h g hb hm (by lia)).mpr ?_⟩;rw [show n+x-n=x by lia];exact e
theorem qmA{s:List Int}(gs:GS (n+k) s)(u:un (n+k) tb s=[]):un n ts (qdF n s)=[]:=by
 rw [qbh]at u ⊢;intro a h0 h1;have gl:=g.lo;obtain⟨x,hx,e⟩:=u a h0 (by lia);have e':=(qfL h g hb hm ⟨h0,h1⟩).mp e;exact⟨x,(qfN h g hb hm).mpr ⟨hx,((qae h).mp e').1.2⟩,e'⟩
theorem qni{s:List Int}(gs:GS (n+k) s)(u:un (n+k) tb s=[]):un k us (qcY n s)=[]:=by
 rw [qbh]at u ⊢;intro a h0 h1;have hlo:=h.lo;obtain⟨x,hx,e⟩:=u (n+a) (by lia) (by lia);have e':=(qfE h g hb hm (by lia)).mp e;rw [show n+a-n=a by lia]at e';refine⟨x-n,(qfU h g hb hm).mpr ⟨by rw [show n+(x-n)=x by lia];exact hx,((qae g).mp e').1.1⟩,e'⟩
theorem qos{s t:List Int}(gs:GS n s)(gt:GS k t)(a1:ap n ts s=true)(a2:ap k us t=true):ap (n+k) tb (join n s t)=true:=by
 rw [qbc gs]at a1;rw [qbc gt]at a2;rw [qbc (qfS h g hb hm gs gt)];intro a h0 h1 x hx y hy ex ey;have hx:=(mem_join h g hb hm).mp hx;have hy:=(mem_join h g hb hm).mp hy;by_cases q:a<n
 ·have ex:=(qfL h g hb hm ⟨h0,q⟩).mp ex;have ey:=(qfL h g hb hm ⟨h0,q⟩).mp ey;have rx:=((qae h).mp ex).1;have ry:=((qae h).mp ey).1;have hx:x∈s:=hx.resolve_right fun z=>by have:=gt.ok _ z;lia
  have hy:y∈s:=hy.resolve_right fun z=>by have:=gt.ok _ z;lia
  exact a1 a h0 q x hx y hy ex ey
 ·have ex:=(qfE h g hb hm (by lia)).mp ex;have ey:=(qfE h g hb hm (by lia)).mp ey;have rx:=((qae g).mp ex).1;have ry:=((qae g).mp ey).1;have hx:x-n∈t:=hx.resolve_left fun z=>by have:=gs.ok _ z;lia
  have hy:y-n∈t:=hy.resolve_left fun z=>by have:=gs.ok _ z;lia
  have:=a2 (a-n) (by lia) (by lia) _ hx _ hy ex ey;lia
theorem qqV{s:List Int}(gs:GS (n+k) s)(a:ap (n+k) tb s=true):ap n ts (qdF n s)=true:=by
 rw [qbc gs]at a;rw [qbc (qhK h g hb hm gs)];intro b h0 h1 x hx y hy ex ey;have gl:=g.lo;exact a b h0 (by lia) x ((qfN h g hb hm).mp hx).1 y ((qfN h g hb hm).mp hy).1 ((qfL h g hb hm ⟨h0,h1⟩).mpr ex) ((qfL h g hb hm ⟨h0,h1⟩).mpr ey)
theorem qrp{s:List Int}(gs:GS (n+k) s)(a:ap (n+k) tb s=true):ap k us (qcY n s)=true:=by
 rw [qbc gs]at a;rw [qbc (qhU h g hb hm gs)];intro b h0 h1 x hx y hy ex ey;have hlo:=h.lo;have e:∀z:Int,n+z-n=z:=fun z=>by lia
 have:=a (n+b) (by lia) (by lia) (n+x) ((qfU h g hb hm).mp hx).1 (n+y) ((qfU h g hb hm).mp hy).1 ((qfE h g hb hm (by lia)).mpr (by rw [e,e];exact ex)) ((qfE h g hb hm (by lia)).mpr (by rw [e,e];exact ey));lia
theorem qqv:fw (n+k) tb=fw n ts+fw k us:=by
 obtain⟨d1,g1,u1,e1⟩:=qep h;obtain⟨d2,g2,u2,e2⟩:=qep g;obtain⟨d,gd,u,e⟩:=qep hb;have a1:=qfj hb (qfS h g hb hm g1 g2) (qkQ h g hb hm u1 u2);have a2:=qfj h (qhK h g hb hm gd) (qmA h g hb hm gd u);have a3:=qfj g (qhU h g hb hm gd) (qni h g hb hm gd u);have a4:=split_len n d;rw [qhV]at a1;lia
theorem qqQ:ma (n+k) tb=ma n ts+ma k us:=by
 obtain⟨d1,g1,u1,e1⟩:=qfk h;obtain⟨d2,g2,u2,e2⟩:=qfk g;obtain⟨d,gd,u,e⟩:=qfk hb;have a1:=qhh hb (qfS h g hb hm g1 g2) (qos h g hb hm g1 g2 u1 u2);have a2:=qhh h (qhK h g hb hm gd) (qqV h g hb hm gd u);have a3:=qhh g (qhU h g hb hm gd) (qrp h g hb hm gd u);have a4:=split_len n d;rw [qhV]at a1;lia
end
noncomputable def qbF:Fn:=⟨3,3,false,(.cons (.exp (.call "need_web" (.cons (.var 0) .nil))) (.cons (.exp (.call "need_some" (.cons (.var 0) (.cons (.var 1) .nil)))) (.cons (.exp (.call "need_all" (.cons (.var 0) (.cons (.var 1) .nil)))) (.cons (.ret (.and (.call "is_some" (.cons (.var 0) (.cons (.var 2) .nil))) (.and (.cmp .eq (.bi .len (.cons (.var 2) .nil)) (.bi .len (.cons (.var 1) .nil))) (.call "is_apart" (.cons (.var 0) (.cons (.var 2) .nil)))))) .nil))))⟩
noncomputable def qdW:Fn:=⟨1,3,false,(.cons (.exp (.call "need_web" (.cons (.var 0) .nil))) (.cons (.set (.tp [1,2]) (.var 0)) (.cons (.exp (.call "need_room" (.cons (.op .mul (.con (.int 2)) (.var 1)) .nil))) (.cons (.ret (.call "web_of" (.cons (.op .mul (.con (.int 2)) (.var 1)) (.cons (.op .add (.bi .list (.cons (.var 2) .nil)) (.comp (.rng (.var 1)) [none,none,some 1] (.nm 1) .yes (.tup (.cons (.var 1) (.cons (.op .add (.var 2) (.var 1)) .nil))))) .nil)))) .nil))))⟩
noncomputable def qeC:Fn:=⟨2,4,false,(.cons (.exp (.call "need_web" (.cons (.var 0) .nil))) (.cons (.exp (.call "need_web" (.cons (.var 1) .nil))) (.cons (.set (.nm 2) (.ix (.var 0) (.con (.int 0)))) (.cons (.set (.nm 3) (.op .add (.var 2) (.ix (.var 1) (.con (.int 0))))) (.cons (.exp (.call "need_room" (.cons (.var 3) .nil))) (.cons (.ret (.call "web_of" (.cons (.var 3) (.cons (.op .add (.bi .list (.cons (.ix (.var 0) (.con (.int 1))) .nil)) (.comp (.seq (.ix (.var 1) (.con (.int 1)))) [none,none,none,some 2] (.tp [1,2]) .yes (.tup (.cons (.op .add (.var 3) (.var 1)) (.cons (.op .add (.var 3) (.var 2)) .nil))))) .nil)))) .nil))))))⟩
noncomputable def qdK:Fn:=⟨2,2,false,(.cons (.ret (.tup (.cons (.var 0) (.cons (.bi .tuple (.cons (.bi .sorted (.cons (.var 1) .nil)) .nil)) .nil)))) .nil)⟩
noncomputable def qbX:Fn:=⟨1,1,false,(.cons (.ite (.cmp .gt (.var 0) (.glb "MOST")) (.cons .unk .nil) .nil) .nil)⟩
structure Ap(p:Pr):Prop where
 is_apart:p.fns "is_apart" = some qbI
 most_apart:p.fns "most_apart" = some qaN
 first_apart:p.fns "first_apart" = some qbg
 is_apart_by:p.fns "is_apart_by" = some qbe
structure Mw(p:Pr):Prop where
 crowned:p.fns "crowned" = some qdW
 beside:p.fns "beside" = some qeC
 web_of:p.fns "web_of" = some qdK
 need_room:p.fns "need_room" = some qbX
theorem le_int(a b:Int):qg .le (.int a) (.int b)=.ok (decide (a≤b)):=rfl
theorem is_apart_by{p:Pr}(A:Ap p){k:Nat}(l:List Int)(hl:l.length≤8)(f:Int→List Int):qc p (k+1) "is_apart_by" [.lst (l.map fun a=>tu (f a))]=.ok (.bl (l.all fun a=>decide ((f a).length≤1))):=by
 rw [qd A.is_apart_by];refine ql (τ:=[some (.lst (l.map fun a=>tu (f a)))]) rfl rfl ?_;have hc:evE ⟨qc p k,p.glb,p.sub,p.cat⟩ (.comp (.seq (.var 0)) [none,none] (.nm 1) .yes (.cmp .le (.bi .len (.cons (.var 1) .nil)) (.con (.int 1)))) [some (.lst (l.map fun a=>tu (f a)))]=.ok (.lst (l.map fun a=>.bl (decide ((f a).length≤1)))):=by
  refine qdm (f:=fun a=>tu (f a)) (c:=[]) (fun a=>.bl (decide ((f a).length≤1))) (qav (by rw [qw];rfl)) (by simp [SZ];lia) rfl fun a _=>?_
  have e1:=qat (f a);have e2:qg .le (.int ((f a).length:Int)) (.int 1)=.ok (decide ((f a).length≤1)):=by
   rw [le_int];congr 1;exact decide_eq_decide.mpr (by lia)
  generalize ((f a).length:Int)=Z at *;generalize tu (f a)=U at *;simp [KG.Z,e1,e2]
 have e3:=qlv l (fun a=>decide ((f a).length≤1));show qe _ (.cons (.ret (.bi .all (.cons _ .nil))) .nil) _=_;rw [qe,zt,qo,qC,hc];simp only [R.bind_ok,qC,e3,R.out_ok]
theorem is_apart{p:Pr}(B:Web p)(O:Nbr p)(S:qbZ p)(A:Ap p){k:Nat}{m:Int}{ts:List (Int×Int)}(h:GW m ts){s:List Int}(g:GS m s):qc p (k+6) "is_apart" [wb m ts,tu s]=.ok (.bl (ap m ts s)):=by
 have h2:=h.hi;have e0:=hoods B O (k:=k) h;have e1:=need_web B (k:=k+1) h;have e2:=need_some B S (k:=k) (t:=.tup (ts.map prD)) g;have e3:=marks_of O (k:=k+3) (rng m) (hd m ts) s g.len (by rw [zb];lia);have e4:=is_apart_by A (k:=k+4) (rng m) (by rw [zb];lia) (fun a=>s.filter fun x=>(hd m ts a).any fun t=>t==x);have e5:((rng m).all fun a=>decide ((s.filter fun x=>(hd m ts a).any fun t=>t==x).length≤1))=ap m ts s:=rfl;rw [e5]at e4;generalize (D.tup ((rng m).map fun a=>tu (hd m ts a)))=U at *;generalize (D.lst ((rng m).map fun a=>tu (s.filter fun x=>(hd m ts a).any fun t=>t==x)))=W at *;rw [qd A.is_apart];refine ql rfl rfl ?_;simp [KG.Z,qbI,e0,e1,e2,e3,e4]
theorem first_apart{p:Pr}(B:Web p)(O:Nbr p)(A:Ap p)(ha:p.fns "all_some" = some zD){k:Nat}{m:Int}{ts:List (Int×Int)}(h:GW m ts){s:List Int}{r:List (List Int)}(e:gr (al m ts)=s::r):qc p (k+6) "first_apart" [wb m ts]=.ok (tu s):=by
 have h1:=h.lo;have h2:=h.hi;have e0:=hoods B O (k:=k) h;have e1:=need_web B (k:=k+1) h;rw [qd A.first_apart];refine ql (τ:=[some (wb m ts),none,none]) rfl rfl ?_;have hc:evE ⟨qc p (k+5),p.glb,p.sub,p.cat⟩ (.comp (.seq (.call "all_some" (.cons (.var 0) .nil))) [none,none,some 1] (.nm 1) (.val (.call "is_apart_by" (.cons (.call "marks_of" (.cons (.var 2) (.cons (.var 1) .nil))) .nil))) (.var 1)) [some (wb m ts),some (.tup ((rng m).map fun a=>tu (hd m ts a))),none]=.ok (.lst ((al m ts).map tu)):=by
  refine qco (f:=tu) (c:=[some (.tup ((rng m).map fun a=>tu (hd m ts a)))]) (ap m ts) tu (qav ?_) ?_ rfl ?_
  ·simp [KG.Z,qcM ha (k:=k+4) (t:=.tup (ts.map prD)) h1 h2]
  ·have:=sub_len h2;simp [SZ];lia
  ·intro s hs;obtain⟨n,hn,rfl⟩:=qbT h1 h2 hs;refine⟨?_,fun _=>rfl⟩;have e3:=marks_of O (k:=k+3) (rng m) (hd m ts) (bs m n) (qdG h2 n).len (by rw [zb];lia);have e4:=is_apart_by A (k:=k+4) (rng m) (by rw [zb];lia) (fun a=>(bs m n).filter fun x=>(hd m ts a).any fun t=>t==x);have e5:((rng m).all fun a=>decide (((bs m n).filter fun x=>(hd m ts a).any fun t=>t==x).length≤1))=ap m ts (bs m n):=rfl;rw [e5]at e4;have a1:evE ⟨qc p (k+5),p.glb,p.sub,p.cat⟩ (.call "marks_of" (.cons (.var 2) (.cons (.var 1) .nil))) [none,some (tu (bs m n)),some (.tup ((rng m).map fun a=>tu (hd m ts a)))]=.ok (.lst ((rng m).map fun a=>tu ((bs m n).filter fun x=>(hd m ts a).any fun t=>t==x))):=by
    rw [qz];show qc p (k+5) "marks_of" [.tup ((rng m).map fun a=>tu (hd m ts a)),tu (bs m n)]=_;exact e3
   rw [qce,qz,qC,a1];simp only [R.bind_ok,qC];show ((qc p (k+5) "is_apart_by" [.lst ((rng m).map fun a=>tu ((bs m n).filter fun x=>(hd m ts a).any fun t=>t==x))]).bind _)=_;rw [e4];rfl
 show qe _ (.cons (.exp _) (.cons (.set (.nm 1) _) (.cons (.set (.nm 2) _) (.cons (.ret (.mxk true (.var 2))) .nil)))) _=_;refine zh (σ:=[some (wb m ts),none,none]) (by simp [KG.Z,e1]) ?_;refine zh (σ:=[some (wb m ts),some (.tup ((rng m).map fun a=>tu (hd m ts a))),none]) (by simp [KG.Z,e0]) ?_;refine zh (σ:=[some (wb m ts),some (.tup ((rng m).map fun a=>tu (hd m ts a))),some (.lst ((al m ts).map tu))]) (by rw [zH,hc];rfl) ?_;have e2:=qrY e;rw [qe,zt,qK,qw];simp only [zE,List.getElem?_cons_succ,List.getElem?_cons_zero,R.bind_ok];rw [e2];rfl
theorem most_apart{p:Pr}(B:Web p)(O:Nbr p)(A:Ap p)(ha:p.fns "all_some" = some zD){k:Nat}{m:Int}{ts:List (Int×Int)}(h:GW m ts){s:List Int}{r:List (List Int)}(e:gr (al m ts)=s::r):qc p (k+7) "most_apart" [wb m ts]=.ok (.int s.length):=by
 rw [qd A.most_apart];refine ql rfl rfl ?_;simp [KG.Z,qaN,first_apart B O A ha (k:=k) h e,qat]
theorem qmq{p:Pr}(B:Web p)(O:Nbr p)(S:qbZ p)(U:Un p)(A:Ap p)(hA:p.fns "need_all" = some zX)(hf:p.fns "is_paper" = some qbF){k:Nat}{m:Int}{ts:List (Int×Int)}(h:GW m ts){s t:List Int}(g:GS m s)(g':GS m t)(hu:un m ts s=[])(ha:ap m ts t=true)(hl:t.length=s.length):qc p (k+8) "is_paper" [wb m ts,tu s,tu t]=.ok (.bl true):=by
 have z1:=need_web B (k:=k+3) h;have z2:qc p (k+7) "need_some" [wb m ts,tu s]=.ok .non:=need_some B S (k:=k+2) (t:=.tup (ts.map prD)) g;have z3:=qio B O S U hA (k:=k) h g hu;have z4:qc p (k+7) "is_some" [wb m ts,tu t]=.ok (.bl true):=KG.is_some B S (k:=k+3) (t:=.tup (ts.map prD)) g';have z5:=is_apart B O S A (k:=k+1) h g';rw [ha]at z5;have z6:=qat s;have z7:=qat t;rw [hl]at z7;have z8:=eq_int (s.length:Int) (s.length:Int);generalize wb m ts=WB at *;generalize tu s=TS at *;generalize tu t=TT at *;generalize (s.length:Int)=N at *;rw [qd hf];refine ql rfl rfl ?_;simp [KG.Z,qbF,z1,z2,z3,z4,z5,z6,z7,z8]
theorem qdq{m:Int}{ts:List (Int×Int)}(h:GW m ts):ts.Nodup:=h.lt.imp fun {a b} z e=>by subst e;simp [ltP]at z
theorem qeB{n:Int}{ts:List (Int×Int)}(h:GW n ts)(hn:n≤4):ts.length≤6:=by
 have sub:ts ⊆ [(0,1),(0,2),(0,3),(1,2),(1,3),(2,3)]:=fun t ht=>by
  have:=h.ok t ht;obtain⟨a,b⟩:=t;simp only at this;have ha:a=0∨a=1∨a=2:=by lia
  have hb:b=1∨b=2∨b=3:=by lia
  rcases ha with rfl|rfl|rfl<;>rcases hb with rfl|rfl|rfl<;>first|(simp;done)|lia
 exact List.Nodup.length_le_of_subset (qdq h) sub
theorem qnZ{n:Int}(h1:1≤n)(h2:n≤8){l:List (Int×Int)}(nd:l.Nodup)(ok:∀t∈l,0≤t.1∧t.1<t.2∧t.2<n)(hl:l.length≤28):GW n (zp l):=
 ⟨h1,h2,qgH (qcl l) ((zZ l).nodup_iff.mpr nd),fun t ht=>ok t ((zZ l).mem_iff.mp ht),by rw [(zZ l).length_eq];exact hl⟩
section
variable{p:Pr}(B:Web p)(M:Mw p)
include B M
theorem web_of{k:Nat}{n:Int}{l:List (Int×Int)}(hl:l.length<64):qc p (k+1) "web_of" [.int n,.lst (l.map prD)]=.ok (wb n (zp l)):=by
 have e1:=qfd l hl;have e2:b1 .tuple [.lst ((zp l).map prD)]=.ok (.tup ((zp l).map prD)):=rfl;generalize D.lst (l.map prD)=L1 at *;generalize D.lst ((zp l).map prD)=L2 at *;rw [qd M.web_of];refine ql rfl rfl ?_;simp [KG.Z,qdK,e1,e2]
theorem need_room{k:Nat}{n:Int}(h:n≤8):qc p (k+1) "need_room" [.int n]=.ok .non:=by
 have e:qg .gt (.int n) (.int 8)=.ok false:=by
  show R.ok (decide (8<n))=_;rw [decide_eq_false (by lia)]
 rw [qd M.need_room];simp only [zS];simp [KG.Z,qbX,B.MOST,e]
theorem crowned{k:Nat}{n:Int}{ts:List (Int×Int)}(h:GW n ts)(hn:n≤4):∃tc,GW (2 * n) tc∧(∀t:Int×Int,t∈tc↔t∈ts∨(0≤t.1∧t.1<n∧t.2=n+t.1))∧qc p (k+5) "crowned" [wb n ts]=.ok (wb (2 * n) tc):=by
 have hlo:=h.lo;have hl:=qeB h hn;have hr:=zb n;have mem:∀t:Int×Int,t∈(ts++(rng n).map fun i=>(i,n+i))↔t∈ts∨(0≤t.1∧t.1<n∧t.2=n+t.1):=fun t=>by
  rw [List.mem_append,List.mem_map];refine or_congr_right ⟨?_,fun z=>⟨t.1,qcy.mpr ⟨z.1,z.2.1⟩,by obtain⟨a,b⟩:=t;simp only at z ⊢;rw [z.2.2]⟩⟩;rintro⟨i,hi,rfl⟩;have:=qcy.mp hi;exact⟨this.1,this.2,rfl⟩
 have len:(ts++(rng n).map fun i=>(i,n+i)).length≤10:=by
  rw [List.length_append,List.length_map,hr];lia
 refine⟨zp (ts++(rng n).map fun i=>(i,n+i)),qnZ (by lia) (by lia) ?_ (fun t ht=>?_) (by lia),fun t=>?_,?_⟩
 ·rw [List.nodup_append];refine⟨qdq h,?_,fun a ha b hb e=>?_⟩
  ·rw [List.Nodup,List.pairwise_map];exact(qaZ n).imp fun z e=>by injection e with e1 e2;lia
  ·obtain⟨i,hi,rfl⟩:=List.mem_map.mp hb;have:=h.ok a ha;have:=qcy.mp hi;rw [e]at *;simp only at *;lia
 ·rcases(mem t).mp ht with z|z
  ·have:=h.ok t z;lia
  ·lia
 ·rw [(zZ _).mem_iff];exact mem t
 ·have z1:=need_web B (k:=k) h;have z2:=need_room B M (k:=k+3) (n:=2 * n) (by lia);have z3:=web_of B M (k:=k+3) (n:=2 * n) (l:=ts++(rng n).map fun i=>(i,n+i)) (by lia);have o1:op2 .mul (.int 2) (.int n)=.ok (.int (2 * n)):=by
   show opI .mul 2 n=_;rw [opI,if_pos (by rfl)]
  have hc:evE ⟨qc p (k+4),p.glb,p.sub,p.cat⟩ (.comp (.rng (.var 1)) [none,none,some 1] (.nm 1) .yes (.tup (.cons (.var 1) (.cons (.op .add (.var 2) (.var 1)) .nil)))) [some (wb n ts),some (.int n),some (.tup (ts.map prD))]=.ok (.lst (((rng n).map fun i=>(i,n+i)).map prD)):=by
   rw [List.map_map];refine qdm (f:=D.int) (c:=[some (.int n)]) (fun i=>prD (i,n+i)) ?_ (by rw [hr];simp only [SZ];lia) rfl fun i _=>?_
   ·rw [←zq,evI.eq_2];show (if qh n then R.ok (qS 0 n.toNat)else .no)=_;rw [if_pos (by simp [qh];lia)]
   ·simp [KG.Z,op2,opI];rfl
  have o2:op2 .add (.lst (ts.map prD)) (.lst (((rng n).map fun i=>(i,n+i)).map prD))=.ok (.lst ((ts++(rng n).map fun i=>(i,n+i)).map prD)):=by
   rw [op2,if_pos ⟨rfl,by rw [List.length_map,List.length_map,List.length_map,hr];simp only [SZ];lia⟩,List.map_append]
  have o3:b1 .list [.tup (ts.map prD)]=.ok (.lst (ts.map prD)):=rfl;rw [qd M.crowned];refine ql (τ:=[some (wb n ts),none,none]) rfl rfl ?_;show qe _ (.cons (.exp _) (.cons (.set (.tp [1,2]) (.var 0)) (.cons (.exp _) (.cons (.ret (.call "web_of" (.cons (.op .mul _ _) (.cons (.op .add (.bi .list (.cons (.var 2) .nil)) _) .nil)))) .nil)))) _=_;refine zh (σ:=[some (wb n ts),none,none]) (by
   generalize wb n ts=WB at *;simp [KG.Z,z1]) ?_
  refine zh (σ:=[some (wb n ts),some (.int n),some (.tup (ts.map prD))]) rfl ?_;refine zh (σ:=[some (wb n ts),some (.int n),some (.tup (ts.map prD))]) (by
   generalize wb n ts=WB at *;simp [KG.Z,o1,z2]) ?_
  generalize hE:EV.E.comp (.rng (.var 1)) [none,none,some 1] (.nm 1) .yes (.tup (.cons (.var 1) (.cons (.op .add (.var 2) (.var 1)) .nil)))=EE at *;generalize wb (2 * n) (zp (ts++(rng n).map fun i=>(i,n+i)))=WR at *;generalize wb n ts=WB at *;generalize D.lst ((ts++(rng n).map fun i=>(i,n+i)).map prD)=L1 at *;generalize D.lst (((rng n).map fun i=>(i,n+i)).map prD)=L2 at *;generalize D.lst (ts.map prD)=L3 at *;generalize D.tup (ts.map prD)=L4 at *;simp [KG.Z,o1,o2,o3,hc,z3]
theorem beside{k:Nat}{n m:Int}{ts us:List (Int×Int)}(h:GW n ts)(g:GW m us)(hn:n≤4)(hm:m≤4):∃tb,GW (n+m) tb∧(∀t:Int×Int,t∈tb↔t∈ts∨(t.1-n,t.2-n)∈us)∧qc p (k+5) "beside" [wb n ts,wb m us]=.ok (wb (n+m) tb):=by
 have hlo:=h.lo;have glo:=g.lo;have hl:=qeB h hn;have gl:=qeB g hm;have mem:∀t:Int×Int,t∈(ts++us.map fun u=>(n+u.1,n+u.2))↔t∈ts∨(t.1-n,t.2-n)∈us:=fun t=>by
  rw [List.mem_append,List.mem_map];refine or_congr_right ⟨?_,fun z=>⟨_,z,by obtain⟨a,b⟩:=t;simp only;rw [show n+(a-n)=a by lia,show n+(b-n)=b by lia]⟩⟩;rintro⟨u,hu,rfl⟩;obtain⟨a,b⟩:=u;simp only;rw [show n+a-n=a by lia,show n+b-n=b by lia];exact hu
 have len:(ts++us.map fun u=>(n+u.1,n+u.2)).length≤12:=by
  rw [List.length_append,List.length_map];lia
 refine⟨zp (ts++us.map fun u=>(n+u.1,n+u.2)),qnZ (by lia) (by lia) ?_ (fun t ht=>?_) (by lia),fun t=>?_,?_⟩
 ·rw [List.nodup_append];refine⟨qdq h,?_,fun a ha b hb e=>?_⟩
  ·rw [List.Nodup,List.pairwise_map];exact(qdq g).imp fun {x y} z e=>z (by obtain⟨a,b⟩:=x;obtain⟨c,d⟩:=y;simp only [Prod.mk.injEq]at e ⊢;lia)
  ·obtain⟨i,hi,rfl⟩:=List.mem_map.mp hb;have:=h.ok a ha;have:=g.ok i hi;rw [e]at *;simp only at *;lia
 ·rcases(mem t).mp ht with z|z
  ·have:=h.ok t z;lia
  ·have:=g.ok _ z;simp only at this;lia
 ·rw [(zZ _).mem_iff];exact mem t
 ·have z0:=need_web B (k:=k) h;have z1:=need_web B (k:=k) g;have z2:=need_room B M (k:=k+3) (n:=n+m) (by lia);have z3:=web_of B M (k:=k+3) (n:=n+m) (l:=ts++us.map fun u=>(n+u.1,n+u.2)) (by lia);have i1:ixD (wb n ts) (.int 0)=.ok (.int n):=rfl;have i2:ixD (wb m us) (.int 0)=.ok (.int m):=rfl;have i3:ixD (wb n ts) (.int 1)=.ok (.tup (ts.map prD)):=rfl;have o1:op2 .add (.int n) (.int m)=.ok (.int (n+m)):=rfl;have hc:evE ⟨qc p (k+4),p.glb,p.sub,p.cat⟩ (.comp (.seq (.ix (.var 1) (.con (.int 1)))) [none,none,none,some 2] (.tp [1,2]) .yes (.tup (.cons (.op .add (.var 3) (.var 1)) (.cons (.op .add (.var 3) (.var 2)) .nil)))) [some (wb n ts),some (wb m us),some (.int n),some (.int (n+m))]=.ok (.lst ((us.map fun u=>(n+u.1,n+u.2)).map prD)):=by
   have e:=qty (w:=⟨qc p (k+4),p.glb,p.sub,p.cat⟩) (it:=.seq (.ix (.var 1) (.con (.int 1)))) (cap:=[none,none,none,some 2]) (t:=.yes) (elt:=.tup (.cons (.op .add (.var 3) (.var 1)) (.cons (.op .add (.var 3) (.var 2)) .nil))) (τ:=[some (wb n ts),some (wb m us),some (.int n),some (.int (n+m))]) (c:=[some (.int n)]) (l:=us) (fun _=>true) (fun u=>prD (n+u.1,n+u.2)) (qdh (by rw [qy];rfl)) (by simp only [SZ];lia) rfl fun t _=>⟨rfl,by simp [KG.Z,op2,opI];rfl⟩
   rw [e,List.filter_eq_self.mpr (by simp),List.map_map];rfl
  have o2:op2 .add (.lst (ts.map prD)) (.lst ((us.map fun u=>(n+u.1,n+u.2)).map prD))=.ok (.lst ((ts++us.map fun u=>(n+u.1,n+u.2)).map prD)):=by
   rw [op2,if_pos ⟨rfl,by rw [List.length_map,List.length_map,List.length_map];simp only [SZ];lia⟩,List.map_append]
  have o3:b1 .list [.tup (ts.map prD)]=.ok (.lst (ts.map prD)):=rfl;rw [qd M.beside];refine ql (τ:=[some (wb n ts),some (wb m us),none,none]) rfl rfl ?_;show qe _ (.cons (.exp _) (.cons (.exp _) (.cons (.set (.nm 2) _) (.cons (.set (.nm 3) _) (.cons (.exp _) (.cons (.ret (.call "web_of" (.cons (.var 3) (.cons (.op .add (.bi .list (.cons (.ix (.var 0) (.con (.int 1))) .nil)) _) .nil)))) .nil)))))) _=_;refine zh (σ:=[some (wb n ts),some (wb m us),none,none]) (by
   generalize wb n ts=WB at *;generalize wb m us=WC at *;simp [KG.Z,z0]) ?_
  refine zh (σ:=[some (wb n ts),some (wb m us),none,none]) (by
   generalize wb n ts=WB at *;generalize wb m us=WC at *;simp [KG.Z,z1]) ?_
  refine zh (σ:=[some (wb n ts),some (wb m us),some (.int n),none]) (by
   generalize wb n ts=WB at *;generalize wb m us=WC at *;simp [KG.Z,i1]) ?_
  refine zh (σ:=[some (wb n ts),some (wb m us),some (.int n),some (.int (n+m))]) (by
   generalize wb n ts=WB at *;generalize wb m us=WC at *;simp [KG.Z,i2,o1]) ?_
  refine zh (σ:=[some (wb n ts),some (wb m us),some (.int n),some (.int (n+m))]) (by
   generalize wb n ts=WB at *;generalize wb m us=WC at *;simp [KG.Z,z2]) ?_
  generalize hE:EV.E.comp (.seq (.ix (.var 1) (.con (.int 1)))) [none,none,none,some 2] (.tp [1,2]) .yes (.tup (.cons (.op .add (.var 3) (.var 1)) (.cons (.op .add (.var 3) (.var 2)) .nil)))=EE at *;generalize wb (n+m) (zp (ts++us.map fun u=>(n+u.1,n+u.2)))=WR at *;generalize wb n ts=WB at *;generalize wb m us=WC at *;generalize D.lst ((ts++us.map fun u=>(n+u.1,n+u.2)).map prD)=L1 at *;generalize D.lst ((us.map fun u=>(n+u.1,n+u.2)).map prD)=L2 at *;generalize D.lst (ts.map prD)=L3 at *;generalize D.tup (ts.map prD)=L4 at *;simp [KG.Z,i3,o2,o3,hc,z3]
end
section
variable{m:Int}{ts:List (Int×Int)}
noncomputable def on(m:Int)(ts:List (Int×Int))(s:List Int):Bool:=(rng m).all fun a=>decide (((mk m ts s a).length:Int)=1)
theorem qsH{s:List Int}(g:GS m s)(h:on m ts s=true):un m ts s=[]∧ap m ts s=true:=by
 rw [on,List.all_eq_true]at h;constructor
 ·rw [un,List.filter_eq_nil_iff];intro a ha z;have:=h a ha;rw [decide_eq_true_eq]at this z;rw [z]at this;simp at this
 ·rw [ap,List.all_eq_true];intro a ha;have:=h a ha;rw [decide_eq_true_eq]at this ⊢;lia
noncomputable def rest(m:Int)(s:List Int):List Int:=(rng m).filter fun x=>!s.any fun t=>t==x
theorem quc{s:List Int}{x:Int}:x∈rest m s↔(0≤x∧x<m)∧x∉s:=by
 rw [rest,List.mem_filter,qcy];refine and_congr_right fun _=>?_
 rw [Bool.not_eq_true',←Bool.not_eq_true,qge]
theorem qps(h:GW m ts)(s:List Int):GS m (rest m s):=GS.filter h.lo h.hi _
theorem qoS{α:Type}(l:List α)(p:α→Bool):(l.filter p).length+(l.filter fun x=>!p x).length=l.length:=by
 induction l with
 |nil=>rfl
 |cons a l ih=>
  rw [List.filter_cons,List.filter_cons];cases p a
  ·simp;lia
  ·simp;lia
theorem qmc{s:List Int}(h:GW m ts)(g:GS m s):((s.length+(rest m s).length:Nat):Int)=m:=by
 have e:s=(rng m).filter fun i=>s.any fun t=>t==i:=qhy g.lt ((qaZ m).sublist List.filter_sublist) fun x=>by
  rw [List.mem_filter,qcy,qge];exact⟨fun q=>⟨g.ok x q,q⟩,fun q=>q.2⟩
 have:=qoS (rng m) fun i=>s.any fun t=>t==i
 rw [←e,zb]at this;rw [rest,this];have:=h.lo;lia
theorem qtA(a:Int):(hd m ts a).Pairwise (· < ·):=(qaZ m).sublist List.filter_sublist
theorem qpx{a:Int}(ha:0≤a∧a<m)(hn:(hd m ts a).length≠1):∃y∈hd m ts a,y≠a:=by
 refine Classical.byContradiction fun z=>hn ?_
 have all:∀y∈hd m ts a,y=a:=fun y hy=>Classical.byContradiction fun e=>z ⟨y,hy,e⟩
 have h1:=(qfX (qtA (m:=m) (ts:=ts) a)).mpr fun x hx y hy=>(all x hx).trans (all y hy).symm
 have h2:0<(hd m ts a).length:=List.length_pos_of_mem (qen ha);lia
theorem qkf(h:GW m ts){s:List Int}(g:GS m s)(hs:sp m ts s=[])(hn:∀a,0≤a→a<m→(hd m ts a).length≠1):un m ts (rest m s)=[]:=by
 rw [qbh];intro a h0 h1;by_cases q:a∈s
 ·obtain⟨y,hy,ey⟩:=qpx ⟨h0,h1⟩ (hn a h0 h1);have ry:=((qae h).mp hy).1;refine Classical.byContradiction fun z=>?_
  have all:∀y∈hd m ts a,y≠a→y∈s:=fun y hy ey=>Classical.byContradiction fun e=>z ⟨y,quc.mpr ⟨((qae h).mp hy).1,e⟩,hy⟩
  have ne:=qtv hs q;cases w:ow m ts s a with
  |nil=>exact ne w
  |cons b r=>
   have hb:b∈ow m ts s a:=by rw [w];exact List.mem_cons_self
   rw [ow,List.mem_filter,decide_eq_true_eq]at hb;have rb:=qcy.mp hb.1;have ab:a∈mk m ts s b:=by rw [hb.2];simp
   have ab:=(mem_mk.mp ab).2;by_cases e:b=a
   ·subst e;have:y∈mk m ts s b:=mem_mk.mpr ⟨all y hy ey,hy⟩;rw [hb.2]at this;exact ey (List.mem_singleton.mp this)
   ·have bs:=all b (qfr rb ab) e;have:b∈mk m ts s b:=mem_mk.mpr ⟨bs,qen rb⟩;rw [hb.2]at this;exact e (List.mem_singleton.mp this)
 ·exact⟨a,quc.mpr ⟨⟨h0,h1⟩,q⟩,qen ⟨h0,h1⟩⟩
theorem qim{α:Type}(f:Int→List α)(M:Nat):∀l:List Int,(∀x∈l,(f x).length≤M)→(l.flatMap f).length≤l.length * M
 | [],_=>by simp
 |x::l,h=>by
  have:=qim f M l fun y hy=>h y (List.mem_cons_of_mem _ hy)
  have:=h x List.mem_cons_self;rw [List.flatMap_cons,List.length_append,List.length_cons,Nat.succ_mul];lia
theorem qjw(h:GW m ts){d:List Int}(g:GS m d)(hu:un m ts d=[]){M:Nat}(hM:∀a,0≤a→a<m→(hd m ts a).length≤M):m≤(M:Int) * (d.length:Int):=by
 rw [qbh]at hu;have sub:rng m ⊆ d.flatMap (hd m ts):=fun a ha=>by
  have ha:=qcy.mp ha;obtain⟨x,hx,e⟩:=hu a ha.1 ha.2;exact List.mem_flatMap.mpr ⟨x,hx,qfr ha e⟩
 have h1:=List.Nodup.length_le_of_subset ((qaZ m).imp fun z=>by lia) sub;have h2:=qim (hd m ts) M d fun x hx=>hM x (g.ok x hx).1 (g.ok x hx).2
 rw [zb]at h1;have h3:m.toNat≤d.length * M:=Nat.le_trans h1 h2;have h4:((m.toNat:Nat):Int)≤((d.length * M:Nat):Int):=Int.ofNat_le.mpr h3;rw [Int.natCast_mul,Int.mul_comm]at h4;have:=h.lo;lia
theorem qoH(l:List Nat)(c:Nat→Bool):(l.map fun i=>if c i then (1:Int)else 0).sum=((l.filter c).length:Int):=by
 induction l with
 |nil=>rfl
 |cons i l ih=>
  rw [List.map_cons,List.sum_cons,ih,List.filter_cons];cases c i
  ·simp
  ·simp;lia
theorem qly(h:GW m ts)(q:Nat):(((List.range m.toNat).filter fun i=>near ts q i).length)=(hd m ts (q:Int)).length:=by
 have e:hd m ts (q:Int)=((List.range m.toNat).filter fun i=>near ts q i).map fun(i:Nat)=>(i:Int):=by
  rw [hd,rng,List.filter_map]
  congr 1
  refine List.filter_congr fun i _=>?_
  rw [qee h];simp only [Function.comp]
  congr 1
  rw [Bool.eq_iff_iff,beq_iff_eq,beq_iff_eq];lia
 rw [e,List.length_map]
end
noncomputable def qcd:Fn:=⟨1,3,false,(.cons (.exp (.call "need_web" (.cons (.var 0) .nil))) (.cons (.ite (.val (.bi .any (.cons (.comp (.seq (.call "hoods" (.cons (.var 0) .nil))) [none,none] (.nm 1) .yes (.cmp .eq (.bi .len (.cons (.var 1) .nil)) (.con (.int 1)))) .nil))) (.cons (.ret (.con .non)) .nil) .nil) (.cons (.set (.nm 1) (.rtup (.rng (.ix (.var 0) (.con (.int 0)))))) (.cons (.set (.nm 2) (.call "leaned" (.cons (.var 0) (.cons (.var 1) .nil)))) (.cons (.ret (.tup (.cons (.var 2) (.cons (.bi .tuple (.cons (.comp (.seq (.var 1)) [none,none,some 2] (.nm 1) (.cmp .notin (.var 1) (.var 2)) (.var 1)) .nil)) .nil)))) .nil)))))⟩
noncomputable def qaw:Fn:=⟨1,2,false,(.cons (.set (.nm 1) (.call "first_apart" (.cons (.var 0) .nil))) (.cons (.ret (.ite (.cmp .eq (.bi .len (.cons (.var 1) .nil)) (.call "fewest" (.cons (.var 0) .nil))) (.var 1) (.con .non))) .nil))⟩
noncomputable def ol(m:Int)(ts:List (Int×Int)):List (List Int):=(zr (subs m.toNat)).filter (on m ts)
theorem qsP{m:Int}{ts:List (Int×Int)}(h:GW m ts){s:List Int}(hs:s∈ol m ts):GS m s∧on m ts s=true:=by
 rw [ol,List.mem_filter]at hs;obtain⟨n,_,rfl⟩:=qbT h.lo h.hi hs.1;exact⟨qdG h.hi n,hs.2⟩
structure Oc(p:Pr):Prop where
 all_once:p.fns "all_once" = some qct
 is_once_by:p.fns "is_once_by" = some qbr
theorem qot{p:Pr}(C:Oc p){k:Nat}{m:Int}(h2:m≤8)(ts:List (Int×Int))(s:List Int):qc p (k+1) "is_once_by" [.lst ((rng m).map fun a=>tu (s.filter fun x=>(hd m ts a).any fun t=>t==x))]=.ok (.bl (on m ts s)):=by
 rw [qd C.is_once_by];refine ql (τ:=[some (.lst ((rng m).map fun a=>tu (mk m ts s a)))]) rfl rfl ?_;have hc:evE ⟨qc p k,p.glb,p.sub,p.cat⟩ (.comp (.seq (.var 0)) [none,none] (.nm 1) .yes (.cmp .eq (.bi .len (.cons (.var 1) .nil)) (.con (.int 1)))) [some (.lst ((rng m).map fun a=>tu (mk m ts s a)))]=.ok (.lst ((rng m).map fun a=>.bl (decide (((mk m ts s a).length:Int)=1)))):=by
  refine qdm (f:=fun a=>tu (mk m ts s a)) (c:=[]) (fun a=>.bl (decide (((mk m ts s a).length:Int)=1))) (qav rfl) (by rw [zb];simp [SZ];lia) rfl fun a _=>?_
  simp [KG.Z,qat,eq_int]
 have h3:=qlv (rng m) (fun a=>decide (((mk m ts s a).length:Int)=1));show qe _ (.cons (.ret (.bi .all (.cons _ .nil))) .nil) _=_;rw [qe,zt,qo,qC,hc];simp only [R.bind_ok,qC,h3]
 rfl
theorem all_once{p:Pr}(B:Web p)(O:Nbr p)(C:Oc p)(ha:p.fns "all_some" = some zD){k:Nat}{m:Int}{ts:List (Int×Int)}(h:GW m ts):qc p (k+6) "all_once" [wb m ts]=.ok (.lst ((ol m ts).map tu)):=by
 have h1:=h.lo;have h2:=h.hi;have e0:=hoods B O (k:=k) h;have e1:=need_web B (k:=k+1) h;rw [qd C.all_once];refine ql (τ:=[some (wb m ts),none]) rfl rfl ?_;have hc:evE ⟨qc p (k+5),p.glb,p.sub,p.cat⟩ (.comp (.seq (.call "all_some" (.cons (.var 0) .nil))) [none,none,some 1] (.nm 1) (.val (.call "is_once_by" (.cons (.call "marks_of" (.cons (.var 2) (.cons (.var 1) .nil))) .nil))) (.var 1)) [some (wb m ts),some (.tup ((rng m).map fun a=>tu (hd m ts a)))]=.ok (.lst ((ol m ts).map tu)):=by
  refine qco (f:=tu) (c:=[some (.tup ((rng m).map fun a=>tu (hd m ts a)))]) (on m ts) tu (qav ?_) ?_ rfl ?_
  ·simp [KG.Z,qcM ha (k:=k+4) (t:=.tup (ts.map prD)) h1 h2]
  ·have:=sub_len h2;simp [SZ];lia
  ·intro s hs;obtain⟨n,hn,rfl⟩:=qbT h1 h2 hs;refine⟨?_,fun _=>rfl⟩;have q1:=marks_of O (k:=k+3) (rng m) (hd m ts) (bs m n) (qdG h2 n).len (by rw [zb];lia);have q2:=qot C (k:=k+4) h2 ts (bs m n);generalize (D.tup ((rng m).map fun a=>tu (hd m ts a)))=HD at *;generalize tu (bs m n)=TS at *;generalize D.lst ((rng m).map fun a=>tu ((bs m n).filter fun x=>(hd m ts a).any fun t=>t==x))=MK at *;simp [KG.Z,q1,q2]
 show qe _ (.cons (.exp _) (.cons (.set (.nm 1) _) (.cons (.ret _) .nil))) _=_;refine zh (σ:=[some (wb m ts),none]) (by simp [KG.Z,e1]) ?_;refine zh (σ:=[some (wb m ts),some (.tup ((rng m).map fun a=>tu (hd m ts a)))]) (by simp [KG.Z,e0]) ?_;rw [qe,zt,hc];rfl
theorem qla{p:Pr}(hf:p.fns "paper_for" = some qaw){k:Nat}{m:Int}{ts:List (Int×Int)}{s:List Int}{n:Int}(e1:qc p k "first_apart" [wb m ts]=.ok (tu s))(e2:qc p k "fewest" [wb m ts]=.ok (.int n)):qc p (k+1) "paper_for" [wb m ts]=.ok (if (s.length:Int)=n then tu s else .non):=by
 have e3:=qat s;have e4:=eq_int (s.length:Int) n;by_cases q:(s.length:Int)=n
 ·rw [if_pos q];rw [decide_eq_true q]at e4;generalize (s.length:Int)=N at *;generalize wb m ts=WB at *;generalize tu s=TS at *;rw [qd hf];refine ql rfl rfl ?_;simp [KG.Z,qaw,qB,e1,e2,e3,e4]
 ·rw [if_neg q];rw [decide_eq_false q]at e4;generalize (s.length:Int)=N at *;generalize wb m ts=WB at *;generalize tu s=TS at *;rw [qd hf];refine ql rfl rfl ?_;simp [KG.Z,qaw,qB,e1,e2,e3,e4]
theorem qld{p:Pr}(B:Web p)(O:Nbr p)(S:qbZ p)(U:Un p)(P:Sp p)(N:Ld p)(hA:p.fns "need_all" = some zX)(hf:p.fns "two_parts" = some qcd){k:Nat}{m:Int}{ts:List (Int×Int)}(h:GW m ts):qc p (k+9) "two_parts" [wb m ts]=.ok .non∨∃a b,(GS m a∧un m ts a=[])∧(GS m b∧un m ts b=[])∧((a.length+b.length:Nat):Int)=m∧qc p (k+9) "two_parts" [wb m ts]=.ok (.tup [tu a,tu b]):=by
 have h1:=h.lo;have h2:=h.hi;have z1:=need_web B (k:=k+4) h;have z2:=hoods B O (k:=k+3) h;have hr:(rng m).length=m.toNat:=zb m;have hc:evE ⟨qc p (k+8),p.glb,p.sub,p.cat⟩ (.comp (.seq (.call "hoods" (.cons (.var 0) .nil))) [none,none] (.nm 1) .yes (.cmp .eq (.bi .len (.cons (.var 1) .nil)) (.con (.int 1)))) [some (wb m ts),none,none]=.ok (.lst ((rng m).map fun a=>.bl (decide (((hd m ts a).length:Int)=1)))):=by
  refine qdm (f:=fun a=>tu (hd m ts a)) (c:=[]) (fun a=>.bl (decide (((hd m ts a).length:Int)=1))) (qdh ?_) (by rw [hr];simp only [SZ];lia) rfl fun a _=>?_
  ·generalize (D.tup ((rng m).map fun a=>tu (hd m ts a)))=HD at *;simp [KG.Z,z2]
  ·simp [KG.Z,qat,eq_int]
 have ha:=qqy (rng m) fun a=>decide (((hd m ts a).length:Int)=1)
 have body:∀o,qe ⟨qc p (k+8),p.glb,p.sub,p.cat⟩ qcd.body [some (wb m ts),none,none]=o→(∀d,o=.rt d→qc p (k+9) "two_parts" [wb m ts]=.ok d):=fun o e d hd=>by
  rw [qd hf];exact ql (τ:=[some (wb m ts),none,none]) rfl rfl (e.trans hd)
 cases q:(rng m).any fun a=>decide (((hd m ts a).length:Int)=1)with
 |true=>
  refine .inl (body _ ?_ _ rfl);show qe _ (.cons (.exp _) (.cons (.ite (.val (.bi .any (.cons _ .nil))) (.cons (.ret (.con .non)) .nil) .nil) _)) _=_;refine zh (σ:=[some (wb m ts),none,none]) (by
   generalize wb m ts=WB at *;simp [KG.Z,z1]) ?_
  rw [qe,zU,qce,qo,qC,hc];simp only [R.bind_ok,qC,ha,q];simp [KG.Z]
 |false=>
  have hn:∀a,0≤a→a<m→(hd m ts a).length≠1:=fun a h0 h1' z=>by
   rw [List.any_eq_false]at q;exact q a (qcy.mpr ⟨h0,h1'⟩) (by rw [z];rfl)
  have ga:=GS.all h1 h2;obtain⟨r1,r2,r3,r4⟩:=qkl (m:=m) (ts:=ts) 8 (rng m) ga qlF ga.len;have z3:=leaned B O S U P N hA (k:=k) h ga qlF;generalize hlw:lw m ts 8 (rng m)=d at *;refine .inr ⟨d,rest m d,⟨r1,r2⟩,⟨qps h d,qkf h r1 r3 hn⟩,qmc h r1,body _ ?_ _ rfl⟩;have hc2:evE ⟨qc p (k+8),p.glb,p.sub,p.cat⟩ (.comp (.seq (.var 1)) [none,none,some 2] (.nm 1) (.cmp .notin (.var 1) (.var 2)) (.var 1)) [some (wb m ts),some (tu (rng m)),some (tu d)]=.ok (.lst ((rest m d).map D.int)):=
   qco (f:=D.int) (c:=[some (tu d)]) (fun x=>!d.any fun t=>t==x) D.int (qdh rfl) (by rw [hr];simp only [SZ];lia) rfl fun x _=>⟨qko d x,fun _=>rfl⟩
  have o2:b1 .tuple [.lst ((rest m d).map D.int)]=.ok (tu (rest m d)):=rfl;show qe _ (.cons (.exp _) (.cons (.ite (.val (.bi .any (.cons _ .nil))) _ _) (.cons (.set (.nm 1) (.rtup (.rng (.ix (.var 0) (.con (.int 0)))))) (.cons (.set (.nm 2) _) (.cons (.ret (.tup (.cons (.var 2) (.cons (.bi .tuple (.cons _ .nil)) .nil)))) .nil))))) _=_;refine zh (σ:=[some (wb m ts),none,none]) (by
   generalize wb m ts=WB at *;simp [KG.Z,z1]) ?_
  refine zh (σ:=[some (wb m ts),none,none]) (by
   rw [zU,qce,qo,qC,hc];simp only [R.bind_ok,qC,ha,q];simp [KG.Z]) ?_
  refine zh (σ:=[some (wb m ts),some (tu (rng m)),none]) (by
   have s1:qh m=true:=by simp [qh];lia
   have i1:ixD (wb m ts) (.int 0)=.ok (.int m):=rfl;have rr:(D.tup (qS 0 m.toNat))=tu (rng m):=by rw [zq]
   generalize wb m ts=WB at *;simp [KG.Z,i1,s1,rr]) ?_
  refine zh (σ:=[some (wb m ts),some (tu (rng m)),some (tu d)]) (by
   generalize wb m ts=WB at *;generalize tu (rng m)=TR at *;generalize tu d=TD at *;simp [KG.Z,z3]) ?_
  generalize hE:EV.E.comp (.seq (.var 1)) [none,none,some 2] (.nm 1) (.cmp .notin (.var 1) (.var 2)) (.var 1)=EE at *;generalize D.lst ((rest m d).map D.int)=LR at *;generalize tu (rest m d)=TE at *;generalize wb m ts=WB at *;generalize tu (rng m)=TR at *;generalize tu d=TD at *;simp [KG.Z,hc2,o2]
end KG
namespace K26
open EV KG
open PySem (Str)
open L2 (atI ixN ltP)
theorem B:Base p:=⟨⟨by kernel_rfl,by kernel_rfl,by kernel_rfl,by kernel_rfl,by kernel_rfl,by kernel_rfl,by kernel_rfl,by kernel_rfl⟩,by kernel_rfl,by kernel_rfl,by kernel_rfl,by kernel_rfl,by kernel_rfl⟩
theorem O:qhI p:=⟨⟨by kernel_rfl,by kernel_rfl,by kernel_rfl,by kernel_rfl,by kernel_rfl⟩,by kernel_rfl⟩
theorem S:qbZ p:=⟨by kernel_rfl,by kernel_rfl,by kernel_rfl⟩
theorem U:Un p:=⟨by kernel_rfl,by kernel_rfl⟩
theorem F:Fw p:=⟨by kernel_rfl,by kernel_rfl,by kernel_rfl,by kernel_rfl,by kernel_rfl⟩
theorem P:Sp p:=⟨by kernel_rfl,by kernel_rfl⟩
theorem A:Ap p:=⟨by kernel_rfl,by kernel_rfl,by kernel_rfl,by kernel_rfl⟩
theorem MW:Mw p:=⟨by kernel_rfl,by kernel_rfl,by kernel_rfl,by kernel_rfl⟩
theorem OC:Oc p:=⟨by kernel_rfl,by kernel_rfl⟩
theorem hHA:p.fns "holds_all" = some KG.qaB:=by kernel_rfl
theorem hNA:p.fns "need_all" = some KG.zX:=by kernel_rfl
theorem hIP:p.fns "is_paper" = some KG.qbF:=by kernel_rfl
theorem hPF:p.fns "paper_for" = some KG.qaw:=by kernel_rfl
theorem hTP:p.fns "two_parts" = some KG.qcd:=by kernel_rfl
theorem hLD:p.fns "leaned" = some KG.qdJ:=by kernel_rfl
theorem hWO:p.fns "without" = some KG.qcQ:=by kernel_rfl
theorem hMK:p.fns "_law_mask" = some KG.qaz:=by kernel_rfl
theorem hAL:p.fns "_law_all" = some KG.qaU:=by kernel_rfl
theorem hHE:p.fns "_law_held" = some KG.qaA:=by kernel_rfl
theorem hHO:p.fns "_law_holding" = some KG.qan:=by kernel_rfl
theorem qpY{i:Int}(h0:0≤i)(h8:i≤8):small i=true:=by
 have:i=0∨i=1∨i=2∨i=3∨i=4∨i=5∨i=6∨i=7∨i=8:=by lia
 rcases this with rfl|rfl|rfl|rfl|rfl|rfl|rfl|rfl|rfl<;>rfl
theorem qol{m:Int}{ts:List (Int×Int)}(h:GW m ts):ma m ts≤fw m ts:=by
 obtain⟨d,g1,u1,e1⟩:=qep h;obtain⟨s,g2,a2,e2⟩:=qfk h;have:=qmF g2 a2 g1 u1;lia
structure Fact(w:W)(m:Int)(ts:List (Int×Int)):Prop where
 few:w.call "fewest" [wb m ts]=.ok (.int (fw m ts))
 most:w.call "most_apart" [wb m ts]=.ok (.int (ma m ts))
 ff:∃d,GS m d∧un m ts d=[]∧w.call "first_fewest" [wb m ts]=.ok (tu d)
 fa:∃s,GS m s∧ap m ts s=true∧w.call "first_apart" [wb m ts]=.ok (tu s)
 hold:∀s,GS m s→w.call "holds_all" [wb m ts,tu s]=.ok (.bl (decide (un m ts s=[])))
 apart:∀s,GS m s→w.call "is_apart" [wb m ts,tu s]=.ok (.bl (ap m ts s))
 holding:w.call "_law_holding" [wb m ts]=.ok (.lst ((hl m ts).map tu))
 pf:(fw m ts>ma m ts∧w.call "paper_for" [wb m ts]=.ok .non)∨(fw m ts=ma m ts∧∃s,GS m s∧ap m ts s=true∧(s.length:Int)=fw m ts∧w.call "paper_for" [wb m ts]=.ok (tu s))
 allf:w.call "all_fewest" [wb m ts]=.ok (.lst ((KG.few (hl m ts)).map tu))
 paper:∀s t,GS m s→GS m t→un m ts s=[]→ap m ts t=true→t.length=s.length→w.call "is_paper" [wb m ts,tu s,tu t]=.ok (.bl true)
 once:w.call "all_once" [wb m ts]=.ok (.lst ((ol m ts).map tu))
 parts:w.call "two_parts" [wb m ts]=.ok .non∨∃a b,(GS m a∧un m ts a=[])∧(GS m b∧un m ts b=[])∧((a.length+b.length:Nat):Int)=m∧w.call "two_parts" [wb m ts]=.ok (.tup [tu a,tu b])
 masks:∃N,qcq m ts N∧w.call "_law_masks" [wb m ts]=.ok (ln N)
theorem fact{F':Str→List D→R D}{j:Nat}(hF:F'=qc p (j+10)){m:Int}{ts:List (Int×Int)}(h:GW m ts):Fact ⟨F',p.glb,p.sub,p.cat⟩ m ts:=by
 subst hF;have BW:=B.toWeb;have ON:=O.toNbr;obtain⟨s,r,e,hs⟩:=qnQ (qnP h);have hsl:(s.length:Int)=ma m ts:=by
  have:s∈gr (al m ts):=by rw [e];exact List.mem_cons_self
  rw [gr,List.mem_filter]at this;rw [ma];simpa using this.2
 obtain⟨a,q,hL⟩:=qki h;obtain⟨f,r',e',hf⟩:=qkA (L:=hl m ts) (by rw [hL];simp);have hfm:f∈few (hl m ts):=by rw [e'];exact List.mem_cons_self
 rw [few,List.mem_filter]at hfm;obtain⟨g1,g2⟩:=qnS h hs;have f9:∀k,qc p (k+9) "fewest" [wb m ts]=.ok (.int (fw m ts)):=fun k=>by
  have:=fewest BW ON F (k:=k) h e';rw [hf]at this;exact this
 have fa:∀k,qc p (k+6) "first_apart" [wb m ts]=.ok (tu s):=fun k=>first_apart BW ON A F.all_some (k:=k) h e
 refine⟨f9 (j+1),?_,⟨f,qhd h hfm.1,qhb hfm.1,first_fewest BW ON F (k:=j+2) h e'⟩,⟨s,g1,g2,fa (j+4)⟩,fun s g=>qkZ BW S ON U hHA (k:=j+3) h g,fun s g=>is_apart BW ON S A (k:=j+4) h g,qiL B O hMK hAL hHE hHO (k:=j+7) h,?_,all_fewest BW ON F (k:=j+3) h,fun s t gs gt hu ha hl=>qmq BW ON S U A hNA hIP (k:=j+2) h gs gt hu ha hl,all_once BW ON OC F.all_some (k:=j+4) h,qld BW ON S U P ⟨hLD,hWO⟩ hNA hTP (k:=j+1) h,qgv O (k:=j+9) h⟩
 ·have:=most_apart BW ON A F.all_some (k:=j+3) h e;rw [hsl]at this;exact this
 ·have:=qla hPF (fa (j+3)) (f9 j);have l:=qol h;by_cases q:(s.length:Int)=fw m ts
  ·rw [if_pos q]at this;exact .inr ⟨by lia,s,g1,g2,q,this⟩
  ·rw [if_neg q]at this;exact .inl ⟨by lia,this⟩
abbrev RS(m:Int)(ts:List (Int×Int))(v1 v2 v3 v4 v5 v6 v7:Option D):Env:=[some (wb m ts),v1,v2,v3,v4,v5,v6,v7]
noncomputable def pc(m:Int)(x:Nat):Int:=((rng m).map fun i=>if x.testBit i.toNat then (1:Int)else 0).sum
theorem qtD{m:Int}{ts:List (Int×Int)}(h:GW m ts){N:List Nat}(hN:qcq m ts N){q:Nat}(hq:q<N.length):pc m N[q]=((hd m ts (q:Int)).length:Int):=by
 rw [pc,rng,List.map_map,←qly h q];have:=qoH (List.range m.toNat) fun i=>near ts q i
 rw [←this]
 congr 1
 refine List.map_congr_left fun i _=>?_
 simp only [Function.comp,Int.toNat_natCast,hN.bit q hq i]
theorem digits{w:W}{m:Int}{ts:List (Int×Int)}(h:GW m ts)(x:Nat):evE w (.bi .sum (.cons (.comp (.rng (.ix (.var 2) (.con (.int 0)))) [none,none,some 1] (.nm 1) .yes (.op .band (.op .shr (.var 2) (.var 1)) (.con (.int 1)))) .nil)) [none,some (.int (x:Int)),some (wb m ts)]=.ok (.int (pc m x)):=by
 have h1:=h.lo;have h2:=h.hi;have hc:evE w (.comp (.rng (.ix (.var 2) (.con (.int 0)))) [none,none,some 1] (.nm 1) .yes (.op .band (.op .shr (.var 2) (.var 1)) (.con (.int 1)))) [none,some (.int (x:Int)),some (wb m ts)]=.ok (.lst (((rng m).map fun i=>if x.testBit i.toNat then (1:Int)else 0).map D.int)):=by
  rw [List.map_map];refine qdm (f:=D.int) (c:=[some (.int (x:Int))]) (fun i=>.int (if x.testBit i.toNat then 1 else 0)) ?_ (by rw [zb];simp only [SZ];lia) rfl fun i hi=>?_
  ·rw [←zq];have s1:qh m=true:=by simp [qh];lia
   have i1:ixD (wb m ts) (.int 0)=.ok (.int m):=rfl;generalize wb m ts=WB at *;simp [KG.Z,i1,s1]
  ·have hi:=qcy.mp hi;have e1:op2 .shr (.int (x:Int)) (.int i)=.ok (.int ((x:Int)/2^i.toNat)):=by
    show opI .shr _ _=_;rw [opI,if_pos hi.1]
   have e2:op2 .band (.int ((x:Int)/2^i.toNat)) (.int 1)=.ok (.int (if x.testBit i.toNat then 1 else 0)):=by
    show R.ok (D.int (PySem.Builtin.bitAnd _ _))=_;rw [qfQ]
   simp [KG.Z,e1,e2]
 have hs:=sum_ints ((rng m).map fun i=>if x.testBit i.toNat then (1:Int)else 0);rw [qo,qC,hc];simp only [R.bind_ok,qC,hs]
 rfl
theorem qpp{w:W}{m:Int}{ts:List (Int×Int)}(h:GW m ts)(X:Fact w m ts){v1 v2 v3 v4 v5 v6 v7:Option D}:∃M:Nat,(∀a,0≤a→a<m→(hd m ts a).length≤M)∧evE w (.bi .max (.cons (.comp (.seq (.call "_law_masks" (.cons (.var 0) .nil))) [none,none,some 0] (.nm 1) .yes (.bi .sum (.cons (.comp (.rng (.ix (.var 2) (.con (.int 0)))) [none,none,some 1] (.nm 1) .yes (.op .band (.op .shr (.var 2) (.var 1)) (.con (.int 1)))) .nil))) .nil)) (RS m ts v1 v2 v3 v4 v5 v6 v7)=.ok (.int (M:Int)):=by
 have h1:=h.lo;have h2:=h.hi;obtain⟨N,hN,e⟩:=X.masks;have hl:=hN.len;have hc:evE w (.comp (.seq (.call "_law_masks" (.cons (.var 0) .nil))) [none,none,some 0] (.nm 1) .yes (.bi .sum (.cons (.comp (.rng (.ix (.var 2) (.con (.int 0)))) [none,none,some 1] (.nm 1) .yes (.op .band (.op .shr (.var 2) (.var 1)) (.con (.int 1)))) .nil))) (RS m ts v1 v2 v3 v4 v5 v6 v7)=.ok (.lst ((N.map (pc m)).map D.int)):=by
  rw [List.map_map];refine qdm (f:=fun(x:Nat)=>D.int (x:Int)) (c:=[some (wb m ts)]) (fun x=>.int (pc m x)) (qav ?_) (by rw [hl];simp only [SZ];lia) rfl fun x _=>digits h x
  dsimp only [RS];generalize wb m ts=WB at *;simp [KG.Z,e]
 obtain⟨y,r,q⟩:∃y r,N.map (pc m)=y::r:=by
  cases z:N.map (pc m)with
  |nil=>have:=congrArg List.length z;simp at this;rw [this]at hl;simp at hl;lia
  |cons y r=>exact⟨y,r,rfl⟩
 have hb:∀z∈N.map (pc m),z≤zm true y r:=fun z hz=>qdw y r z (q▸hz)
 have each:∀a,0≤a→a<m→((hd m ts a).length:Int)≤zm true y r:=fun a h0 h1'=>by
  have ha:a.toNat<N.length:=by lia
  have:=hb (pc m N[a.toNat]) (List.mem_map.mpr ⟨_,List.getElem_mem ha,rfl⟩);rw [qtD h hN ha,Int.toNat_of_nonneg h0]at this;exact this
 have pos:=each 0 (by lia) (by lia);refine⟨(zm true y r).toNat,fun a h0 h1'=>by have:=each a h0 h1';lia,?_⟩;have eM:(((zm true y r).toNat:Nat):Int)=zm true y r:=by lia
 rw [qo,qC,hc,q];simp only [R.bind_ok,qC,qms];rw [eM]
theorem qoy{w:W}{e:EV.E}{r:Ss}{τ:Env}(h:evE w e τ=.ok (.bl true)):Ends (fun _=>False) (fun d=>d=.bl true) (qe w (.cons (.ret e) r) τ):=qeq h rfl
theorem qtP{w:W}{m:Int}{ts:List (Int×Int)}{FW MA M:Int}{v3 v4 v5 v6:Option D}(o1:op2 .mul (.int M) (.int FW)=.ok (.int (M * FW)))(c1:qg .ge (.int (M * FW)) (.int m)=.ok true):evE w (.cmp .ge (.op .mul (.var 7) (.var 1)) (.ix (.var 0) (.con (.int 0)))) (RS m ts (some (.int FW)) (some (.int MA)) v3 v4 v5 v6 (some (.int M)))=.ok (.bl true):=by
 have i1:ixD (wb m ts) (.int 0)=.ok (.int m):=rfl;dsimp only [RS];generalize wb m ts=WB at *;generalize M * FW=Z at *;simp [KG.Z,o1,i1,c1]
theorem qqU{w:W}{m:Int}{ts:List (Int×Int)}(h:GW m ts)(X:Fact w m ts){FW MA:Int}{v3' v5 v6:Option D}{pd:D}{dd:List Int}(g1:GS m dd)(u1:un m ts dd=[])(e1:(dd.length:Int)=FW)(f0:0≤FW)(f8:FW≤8):Ends (fun _=>False) (fun d=>d=.bl true) (qe w (.cons (.set (.nm 7) (.bi .max (.cons (.comp (.seq (.call "_law_masks" (.cons (.var 0) .nil))) [none,none,some 0] (.nm 1) .yes (.bi .sum (.cons (.comp (.rng (.ix (.var 2) (.con (.int 0)))) [none,none,some 1] (.nm 1) .yes (.op .band (.op .shr (.var 2) (.var 1)) (.con (.int 1)))) .nil))) .nil))) (.cons (.ret (.cmp .ge (.op .mul (.var 7) (.var 1)) (.ix (.var 0) (.con (.int 0))))) .nil)) (RS m ts (some (.int (FW))) (some (.int (MA))) v3' (some pd) v5 v6 none)):=by
 obtain⟨M,hM,eM⟩:=qpp h X (v1:=some (.int (FW))) (v2:=some (.int (MA))) (v3:=v3') (v4:=some pd) (v5:=v5) (v6:=v6) (v7:=none);refine qQ (σ:=RS m ts (some (.int (FW))) (some (.int (MA))) v3' (some pd) v5 v6 (some (.int (M:Int)))) (by rw [zH,eM];rfl) ?_;have key:evE w (.cmp .ge (.op .mul (.var 7) (.var 1)) (.ix (.var 0) (.con (.int 0)))) (RS m ts (some (.int (FW))) (some (.int (MA))) v3' (some pd) v5 v6 (some (.int (M:Int))))=.ok (.bl true):=by
  have o1:op2 .mul (.int (M:Int)) (.int (FW))=.ok (.int ((M:Int) * FW)):=by
   show opI .mul (M:Int) (FW)=_;rw [opI,if_pos (by rw [qpY f0 f8,Bool.or_true])]
  have c1:qg .ge (.int ((M:Int) * FW)) (.int m)=.ok true:=by
   show R.ok (decide (m≤(M:Int) * FW))=_;have:=qjw h g1 u1 hM;rw [e1]at this;rw [decide_eq_true this]
  exact qtP o1 c1
 generalize RS m ts (some (.int (FW))) (some (.int (MA))) v3' (some pd) v5 v6 (some (.int (M:Int)))=σ at *;clear eM;exact qoy key
theorem qjs{w:W}{m:Int}{ts:List (Int×Int)}(h:GW m ts)(X:Fact w m ts){FW MA:Int}(hFW:fw m ts=FW)(hMA:ma m ts=MA):Ends (fun _=>False) (fun d=>d=.bl true) (qe w qaq.body (RS m ts none none none none none none none)):=by
 have a1:=X.few;have a2:=X.most;have le:=qol h;have pf:=X.pf;have fwl:∀{d:List Int},GS m d→un m ts d=[]→FW≤d.length:=fun g u=>by rw [←hFW];exact qfj h g u
 rw [hFW]at a1 le pf;rw [hMA]at a2 le pf;obtain⟨d0,d1,d2,d3⟩:=X.ff;obtain⟨s0,s1,s2,s3⟩:=X.fa;obtain⟨dd,g1,u1,e1⟩:=qep h;rw [hFW]at e1;have f8:FW≤8:=by have:=g1.len;lia
 have f0:0≤FW:=by lia
 have lt_no:∀a b:Int,b≤a→qg .lt (.int a) (.int b)=.ok false:=fun a b z=>by rw [lt_int,decide_eq_false (by lia)]
 clear hMA;refine qQ (σ:=RS m ts (some (.int (FW))) (some (.int (MA))) none none none none none) (by
  rw [zM];dsimp only [RS];generalize wb m ts=WB at *;simp [KG.Z,a1,a2]) ?_
 refine qQ (σ:=RS m ts (some (.int (FW))) (some (.int (MA))) none none none none none) (by
  have q1:=lt_no _ _ le;have q2:=X.hold d0 d1;rw [decide_eq_true d2]at q2;dsimp only [RS];generalize wb m ts=WB at *;generalize tu d0=TD at *;simp [KG.Z,q1,d3,q2]) ?_
 refine qQ (σ:=RS m ts (some (.int (FW))) (some (.int (MA))) none none none none none) (by
  have q2:=X.apart s0 s1;rw [s2]at q2;dsimp only [RS];generalize wb m ts=WB at *;generalize tu s0=TD at *;simp [KG.Z,s3,q2]) ?_
 refine qbx (ds:=(hl m ts).map tu) (fun r σ=>∃(l:List (List Int)) (v3:Option D),r=l.map tu∧(∀z∈l,z∈hl m ts)∧σ=RS m ts (some (.int (FW))) (some (.int (MA))) v3 none none none none) (qav (by
  have q:=X.holding;dsimp only [RS];generalize wb m ts=WB at *;generalize D.lst ((hl m ts).map tu)=HL at *;simp [KG.Z,q])) ⟨_,none,rfl,fun _ z=>z,rfl⟩ ?_ ?_
 ·rintro x t σ ⟨l,v3,e,hl',rfl⟩;obtain⟨z,l,rfl,rfl,rfl⟩:=fx e;have hz:=hl' z List.mem_cons_self;refine⟨RS m ts (some (.int (FW))) (some (.int (MA))) (some (tu z)) none none none none,rfl,?_⟩;refine qQ (σ:=RS m ts (some (.int (FW))) (some (.int (MA))) (some (tu z)) none none none none) ?_ (zy ⟨l,_,rfl,fun i hi=>hl' i (List.mem_cons_of_mem _ hi),rfl⟩);have l1:=fwl (qhd h hz) (qhb hz);have q1:=lt_no (z.length:Int) (MA) (by lia);have q2:=lt_no (z.length:Int) (FW) l1;have q3:=qat z;dsimp only [RS];generalize wb m ts=WB at *;generalize tu z=TZ at *;simp [KG.Z,q1,q2,q3]
 rintro σ ⟨l,v3,e,hl',rfl⟩;clear e hl' l
 -- the paper
 obtain⟨pd,hpd,hp⟩:∃pd,w.call "paper_for" [wb m ts]=.ok pd∧((pd=.non∧FW>MA)∨(FW=MA∧∃s,GS m s∧ap m ts s=true∧(s.length:Int)=FW∧pd=tu s)):=by
  rcases pf with ⟨q1,q2⟩|⟨q1,s,q2,q3,q4,q5⟩
  ·exact⟨_,q2,.inl ⟨rfl,q1⟩⟩
  ·exact⟨_,q5,.inr ⟨q1,s,q2,q3,q4,rfl⟩⟩
 have isn:qg .is pd .non=.ok (decide (MA<FW))∧qg .isnot pd .non=.ok (!decide (MA<FW)):=by
  rcases hp with ⟨rfl,q⟩|⟨q,s,_,_,_,rfl⟩
  ·rw [decide_eq_true q];exact⟨rfl,rfl⟩
  ·rw [decide_eq_false (by lia)];exact⟨rfl,rfl⟩
 refine qQ (σ:=RS m ts (some (.int (FW))) (some (.int (MA))) v3 (some pd) none none none) (by
  dsimp only [RS];generalize wb m ts=WB at *;simp [KG.Z,hpd]) ?_
 refine qQ (σ:=RS m ts (some (.int (FW))) (some (.int (MA))) v3 (some pd) none none none) (by
  have q1:=isn.1;have q2:qg .gt (.int (FW)) (.int (MA))=.ok (decide (MA<FW)):=rfl;have q3:=qtu (decide (MA<FW)) (decide (MA<FW));generalize decide (MA<FW)=bb at *;dsimp only [RS];generalize wb m ts=WB at *;simp [KG.Z,q1,q2,q3]) ?_
 refine qbx (ds:=(KG.few (hl m ts)).map tu) (fun r σ=>∃(l:List (List Int)) (v5:Option D),r=l.map tu∧(∀z∈l,z∈KG.few (hl m ts))∧σ=RS m ts (some (.int (FW))) (some (.int (MA))) v3 (some pd) v5 none none) (qav (by
  have q:=X.allf;dsimp only [RS];generalize wb m ts=WB at *;generalize D.lst ((KG.few (hl m ts)).map tu)=HL at *;simp [KG.Z,q])) ⟨_,none,rfl,fun _ z=>z,rfl⟩ ?_ ?_
 ·rintro x t σ ⟨l,v5,e,hl',rfl⟩;obtain⟨z,l,rfl,rfl,rfl⟩:=fx e;have hz:=hl' z List.mem_cons_self;refine⟨RS m ts (some (.int (FW))) (some (.int (MA))) v3 (some pd) (some (tu z)) none none,rfl,?_⟩;refine qQ (σ:=RS m ts (some (.int (FW))) (some (.int (MA))) v3 (some pd) (some (tu z)) none none) ?_ (zy ⟨l,_,rfl,fun i hi=>hl' i (List.mem_cons_of_mem _ hi),rfl⟩);rw [KG.few,List.mem_filter,decide_eq_true_eq]at hz;have q1:=isn.2;rcases hp with ⟨rfl,q⟩|⟨q,s,gs,as,ls,rfl⟩
  ·rw [decide_eq_true q]at q1;dsimp only [RS];generalize wb m ts=WB at *;generalize tu z=TZ at *;simp [KG.Z,q1]
  ·rw [decide_eq_false (by lia)]at q1;have hzl:(z.length:Int)=FW:=by rw [←hFW];exact hz.2
   have q2:=X.paper z s (qhd h hz.1) gs (qhb hz.1) as (by lia);dsimp only [RS];generalize wb m ts=WB at *;generalize tu z=TZ at *;generalize tu s=TS at *;simp [KG.Z,q1,q2]
 rintro σ ⟨l,v5,e,hl',rfl⟩;clear e hl' l;refine qbx (ds:=(ol m ts).map tu) (fun r σ=>∃(l:List (List Int)) (v3:Option D),r=l.map tu∧(∀z∈l,z∈ol m ts)∧σ=RS m ts (some (.int (FW))) (some (.int (MA))) v3 (some pd) v5 none none) (qav (by
  have q:=X.once;dsimp only [RS];generalize wb m ts=WB at *;generalize D.lst ((ol m ts).map tu)=HL at *;simp [KG.Z,q])) ⟨_,v3,rfl,fun _ z=>z,rfl⟩ ?_ ?_
 ·rintro x t σ ⟨l,v3,e,hl',rfl⟩;obtain⟨z,l,rfl,rfl,rfl⟩:=fx e;have hz:=hl' z List.mem_cons_self;refine⟨RS m ts (some (.int (FW))) (some (.int (MA))) (some (tu z)) (some pd) v5 none none,rfl,?_⟩;refine qQ (σ:=RS m ts (some (.int (FW))) (some (.int (MA))) (some (tu z)) (some pd) v5 none none) ?_ (zy ⟨l,_,rfl,fun i hi=>hl' i (List.mem_cons_of_mem _ hi),rfl⟩);obtain⟨gz,oz⟩:=qsP h hz;obtain⟨uz,az⟩:=qsH gz oz;obtain⟨p1,_⟩:=paper h gz az gz uz rfl;rw [hFW]at p1;have q1:=qat z;rw [←p1]at q1;have q2:=ne_int (FW) (FW);have q3:=X.paper z z gz gz uz az rfl;dsimp only [RS];generalize wb m ts=WB at *;generalize tu z=TZ at *;simp [KG.Z,q1,q2,q3]
 rintro σ ⟨l,v3',e,hl',rfl⟩;clear e hl' l
 -- two parts
 have fin:=fun v6=>qqU h X g1 u1 e1 f0 f8 (MA:=MA) (v3':=v3') (pd:=pd) (v5:=v5) (v6:=v6)
 have i1:ixD (wb m ts) (.int 0)=.ok (.int m):=rfl;have o1:op2 .mul (.int 2) (.int (FW))=.ok (.int (2 * FW)):=by
  show opI .mul 2 (FW)=_;rw [opI,if_pos (by rfl)]
 rcases X.parts with q|⟨a,b,⟨ga,ua⟩,⟨gb,ub⟩,hlen,q⟩
 ·refine qQ (σ:=RS m ts (some (.int (FW))) (some (.int (MA))) v3' (some pd) v5 (some .non) none) (by
   dsimp only [RS];generalize wb m ts=WB at *;simp [KG.Z,q]) ?_
  have n1:qg .isnot .non .non=.ok false:=rfl;refine qQ (σ:=RS m ts (some (.int (FW))) (some (.int (MA))) v3' (some pd) v5 (some .non) none) (by
   dsimp only [RS];generalize wb m ts=WB at *;simp [KG.Z,n1]) ?_
  refine qQ (σ:=RS m ts (some (.int (FW))) (some (.int (MA))) v3' (some pd) v5 (some .non) none) (by
   dsimp only [RS];generalize wb m ts=WB at *;simp [KG.Z,n1]) ?_
  exact fin _
 ·refine qQ (σ:=RS m ts (some (.int (FW))) (some (.int (MA))) v3' (some pd) v5 (some (.tup [tu a,tu b])) none) (by
   dsimp only [RS];generalize wb m ts=WB at *;generalize tu a=TA at *;generalize tu b=TB at *;simp [KG.Z,q]) ?_
  have n1:qg .isnot (.tup [tu a,tu b]) .non=.ok true:=rfl;have j1:ixD (.tup [tu a,tu b]) (.int 0)=.ok (tu a):=rfl;have j2:ixD (.tup [tu a,tu b]) (.int 1)=.ok (tu b):=rfl;have h1:=X.hold a ga;have h2:=X.hold b gb;rw [decide_eq_true ua]at h1;rw [decide_eq_true ub]at h2;have b1:=fwl ga ua;have b2:=fwl gb ub;have c1:qg .gt (.int (2 * FW)) (.int m)=.ok false:=by
   show R.ok (decide (m<2 * FW))=_;rw [decide_eq_false (by lia)]
  refine qQ (σ:=RS m ts (some (.int (FW))) (some (.int (MA))) v3' (some pd) v5 (some (.tup [tu a,tu b])) none) (by
   dsimp only [RS];generalize D.tup [tu a,tu b]=TP at *;generalize wb m ts=WB at *;generalize tu a=TA at *;generalize tu b=TB at *;simp [KG.Z,n1,j1,j2,h1,h2]) ?_
  refine qQ (σ:=RS m ts (some (.int (FW))) (some (.int (MA))) v3' (some pd) v5 (some (.tup [tu a,tu b])) none) (by
   dsimp only [RS];generalize D.tup [tu a,tu b]=TP at *;generalize wb m ts=WB at *;simp [KG.Z,n1,o1,i1,c1]) ?_
  exact fin _
theorem qlw{F':Str→List D→R D}{m:Int}{ts:List (Int×Int)}(h:GW m ts)(X:Fact ⟨F',p.glb,p.sub,p.cat⟩ m ts):zS ⟨F',p.glb,p.sub,p.cat⟩ qaq [wb m ts]=.ok (.bl true):=by
 obtain⟨d,e,rfl⟩:=qlk (w:=⟨F',p.glb,p.sub,p.cat⟩) (f:=qaq) (ds:=[wb m ts]) rfl rfl (qjs h X rfl rfl);exact e
theorem qsJ{F':Str→List D→R D}{j:Nat}(hF:F'=qc p (j+11)){n:Int}{ts:List (Int×Int)}(h:GW n ts)(hn:n≤4):∃tc,GW (2 * n) tc∧F' "crowned" [wb n ts]=.ok (wb (2 * n) tc)∧fw (2 * n) tc=n∧ma (2 * n) tc=n∧F' "is_paper" [wb (2 * n) tc,tu (rng n),tu (outer n)]=.ok (.bl true):=by
 obtain⟨tc,h',hm,e⟩:=crowned B.toWeb MW (k:=j+6) h hn;have X:=fact (j:=j+1) hF h';subst hF;obtain⟨c1,c2⟩:=qrO h hn h' hm;have gi:=qsI h hn h' hm;have go:=qlX h hn h' hm;have ui:=qkr h hn h' hm;have ao:=qsT h hn h' hm;obtain⟨p1,p2⟩:=paper h' go ao gi ui c1;rw [c2]at p1 p2;exact⟨tc,h',e,p1,p2,X.paper _ _ gi go ui ao c1⟩
theorem both{F':Str→List D→R D}{j:Nat}(hF:F'=qc p (j+11)){n m:Int}{ts us:List (Int×Int)}(h:GW n ts)(g:GW m us)(hn:n≤4)(hm:m≤4):∃tb,GW (n+m) tb∧F' "beside" [wb n ts,wb m us]=.ok (wb (n+m) tb)∧fw (n+m) tb=fw n ts+fw m us∧ma (n+m) tb=ma n ts+ma m us:=by
 subst hF;obtain⟨tb,hb,mem,e⟩:=beside B.toWeb MW (k:=j+6) h g hn hm;exact⟨tb,hb,e,qqv h g hb mem,qqQ h g hb mem⟩
noncomputable def depth:Nat:=12
abbrev LS(ns:List Int)(v1 v2 v3 v4 v5:Option D):Env:=[some (.lst (ns.map D.int)),v1,v2,v3,v4,v5]
theorem qmS{w:W}(ns:List Int)(hn:ns.length≤63)(hc:∃x:Int,w.call "_law_cell_at" [.lst (ns.map D.int),.int 0]=.ok (.int x))
  (hst:∀c j:Int,w.call "_law_stir" [.int c,.int j]=.ok (.int (st c j)))
  (hw8:∀c:Int,∃ts,GW (1+c%8) ts∧w.call "_law_web" [.int c,.int 8]=.ok (wb (1+c%8) ts))
  (hw4:∀c:Int,∃n ts,GW n ts∧n≤4∧w.call "_law_web" [.int c,.int 4]=.ok (wb n ts))
  (hr:∀(m:Int) (ts:List (Int×Int)),GW m ts→w.call "_law_web_right" [wb m ts]=.ok (.bl true))
  (hf:∀(m:Int) (ts:List (Int×Int)),GW m ts→w.call "fewest" [wb m ts]=.ok (.int (fw m ts))∧w.call "most_apart" [wb m ts]=.ok (.int (ma m ts)))
  (hC:∀n ts,GW n ts→n≤4→∃tc,GW (2 * n) tc∧w.call "crowned" [wb n ts]=.ok (wb (2 * n) tc)∧fw (2 * n) tc=n∧ma (2 * n) tc=n∧w.call "is_paper" [wb (2 * n) tc,tu (rng n),tu (outer n)]=.ok (.bl true))
  (hB:∀n m ts us,GW n ts→GW m us→n≤4→m≤4→∃tb,GW (n+m) tb∧w.call "beside" [wb n ts,wb m us]=.ok (wb (n+m) tb)∧fw (n+m) tb=fw n ts+fw m us∧ma (n+m) tb=ma n ts+ma m us):Ends (fun _=>False) (fun d=>d=.bl true) (qe w qff.body (LS ns none none none none none)):=by
 obtain⟨cs,hcs,hcl⟩:=qoA ns (some 1) (some 3);obtain⟨x,hx⟩:=hc;refine qbx (ds:=(x::cs).map D.int) (fun r σ=>∃(ms:List Int) (v1 v2 v3 v4 v5:Option D),r=ms.map D.int∧σ=LS ns v1 v2 v3 v4 v5) ?_ ⟨_,none,none,none,none,none,rfl,rfl⟩ ?_ ?_
 ·have e:op2 .add (.lst [.int x]) (.lst (cs.map D.int))=.ok (.lst ((x::cs).map D.int)):=by
   rw [op2,if_pos (by simp [SZ];lia)];simp
  simp [KG.Z,slD,hcs,hx,e,seq?]
 ·rintro y t σ ⟨ms,v1,v2,v3,v4,v5,e,rfl⟩;obtain⟨c,ms,rfl,rfl,rfl⟩:=fx e;refine⟨LS ns (some (.int c)) v2 v3 v4 v5,rfl,?_⟩;obtain⟨ts8,g8,w8⟩:=hw8 c;have r8:=hr _ ts8 g8;refine qQ (σ:=LS ns (some (.int c)) v2 v3 v4 v5) (by
   dsimp only [LS];generalize wb (1+c%8) ts8=WB at *;simp [KG.Z,w8,r8]) ?_
  obtain⟨n,ts,g,n4,w1⟩:=hw4 (st c 1);obtain⟨m,us,gu,m4,w2⟩:=hw4 (st c 2);refine qQ (σ:=LS ns (some (.int c)) (some (wb n ts)) (some (wb m us)) v4 v5) (by
   rw [zM];dsimp only [LS];generalize wb n ts=W1 at *;generalize wb m us=W2 at *;simp [KG.Z,hst,w1,w2]) ?_
  obtain⟨tb,gb,eb,f1,f2⟩:=hB n m ts us g gu n4 m4;obtain⟨a1,b1⟩:=hf n ts g;obtain⟨a2,b2⟩:=hf m us gu;obtain⟨a3,b3⟩:=hf (n+m) tb gb;rw [f1]at a3;rw [f2]at b3;refine qQ (σ:=LS ns (some (.int c)) (some (wb n ts)) (some (wb m us)) (some (wb (n+m) tb)) v5) (by
   dsimp only [LS];generalize wb (n+m) tb=W3 at *;generalize wb n ts=W1 at *;generalize wb m us=W2 at *;simp [KG.Z,eb]) ?_
  refine qQ (σ:=LS ns (some (.int c)) (some (wb n ts)) (some (wb m us)) (some (wb (n+m) tb)) v5) (by
   have o1:op2 .add (.int (fw n ts)) (.int (fw m us))=.ok (.int (fw n ts+fw m us)):=rfl;have e1:=ne_int (fw n ts+fw m us) (fw n ts+fw m us);dsimp only [LS];generalize wb (n+m) tb=W3 at *;generalize wb n ts=W1 at *;generalize wb m us=W2 at *;generalize fw n ts+fw m us=N1 at *;simp [KG.Z,a1,a2,a3,o1,e1]) ?_
  refine qQ (σ:=LS ns (some (.int c)) (some (wb n ts)) (some (wb m us)) (some (wb (n+m) tb)) v5) (by
   have o1:op2 .add (.int (ma n ts)) (.int (ma m us))=.ok (.int (ma n ts+ma m us)):=rfl;have e1:=ne_int (ma n ts+ma m us) (ma n ts+ma m us);dsimp only [LS];generalize wb (n+m) tb=W3 at *;generalize wb n ts=W1 at *;generalize wb m us=W2 at *;generalize ma n ts+ma m us=N1 at *;simp [KG.Z,b1,b2,b3,o1,e1]) ?_
  obtain⟨tc,gc,ec,c1,c2,c3⟩:=hC n ts g n4;obtain⟨a4,b4⟩:=hf (2 * n) tc gc;rw [c1]at a4;rw [c2]at b4;have r4:=hr _ tc gc;refine qQ (σ:=LS ns (some (.int c)) (some (wb n ts)) (some (wb m us)) (some (wb (n+m) tb)) (some (wb (2 * n) tc))) (by
   dsimp only [LS];generalize wb (n+m) tb=W3 at *;generalize wb (2 * n) tc=W4 at *;generalize wb n ts=W1 at *;generalize wb m us=W2 at *;simp [KG.Z,ec]) ?_
  have i1:ixD (wb n ts) (.int 0)=.ok (.int n):=rfl;have e1:=ne_int n n;refine qQ (σ:=LS ns (some (.int c)) (some (wb n ts)) (some (wb m us)) (some (wb (n+m) tb)) (some (wb (2 * n) tc))) (by
   dsimp only [LS];generalize wb (n+m) tb=W3 at *;generalize wb (2 * n) tc=W4 at *;generalize wb n ts=W1 at *;generalize wb m us=W2 at *;simp [KG.Z,i1,e1,a4,b4,r4]) ?_
  refine qQ (σ:=LS ns (some (.int c)) (some (wb n ts)) (some (wb m us)) (some (wb (n+m) tb)) (some (wb (2 * n) tc))) ?_ (zy ⟨ms,_,_,_,_,_,rfl,rfl⟩);have h1:=g.lo;have o1:op2 .mul (.int 2) (.int n)=.ok (.int (2 * n)):=by
   show opI .mul 2 n=_;rw [opI,if_pos (by rfl)]
  have s1:qh n=true:=by simp [qh];lia
  have s2:qh (2 * n)=true:=by simp [qh];lia
  have r1:(D.tup (qS 0 n.toNat))=tu (rng n):=by rw [zq]
  have r2:(D.tup (qS n (2 * n-n).toNat))=tu (outer n):=by
   rw [show 2 * n-n=n by lia,tu,outer,rng,qS,List.map_map,List.map_map];rfl
  dsimp only [LS];generalize wb (n+m) tb=W3 at *;generalize wb (2 * n) tc=W4 at *;generalize wb n ts=W1 at *;generalize wb m us=W2 at *;generalize tu (rng n)=TR at *;generalize tu (outer n)=TO at *;simp [KG.Z,i1,o1,s1,s2,r1,r2,c3]
 ·rintro σ ⟨ms,v1,v2,v3,v4,v5,e,rfl⟩;exact qeq (d:=.bl true) (by simp [KG.Z]) rfl
theorem qpJ{F:Str→List D→R D}(ns:List Int)(hn:ns.length≤63)(h:Ends (fun _=>False) (fun d=>d=.bl true) (qe ⟨F,p.glb,p.sub,p.cat⟩ qff.body (LS ns none none none none none))):zS ⟨F,p.glb,p.sub,p.cat⟩ qff [.lst (ns.map D.int)]=.ok (.bl true):=by
 obtain⟨d,e,rfl⟩:=qlk (w:=⟨F,p.glb,p.sub,p.cat⟩) (f:=qff) (ds:=[.lst (ns.map D.int)]) rfl rfl h;exact e
theorem qga{F':Str→List D→R D}{j:Nat}(hF:F'=qc p (j+11))(ns:List Int)(hn:ns.length≤63):zS ⟨F',p.glb,p.sub,p.cat⟩ qff [.lst (ns.map D.int)]=.ok (.bl true):=by
 have a0:∃x:Int,F' "_law_cell_at" [.lst (ns.map D.int),.int 0]=.ok (.int x):=by rw [hF];exact qpj B (k:=j+10) ns
 have a1:∀c j:Int,F' "_law_stir" [.int c,.int j]=.ok (.int (st c j)):=fun c i=>by rw [hF];exact qkg B._law_stir (k:=j+10) c i
 have a2:∀c:Int,∃ts,GW (1+c%8) ts∧F' "_law_web" [.int c,.int 8]=.ok (wb (1+c%8) ts):=fun c=>by rw [hF];exact qja B.draw (k:=j+9) 8 c (by decide)
 have a3:∀c:Int,∃n ts,GW n ts∧n≤4∧F' "_law_web" [.int c,.int 4]=.ok (wb n ts):=fun c=>by
  rw [hF];obtain⟨ts,g,e⟩:=qja B.draw (k:=j+9) 4 c (by decide);exact⟨_,ts,g,by lia,e⟩
 have a4:∀(m:Int) (ts:List (Int×Int)),GW m ts→F' "_law_web_right" [wb m ts]=.ok (.bl true):=fun m ts g=>by
  rw [hF,qd qeu];exact qlw g (fact rfl g)
 have a5:∀(m:Int) (ts:List (Int×Int)),GW m ts→F' "fewest" [wb m ts]=.ok (.int (fw m ts))∧F' "most_apart" [wb m ts]=.ok (.int (ma m ts)):=fun m ts g=>by
  have X:=fact (j:=j+1) hF g;exact⟨X.few,X.most⟩
 have a6:∀n ts,GW n ts→n≤4→∃tc,GW (2 * n) tc∧F' "crowned" [wb n ts]=.ok (wb (2 * n) tc)∧fw (2 * n) tc=n∧ma (2 * n) tc=n∧F' "is_paper" [wb (2 * n) tc,tu (rng n),tu (outer n)]=.ok (.bl true):=fun n ts g h=>qsJ hF g h
 have a7:∀n m ts us,GW n ts→GW m us→n≤4→m≤4→∃tb,GW (n+m) tb∧F' "beside" [wb n ts,wb m us]=.ok (wb (n+m) tb)∧fw (n+m) tb=fw n ts+fw m us∧ma (n+m) tb=ma n ts+ma m us:=fun n m ts us g g' h h'=>both hF g g' h h'
 clear hF;exact qpJ ns hn (qmS (w:=⟨F',p.glb,p.sub,p.cat⟩) ns hn a0 a1 a2 a3 a4 a5 a6 a7)
theorem qmw:∀ns:List Int,ns.length≤63→qc p depth "law" [.lst (ns.map D.int)]=.ok (.bl true):=by
 intro ns hn;rw [show depth=11+1 from rfl,qd qqr];exact qga (j:=0) rfl ns hn
end K26
namespace K26
open PySem PySem.Spec PyProof.Rows L2 EV
theorem qnU:∀e∈tab,cFn G (qeE us oth) e.own e.fr e.st=some e.fn:=by
 intro e he;simp only [tab,List.mem_cons,List.not_mem_nil,or_false]at he;rcases he with rfl|rfl|rfl|rfl|rfl|rfl|rfl|rfl|rfl|rfl|rfl|rfl|rfl|rfl|rfl|rfl|rfl|rfl|rfl|rfl|rfl|rfl|rfl|rfl|rfl|rfl|rfl|rfl|rfl|rfl|rfl|rfl|rfl|rfl|rfl|rfl|rfl|rfl|rfl|rfl|rfl|rfl|rfl|rfl|rfl|rfl|rfl|rfl|rfl|rfl|rfl|rfl<;>kernel_rfl
theorem qru:∀e∈us,e∈tab:=by
 intro e he;cases he
theorem qtS:∀e∈us,qrj (qdy oth) e.own e.fr e.st=some e.fn:=by
 intro e he;cases he
theorem nd:(tab.map (·.x)).Nodup:=by decide +kernel
section
variable{K:PySem.W.Frag}{h:Heap}{mg:Str→Option Value}{f0:Addr}(d0:WB.Dd K "is_whole" (top 7) f0){f1:Addr}(d1:WB.Dd K "is_between" (top 8) f1){f2:Addr}(d2:WB.Dd K "is_pair" (top 9) f2){f3:Addr}(d3:WB.Dd K "rises" (top 10) f3){f4:Addr}(d4:WB.Dd K "is_web" (top 13) f4){f5:Addr}(d5:WB.Dd K "is_tie" (top 14) f5){f6:Addr}(d6:WB.Dd K "need_web" (top 15) f6){f7:Addr}(d7:WB.Dd K "is_place" (top 16) f7){f8:Addr}(d8:WB.Dd K "hoods" (top 17) f8){f9:Addr}(d9:WB.Dd K "hood_of" (top 18) f9){f10:Addr}(d10:WB.Dd K "are_tied" (top 19) f10){f11:Addr}(d11:WB.Dd K "is_some" (top 21) f11){f12:Addr}(d12:WB.Dd K "need_some" (top 22) f12){f13:Addr}(d13:WB.Dd K "need_all" (top 23) f13){f14:Addr}(d14:WB.Dd K "unheld" (top 24) f14){f15:Addr}(d15:WB.Dd K "holds_all" (top 25) f15){f16:Addr}(d16:WB.Dd K "spare" (top 26) f16){f17:Addr}(d17:WB.Dd K "mark_of" (top 27) f17){f18:Addr}(d18:WB.Dd K "marks_of" (top 28) f18){f19:Addr}(d19:WB.Dd K "places_marked" (top 29) f19){f20:Addr}(d20:WB.Dd K "spare_by" (top 30) f20){f21:Addr}(d21:WB.Dd K "all_some" (top 31) f21){f22:Addr}(d22:WB.Dd K "all_holding" (top 32) f22){f23:Addr}(d23:WB.Dd K "leaned" (top 34) f23){f24:Addr}(d24:WB.Dd K "without" (top 35) f24){f25:Addr}(d25:WB.Dd K "fewest" (top 37) f25){f26:Addr}(d26:WB.Dd K "first_fewest" (top 38) f26){f27:Addr}(d27:WB.Dd K "all_fewest" (top 39) f27){f28:Addr}(d28:WB.Dd K "is_apart" (top 40) f28){f29:Addr}(d29:WB.Dd K "most_apart" (top 41) f29){f30:Addr}(d30:WB.Dd K "first_apart" (top 42) f30){f31:Addr}(d31:WB.Dd K "is_paper" (top 43) f31){f32:Addr}(d32:WB.Dd K "paper_for" (top 44) f32){f33:Addr}(d33:WB.Dd K "all_once" (top 45) f33){f34:Addr}(d34:WB.Dd K "two_parts" (top 46) f34){f35:Addr}(d35:WB.Dd K "is_apart_by" (top 47) f35){f36:Addr}(d36:WB.Dd K "is_once_by" (top 48) f36){f37:Addr}(d37:WB.Dd K "beside" (top 50) f37){f38:Addr}(d38:WB.Dd K "crowned" (top 51) f38){f39:Addr}(d39:WB.Dd K "web_of" (top 52) f39){f40:Addr}(d40:WB.Dd K "need_room" (top 53) f40){f41:Addr}(d41:WB.Dd K "_law_cell_at" (top 55) f41){f42:Addr}(d42:WB.Dd K "_law_stir" (top 56) f42){f43:Addr}(d43:WB.Dd K "_law_web" (top 57) f43){f44:Addr}(d44:WB.Dd K "_law_masks" (top 58) f44){f45:Addr}(d45:WB.Dd K "_law_some" (top 59) f45){f46:Addr}(d46:WB.Dd K "_law_mask" (top 60) f46){f47:Addr}(d47:WB.Dd K "_law_held" (top 61) f47){f48:Addr}(d48:WB.Dd K "_law_all" (top 62) f48){f49:Addr}(d49:WB.Dd K "_law_holding" (top 63) f49){f50:Addr}(d50:WB.Dd K "_law_web_right" (top 64) f50){f51:Addr}(d51:WB.Dd K "law" (top 65) f51)
include d0 d1 d2 d3 d4 d5 d6 d7 d8 d9 d10 d11 d12 d13 d14 d15 d16 d17 d18 d19 d20 d21 d22 d23 d24 d25 d26 d27 d28 d29 d30 d31 d32 d33 d34 d35 d36 d37 d38 d39 d40 d41 d42 d43 d44 d45 d46 d47 d48 d49 d50 d51
theorem qst:∀e∈tab,qfa K G e:=by
 intro e he;simp only [tab,List.mem_cons,List.not_mem_nil,or_false]at he;rcases he with rfl|rfl|rfl|rfl|rfl|rfl|rfl|rfl|rfl|rfl|rfl|rfl|rfl|rfl|rfl|rfl|rfl|rfl|rfl|rfl|rfl|rfl|rfl|rfl|rfl|rfl|rfl|rfl|rfl|rfl|rfl|rfl|rfl|rfl|rfl|rfl|rfl|rfl|rfl|rfl|rfl|rfl|rfl|rfl|rfl|rfl|rfl|rfl|rfl|rfl|rfl|rfl<;>refine⟨⟨_,by assumption⟩,fun _ _ _ _ _ _ us hl=>?_⟩<;>first|(obtain⟨_,rfl⟩:=WB.qse hl;rfl)|(obtain⟨_,_,rfl⟩:=WB.qrB hl;rfl)|(obtain⟨_,_,_,rfl⟩:=WB.qtM hl;rfl)
omit d0 d1 d2 d3 d4 d5 d6 d7 d8 d9 d10 d11 d12 d13 d14 d15 d16 d17 d18 d19 d20 d21 d22 d23 d24 d25 d26 d27 d28 d29 d30 d31 d32 d33 d34 d35 d36 d37 d38 d39 d40 d41 d42 d43 d44 d45 d46 d47 d48 d49 d50 d51
theorem qeH{x:Str}{k:GK}(h:oth.lookup x=some k):∃y∈oth,x=y.1∧k=y.2:=by
 generalize oth=l at h ⊢
 induction l with
 |nil=>cases h
 |cons a r ih=>
  rw [List.lookup_cons]at h;split at h
  ·rename_i q;cases h;exact⟨a,List.mem_cons_self,eq_of_beq q,rfl⟩
  ·obtain⟨y,h1,h2⟩:=ih h;exact⟨y,List.mem_cons_of_mem _ h1,h2⟩
theorem qsp{K:PySem.W.Frag}{C0:Addr}(k0:PySem.W.nsIn K mainGlobals "NoWeb" = some (some (.ref C0)))(x0:PySem.W.excIn K C0 qem "ValueError.__new__" = true){C1:Addr}(k1:PySem.W.nsIn K mainGlobals "NoPlaces" = some (some (.ref C1)))(x1:PySem.W.excIn K C1 qem "ValueError.__new__" = true){C2:Addr}(k2:PySem.W.nsIn K mainGlobals "NotAll" = some (some (.ref C2))){C3:Addr}(k3:PySem.W.nsIn K mainGlobals "TooGreat" = some (some (.ref C3))){tk0:Tok}(u0:PySem.W.nsIn K mainGlobals "MOST" = some (some (.int 8 tk0)))(z0:PySem.W.nsIn K mainGlobals "len" = some none)(z1:PySem.W.nsIn K mainGlobals "tuple" = some none)(z2:PySem.W.nsIn K mainGlobals "list" = some none)(z3:PySem.W.nsIn K mainGlobals "int" = some none)(z4:PySem.W.nsIn K mainGlobals "bool" = some none)(z5:PySem.W.nsIn K mainGlobals "sorted" = some none)(z6:PySem.W.nsIn K mainGlobals "all" = some none)(z7:PySem.W.nsIn K mainGlobals "any" = some none)(z8:PySem.W.nsIn K mainGlobals "min" = some none)(z9:PySem.W.nsIn K mainGlobals "max" = some none)(z10:PySem.W.nsIn K mainGlobals "sum" = some none)(z11:PySem.W.nsIn K mainGlobals "range" = some none)(z12:PySem.W.nsIn K mainGlobals "enumerate" = some none)(z13:PySem.W.nsIn K mainGlobals "isinstance" = some none):∀x k,oth.lookup x=some k→qqs K vals x k:=by
 intro x k h;obtain⟨y,h1,rfl,rfl⟩:=qeH h;simp only [oth,List.mem_cons,List.not_mem_nil,or_false]at h1;rcases h1 with rfl|rfl|rfl|rfl|rfl|rfl|rfl|rfl|rfl|rfl|rfl|rfl|rfl|rfl|rfl|rfl|rfl|rfl|rfl
 ·exact⟨_,k0,x0⟩
 ·exact⟨_,k1,x1⟩
 ·exact⟨_,k2⟩
 ·exact⟨_,k3⟩
 ·exact⟨_,.int 8,.int 8,u0,⟨_,rfl⟩,rfl,fun g H _=>.int _⟩
 ·exact⟨z0,rfl,_,rfl⟩
 ·exact⟨z1,by decide +kernel,by simp,by simp [b1N,b1V]⟩
 ·exact⟨z2,by decide +kernel,by simp,by simp [b1N,b1V]⟩
 ·exact⟨z3,by decide +kernel,by simp,by simp [b1N,b1V]⟩
 ·exact⟨z4,by decide +kernel,by simp,by simp [b1N,b1V]⟩
 ·exact⟨z5,rfl,_,rfl⟩
 ·exact⟨z6,rfl,_,rfl⟩
 ·exact⟨z7,rfl,_,rfl⟩
 ·exact⟨z8,rfl,_,rfl⟩
 ·exact⟨z9,rfl,_,rfl⟩
 ·exact⟨z10,rfl,_,rfl⟩
 ·exact⟨z11,rfl⟩
 ·exact⟨z12,rfl⟩
 ·exact⟨z13,rfl⟩
theorem qqm:∀x fr,oth.lookup x≠some (.fn fr):=by
 intro x fr h;obtain⟨y,h1,rfl,h2⟩:=qeH h;simp only [oth,List.mem_cons,List.not_mem_nil,or_false]at h1;rcases h1 with rfl|rfl|rfl|rfl|rfl|rfl|rfl|rfl|rfl|rfl|rfl|rfl|rfl|rfl|rfl|rfl|rfl|rfl|rfl<;>cases h2
theorem qpi:∀x,(oth.lookup x=some .exc∨oth.lookup x=some .exk)→([Str.ofString "NoWeb",Str.ofString "NoPlaces",Str.ofString "NotAll",Str.ofString "TooGreat"]:List Str).contains x=true:=by
 intro x h;rcases h with h|h<;>obtain⟨y,h1,rfl,h2⟩:=qeH h<;>simp only [oth,List.mem_cons,List.not_mem_nil,or_false]at h1<;>rcases h1 with rfl|rfl|rfl|rfl|rfl|rfl|rfl|rfl|rfl|rfl|rfl|rfl|rfl|rfl|rfl|rfl|rfl|rfl|rfl<;>first|(cases h2;done)|decide +kernel
theorem qsb{K:PySem.W.Frag}{C0:Addr}(k0:PySem.W.nsIn K mainGlobals "NoWeb" = some (some (.ref C0))){C1:Addr}(k1:PySem.W.nsIn K mainGlobals "NoPlaces" = some (some (.ref C1))){C2:Addr}(k2:PySem.W.nsIn K mainGlobals "NotAll" = some (some (.ref C2))){C3:Addr}(k3:PySem.W.nsIn K mainGlobals "TooGreat" = some (some (.ref C3)))  : ∀y∈qbv,∃C D,PySem.W.nsIn K mainGlobals y.1=some (some (.ref C))∧PySem.W.nsIn K mainGlobals y.2=some (some (.ref D))∧PySem.W.exmOne K (.ref C) (.ref D)=some true:=by
 intro y h1;simp only [qbv,List.mem_cons,List.not_mem_nil,or_false]at h1
 skip
theorem qso{K:PySem.W.Frag}{C0:Addr}(k0:PySem.W.nsIn K mainGlobals "NoWeb" = some (some (.ref C0))){C1:Addr}(k1:PySem.W.nsIn K mainGlobals "NoPlaces" = some (some (.ref C1))){C2:Addr}(k2:PySem.W.nsIn K mainGlobals "NotAll" = some (some (.ref C2))){C3:Addr}(k3:PySem.W.nsIn K mainGlobals "TooGreat" = some (some (.ref C3)))  : ∀y∈subs,qof K [Str.ofString "NoWeb",Str.ofString "NoPlaces",Str.ofString "NotAll",Str.ofString "TooGreat"] y:=by
 intro y h1;cases h1
include d0 d1 d2 d3 d4 d5 d6 d7 d8 d9 d10 d11 d12 d13 d14 d15 d16 d17 d18 d19 d20 d21 d22 d23 d24 d25 d26 d27 d28 d29 d30 d31 d32 d33 d34 d35 d36 d37 d38 d39 d40 d41 d42 d43 d44 d45 d46 d47 d48 d49 d50 d51
theorem all_mk(X:K.In h)(N:h.Ns mainGlobals mg){C0:Addr}(k0:PySem.W.nsIn K mainGlobals "NoWeb" = some (some (.ref C0)))(x0:PySem.W.excIn K C0 qem "ValueError.__new__" = true){C1:Addr}(k1:PySem.W.nsIn K mainGlobals "NoPlaces" = some (some (.ref C1)))(x1:PySem.W.excIn K C1 qem "ValueError.__new__" = true){C2:Addr}(k2:PySem.W.nsIn K mainGlobals "NotAll" = some (some (.ref C2))){C3:Addr}(k3:PySem.W.nsIn K mainGlobals "TooGreat" = some (some (.ref C3))){tk0:Tok}(u0:PySem.W.nsIn K mainGlobals "MOST" = some (some (.int 8 tk0)))(z0:PySem.W.nsIn K mainGlobals "len" = some none)(z1:PySem.W.nsIn K mainGlobals "tuple" = some none)(z2:PySem.W.nsIn K mainGlobals "list" = some none)(z3:PySem.W.nsIn K mainGlobals "int" = some none)(z4:PySem.W.nsIn K mainGlobals "bool" = some none)(z5:PySem.W.nsIn K mainGlobals "sorted" = some none)(z6:PySem.W.nsIn K mainGlobals "all" = some none)(z7:PySem.W.nsIn K mainGlobals "any" = some none)(z8:PySem.W.nsIn K mainGlobals "min" = some none)(z9:PySem.W.nsIn K mainGlobals "max" = some none)(z10:PySem.W.nsIn K mainGlobals "sum" = some none)(z11:PySem.W.nsIn K mainGlobals "range" = some none)(z12:PySem.W.nsIn K mainGlobals "enumerate" = some none)(z13:PySem.W.nsIn K mainGlobals "isinstance" = some none)   : Ground p (gOf K (tab.map (·.x)) [Str.ofString "NoWeb",Str.ofString "NoPlaces",Str.ofString "NotAll",Str.ofString "TooGreat"]) G (qeE us oth) (qdy oth) mg∧qfa K G qej:=
 have A:=qst d0 d1 d2 d3 d4 d5 d6 d7 d8 d9 d10 d11 d12 d13 d14 d15 d16 d17 d18 d19 d20 d21 d22 d23 d24 d25 d26 d27 d28 d29 d30 d31 d32 d33 d34 d35 d36 d37 d38 d39 d40 d41 d42 d43 d44 d45 d46 d47 d48 d49 d50 d51
 ⟨qlb X N rfl nd (qsp k0 x0 k1 x1 k2 k3 u0 z0 z1 z2 z3 z4 z5 z6 z7 z8 z9 z10 z11 z12 z13) qqm qru qtS qnU A _ (qsb k0 k1 k2 k3) qpi (qso k0 k1 k2 k3 ),A qej (by simp [tab])⟩
end
theorem walk{l:PySem.W.OpenLaw}{q:Program}{loose:List Str}{XP:(Str→Option Value)→Heap→Prop}{YP:World→Heap→Prop}{d:DefRec}{K:Params→PySem.W.Frag}(hn:l.most=some 63)(hdf:d.params.defaults=[])(hd:d.name = "law")(hY:∀(w:World) (h:Heap),YP w h→(K w.params).In h)
  (hG:∀(w:World) (mg:Str→Option Value) (h:Heap),(K w.params).In h→h.Ns mainGlobals mg→Ground p (gOf (K w.params) (tab.map (·.x)) [Str.ofString "NoWeb",Str.ofString "NoPlaces",Str.ofString "NotAll",Str.ofString "TooGreat"]) G (qeE us oth) (qdy oth) mg∧qfa (K w.params) G qej):PySem.W.WalkO q loose XP YP l.row.toRowW d [] (fun f vs=>PySem.call f vs):=
 qsW (e:=qej) (k:=depth) hn hdf hd ⟨rfl,by decide,by decide⟩ hY (by simp [tab]) nd rfl rfl (by kernel_rfl) hG (qnU qej (by simp [tab])) qmw
end K26
end
open PySem PySem.W PyProof.Rows
namespace PySem.W.Fast
def tw6793352374457272979:Nat:=0
theorem te6793352374457272979:tw6793352374457272979=0:=rfl
def tw3308576313255846975:Nat:=0
theorem te3308576313255846975:tw3308576313255846975=0:=rfl
def tw10690489529334183961:Nat:=0
theorem te10690489529334183961:tw10690489529334183961=0:=rfl
def tw5092669229058658192:Nat:=0
theorem te5092669229058658192:tw5092669229058658192=0:=rfl
def tw185756575484565225:Nat:=0
theorem te185756575484565225:tw185756575484565225=0:=rfl
def tw11263285606223590260:Nat:=0
theorem te11263285606223590260:tw11263285606223590260=0:=rfl
def tw17512594841000081055:Nat:=0
theorem te17512594841000081055:tw17512594841000081055=0:=rfl
def tw8089869611449418754:Nat:=0
theorem te8089869611449418754:tw8089869611449418754=0:=rfl
def tw8288022691281167139:Nat:=0
theorem te8288022691281167139:tw8288022691281167139=0:=rfl
def tw10029780222516282551:Nat:=0
theorem te10029780222516282551:tw10029780222516282551=0:=rfl
def tw15857203143729791142:Nat:=0
theorem te15857203143729791142:tw15857203143729791142=0:=rfl
def tw17467657737039496153:Nat:=0
theorem te17467657737039496153:tw17467657737039496153=0:=rfl
def tw14913570578236710789:Nat:=0
theorem te14913570578236710789:tw14913570578236710789=0:=rfl
def tw8236120409091957103:Nat:=0
theorem te8236120409091957103:tw8236120409091957103=0:=rfl
def tw13332534047953240325:Nat:=0
theorem te13332534047953240325:tw13332534047953240325=0:=rfl
def tw2259136033652307628:Nat:=0
theorem te2259136033652307628:tw2259136033652307628=0:=rfl
def tw11448690626838049804:Nat:=0
theorem te11448690626838049804:tw11448690626838049804=0:=rfl
def tw3309072235953423744:Nat:=0
theorem te3309072235953423744:tw3309072235953423744=0:=rfl
def tw9901967930802171335:Nat:=0
theorem te9901967930802171335:tw9901967930802171335=0:=rfl
def tw16302725221694049211:Nat:=0
theorem te16302725221694049211:tw16302725221694049211=0:=rfl
def tw9129182809651415476:Nat:=0
theorem te9129182809651415476:tw9129182809651415476=0:=rfl
def tw4716060800952911367:Nat:=0
theorem te4716060800952911367:tw4716060800952911367=0:=rfl
def tw5338142381002424772:Nat:=0
theorem te5338142381002424772:tw5338142381002424772=0:=rfl
def tw5478499297339519971:Nat:=0
theorem te5478499297339519971:tw5478499297339519971=0:=rfl
def tw17888993348688678913:Nat:=0
theorem te17888993348688678913:tw17888993348688678913=0:=rfl
def tw13616582134194058369:Nat:=0
theorem te13616582134194058369:tw13616582134194058369=0:=rfl
def tw15091246098367135312:Nat:=0
theorem te15091246098367135312:tw15091246098367135312=0:=rfl
def tw2572879852526096437:Nat:=0
theorem te2572879852526096437:tw2572879852526096437=0:=rfl
def tw4613582100316969284:Nat:=0
theorem te4613582100316969284:tw4613582100316969284=0:=rfl
def tw10252363342312332631:Nat:=0
theorem te10252363342312332631:tw10252363342312332631=0:=rfl
def tw15171186379831300531:Nat:=0
theorem te15171186379831300531:tw15171186379831300531=0:=rfl
def tw12848734636281162706:Nat:=0
theorem te12848734636281162706:tw12848734636281162706=0:=rfl
def tw5806090969007092075:Nat:=0
theorem te5806090969007092075:tw5806090969007092075=0:=rfl
def tw9585159436638626330:Nat:=0
theorem te9585159436638626330:tw9585159436638626330=0:=rfl
def tw7007409584735281410:Nat:=0
theorem te7007409584735281410:tw7007409584735281410=0:=rfl
def tw15939897498887968229:Nat:=0
theorem te15939897498887968229:tw15939897498887968229=0:=rfl
def tw14522141454322891754:Nat:=0
theorem te14522141454322891754:tw14522141454322891754=0:=rfl
def tw16745675555597134201:Nat:=0
theorem te16745675555597134201:tw16745675555597134201=0:=rfl
def tw958895532301529762:Nat:=0
theorem te958895532301529762:tw958895532301529762=0:=rfl
def tw11917035321310850895:Nat:=0
theorem te11917035321310850895:tw11917035321310850895=0:=rfl
def tw14396556381198526812:Nat:=0
theorem te14396556381198526812:tw14396556381198526812=0:=rfl
def tw15384481245705540451:Nat:=0
theorem te15384481245705540451:tw15384481245705540451=0:=rfl
def tw12421944173061042510:Nat:=0
theorem te12421944173061042510:tw12421944173061042510=0:=rfl
def tw5826695080758213944:Nat:=0
theorem te5826695080758213944:tw5826695080758213944=0:=rfl
def tw5532355912313533939:Nat:=0
theorem te5532355912313533939:tw5532355912313533939=0:=rfl
def tw14971127464972937874:Nat:=0
theorem te14971127464972937874:tw14971127464972937874=0:=rfl
def tw14778876114733130440:Nat:=0
theorem te14778876114733130440:tw14778876114733130440=0:=rfl
def tw13894724150034330704:Nat:=0
theorem te13894724150034330704:tw13894724150034330704=0:=rfl
def tw15762672842696682223:Nat:=0
theorem te15762672842696682223:tw15762672842696682223=0:=rfl
def tw16909251834222282749:Nat:=0
theorem te16909251834222282749:tw16909251834222282749=0:=rfl
def tw14145388156149402978:Nat:=0
theorem te14145388156149402978:tw14145388156149402978=0:=rfl
def tw14730447877951992149:Nat:=0
theorem te14730447877951992149:tw14730447877951992149=0:=rfl
def tw173192240260173411:Nat:=0
theorem te173192240260173411:tw173192240260173411=0:=rfl
def tw4208044520380482809:Nat:=0
theorem te4208044520380482809:tw4208044520380482809=0:=rfl
def tw15517071130104717944:Nat:=0
theorem te15517071130104717944:tw15517071130104717944=0:=rfl
def tw10937477907816223434:Nat:=0
theorem te10937477907816223434:tw10937477907816223434=0:=rfl
def tw3858039074290570565:Nat:=0
theorem te3858039074290570565:tw3858039074290570565=0:=rfl
def tw15162053966428153113:Nat:=0
theorem te15162053966428153113:tw15162053966428153113=0:=rfl
def tw14930834284055753722:Nat:=0
theorem te14930834284055753722:tw14930834284055753722=0:=rfl
def tw12722189327980897368:Nat:=0
theorem te12722189327980897368:tw12722189327980897368=0:=rfl
def tw1330074667259263399:Nat:=0
theorem te1330074667259263399:tw1330074667259263399=0:=rfl
def tw11739478559765402255:Nat:=0
theorem te11739478559765402255:tw11739478559765402255=0:=rfl
def tw9256828133477188616:Nat:=0
theorem te9256828133477188616:tw9256828133477188616=0:=rfl
def tw2431246671872041570:Nat:=0
theorem te2431246671872041570:tw2431246671872041570=0:=rfl
def tw233405345279417178:Nat:=0
theorem te233405345279417178:tw233405345279417178=0:=rfl
def tw11942113777203655532:Nat:=0
theorem te11942113777203655532:tw11942113777203655532=0:=rfl
def tw10992315411141046897:Nat:=0
theorem te10992315411141046897:tw10992315411141046897=0:=rfl
def tw8592275826659197323:Nat:=0
theorem te8592275826659197323:tw8592275826659197323=0:=rfl
def tw1738254333437807325:Nat:=0
theorem te1738254333437807325:tw1738254333437807325=0:=rfl
def tw11135093334753733870:Nat:=0
theorem te11135093334753733870:tw11135093334753733870=0:=rfl
def tw3441785054115198125:Nat:=0
theorem te3441785054115198125:tw3441785054115198125=0:=rfl
def tw4523069672835888613:Nat:=0
theorem te4523069672835888613:tw4523069672835888613=0:=rfl
def tw13691208575987074048:Nat:=0
theorem te13691208575987074048:tw13691208575987074048=0:=rfl
def tw12713369595555741410:Nat:=0
theorem te12713369595555741410:tw12713369595555741410=0:=rfl
def tw8108560721182443929:Nat:=0
theorem te8108560721182443929:tw8108560721182443929=0:=rfl
def tw7303232930182861143:Nat:=0
theorem te7303232930182861143:tw7303232930182861143=0:=rfl
def tw14015552688102701244:Nat:=0
theorem te14015552688102701244:tw14015552688102701244=0:=rfl
def tw11727275174501620972:Nat:=0
theorem te11727275174501620972:tw11727275174501620972=0:=rfl
def tw2123365948596532117:Nat:=0
theorem te2123365948596532117:tw2123365948596532117=0:=rfl
def tw15265304252850595036:Nat:=0
theorem te15265304252850595036:tw15265304252850595036=0:=rfl
def tw5355565300981999704:Nat:=0
theorem te5355565300981999704:tw5355565300981999704=0:=rfl
def tw10191161214789001543:Nat:=0
theorem te10191161214789001543:tw10191161214789001543=0:=rfl
def tw10820285842886001326:Nat:=0
theorem te10820285842886001326:tw10820285842886001326=0:=rfl
def tw9212401768496757567:Nat:=0
theorem te9212401768496757567:tw9212401768496757567=0:=rfl
def tw13057535597815140155:Nat:=0
theorem te13057535597815140155:tw13057535597815140155=0:=rfl
def tw5225898661138341247:Nat:=0
theorem te5225898661138341247:tw5225898661138341247=0:=rfl
def tw13954491806044230659:Nat:=0
theorem te13954491806044230659:tw13954491806044230659=0:=rfl
def tw16381098473673307851:Nat:=0
theorem te16381098473673307851:tw16381098473673307851=0:=rfl
def tw377596904279829571:Nat:=0
theorem te377596904279829571:tw377596904279829571=0:=rfl
def tw13263686746432303334:Nat:=0
theorem te13263686746432303334:tw13263686746432303334=0:=rfl
def tw1321741081803352565:Nat:=0
theorem te1321741081803352565:tw1321741081803352565=0:=rfl
def tw17016007963189177980:Nat:=0
theorem te17016007963189177980:tw17016007963189177980=0:=rfl
def tw11817595760808850721:Nat:=0
theorem te11817595760808850721:tw11817595760808850721=0:=rfl
def tw16203288425035663791:Nat:=0
theorem te16203288425035663791:tw16203288425035663791=0:=rfl
def tw6270734971310580717:Nat:=0
theorem te6270734971310580717:tw6270734971310580717=0:=rfl
def tw16070137313374944217:Nat:=0
theorem te16070137313374944217:tw16070137313374944217=0:=rfl
def tw11641930108995698636:Nat:=0
theorem te11641930108995698636:tw11641930108995698636=0:=rfl
def tw16154347983045944276:Nat:=0
theorem te16154347983045944276:tw16154347983045944276=0:=rfl
def tw4772773396709551534:Nat:=0
theorem te4772773396709551534:tw4772773396709551534=0:=rfl
def tw1705405855461367282:Nat:=0
theorem te1705405855461367282:tw1705405855461367282=0:=rfl
def tw15350103059122540038:Nat:=0
theorem te15350103059122540038:tw15350103059122540038=0:=rfl
def tw5340347684974242085:Nat:=0
theorem te5340347684974242085:tw5340347684974242085=0:=rfl
def tw14398378917370186250:Nat:=0
theorem te14398378917370186250:tw14398378917370186250=0:=rfl
def tw6049474210135891099:Nat:=0
theorem te6049474210135891099:tw6049474210135891099=0:=rfl
def tw8618339683171383923:Nat:=0
theorem te8618339683171383923:tw8618339683171383923=0:=rfl
def tw5409760279691213957:Nat:=0
theorem te5409760279691213957:tw5409760279691213957=0:=rfl
def tw6653601865711047096:Nat:=0
theorem te6653601865711047096:tw6653601865711047096=0:=rfl
def tw136887366653103493:Nat:=0
theorem te136887366653103493:tw136887366653103493=0:=rfl
def tw543974958356146983:Nat:=0
theorem te543974958356146983:tw543974958356146983=0:=rfl
def tw16842414955470689032:Nat:=0
theorem te16842414955470689032:tw16842414955470689032=0:=rfl
def tw2186619733126315057:Nat:=0
theorem te2186619733126315057:tw2186619733126315057=0:=rfl
def tw13886708058260167817:Nat:=0
theorem te13886708058260167817:tw13886708058260167817=0:=rfl
def tw747174416116879030:Nat:=0
theorem te747174416116879030:tw747174416116879030=0:=rfl
def tw15076317534046564525:Nat:=0
theorem te15076317534046564525:tw15076317534046564525=0:=rfl
def tw1146364048208314469:Nat:=0
theorem te1146364048208314469:tw1146364048208314469=0:=rfl
def tw15458603196719817201:Nat:=0
theorem te15458603196719817201:tw15458603196719817201=0:=rfl
def tw6343954635632108362:Nat:=0
theorem te6343954635632108362:tw6343954635632108362=0:=rfl
def tw17183327329808356084:Nat:=0
theorem te17183327329808356084:tw17183327329808356084=0:=rfl
def tw2496934747582330366:Nat:=0
theorem te2496934747582330366:tw2496934747582330366=0:=rfl
def tw2444791435339071363:Nat:=0
theorem te2444791435339071363:tw2444791435339071363=0:=rfl
def tw2395025539405736044:Nat:=0
theorem te2395025539405736044:tw2395025539405736044=0:=rfl
def tw18281963124237428906:Nat:=0
theorem te18281963124237428906:tw18281963124237428906=0:=rfl
def tw17881967976403156816:Nat:=0
theorem te17881967976403156816:tw17881967976403156816=0:=rfl
def tw3075092851551971133:Nat:=0
theorem te3075092851551971133:tw3075092851551971133=0:=rfl
def tw5010161320154302141:Nat:=0
theorem te5010161320154302141:tw5010161320154302141=0:=rfl
def tw1131170694256945524:Nat:=0
theorem te1131170694256945524:tw1131170694256945524=0:=rfl
def tw903849850771579889:Nat:=0
theorem te903849850771579889:tw903849850771579889=0:=rfl
def tw11314068327157143763:Nat:=0
theorem te11314068327157143763:tw11314068327157143763=0:=rfl
def tw3685592207319541127:Nat:=0
theorem te3685592207319541127:tw3685592207319541127=0:=rfl
def tw2205244242958877964:Nat:=0
theorem te2205244242958877964:tw2205244242958877964=0:=rfl
def tw12099997409242739999:Nat:=0
theorem te12099997409242739999:tw12099997409242739999=0:=rfl
def tw10345605823304846630:Nat:=0
theorem te10345605823304846630:tw10345605823304846630=0:=rfl
def tw15148473026201288849:Nat:=0
theorem te15148473026201288849:tw15148473026201288849=0:=rfl
def tw11578679907281561841:Nat:=0
theorem te11578679907281561841:tw11578679907281561841=0:=rfl
def tw8585365965618943665:Nat:=0
theorem te8585365965618943665:tw8585365965618943665=0:=rfl
def tw465437771700613913:Nat:=0
theorem te465437771700613913:tw465437771700613913=0:=rfl
def tw8892772293359070130:Nat:=0
theorem te8892772293359070130:tw8892772293359070130=0:=rfl
def tw1085241273663556052:Nat:=0
theorem te1085241273663556052:tw1085241273663556052=0:=rfl
def tw6335269471767177376:Nat:=0
theorem te6335269471767177376:tw6335269471767177376=0:=rfl
def tw7680084072131538377:Nat:=0
theorem te7680084072131538377:tw7680084072131538377=0:=rfl
def tw5562382267564755926:Nat:=0
theorem te5562382267564755926:tw5562382267564755926=0:=rfl
def tw12138740250728137182:Nat:=0
theorem te12138740250728137182:tw12138740250728137182=0:=rfl
def tw18339837318284203671:Nat:=0
theorem te18339837318284203671:tw18339837318284203671=0:=rfl
def tw15813546086938602900:Nat:=0
theorem te15813546086938602900:tw15813546086938602900=0:=rfl
def tw9549779826679644366:Nat:=0
theorem te9549779826679644366:tw9549779826679644366=0:=rfl
def tw7741439731107239717:Nat:=0
theorem te7741439731107239717:tw7741439731107239717=0:=rfl
def tw17757671816584107824:Nat:=0
theorem te17757671816584107824:tw17757671816584107824=0:=rfl
def tw17280667489906417197:Nat:=0
theorem te17280667489906417197:tw17280667489906417197=0:=rfl
def tw5267596743175686969:Nat:=0
theorem te5267596743175686969:tw5267596743175686969=0:=rfl
def tw12873934674843803622:Nat:=0
theorem te12873934674843803622:tw12873934674843803622=0:=rfl
def tw10559950772309366562:Nat:=0
theorem te10559950772309366562:tw10559950772309366562=0:=rfl
def tw16181467616433416541:Nat:=0
theorem te16181467616433416541:tw16181467616433416541=0:=rfl
def tw653425553284104567:Nat:=0
theorem te653425553284104567:tw653425553284104567=0:=rfl
def tw14605101629980200869:Nat:=0
theorem te14605101629980200869:tw14605101629980200869=0:=rfl
def tw3429608250836046452:Nat:=0
theorem te3429608250836046452:tw3429608250836046452=0:=rfl
def tw6061167479827778291:Nat:=0
theorem te6061167479827778291:tw6061167479827778291=0:=rfl
def tw15401187293649050195:Nat:=0
theorem te15401187293649050195:tw15401187293649050195=0:=rfl
def tw11137117269151500022:Nat:=0
theorem te11137117269151500022:tw11137117269151500022=0:=rfl
def tw15467886769892930718:Nat:=0
theorem te15467886769892930718:tw15467886769892930718=0:=rfl
def tw10114021748923544314:Nat:=0
theorem te10114021748923544314:tw10114021748923544314=0:=rfl
def tw6409361568245212452:Nat:=0
theorem te6409361568245212452:tw6409361568245212452=0:=rfl
def tw10353561550366601561:Nat:=0
theorem te10353561550366601561:tw10353561550366601561=0:=rfl
def tw14521680825695975090:Nat:=0
theorem te14521680825695975090:tw14521680825695975090=0:=rfl
def tw6089916939950532856:Nat:=0
theorem te6089916939950532856:tw6089916939950532856=0:=rfl
def tw13977102527685081881:Nat:=0
theorem te13977102527685081881:tw13977102527685081881=0:=rfl
def tw1430506521940742375:Nat:=0
theorem te1430506521940742375:tw1430506521940742375=0:=rfl
def tw1307118404127440580:Nat:=0
theorem te1307118404127440580:tw1307118404127440580=0:=rfl
def tw11288471886501856179:Nat:=0
theorem te11288471886501856179:tw11288471886501856179=0:=rfl
def tw12850622747853556673:Nat:=0
theorem te12850622747853556673:tw12850622747853556673=0:=rfl
def tw2739014596091087965:Nat:=0
theorem te2739014596091087965:tw2739014596091087965=0:=rfl
def tw10086811188565015783:Nat:=0
theorem te10086811188565015783:tw10086811188565015783=0:=rfl
def tw2196279620527544213:Nat:=0
theorem te2196279620527544213:tw2196279620527544213=0:=rfl
def tw9828058082664610313:Nat:=0
theorem te9828058082664610313:tw9828058082664610313=0:=rfl
def tw4068935376004265676:Nat:=0
theorem te4068935376004265676:tw4068935376004265676=0:=rfl
def tw1631392227844382529:Nat:=0
theorem te1631392227844382529:tw1631392227844382529=0:=rfl
def tw2062912595961819269:Nat:=0
theorem te2062912595961819269:tw2062912595961819269=0:=rfl
def tw12003395196360259011:Nat:=0
theorem te12003395196360259011:tw12003395196360259011=0:=rfl
def tw2495165886602453397:Nat:=0
theorem te2495165886602453397:tw2495165886602453397=0:=rfl
def tw9345575119200185687:Nat:=0
theorem te9345575119200185687:tw9345575119200185687=0:=rfl
def tw9120926911332816536:Nat:=0
theorem te9120926911332816536:tw9120926911332816536=0:=rfl
def tw6573316743350901556:Nat:=0
theorem te6573316743350901556:tw6573316743350901556=0:=rfl
def tw13122036633583028997:Nat:=0
theorem te13122036633583028997:tw13122036633583028997=0:=rfl
def tw4645309257020525536:Nat:=0
theorem te4645309257020525536:tw4645309257020525536=0:=rfl
def tw3535729314403810051:Nat:=0
theorem te3535729314403810051:tw3535729314403810051=0:=rfl
def tw15216807528579553055:Nat:=0
theorem te15216807528579553055:tw15216807528579553055=0:=rfl
def tw13649060423442314855:Nat:=0
theorem te13649060423442314855:tw13649060423442314855=0:=rfl
def tw17562395813437093749:Nat:=0
theorem te17562395813437093749:tw17562395813437093749=0:=rfl
def tw8056175224473999586:Nat:=0
theorem te8056175224473999586:tw8056175224473999586=0:=rfl
def tw1892882164255028701:Nat:=0
theorem te1892882164255028701:tw1892882164255028701=0:=rfl
def tw5377657480683136722:Nat:=0
theorem te5377657480683136722:tw5377657480683136722=0:=rfl
def tw1950663023764104368:Nat:=0
theorem te1950663023764104368:tw1950663023764104368=0:=rfl
def tw8714446957878685842:Nat:=0
theorem te8714446957878685842:tw8714446957878685842=0:=rfl
def tw4493793131758966069:Nat:=0
theorem te4493793131758966069:tw4493793131758966069=0:=rfl
def tw9850649796899293984:Nat:=0
theorem te9850649796899293984:tw9850649796899293984=0:=rfl
def tw3143333544510662981:Nat:=0
theorem te3143333544510662981:tw3143333544510662981=0:=rfl
def tw7217621781124154333:Nat:=0
theorem te7217621781124154333:tw7217621781124154333=0:=rfl
def tw1555042389702804955:Nat:=0
theorem te1555042389702804955:tw1555042389702804955=0:=rfl
def tw14374053180071198275:Nat:=0
theorem te14374053180071198275:tw14374053180071198275=0:=rfl
def tw10670144819275251973:Nat:=0
theorem te10670144819275251973:tw10670144819275251973=0:=rfl
def tw4108065347423005656:Nat:=0
theorem te4108065347423005656:tw4108065347423005656=0:=rfl
def tw17160824655593859007:Nat:=0
theorem te17160824655593859007:tw17160824655593859007=0:=rfl
def tw7251382675266064755:Nat:=0
theorem te7251382675266064755:tw7251382675266064755=0:=rfl
def tw5595003194835049975:Nat:=0
theorem te5595003194835049975:tw5595003194835049975=0:=rfl
def tw12083421509509702702:Nat:=0
theorem te12083421509509702702:tw12083421509509702702=0:=rfl
def tw8116425616510425070:Nat:=0
theorem te8116425616510425070:tw8116425616510425070=0:=rfl
def tw7647329622861103424:Nat:=0
theorem te7647329622861103424:tw7647329622861103424=0:=rfl
def tw3133405343466813003:Nat:=0
theorem te3133405343466813003:tw3133405343466813003=0:=rfl
def tw5654824430033513299:Nat:=0
theorem te5654824430033513299:tw5654824430033513299=0:=rfl
def tw14397388918659378032:Nat:=0
theorem te14397388918659378032:tw14397388918659378032=0:=rfl
def tw7738705058451395632:Nat:=0
theorem te7738705058451395632:tw7738705058451395632=0:=rfl
def tw2326503248069118643:Nat:=0
theorem te2326503248069118643:tw2326503248069118643=0:=rfl
def tw9909891685692920627:Nat:=0
theorem te9909891685692920627:tw9909891685692920627=0:=rfl
def tw8245347386691070380:Nat:=0
theorem te8245347386691070380:tw8245347386691070380=0:=rfl
def tw2318755997798620301:Nat:=0
theorem te2318755997798620301:tw2318755997798620301=0:=rfl
def tw6639574231451994437:Nat:=0
theorem te6639574231451994437:tw6639574231451994437=0:=rfl
def tw8539613223081620720:Nat:=0
theorem te8539613223081620720:tw8539613223081620720=0:=rfl
def tw15286331290768906206:Nat:=0
theorem te15286331290768906206:tw15286331290768906206=0:=rfl
def tw9559559770225667078:Nat:=0
theorem te9559559770225667078:tw9559559770225667078=0:=rfl
def tw9067689472895791457:Nat:=0
theorem te9067689472895791457:tw9067689472895791457=0:=rfl
def tw14274562454053903795:Nat:=0
theorem te14274562454053903795:tw14274562454053903795=0:=rfl
def tw4700052575466906739:Nat:=0
theorem te4700052575466906739:tw4700052575466906739=0:=rfl
def tw14369141829274569499:Nat:=0
theorem te14369141829274569499:tw14369141829274569499=0:=rfl
def tw5080587800882642:Nat:=0
theorem te5080587800882642:tw5080587800882642=0:=rfl
def tw10066997267067069913:Nat:=0
theorem te10066997267067069913:tw10066997267067069913=0:=rfl
def tw14581237945283145348:Nat:=0
theorem te14581237945283145348:tw14581237945283145348=0:=rfl
def tw179006788980819481:Nat:=0
theorem te179006788980819481:tw179006788980819481=0:=rfl
def tw8050829924387601274:Nat:=0
theorem te8050829924387601274:tw8050829924387601274=0:=rfl
end PySem.W.Fast
set_option maxRecDepth 100000 in
set_option maxHeartbeats 0 in
theorem PySem.Challenge.cw_holdplaces_k26_whole_no_fewer_hold_all_holds : PySem.Challenge.rw_holdplaces_k26_whole_no_fewer_hold_all.Holds := by
 w_on;o_law;k_head;(case hw=>w_witness2)
 k_fill
 refine K26.walk (l:=PySem.Challenge.rw_holdplaces_k26_whole_no_fewer_hold_all) rfl rfl rfl (fun w h Y=>PySem.W.kIn_of Y) ?F
 case F=>
  intro w mg h KX N
  refine' K26.all_mk (WB.qk ?_ ?_ ?_ ?_) (WB.qk ?_ ?_ ?_ ?_) (WB.qk ?_ ?_ ?_ ?_) (WB.qk ?_ ?_ ?_ ?_) (WB.qk ?_ ?_ ?_ ?_) (WB.qk ?_ ?_ ?_ ?_) (WB.qk ?_ ?_ ?_ ?_) (WB.qk ?_ ?_ ?_ ?_) (WB.qk ?_ ?_ ?_ ?_) (WB.qk ?_ ?_ ?_ ?_) (WB.qk ?_ ?_ ?_ ?_) (WB.qk ?_ ?_ ?_ ?_) (WB.qk ?_ ?_ ?_ ?_) (WB.qk ?_ ?_ ?_ ?_) (WB.qk ?_ ?_ ?_ ?_) (WB.qk ?_ ?_ ?_ ?_) (WB.qk ?_ ?_ ?_ ?_) (WB.qk ?_ ?_ ?_ ?_) (WB.qk ?_ ?_ ?_ ?_) (WB.qk ?_ ?_ ?_ ?_) (WB.qk ?_ ?_ ?_ ?_) (WB.qk ?_ ?_ ?_ ?_) (WB.qk ?_ ?_ ?_ ?_) (WB.qk ?_ ?_ ?_ ?_) (WB.qk ?_ ?_ ?_ ?_) (WB.qk ?_ ?_ ?_ ?_) (WB.qk ?_ ?_ ?_ ?_) (WB.qk ?_ ?_ ?_ ?_) (WB.qk ?_ ?_ ?_ ?_) (WB.qk ?_ ?_ ?_ ?_) (WB.qk ?_ ?_ ?_ ?_) (WB.qk ?_ ?_ ?_ ?_) (WB.qk ?_ ?_ ?_ ?_) (WB.qk ?_ ?_ ?_ ?_) (WB.qk ?_ ?_ ?_ ?_) (WB.qk ?_ ?_ ?_ ?_) (WB.qk ?_ ?_ ?_ ?_) (WB.qk ?_ ?_ ?_ ?_) (WB.qk ?_ ?_ ?_ ?_) (WB.qk ?_ ?_ ?_ ?_) (WB.qk ?_ ?_ ?_ ?_) (WB.qk ?_ ?_ ?_ ?_) (WB.qk ?_ ?_ ?_ ?_) (WB.qk ?_ ?_ ?_ ?_) (WB.qk ?_ ?_ ?_ ?_) (WB.qk ?_ ?_ ?_ ?_) (WB.qk ?_ ?_ ?_ ?_) (WB.qk ?_ ?_ ?_ ?_) (WB.qk ?_ ?_ ?_ ?_) (WB.qk ?_ ?_ ?_ ?_) (WB.qk ?_ ?_ ?_ ?_) (WB.qk ?_ ?_ ?_ ?_) KX N ?_ ?_ ?_ ?_ ?_ ?_ ?_ ?_ ?_ ?_ ?_ ?_ ?_ ?_ ?_ ?_ ?_ ?_ ?_ ?_ ?_
  any_goals k_is
  any_goals k_exc
#print axioms PySem.Challenge.cw_holdplaces_k26_whole_no_fewer_hold_all_holds
