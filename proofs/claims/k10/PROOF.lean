import PyProof.Rows.All
import Wide.All
import OpenK.AllK
import Wide.FinOn
import Lean
import PyProof.EqAt
import PyProof.EqKinds
import PyProof.TupleCall
import PyProof.NeKinds
import PyProof.StrLawsIn
import PyProof.Draws
import PyProof.ZipIter
import PyProof.EnumMake
import PyProof.EnumFor
import KE.KRevIter
import PyProof.CollectWalk
import KE.KItemsList
import PyProof.AttrMissSeq
import PyProof.WalksMore
import KE.KDictOf
import KE.KSortTup
import KE.KDictList
import PyProof.DictIter
import PyProof.DictWalks
import KE.KEqDict
import PyProof.Rows.StrGen4
import PyProof.StrBlockI
import PyProof.Rows.SetFrom
import PyProof.StrCalls6
import PyProof.ReprRoads
import PyProof.SetRoads
import PyProof.DictValues
import PySem.Challenge.RW_webstore_k10_fields_set_and_gone
set_option Elab.async false
set_option linter.all false
set_option maxRecDepth 100000
namespace L2
open PySem PySem.Spec PyProof.Rows
abbrev AI:=Sum Int Str
def NN:AI→Value→Bool
 | .inl k,v=>Value.isInt k v
 | .inr x,v=>Value.isStrOf x v
def vJ (w:World):AI→Int
 | .inl k=>hashInt k
 | .inr x=>hashStr w x
theorem B9:∀{k:AI} {v:Value},NN k v=true→(∃i t,k=Sum.inl i∧v=Value.int i t)∨(∃x t,k=Sum.inr x∧v=Value.str x t)
 | .inl i,v,h=>by
   obtain⟨t,e⟩:=Value.isInt_shape (k:=i) (v:=v) h
   exact .inl ⟨i,t,rfl,e⟩
 | .inr x,v,h=>by
   obtain⟨t,e⟩:=Value.isStrOf_shape (x:=x) (v:=v) h
   exact .inr ⟨x,t,rfl,e⟩
theorem VA (i:Int) (t:Tok):NN (.inl i) (.int i t)=true:=by simp[NN,Value.isInt]
theorem VD (x:Str) (t:Tok):NN (.inr x) (.str x t)=true:=by simp[NN,Value.isStrOf]
theorem gE (a b:Int):decide ((Sum.inl a:AI)=Sum.inl b)=(a==b):=by
 by_cases e:a=b
 ·subst e;simp
 ·have h:¬(Sum.inl a:AI)=Sum.inl b:=fun q=>e (Sum.inl.inj q)
  rw[decide_eq_false h]
  exact(beq_eq_false_iff_ne.mpr e).symm
theorem lT (a b:Str):decide ((Sum.inr a:AI)=Sum.inr b)=decide (a=b):=by
 by_cases e:a=b
 ·subst e;simp
 ·have h:¬(Sum.inr a:AI)=Sum.inr b:=fun q=>e (Sum.inr.inj q)
  rw[decide_eq_false h,decide_eq_false e]
theorem gT (a:Int) (b:Str):decide ((Sum.inl a:AI)=Sum.inr b)=false:=decide_eq_false (fun q=>nomatch q)
theorem gL (a:Str) (b:Int):decide ((Sum.inr a:AI)=Sum.inl b)=false:=decide_eq_false (fun q=>nomatch q)
def AW (prog:Program) (w:World):PySem.KeyKind prog w AI where
 is:=NN
 hash:=vJ w
 inj:=fun v a b ha hb=>by
  rcases B9 ha with⟨i,t,rfl,rfl⟩|⟨x,t,rfl,rfl⟩
  ·rcases B9 hb with⟨j,u,rfl,e⟩|⟨y,u,rfl,e⟩
   ·injection e with e1 _;rw[e1]
   ·exact nomatch e
  ·rcases B9 hb with⟨j,u,rfl,e⟩|⟨y,u,rfl,e⟩
   ·exact nomatch e
   ·injection e with e1 _;rw[e1]
 byValue:=fun k v h=>by
  rcases B9 h with⟨i,t,rfl,rfl⟩|⟨x,t,rfl,rfl⟩<;>rfl
 pyHash:=fun hv h=>by
  rcases B9 hv with⟨i,t,rfl,rfl⟩|⟨x,t,rfl,rfl⟩
  ·exact wpAny_pyHash_int h
  ·exact wpAny_pyHash_str h
 eqBool:=fun hu hv h=>by
  rcases B9 hu with⟨i,t,rfl,rfl⟩|⟨x,t,rfl,rfl⟩
  ·rcases B9 hv with⟨j,u,rfl,rfl⟩|⟨y,u,rfl,rfl⟩
   ·rw[gE]at h;exact wpAny_eqBool_int h
   ·rw[gT]at h;exact SeqAt.EqAt.int_str i t y u _ _ _ _ h
  ·rcases B9 hv with⟨j,u,rfl,rfl⟩|⟨y,u,rfl,rfl⟩
   ·rw[gL]at h;exact SeqAt.EqAt.str_int x t j u _ _ _ _ h
   ·rw[lT]at h;exact wpAny_eqBool_str h
 «strs»:=fun k x t v h=>by
  rcases B9 h with⟨i,u,rfl,e⟩|⟨y,u,rfl,e⟩
  ·exact nomatch e
  ·injection e with e1 _
   subst e1
   cases v<;>rfl
theorem QS (prog:Program) (w:World) (i:Int) (t:Tok):(AW prog w).is (.inl i) (.int i t)=true:=VA i t
theorem Q1 (prog:Program) (w:World) (x:Str) (t:Tok):(AW prog w).is (.inr x) (.str x t)=true:=VD x t
end L2
namespace L2
open PySem PySem.Spec PyProof.Rows
inductive V where
 |non|bl (b:Bool)|int (i:Int)|str (x:Str)|byt (b:Array UInt8)|flt (b:UInt64)|ref (a:Addr)|ty (n:String)
 deriving DecidableEq
def RelV:V→Value→Prop
 | .non,u=>u=Value.none
 | .bl b,u=>u=Value.bool b
 | .int i,u=>∃t,u=Value.int i t
 | .str x,u=>∃t,u=Value.str x t
 | .byt b,u=>∃t,u=Value.bytes b t
 | .flt b,u=>∃t,u=Value.float b t
 | .ref a,u=>u=Value.ref a
 | .ty n,u=>u=Value.type n
abbrev Vals:List V→List Value→Prop:=Paired RelV
theorem Vals.length {xs:List V} {us:List Value} (r:Vals xs us):xs.length=us.length:=Paired.length r
theorem Vals.get:∀{xs:List V} {us:List Value} {i:Nat} {x:V},Vals xs us→xs[i]? =some x→∃u,us[i]? =some u∧RelV x u
 |_,_,_,_, .nil,e=>by simp at e
 |_,_,0,_, .cons r _,e=>by simp at e;subst e;exact⟨_,rfl,r⟩
 |_,_,i+1,x, .cons _ t,e=>by
  obtain⟨u,h1,h2⟩:=Vals.get (i:=i) (x:=x) t (by simpa using e)
  exact⟨u,by simpa using h1,h2⟩
theorem Vals.set {x:V} {u:Value} (r:RelV x u):∀{xs:List V} {us:List Value} (i:Nat),Vals xs us→Vals (xs.set i x) (us.set i u)
 |_,_,_, .nil=> .nil
 |_,_,0, .cons _ t=> .cons r t
 |_,_,i+1, .cons q t=> .cons q (Vals.set r i t)
theorem Vals.append:∀{xs ys:List V} {us ws:List Value},Vals xs us→Vals ys ws→Vals (xs++ys) (us++ws)
 |_,_,_,_, .nil,s=>s
 |_,_,_,_, .cons r t,s=> .cons r (Vals.append t s)
theorem Vals.take:∀{xs:List V} {us:List Value} (n:Nat),Vals xs us→Vals (xs.take n) (us.take n)
 |_,_,0,_=> .nil
 |_,_,_+1, .nil=> .nil
 |_,_,n+1, .cons r t=> .cons r (Vals.take n t)
theorem Vals.drop:∀{xs:List V} {us:List Value} (n:Nat),Vals xs us→Vals (xs.drop n) (us.drop n)
 |_,_,0,r=>r
 |_,_,_+1, .nil=> .nil
 |_,_,n+1, .cons _ t=>Vals.drop n t
def RelO:Option V→Option Value→Prop
 |some v,some u=>RelV v u
 |none,none=>True
 |_,_=>False
def KV {κ:Type}:List (κ×V)→List (κ×Value)→Prop:=Paired fun(p:κ×V) (q:κ×Value)=>p.1=q.1∧RelV p.2 q.2
def kV:AI→V
 | .inl i=> .int i
 | .inr x=> .str x
def kW (o:Obj):Prop:=o.cls= .type "tuple"∧o.dict=none
def IsTupX (h:Heap) (a:Addr) (items:Array Value):Prop:=∃o,h.get? a=some o∧kW o∧∃n,o.data= .seq items n
theorem IsTupX.tup {h:Heap} {a:Addr} {items:Array Value} (x:IsTupX h a items):IsTup h a items:=let⟨o,h1,h2,h3⟩:=x;⟨o,h1,h2.1,h3⟩
theorem IsTupX.lt {h:Heap} {a:Addr} {items:Array Value} (x:IsTupX h a items):a<h.objs.size:=x.tup.lt
theorem IsTupX.new (h:Heap) (items:Array Value):IsTupX (h.push {cls:= .type "tuple",data:= .seq items}) h.objs.size items:=⟨_,Heap.get?_push_size _ rfl,⟨rfl,rfl⟩,_,rfl⟩
inductive HO where
 |lst (xs:List V)
 |tup (xs:List V)
 |dK (kvs:List (AI×V))|dT (kvs:List (List AI×V))
 |set (S:Int→Bool) (n:Nat)
 |ins (C dx:Addr) (fs:List (Str×V))
 |own (x:Addr)
 |xd (fs:List (Str×V))
 |met (f x:Addr)
 |rng (lo hi:Int)
 |frz (o:Obj) (u:HO)
 |tbl (ps:Array Value)
 |ext (φ:Heap→Prop)
abbrev Hp:=Addr→Option HO
def upd (H:Hp) (a:Addr) (o:HO):Hp:=fun b=>if b=a then some o else H b
theorem AH {H:Hp} {a:Addr} {o:HO}:upd H a o a=some o:=by unfold upd;rw[if_pos rfl]
theorem AF {H:Hp} {a b:Addr} {o:HO} (h:b≠a):upd H a o b=H b:=by unfold upd;rw[if_neg h]
theorem oN {H:Hp} {a b:Addr} {o u:HO} (h:H a=some o) (h':H b=some u) (d:o≠u):a≠b:=by
 intro e;subst e;rw[h]at h';exact d (Option.some.inj h')
theorem BQ {H:Hp} {a b:Addr} {o:HO} (h:H a=some o) (h':H b=none):a≠b:=by
 intro e;subst e;rw[h]at h';cases h'
section
variable (P:Program) (w:World)
def ObjOk (H:Hp) (h:Heap) (a:Addr):HO→Prop
 | .lst xs=>xs.length≤sizeLine∧∃(its:List Value) (n:Nat),Vals xs its∧h.get? a=some {cls:= .type "list",data:= .seq its.toArray n}
 | .tup xs=>xs.length≤sizeLine∧∃its:List Value,Vals xs its∧IsTupX h a its.toArray
 | .dK kvs=>kvs.length≤sizeLine∧(a==sysModules)=false∧∃vs,KV kvs vs∧h.DictOf (AW P w) a vs
 | .dT kvs=>kvs.length≤sizeLine∧(a==sysModules)=false∧∃xs:List (List AI×Addr×Value),
     Paired (fun(p:List AI×V) (q:List AI×Addr×Value)=>p.1=q.1∧H q.2.1=some (.tup (p.1.map kV))∧RelV p.2 q.2.2) kvs xs∧
     ∃o es ep,h.get? a=some o∧o.ExactDict∧o.data= .dict es ep∧es.toList=xs.map (entryOfKey (tupleKind (AW P w)))∧(xs.map (·.1)).Nodup
 | .set S n=>h.SetOf (intKind P w) a S n
 | .ins C dx fs=>H dx=some (.own a)∧fs.length≤1000∧dx≠a∧h.get? a=some (PySem.W.instObj C dx)∧
     ∃mA,h.Ns1 dx mA∧(∀f,RelO (fs.lookup f) (mA f))∧PySem.Within mA (fs.map (·.1))
 | .own _=>∃o,h.get? a=some o
 | .xd fs=>∃mA,h.Ns1 a mA∧∀f,RelO (fs.lookup f) (mA f)
 | .rng lo hi=>∃t u v,h.get? a=some {cls:= .type "range",data:= .fields #[.int lo t, .int hi u, .int 1 v]}
 | .frz o u=>h.get? a=some o∧ObjOk H h a u
 | .tbl ps=>h.get? a=some {cls:= .none,data:= .fields ps}
 | .met f x=>h.get? a=some (PySem.W.methodObj (.ref f) (.ref x))
 | .ext φ=>φ h∧(∃o,h.get? a=some o)∧∀h1 h2:Heap,φ h1→(∀o,h1.get? a=some o→h2.get? a=some o)→φ h2
def HOk (H:Hp) (h:Heap):Prop:=∀a o,H a=some o→ObjOk P w H h a o
end
section
variable {P:Program} {w:World} {H H':Hp} {h h':Heap} {a:Addr} {o:HO}
theorem ObjOk.lt (x:ObjOk P w H h a o):a<h.objs.size:=by
 cases o with
 |lst xs=>obtain⟨_,_,_,_,e⟩:=x;exact Heap.lt_size e
 |tup xs=>obtain⟨_,_,_,p⟩:=x;exact p.lt
 |dK kvs=>obtain⟨_,_,_,_,o,_,_,e,_⟩:=x;exact Heap.lt_size e
 |dT kvs=>obtain⟨_,_,_,_,o,_,_,e,_⟩:=x;exact Heap.lt_size e
 |set S n=>obtain⟨o,_,_,_,e,_⟩:=x;exact Heap.lt_size e
 |ins C dx fs=>obtain⟨_,_,_,e,_⟩:=x;exact Heap.lt_size e
 |own y=>obtain⟨_,e⟩:=x;exact Heap.lt_size e
 |xd fs=>obtain⟨_,⟨_,_,_,e,_⟩,_⟩:=x;exact Heap.lt_size e
 |rng lo hi=>obtain⟨_,_,_,e⟩:=x;exact Heap.lt_size e
 |frz ob u=>obtain⟨e,_⟩:=x;exact Heap.lt_size e
 |tbl ps=>exact Heap.lt_size (show h.get? a=some _ from x)
 |met f y=>exact Heap.lt_size (show h.get? a=some _ from x)
 |ext φ=>obtain⟨_,⟨_,e⟩,_⟩:=x;exact Heap.lt_size e
theorem Paired.mapP {α β:Type} {F G:α→β→Prop}:∀{l₁:List α} {l₂:List β},Paired F l₁ l₂→(∀a b,F a b→G a b)→Paired G l₁ l₂
 |_,_, .nil,_=> .nil
 |_,_, .cons r t,f=> .cons (f _ _ r) (Paired.mapP t f)
theorem ObjOk.stay (x:ObjOk P w H h a o) (k:∀b u,(b=a∨H b=some (.own a))→h.get? b=some u→h'.get? b=some u)
 (ho:∀b,H b=some (.own a)→H' b=some (.own a)) (ht:∀b xs,H b=some (.tup xs)→H' b=some (.tup xs)):ObjOk P w H' h' a o:=by
 induction o with
 |lst xs=>obtain⟨z,its,n,r,e⟩:=x;exact⟨z,its,n,r,k _ _ (.inl rfl) e⟩
 |tup xs=>obtain⟨z,its,r,ob,e,c⟩:=x;exact⟨z,its,r,ob,k _ _ (.inl rfl) e,c⟩
 |dK kvs=>obtain⟨z,y,vs,r,ob,es,ep,e,c⟩:=x;exact⟨z,y,vs,r,ob,es,ep,k _ _ (.inl rfl) e,c⟩
 |dT kvs=>
  obtain⟨z,y,xs,r,ob,es,ep,e,c⟩:=x
  exact⟨z,y,xs,Paired.mapP r fun p q z=>⟨z.1,ht _ _ z.2.1,z.2.2⟩,ob,es,ep,k _ _ (.inl rfl) e,c⟩
 |set S n=>obtain⟨ob,es,ep,t,e,c⟩:=x;exact⟨ob,es,ep,t,k _ _ (.inl rfl) e,c⟩
 |ins C dx fs=>
  obtain⟨d,z,ne,e,mA,⟨od,es,ep,e2,c⟩,r⟩:=x
  exact⟨ho _ d,z,ne,k _ _ (.inl rfl) e,mA,⟨od,es,ep,k _ _ (.inr d) e2,c⟩,r⟩
 |own y=>obtain⟨ob,e⟩:=x;exact⟨ob,k _ _ (.inl rfl) e⟩
 |xd fs=>obtain⟨mA,⟨od,es,ep,e,c⟩,r⟩:=x;exact⟨mA,⟨od,es,ep,k _ _ (.inl rfl) e,c⟩,r⟩
 |rng lo hi=>obtain⟨t,u,v,e⟩:=x;exact⟨t,u,v,k _ _ (.inl rfl) e⟩
 |frz ob u ih=>obtain⟨e,q⟩:=x;exact⟨k _ _ (.inl rfl) e,ih q⟩
 |tbl ps=>
  have e:h.get? a=some {cls:= .none,data:= .fields ps}:=x
  show h'.get? a=some {cls:= .none,data:= .fields ps}
  exact k a _ (.inl rfl) e
 |met f y=>
  have e:h.get? a=some (PySem.W.methodObj (.ref f) (.ref y)):=x
  show h'.get? a=some (PySem.W.methodObj (.ref f) (.ref y))
  exact k a _ (.inl rfl) e
 |ext φ=>obtain⟨p,⟨o,e⟩,st⟩:=x;exact⟨st _ _ p fun o q=>k _ _ (.inl rfl) q,⟨o,k _ _ (.inl rfl) e⟩,st⟩
theorem HOk.lt (x:HOk P w H h) (e:H a=some o):a<h.objs.size:=(x a o e).lt
theorem HOk.fresh (x:HOk P w H h) (e:h.objs.size≤a):H a=none:=by
 cases q:H a with
 |none=>rfl
 |some u=>exact absurd (Nat.lt_of_lt_of_le (x.lt q) e) (Nat.lt_irrefl _)
theorem HOk.kept (x:HOk P w H h) (k:∀b u,h.get? b=some u→h'.get? b=some u):HOk P w H h':=fun a o e=>
 (x a o e).stay (fun b u _ q=>k b u q) (fun _ q=>q) fun _ _ q=>q
theorem HOk.laid (x:HOk P w H h) (k:∀b u,h.get? b=some u→h'.get? b=some u) (hp:h.objs.size≤a) (new:ObjOk P w (upd H a o) h' a o):HOk P w (upd H a o) h':=fun b u e=>by
 have hn:=x.fresh hp
 by_cases hb:b=a
 ·subst hb;rw[AH]at e;cases e;exact new
 ·rw[AF hb]at e
  exact(x b u e).stay (fun c v _ q=>k c v q) (fun c q=>by rw[AF (BQ q hn)];exact q) fun c xs q=>by rw[AF (BQ q hn)];exact q
end
def Rd (H:Hp) (a:Addr) (u:HO):Prop:=H a=some u∨∃o,H a=some (.frz o u)
theorem Rd.ok {P:Program} {w:World} {H:Hp} {h:Heap} {a:Addr} {u:HO} (r:Rd H a u) (x:HOk P w H h):ObjOk P w H h a u:=by
 rcases r with r|⟨o,r⟩
 ·exact x a u r
 ·obtain⟨_,q⟩:=x a _ r
  exact q
def oI:Option HO→Prop
 |some (.lst _)=>True
 |some (.dK _)=>True
 |some (.dT _)=>True
 |some (.set _ _)=>True
 |some (.ins _ _ _)=>True
 |some (.ext _)=>True
 |_=>False
section
variable {P:Program} {w:World} {H:Hp} {h h':Heap} {x e:Addr} {o':HO}
theorem HOk.write (ok:HOk P w H h) (mu:oI (H x)) (he:e=x∨H e=some (.own x)) (k:∀b u,b≠e→h.get? b=some u→h'.get? b=some u) (heo:∃u,h'.get? e=some u)
 (new:ObjOk P w (upd H x o') h' x o'):HOk P w (upd H x o') h':=fun b u q=>by
 have nown:∀c y,H c=some (.own y)→c≠x:=fun c y r z=>by subst z;rw[r]at mu;exact mu
 have ntup:∀c xs,H c=some (.tup xs)→c≠x:=fun c xs r z=>by subst z;rw[r]at mu;exact mu
 by_cases hb:b=x
 ·subst hb;rw[AH]at q;cases q;exact new
 ·rw[AF hb]at q
  by_cases hbe:b=e
  ·have q':H b=some (.own x):=by
    rcases he with z|z
    ·exact absurd (hbe.trans z) hb
    ·rw[hbe];exact z
   rw[q]at q';cases q'
   obtain⟨v,hv⟩:=heo
   exact⟨v,by rw[hbe];exact hv⟩
  ·refine(ok b u q).stay (fun c v hc r=>k c v ?_ r) (fun c r=>by rw[AF (nown c b r)];exact r) fun c xs r=>by rw[AF (ntup c xs r)];exact r
   rcases hc with rfl|hc
   ·exact hbe
   ·rintro rfl
    rcases he with z|z
    ·exact nown c b hc z
    ·rw[hc]at z;cases z;exact hb rfl
end
structure Un (fs ex:List Addr) (H H':Hp) (h h':Heap):Prop where
 keep:∀b o,h.get? b=some o→H b=none→b∉fs→b∉ex→h'.get? b=some o
 slot:∀b o,h.get? b=some o→H b=none→b∈fs→b∉ex→∃sl,h'.get? b=some {o with slots:=sl}
 free:∀b o,h.get? b=some o→H b=none→b∉ex→H' b=none
 there:∀b o,h.get? b=some o→b∉ex→∃o',h'.get? b=some o'
 tups:∀b xs,H b=some (.tup xs)→H' b=some (.tup xs)
 frzs:∀b o u,H b=some (.frz o u)→H' b=some (.frz o u)
 tbls:∀b ps,H b=some (.tbl ps)→∃more,H' b=some (.tbl (ps++more))
section
variable {fs fs' ex ex':List Addr} {H H1 H2:Hp} {h h1 h2 h':Heap} {a x e:Addr} {o:HO}
theorem Un.any (u:Un fs ex H H1 h h1) {b:Addr} {ob:Obj} (q:h.get? b=some ob) (n:H b=none) (hx:b∉ex):∃sl,h1.get? b=some {ob with slots:=sl}:=by
 by_cases hb:b∈fs
 ·exact u.slot b ob q n hb hx
 ·exact⟨ob.slots,u.keep b ob q n hb hx⟩
theorem Un.trans (a:Un fs ex H H1 h h1) (b:Un fs ex H1 H2 h1 h2):Un fs ex H H2 h h2 where
 keep:=fun c ob q n hc hx=>b.keep c ob (a.keep c ob q n hc hx) (a.free c ob q n hx) hc hx
 slot:=fun c ob q n hc hx=>by
  obtain⟨sl,e1⟩:=a.slot c ob q n hc hx
  obtain⟨sl',e2⟩:=b.slot c _ e1 (a.free c ob q n hx) hc hx
  exact⟨sl',e2⟩
 free:=fun c ob q n hx=>by
  obtain⟨o',e1⟩:=a.there c ob q hx
  exact b.free c o' e1 (a.free c ob q n hx) hx
 there:=fun c ob q hx=>by
  obtain⟨o',e1⟩:=a.there c ob q hx
  exact b.there c o' e1 hx
 tups:=fun c xs q=>b.tups c xs (a.tups c xs q)
 frzs:=fun c ob xs q=>b.frzs c ob xs (a.frzs c ob xs q)
 tbls:=fun c ps q=>by
  obtain⟨m1,e1⟩:=a.tbls c ps q
  obtain⟨m2,e2⟩:=b.tbls c _ e1
  exact⟨m1++m2,by rw[e2,Array.append_assoc]⟩
theorem Un.kept (k:∀b u,h.get? b=some u→h'.get? b=some u):Un fs ex H H h h':=
 ⟨fun b ob q _ _ _=>k b ob q,fun b ob q _ _ _=>⟨ob.slots,k b ob q⟩,fun _ _ _ n _=>n,fun b ob q _=>⟨ob,k b ob q⟩,fun _ _ q=>q,fun _ _ _ q=>q,fun _ ps q=>⟨#[],by rw[q];simp⟩⟩
theorem Un.refl:Un fs ex H H h h:=Un.kept fun _ _ q=>q
theorem Un.laid (k:∀b u,h.get? b=some u→h'.get? b=some u) (hp:h.objs.size≤a) (hn:H a=none):Un fs ex H (upd H a o) h h' where
 keep:=fun b u q _ _ _=>k b u q
 slot:=fun b u q _ _ _=>⟨u.slots,k b u q⟩
 free:=fun b u q n _=>by rw[AF (Nat.ne_of_lt (Nat.lt_of_lt_of_le (Heap.lt_size q) hp))];exact n
 there:=fun b u q _=>⟨u,k b u q⟩
 tups:=fun b xs q=>by rw[AF (BQ q hn)];exact q
 frzs:=fun b u xs q=>by rw[AF (BQ q hn)];exact q
 tbls:=fun b ps q=>⟨#[],by rw[AF (BQ q hn),q];simp⟩
theorem Un.write (mu:oI (H x)) (he:e=x∨H e=some (.own x)) (k:∀b u,b≠e→h.get? b=some u→h'.get? b=some u) (heo:∃u,h'.get? e=some u):Un fs ex H (upd H x o) h h':=by
 have hx:∀b,H b=none→b≠x:=fun b n z=>by subst z;rw[n]at mu;exact mu
 have hb:∀b,H b=none→b≠e:=fun b n z=>by
  subst z
  rcases he with r|r
  ·exact hx b n r
  ·rw[n]at r;cases r
 have hm:∀b u,H b=some u→¬oI (some u)→b≠x:=fun b u q nm z=>by subst z;rw[q]at mu;exact nm mu
 refine⟨fun b u q n _ _=>k b u (hb b n) q,fun b u q n _ _=>⟨u.slots,k b u (hb b n) q⟩,fun b u q n _=>by rw[AF (hx b n)];exact n,fun b u q _=> ?_,
  fun b xs q=>by rw[AF (hm b _ q fun z=>z)];exact q,fun b u xs q=>by rw[AF (hm b _ q fun z=>z)];exact q,fun b ps q=>⟨#[],by rw[AF (hm b _ q fun z=>z),q];simp⟩⟩
 by_cases hbe:b=e
 ·subst hbe;exact heo
 ·exact⟨u,k b u hbe q⟩
end
def sN (h:Heap) (H:Hp):List Addr:=(List.range h.objs.size).filter fun a=>(H a).isSome
def O6 (h:Heap) (H:Hp):Heap:=PySem.W.hideAll h (sN h H)
theorem VW (h:Heap) (H:Hp):(O6 h H).objs.size=h.objs.size:=PySem.W.hideAll_size _ _
theorem XR {h:Heap} {H:Hp} {b:Addr} {o:Obj} (e:h.get? b=some o) (n:H b=none):(O6 h H).get? b=some o:=
 PySem.W.hideAll_get _ e fun hm=>by
  have q:(H b).isSome=true:=(List.mem_filter.mp hm).2
  rw[n]at q;simp at q
theorem dY {h:Heap} {H:Hp} {b:Addr} {o:Obj} (e:(O6 h H).get? b=some o):h.get? b=some o∧H b=none:=by
 have e':h.get? b=some o:=PySem.W.of_hideAll (sN h H) e
 refine⟨e',?_⟩
 cases q:H b with
 |none=>rfl
 |some x=>
  have hm:b∈sN h H:=List.mem_filter.mpr ⟨List.mem_range.mpr (Heap.lt_size e'),by simp[q]⟩
  have z:(O6 h H).get? b=none:=PySem.W.hideAll_none (sN h H) hm
  rw[z]at e;cases e
end L2
namespace L2
open PySem PySem.Spec PyProof.Rows
structure Mod (K:PySem.W.Frag) (mg:Str→Option Value) (base:Heap):Prop where
 kin:K.In base
 glob:base.Ns mainGlobals mg
 blt:∃mb,base.Ns builtinsNs mb∧∀x:Str,x≠ "__name__"→mb x=bootBuiltins x
 nolimit:base.NoLimit
structure Cx where
 prog:Program
 w:World
 K:PySem.W.Frag
 mg:Str→Option Value
 base:Heap
 A:Around
 N:List Str
 s₀:Shared
 H₀:Hp
 env:Env
 outer:List Env
 stack:List Env
 ex:List Addr
 fn:Str→Bool
 calm:Bool
 pn:List (Addr×Obj)
 xe:Value→Shared→Prop
def W4 (l:List Env):List Addr:=l.filterMap (·.frame)
abbrev Cx.fs (X:Cx):List Addr:=W4 X.outer
def wQ (sc:Scope) (x:Str):Prop:=sc.names.lookup x=some .local∨sc.names.lookup x=some .cell∨sc.names.lookup x=some .free
def mI (sc:Scope) (x:Str):Prop:=sc.names.lookup x=some .local∨sc.names.lookup x=some .cell
def vE (env:Env) (h:Heap) (m:Str→Option Value) (x:Str) (u:Value):Prop:=
 (env.kindOf x=some .local∧m x=some u)∨((env.kindOf x=some .cell∨env.kindOf x=some .free)∧∃c,env.cells.lookup x=some c∧h.IsCell c (some u))
structure Cx.Ok (X:Cx):Prop where
 mod:Mod X.K X.mg X.base
 kind:X.env.scope.kind= .function
 glob:X.env.globals=mainGlobals
 blt:X.env.builtins=builtinsNs
 above:X.s₀.heap.objs.size≤X.env.locals
 inj:∀x y c,X.env.cells.lookup x=some c→X.env.cells.lookup y=some c→x=y
 has:∀x,(X.env.kindOf x=some .cell∨X.env.kindOf x=some .free)→∃c,X.env.cells.lookup x=some c
 cab:∀x c,X.fn x=true→X.env.cells.lookup x=some c→X.s₀.heap.objs.size≤c
 hd:X.calm=true→X.A.handled=none
 frames:X.A.frames=some X.stack
 stk:X.stack=X.outer∨(X.stack=X.env::X.outer∧X.env.frame=some X.env.locals)
 exf:∀b∈X.ex,b≠X.env.locals∧∀x c,X.env.cells.lookup x=some c→c≠b
 bs:∀b o,X.base.get? b=some o→X.s₀.heap.get? b=some o∧X.H₀ b=none
 bsz:X.base.objs.size≤X.s₀.heap.objs.size
 noex:∀b o,X.base.get? b=some o→b∉X.ex
 exfs:∀b∈X.ex,b∉X.fs
 funs:X.s₀.heap.FunFrames X.base X.outer
 frf:∀b∈X.fs,X.H₀ b=none
structure Inv (X:Cx) (pins:List (Addr×Obj)) (σ:List (Option V)) (H:Hp) (s:Shared):Prop where
 ok:X.Ok
 os:s.os=X.s₀.os
 bare:AllBare s.gens
 base:Un X.fs X.ex X.H₀ H X.s₀.heap s.heap
 loc:∃m,s.heap.Ns X.env.locals m∧∀(i:Nat) (x:Str) (v:V),X.N[i]? =some x→σ[i]? =some (some v)→wQ X.env.scope x→∃u,RelV v u∧vE X.env s.heap m x u
 cell:∀x c,X.env.cells.lookup x=some c→∃v,s.heap.IsCell c v
 free:H X.env.locals=none
 freeC:∀x c,X.env.cells.lookup x=some c→H c=none
 pin:∀p∈X.pn++pins,s.heap.get? p.1=some p.2∧H p.1=none∧p.1≠X.env.locals∧p.1∉X.fs∧∀v,p.2.data≠ .cell v
 hok:HOk X.prog X.w H s.heap
 len:σ.length=X.N.length
section
variable {X:Cx} {pins:List (Addr×Obj)} {σ:List (Option V)} {H H':Hp} {s:Shared} {h':Heap}
theorem Cx.Ok.nofr (ok:X.Ok) {b:Addr} {o:Obj} (e:X.base.get? b=some o):b∉X.fs:=fun hb=>by
 have:=(ok.funs.mem hb).1
 rw[e]at this;cases this
theorem Inv.bs (I:Inv X pins σ H s):∀b o,X.base.get? b=some o→s.heap.get? b=some o∧H b=none:=fun b o e=>
 ⟨I.base.keep b o (I.ok.bs b o e).1 (I.ok.bs b o e).2 (I.ok.nofr e) (I.ok.noex b o e),I.base.free b o (I.ok.bs b o e).1 (I.ok.bs b o e).2 (I.ok.noex b o e)⟩
theorem Inv.bk (I:Inv X pins σ H s):∀b o,X.base.get? b=some o→s.heap.get? b=some o:=fun b o e=>(I.bs b o e).1
theorem Inv.mod (I:Inv X pins σ H s):Mod X.K X.mg X.base:=I.ok.mod
theorem Inv.kIn (I:Inv X pins σ H s):X.K.In s.heap:=I.ok.mod.kin.keeps I.bk
theorem Inv.lt (I:Inv X pins σ H s):X.env.locals<s.heap.objs.size:=let⟨_,hn,_⟩:=I.loc;hn.lt
theorem Inv.sz (I:Inv X pins σ H s):X.s₀.heap.objs.size≤s.heap.objs.size:=Nat.le_trans I.ok.above (Nat.le_of_lt I.lt)
theorem Inv.nofs (I:Inv X pins σ H s) {a:Addr} (h:s.heap.objs.size≤a):a∉X.fs:=fun hb=>by
 obtain⟨_,o,ho,_⟩:=I.ok.funs.mem hb
 exact absurd (Nat.lt_of_lt_of_le (Heap.lt_size ho) (Nat.le_trans I.sz h)) (Nat.lt_irrefl _)
theorem Inv.cne (I:Inv X pins σ H s):∀x c,X.env.cells.lookup x=some c→c≠X.env.locals:=fun x c e z=>by
 obtain⟨v,o,ho,hd⟩:=I.cell x c e
 obtain⟨m,⟨o',es,ep,ho',hd',_⟩,_⟩:=I.loc
 rw[z,ho']at ho;cases ho;rw[hd']at hd;cases hd
theorem Inv.funs (I:Inv X pins σ H s):s.heap.FunFrames X.base X.outer:=by
 have all:∀(l:List Env),(∀b∈W4 l,b∈X.fs)→X.s₀.heap.FunFrames X.base l→s.heap.FunFrames X.base l:=by
  intro l
  induction l with
  |nil=>intro _ _;trivial
  |cons env r ih=>
   intro hs hl
   obtain⟨hk,⟨L,o,hf,hn,ho,hd⟩,hr⟩:=hl
   have hL:L∈X.fs:=hs L (by unfold W4;rw[List.filterMap_cons,hf];exact List.mem_cons_self)
   obtain⟨sl,e⟩:=I.base.slot L o ho (I.ok.frf L hL) hL fun z=>I.ok.exfs L z hL
   exact⟨hk,⟨L,_,hf,hn,e,hd⟩,ih (fun b hb=>hs b (by unfold W4;rw[List.filterMap_cons,hf];exact List.mem_cons_of_mem _ hb)) hr⟩
 exact all X.outer (fun _ hb=>hb) I.ok.funs
theorem Inv.stack (I:Inv X pins σ H s):s.heap.FunFrames X.base X.stack:=by
 rcases I.ok.stk with e|⟨e,hf⟩
 ·rw[e];exact I.funs
 ·rw[e]
  obtain⟨m,hn,_⟩:=I.loc
  refine .cons (by rw[I.ok.kind];decide) hf hn ?_ I.funs
  exact Heap.get?_none_of_le (Nat.le_trans I.ok.bsz I.ok.above)
theorem Inv.stkSub (I:Inv X pins σ H s):∀b∈W4 X.stack,b∈X.env.locals::X.fs:=fun b hb=>by
 rcases I.ok.stk with e|⟨e,hf⟩
 ·rw[e]at hb;exact List.mem_cons_of_mem _ hb
 ·rw[e]at hb
  unfold W4 at hb
  rw[List.filterMap_cons,hf]at hb
  exact hb
theorem Inv.stkFree (I:Inv X pins σ H s):∀b∈W4 X.stack,H b=none:=fun b hb=>by
 rcases List.mem_cons.mp (I.stkSub b hb) with e|hb
 ·rw[e];exact I.free
 ·obtain⟨_,o,ho,_⟩:=I.ok.funs.mem hb
  exact I.base.free b o ho (I.ok.frf b hb) fun z=>I.ok.exfs b z hb
theorem Inv.step {g':Array GenState} {t':Nat} {d':Drawn} {ch:List Addr} (I:Inv X pins σ H s)
 (hch:∀b∈ch,(b∈X.ex∨X.s₀.heap.objs.size≤b)∧b≠X.env.locals∧(∀x c,X.env.cells.lookup x=some c→c≠b)∧∀p∈X.pn++pins,p.1≠b)
 (keep:∀b o,b≠X.env.locals→b∉X.fs→b∉ch→s.heap.get? b=some o→H b=none→h'.get? b=some o)
 (slot:∀b o,b≠X.env.locals→b∈X.fs→b∉ch→s.heap.get? b=some o→H b=none→∃sl,h'.get? b=some {o with slots:=sl}) (free:∀b o,b∉ch→s.heap.get? b=some o→H b=none→H' b=none)
 (there:∀b o,b∉ch→s.heap.get? b=some o→∃o',h'.get? b=some o')
 (tups:∀b xs,H b=some (.tup xs)→H' b=some (.tup xs)) (frzs:∀b o u,H b=some (.frz o u)→H' b=some (.frz o u)) (tbls:∀b ps,H b=some (.tbl ps)→∃more,H' b=some (.tbl (ps++more)))
 (ns:∀m,s.heap.Ns X.env.locals m→h'.Ns X.env.locals m) (hok:HOk X.prog X.w H' h') (hg:AllBare g'):
 Inv X pins σ H' {s with heap:=h',gens:=g',drawn:=d',toks:=t'}:=by
 have neL:∀b o,X.s₀.heap.get? b=some o→b≠X.env.locals:=fun b o e=>Nat.ne_of_lt (Nat.lt_of_lt_of_le (Heap.lt_size e) I.ok.above)
 have neC:∀b o,X.s₀.heap.get? b=some o→b∉X.ex→b∉ch:=fun b o e hx hb=>by
  rcases(hch b hb).1 with z|z
  ·exact hx z
  ·exact absurd (Nat.lt_of_lt_of_le (Heap.lt_size e) z) (Nat.lt_irrefl _)
 have cellK:∀x c,X.env.cells.lookup x=some c→∀v,s.heap.IsCell c v→h'.IsCell c v:=fun x c e v ⟨o,ho,hd⟩=>by
  have nch:c∉ch:=fun z=>(hch c z).2.2.1 x c e rfl
  by_cases hc:c∈X.fs
  ·obtain⟨sl,q⟩:=slot c o (I.cne x c e) hc nch ho (I.freeC x c e)
   exact⟨_,q,hd⟩
  ·exact⟨o,keep c o (I.cne x c e) hc nch ho (I.freeC x c e),hd⟩
 refine⟨I.ok,I.os,hg,⟨fun b o e n hb hx=> ?_,fun b o e n hb hx=> ?_,fun b o e n hx=> ?_,fun b o e hx=> ?_,fun b xs e=>tups b xs (I.base.tups b xs e),fun b o xs e=>frzs b o xs (I.base.frzs b o xs e),fun b ps e=> ?_⟩,?_,fun x c e=> ?_,?_,fun x c e=> ?_,fun p hp=> ?_,hok,I.len⟩
 ·exact keep b o (neL b o e) hb (neC b o e hx) (I.base.keep b o e n hb hx) (I.base.free b o e n hx)
 ·obtain⟨sl,e1⟩:=I.base.slot b o e n hb hx
  obtain⟨sl',e2⟩:=slot b _ (neL b o e) hb (neC b o e hx) e1 (I.base.free b o e n hx)
  exact⟨sl',e2⟩
 ·obtain⟨o',e1⟩:=I.base.there b o e hx
  exact free b o' (neC b o e hx) e1 (I.base.free b o e n hx)
 ·obtain⟨o',e1⟩:=I.base.there b o e hx
  exact there b o' (neC b o e hx) e1
 ·obtain⟨m1,e1⟩:=I.base.tbls b ps e
  obtain⟨m2,e2⟩:=tbls b _ e1
  exact⟨m1++m2,by rw[e2,Array.append_assoc]⟩
 ·obtain⟨m,hn,hl⟩:=I.loc
  refine⟨m,ns m hn,fun i x v e1 e2 e3=> ?_⟩
  obtain⟨u,r,l⟩:=hl i x v e1 e2 e3
  refine⟨u,r,?_⟩
  rcases l with l|⟨k,c,e,z⟩
  ·exact .inl l
  ·exact .inr ⟨k,c,e,cellK x c e _ z⟩
 ·obtain⟨v,z⟩:=I.cell x c e
  exact⟨v,cellK x c e v z⟩
 ·obtain⟨m,⟨o,_,_,ho,_⟩,_⟩:=I.loc
  exact free _ o (fun z=>(hch _ z).2.1 rfl) ho I.free
 ·obtain⟨v,o,ho,hd⟩:=I.cell x c e
  exact free c o (fun z=>(hch c z).2.2.1 x c e rfl) ho (I.freeC x c e)
 ·obtain⟨e,n,ne,nf,d⟩:=I.pin p hp
  have nch:p.1∉ch:=fun z=>(hch p.1 z).2.2.2 p hp rfl
  exact⟨keep p.1 p.2 ne nf nch e n,free p.1 p.2 nch e n,ne,nf,d⟩
theorem Inv.un {t':Nat} (I:Inv X pins σ H s) (u:Un X.fs [] H H' s.heap h') (hok:HOk X.prog X.w H' h'):Inv X pins σ H' {s with heap:=h',toks:=t'}:=by
 obtain⟨m,⟨o,es,ep,ho,r⟩,_⟩:=id I.loc
 obtain⟨sl,hL⟩:=u.any ho I.free (by simp)
 exact I.step (g':=s.gens) (d':=s.drawn) (ch:=[]) (fun _ z=>nomatch z) (fun b o _ hb _ e n=>u.keep b o e n hb (by simp)) (fun b o _ hb _ e n=>u.slot b o e n hb (by simp)) (fun b o _ e n=>u.free b o e n (by simp)) (fun b o _ e=>u.there b o e (by simp)) u.tups u.frzs u.tbls (fun m' hm=>by
  obtain⟨o',es',ep',ho',r'⟩:=hm
  rw[ho]at ho';cases ho'
  exact⟨_,es',ep',hL,r'⟩) hok I.bare
theorem Inv.call {g':Array GenState} {t':Nat} {d':Drawn} {ch:List Addr} (I:Inv X pins σ H s) (u:Un (W4 X.stack) ch H H' s.heap h') (hok:HOk X.prog X.w H' h') (hg:AllBare g')
 (hch:∀b∈ch,(b∈X.ex∨X.s₀.heap.objs.size≤b)∧b≠X.env.locals∧(∀x c,X.env.cells.lookup x=some c→c≠b)∧∀p∈X.pn++pins,p.1≠b):
 Inv X pins σ H' {s with heap:=h',gens:=g',drawn:=d',toks:=t'}:=by
 obtain⟨m,⟨o,es,ep,ho,r⟩,_⟩:=id I.loc
 obtain⟨sl,hL⟩:=u.any ho I.free fun z=>(hch _ z).2.1 rfl
 exact I.step (ch:=ch) hch (fun b o hL hb hc e n=>u.keep b o e n (fun z=>(List.mem_cons.mp (I.stkSub b z)).elim hL hb) hc) (fun b o _ _ hc e n=>u.any e n hc) (fun b o hc e n=>u.free b o e n hc) (fun b o hc e=>u.there b o e hc) u.tups u.frzs u.tbls (fun m' hm=>by
  obtain⟨o',es',ep',ho',r'⟩:=hm
  rw[ho]at ho';cases ho'
  exact⟨_,es',ep',hL,r'⟩) hok hg
theorem Inv.turned {t':Nat} {it:Addr} (I:Inv X pins σ H s) (k:∀b o,b≠it→s.heap.get? b=some o→h'.get? b=some o) (hn:H it=none) (hL:it≠X.env.locals)
 (h1:it∈X.ex∨X.s₀.heap.objs.size≤it) (h2:∀x c,X.env.cells.lookup x=some c→c≠it) (h3:∀p∈X.pn++pins,p.1≠it):Inv X pins σ H {s with heap:=h',toks:=t'}:=by
 have nit:∀b u,H b=some u→b≠it:=fun b u e z=>by rw[z,hn]at e;cases e
 refine I.step (g':=s.gens) (d':=s.drawn) (ch:=[it]) (fun b hb=> ?_) (fun b o _ _ hc e _=>k b o (fun z=>hc (by simp[z])) e) (fun b o _ _ hc e _=>⟨o.slots,k b o (fun z=>hc (by simp[z])) e⟩) (fun _ _ _ _ n=>n)
  (fun b o hc e=>⟨o,k b o (fun z=>hc (by simp[z])) e⟩) (fun _ _ e=>e) (fun _ _ _ e=>e) (fun b ps e=>⟨#[],by rw[e];simp⟩) (fun m hm=> ?_) (fun b u e=> ?_) I.bare
 ·have e:b=it:=by simpa using hb
  subst e
  exact⟨h1,hL,h2,h3⟩
 ·obtain⟨o,es,ep,ho,r⟩:=hm
  exact⟨o,es,ep,k _ o (Ne.symm hL) ho,r⟩
 ·refine(I.hok b u e).stay (fun c v hc q=>k c v ?_ q) (fun _ q=>q) fun _ _ q=>q
  rcases hc with z|z
  ·rw[z];exact nit b u e
  ·exact nit c _ z
theorem Inv.tok (I:Inv X pins σ H s) (t:Nat):Inv X pins σ H {s with toks:=t}:=I.un (h':=s.heap) (t':=t) Un.refl I.hok
theorem Inv.kept {t':Nat} (I:Inv X pins σ H s) (k:∀b u,s.heap.get? b=some u→h'.get? b=some u):Inv X pins σ H {s with heap:=h',toks:=t'}:=I.un (Un.kept k) (I.hok.kept k)
theorem Inv.laid {a:Addr} {o:HO} {t':Nat} (I:Inv X pins σ H s) (k:∀b u,s.heap.get? b=some u→h'.get? b=some u) (hp:s.heap.objs.size≤a) (new:ObjOk X.prog X.w (upd H a o) h' a o):
 Inv X pins σ (upd H a o) {s with heap:=h',toks:=t'}:=I.un (Un.laid k hp (I.hok.fresh hp)) (I.hok.laid k hp new)
theorem Inv.write {x e:Addr} {o:HO} {t':Nat} (I:Inv X pins σ H s) (mu:oI (H x)) (he:e=x∨H e=some (.own x)) (k:∀b u,b≠e→s.heap.get? b=some u→h'.get? b=some u) (heo:∃u,h'.get? e=some u)
 (new:ObjOk X.prog X.w (upd H x o) h' x o):Inv X pins σ (upd H x o) {s with heap:=h',toks:=t'}:=I.un (Un.write mu he k heo) (I.hok.write mu he k heo new)
theorem Inv.weak {σ':List (Option V)} (I:Inv X pins σ H s) (hl:σ'.length=σ.length) (w:∀(i:Nat) v,σ'[i]? =some (some v)→σ[i]? =some (some v)):Inv X pins σ' H s:=
 ⟨I.ok,I.os,I.bare,I.base,let⟨m,hn,hl'⟩:=I.loc;⟨m,hn,fun i x v e1 e2 e3=>hl' i x v e1 (w i v e2) e3⟩,I.cell,I.free,I.freeC,I.pin,I.hok,hl.trans I.len⟩
theorem Inv.pins_of {pins':List (Addr×Obj)} (I:Inv X pins σ H s) (h:∀p∈pins',s.heap.get? p.1=some p.2∧H p.1=none∧p.1≠X.env.locals∧p.1∉X.fs∧∀v,p.2.data≠ .cell v):Inv X pins' σ H s:=
 ⟨I.ok,I.os,I.bare,I.base,I.loc,I.cell,I.free,I.freeC,fun p hp=>(List.mem_append.mp hp).elim (fun z=>I.pin p (List.mem_append_left _ z)) (h p),I.hok,I.len⟩
theorem RA {N:List Str} (hN:N.Nodup) {i j:Nat} {x:Str} (a:N[i]? =some x) (b:N[j]? =some x):i=j:=by
 obtain⟨h1,e1⟩:=List.getElem?_eq_some_iff.mp a
 obtain⟨h2,e2⟩:=List.getElem?_eq_some_iff.mp b
 exact(List.getElem_inj hN).mp (e1.trans e2.symm)
theorem NV {M:Model} {A:Around} {E:Value→Shared→Prop} {i:Nat} {x:Str} {v:V} {u:Value} {Q:Unit→Shared→Prop} (I:Inv X pins σ H s) (hN:X.N.Nodup) (hi:X.N[i]? =some x) (hx:mI X.env.scope x) (r:RelV v u)
 (h:∀s',Inv X pins (σ.set i (some v)) H s'→(∃a,Heap.SameBut a s.heap s'.heap∧(a=X.env.locals∨X.env.cells.lookup x=some a))→Q () s') (hf:X.fn x=true∨X.env.scope.names.lookup x=some .local:=by first|exact .inl rfl|exact .inr rfl|assumption):wpAny M A (storeName X.env x u) Q E s:=by
 obtain⟨m,hn,hl⟩:=id I.loc
 have hcls:(X.env.scope.kind== .class||(X.env.scope.kind== .module&&X.env.locals !=X.env.globals))=false:=by rw[I.ok.kind];rfl
 have hiσ:i<σ.length:=by rw[I.len];exact(List.getElem?_eq_some_iff.mp hi).1
 have cne:=I.cne
 have tracked:∀{a:Addr} {h':Heap},(∃o,s.heap.get? a=some o∧H a=none)→Heap.SameBut a s.heap h'→HOk X.prog X.w H h':=fun{a h'} ha hs b ob e=>by
  obtain⟨_,_,hfree⟩:=ha
  refine(I.hok b ob e).stay (fun c w' hc q=>(hs.2 c ?_).trans q) (fun _ q=>q) fun _ _ q=>q
  rintro rfl
  rcases hc with rfl|hc
  ·rw[hfree]at e;cases e
  ·rw[hfree]at hc;cases hc
 rcases hx with hk|hk
 ·refine wpAny_storeName_local hk hn (fun h' hn' hs=> ?_) hcls
  obtain⟨oL,_,_,hoL,_⟩:=id hn
  refine h _ ⟨I.ok,I.os,I.bare,⟨fun b o e n hb hx=> ?_,fun b o e n hb hx=> ?_,I.base.free,fun b o e hx=> ?_,I.base.tups,I.base.frzs,I.base.tbls⟩,⟨_,hn',fun j y v' e1 e2 e3=> ?_⟩,fun y c e=> ?_,I.free,I.freeC,fun p hp=> ?_,tracked ⟨oL,hoL,I.free⟩ hs,by simpa using I.len⟩ ⟨_,hs, .inl rfl⟩
  ·exact(hs.2 b (Nat.ne_of_lt (Nat.lt_of_lt_of_le (Heap.lt_size e) I.ok.above))).trans (I.base.keep b o e n hb hx)
  ·obtain⟨sl,e1⟩:=I.base.slot b o e n hb hx
   exact⟨sl,(hs.2 b (Nat.ne_of_lt (Nat.lt_of_lt_of_le (Heap.lt_size e) I.ok.above))).trans e1⟩
  ·obtain⟨o',e1⟩:=I.base.there b o e hx
   exact⟨o',(hs.2 b (Nat.ne_of_lt (Nat.lt_of_lt_of_le (Heap.lt_size e) I.ok.above))).trans e1⟩
  ·by_cases hj:j=i
   ·subst hj
    rw[hi]at e1;cases e1
    rw[List.getElem?_set_self hiσ]at e2
    cases e2
    exact⟨u,r, .inl ⟨hk,by simp⟩⟩
   ·rw[List.getElem?_set_ne (Ne.symm hj)]at e2
    obtain⟨u',r',q⟩:=hl j y v' e1 e2 e3
    refine⟨u',r',?_⟩
    rcases q with⟨k,e⟩|⟨k,c,e,z⟩
    ·refine .inl ⟨k,?_⟩
     have:y≠x:=fun e=>hj (RA hN e1 (e▸hi))
     simp[this,e]
    ·exact .inr ⟨k,c,e,z.sameBut hs (cne y c e)⟩
  ·obtain⟨w',z⟩:=I.cell y c e
   exact⟨w',z.sameBut hs (cne y c e)⟩
  ·obtain⟨e,n,ne,nf,d⟩:=I.pin p hp
   exact⟨(hs.2 p.1 ne).trans e,n,ne,nf,d⟩
 ·have hfn:X.fn x=true:=by
   rcases hf with z|z
   ·exact z
   ·rw[z]at hk;cases hk
  obtain⟨c,hc⟩:=I.ok.has x (.inl hk)
  obtain⟨w',z⟩:=I.cell x c hc
  refine wpAny_storeName_cell I.ok.kind hk hc z (fun h' hc' hs=> ?_)
  obtain⟨oc,hoc,hocd⟩:=id z
  refine h {s with heap:=h'} ⟨I.ok,I.os,I.bare,⟨fun b o e n hb hx=> ?_,fun b o e n hb hx=> ?_,I.base.free,fun b o e hx=> ?_,I.base.tups,I.base.frzs,I.base.tbls⟩,⟨m,hn.sameBut hs (Ne.symm (cne x c hc)),fun j y v' e1 e2 e3=> ?_⟩,fun y c' e=> ?_,I.free,I.freeC,fun p hp=> ?_,tracked ⟨oc,hoc,I.freeC x c hc⟩ hs,by simpa using I.len⟩ ⟨c,hs, .inr hc⟩
  ·exact(hs.2 b (Nat.ne_of_lt (Nat.lt_of_lt_of_le (Heap.lt_size e) (I.ok.cab x c hfn hc)))).trans (I.base.keep b o e n hb hx)
  ·obtain⟨sl,e1⟩:=I.base.slot b o e n hb hx
   exact⟨sl,(hs.2 b (Nat.ne_of_lt (Nat.lt_of_lt_of_le (Heap.lt_size e) (I.ok.cab x c hfn hc)))).trans e1⟩
  ·obtain⟨o',e1⟩:=I.base.there b o e hx
   exact⟨o',(hs.2 b (Nat.ne_of_lt (Nat.lt_of_lt_of_le (Heap.lt_size e) (I.ok.cab x c hfn hc)))).trans e1⟩
  ·by_cases hj:j=i
   ·subst hj
    rw[hi]at e1;cases e1
    rw[List.getElem?_set_self hiσ]at e2
    cases e2
    exact⟨u,r, .inr ⟨.inl hk,c,hc,hc'⟩⟩
   ·rw[List.getElem?_set_ne (Ne.symm hj)]at e2
    obtain⟨u',r',q⟩:=hl j y v' e1 e2 e3
    refine⟨u',r',?_⟩
    rcases q with q|⟨k,c',e,z'⟩
    ·exact .inl q
    ·refine .inr ⟨k,c',e,z'.sameBut hs ?_⟩
     rintro rfl
     exact hj (RA hN e1 (I.ok.inj _ _ _ e hc▸hi))
  ·by_cases hcc:c'=c
   ·subst hcc;exact⟨_,hc'⟩
   ·obtain⟨w2,z2⟩:=I.cell y c' e
    exact⟨w2,z2.sameBut hs hcc⟩
  ·obtain⟨e,n,ne,nf,d⟩:=I.pin p hp
   refine⟨(hs.2 p.1 ?_).trans e,n,ne,nf,d⟩
   intro q
   rw[q,hoc]at e
   have q':oc=p.2:=Option.some.inj e
   exact d w' (by rw[←q'];exact hocd)
theorem J1 {M:Model} {A:Around} {E:Value→Shared→Prop} {i:Nat} {x:Str} {v:V} {u:Value} {Q:Unit→Shared→Prop} (I:Inv X pins σ H s) (hN:X.N.Nodup) (hi:X.N[i]? =some x) (hx:mI X.env.scope x) (r:RelV v u)
 (h:∀s',Inv X pins (σ.set i (some v)) H s'→Q () s') (hf:X.fn x=true∨X.env.scope.names.lookup x=some .local:=by first|exact .inl rfl|exact .inr rfl|assumption):wpAny M A (storeName X.env x u) Q E s:=
 NV I hN hi hx r (fun s' I' _=>h s' I') hf
theorem Inv.call' {s':Shared} {ch:List Addr} (I:Inv X pins σ H s) (ho:s'.os=s.os) (u:Un (W4 X.stack) ch H H' s.heap s'.heap) (hok:HOk X.prog X.w H' s'.heap) (hg:AllBare s'.gens)
 (hch:∀b∈ch,(b∈X.ex∨X.s₀.heap.objs.size≤b)∧b≠X.env.locals∧(∀x c,X.env.cells.lookup x=some c→c≠b)∧∀p∈X.pn++pins,p.1≠b):Inv X pins σ H' s':=by
 obtain⟨h',g',d',t',o'⟩:=s'
 have e:o'=s.os:=ho
 subst e
 exact I.call (g':=g') (t':=t') (d':=d') u hok hg hch
end
abbrev XK:=Value→Option Addr→Hp→Prop
abbrev St:=List (Option V)
abbrev VK:=V→Hp→Prop
abbrev TE:=St→Hp→VK→Prop
abbrev TT:=St→Hp→(Bool→Hp→Prop)→Prop
abbrev TA:=St→Hp→(List V→Hp→Prop)→Prop
structure Ends where
 nx:St→Hp→Prop
 rt:VK
 bk:St→Hp→Prop:=fun _ _=>False
 ct:St→Hp→Prop:=fun _ _=>False
abbrev TS:=Ends→St→Hp→Prop
def EP (X:Cx) (pins:List (Addr×Obj)) (σ:St) (Q:VK) (u:Value) (s':Shared):Prop:=∃v H',Inv X pins σ H' s'∧RelV v u∧Q v H'
def TP (X:Cx) (pins:List (Addr×Obj)) (σ:St) (Q:Bool→Hp→Prop) (b:Bool) (s':Shared):Prop:=∃H',Inv X pins σ H' s'∧Q b H'
def AP (X:Cx) (pins:List (Addr×Obj)) (σ:St) (Q:List V→Hp→Prop) (us:List Value) (s':Shared):Prop:=∃vs H',Inv X pins σ H' s'∧Vals vs us∧Q vs H'
def SP (X:Cx) (pins:List (Addr×Obj)) (D:Ends) (f:Flow) (s':Shared):Prop:=
 match f with
 | .next=>∃σ' H',Inv X pins σ' H' s'∧D.nx σ' H'
 | .brk=>∃σ' H',Inv X pins σ' H' s'∧D.bk σ' H'
 | .cont=>∃σ' H',Inv X pins σ' H' s'∧D.ct σ' H'
 | .ret u=>∃v σ' H',Inv X pins σ' H' s'∧RelV v u∧D.rt v H'
def PE (X:Cx) (e:Expr) (t:TE):Prop:=
 ∀(pins:List (Addr×Obj)) (s:Shared) (σ:St) (H:Hp) (Q:VK),Inv X pins σ H s→t σ H Q→wpAny (model X.prog X.w) X.A (eval e X.env) (EP X pins σ Q) X.xe s
def PT (X:Cx) (e:Expr) (t:TT):Prop:=
 ∀(pins:List (Addr×Obj)) (s:Shared) (σ:St) (H:Hp) (Q:Bool→Hp→Prop),Inv X pins σ H s→t σ H Q→wpAny (model X.prog X.w) X.A (isTrue e X.env (eval e X.env)) (TP X pins σ Q) X.xe s
def PW (X:Cx) (e:Expr) (t:TT):Prop:=
 ∀(whole:Sem Value) (pins:List (Addr×Obj)) (s:Shared) (σ:St) (H:Hp) (Q:Bool→Hp→Prop),Inv X pins σ H s→t σ H Q→wpAny (model X.prog X.w) X.A (isTrue e X.env whole) (TP X pins σ Q) X.xe s
theorem PW.pt {X:Cx} {e:Expr} {t:TT} (h:PW X e t):PT X e t:=h _
def PA (X:Cx) (es:List Expr) (t:TA):Prop:=
 ∀(pos:Pos) (pins:List (Addr×Obj)) (s:Shared) (σ:St) (H:Hp) (Q:List V→Hp→Prop),Inv X pins σ H s→t σ H Q→wpAny (model X.prog X.w) X.A (spliced (backTo pos (starEach es X.env))) (AP X pins σ Q) X.xe s
def PS (X:Cx) (st:Stmt) (t:TS):Prop:=
 ∀(pins:List (Addr×Obj)) (s:Shared) (σ:St) (H:Hp) (D:Ends),Inv X pins σ H s→t D σ H→wpAny (model X.prog X.w) X.A (exec st X.env) (SP X pins D) X.xe s
def PSs (X:Cx) (st:List Stmt) (t:TS):Prop:=
 ∀(pins:List (Addr×Obj)) (s:Shared) (σ:St) (H:Hp) (D:Ends),Inv X pins σ H s→t D σ H→wpAny (model X.prog X.w) X.A (execs st X.env) (SP X pins D) X.xe s
theorem CK {α:Type} {t:Sem α} {Q Q':α→Shared→Prop} {M:Model} {A:Around} {E:Value→Shared→Prop} {s:Shared} (h:wpAny M A t Q E s) (hQ:∀a s,Q a s→Q' a s):wpAny M A t Q' E s:=wpAny_mono h hQ fun _ _ x=>x
end L2
namespace L2
open PySem PySem.Spec PyProof.Rows
section
variable {X:Cx}
def cC (i:Nat):TE:=fun σ H Q=>∃v,σ[i]? =some (some v)∧Q v H
def tC (v:V):TE:=fun _ H Q=>Q v H
theorem XZ {i:Nat} {x:Str} {pos:Pos} (hN:X.N[i]? =some x) (hv:wQ X.env.scope x) (hd:(x==("__debug__":Str))=false:=by decide) (hcd:(x==("__classdict__":Str))=false:=by decide):PE X (.Name x pos) (cC i):=by
 intro pins s σ H Q I h
 obtain⟨v,e,h⟩:=h
 obtain⟨m,hn,hl⟩:=I.loc
 obtain⟨u,r,l⟩:=hl i x v hN e hv
 have fin:EP X pins σ Q u s:=⟨v,H,I,r,h⟩
 rcases l with⟨hk,hm⟩|⟨hk,c,hc,hcell⟩
 ·exact wpAny_Name (wpAny_loadName_local I.ok.kind hk hn hm fin) hd
 ·rcases hk with hk|hk
  ·exact wpAny_Name (wpAny_loadName_cell I.ok.kind hk hc hcell fin) hd
  ·exact wpAny_Name (wpAny_loadName_free I.ok.kind hk hc hcell fin hcd) hd
theorem m5 {i j pos}:PE X (.Constant (.int i) j pos) (tC (.int i)):=fun _ _ _ H _ I h=>wpAny_Constant_int ⟨.int i,H,I.tok _,⟨_,rfl⟩,h⟩
theorem n5 {b j pos}:PE X (.Constant (.bool b) j pos) (tC (.bl b)):=fun _ _ _ H _ I h=>Constant_bool ⟨.bl b,H,I,rfl,h⟩
theorem j7 {j pos}:PE X (.Constant .none j pos) (tC .non):=fun _ _ _ H _ I h=>Constant_none ⟨.non,H,I,rfl,h⟩
theorem jZ {x j pos}:PE X (.Constant (.str x) j pos) (tC (.str x)):=fun _ _ _ H _ I h=>Calls.Constant_str ⟨.str x,H,I.tok _,⟨_,rfl⟩,h⟩
def Gl (X:Cx) (x:Str):Prop:=X.env.kindOf x=some .globalImplicit
theorem P6 {E:Value→Shared→Prop} {pins:List (Addr×Obj)} {s:Shared} {σ:St} {H:Hp} {x:Str} {u:Value} {pos:Pos} {Q:Value→Shared→Prop} (I:Inv X pins σ H s) (hg:Gl X x) (hm:X.mg x=some u) (h:Q u s)
 (hd:(x==("__debug__":Str))=false:=by decide):wpAny (model X.prog X.w) X.A (eval (.Name x pos) X.env) Q E s:=
 Calls.Name_function_global I.ok.kind hg (Calls.loadGlobal_global (by rw[I.ok.glob];exact I.mod.glob.keeps I.bk) hm h) hd
theorem LV {E:Value→Shared→Prop} {pins:List (Addr×Obj)} {s:Shared} {σ:St} {H:Hp} {x:Str} {u:Value} {pos:Pos} {Q:Value→Shared→Prop} (I:Inv X pins σ H s) (hg:Gl X x) (hm:X.mg x=none) (hv:bootBuiltins x=some u) (h:Q u s)
 (hn:x≠ "__name__":=by decide) (hd:(x==("__debug__":Str))=false:=by decide):wpAny (model X.prog X.w) X.A (eval (.Name x pos) X.env) Q E s:=by
 obtain⟨mb,h1,h2⟩:=I.mod.blt
 exact Calls.Name_function_global I.ok.kind hg (Calls.loadGlobal_builtin (by rw[I.ok.glob];exact I.mod.glob.keeps I.bk) hm (by rw[I.ok.blt];exact h1.keeps I.bk) ((h2 x hn).trans hv) h) hd
theorem bV {x:Str} {v:V} {u:Value} {pos:Pos} (hg:Gl X x) (hm:X.mg x=none) (hv:bootBuiltins x=some u) (r:RelV v u) (hn:x≠ "__name__":=by decide) (hd:(x==("__debug__":Str))=false:=by decide):PE X (.Name x pos) (tC v):=
 fun _ _ _ H _ I h=>LV I hg hm hv ⟨v,H,I,r,h⟩ hn hd
variable {a b:Expr} {ta tb:TE} {pos:Pos}
def tB (t:TE):TT:=fun σ H Q=>t σ H fun x H1=>∃c,x= .bl c∧Q c H1
theorem gW {e:Expr} {t:TE} (h:PE X e t) (he:∀whole,isTrue e X.env whole=(do let v←whole;standAt e.pos;holding [v] (truthy v)):=by intro _;rfl):PT X e (tB t):=by
 intro pins s σ H Q I hw
 refine isTrue_plain (CK (h pins s σ H _ I hw) fun v s1 ⟨x,H1,I1,r1,q1⟩=> ?_) (he _)
 obtain⟨d,rfl,q⟩:=q1
 cases r1
 exact wpAny_truthy_bool ⟨H1,I1,q⟩
variable {tA tB':TT} {rest:List Expr}
def vI (t u:TT):TT:=fun σ H Q=>t σ H fun c H1=>if c=true then u σ H1 Q else Q false H1
def y1 (t u:TT):TT:=fun σ H Q=>t σ H fun c H1=>if c=true then Q true H1 else u σ H1 Q
def tU (t:TT):TT:=fun σ H Q=>t σ H fun c H1=>Q (!c) H1
theorem aN (ha:PT X a tA):PW X (.BoolOp .And [a] pos) tA:=by
 intro wh pins s σ H Q I h
 refine isTrue_and (CK (ha pins s σ H Q I h) fun c s1 e=> ?_)
 cases c with
 |true=>exact isTrue_and_nil e
 |false=>exact e
theorem lW (ha:PT X a tA):PW X (.BoolOp .Or [a] pos) tA:=by
 intro wh pins s σ H Q I h
 refine isTrue_or (CK (ha pins s σ H Q I h) fun c s1 e=> ?_)
 cases c with
 |false=>exact isTrue_or_nil e
 |true=>exact e
theorem jE (ha:PT X a tA) (hb:PW X (.BoolOp .And (b::rest) pos) tB'):PW X (.BoolOp .And (a::b::rest) pos) (vI tA tB'):=by
 intro wh pins s σ H Q I h
 refine isTrue_and (CK (ha pins s σ H _ I h) fun c s1 ⟨H1,I1,q1⟩=> ?_)
 cases c with
 |true=>exact hb wh pins s1 σ H1 Q I1 q1
 |false=>exact⟨H1,I1,q1⟩
theorem oW (ha:PT X a tA) (hb:PW X (.BoolOp .Or (b::rest) pos) tB'):PW X (.BoolOp .Or (a::b::rest) pos) (y1 tA tB'):=by
 intro wh pins s σ H Q I h
 refine isTrue_or (CK (ha pins s σ H _ I h) fun c s1 ⟨H1,I1,q1⟩=> ?_)
 cases c with
 |true=>exact⟨H1,I1,q1⟩
 |false=>exact hb wh pins s1 σ H1 Q I1 q1
theorem kZ (ha:PT X a tA):PT X (.UnaryOp .Not a pos) (tU tA):=by
 intro pins s σ H Q I h
 exact isTrue_not (ha pins s σ H (fun c H1=>Q (!c) H1) I h)
def p7 (ta tb:TE):TE:=fun σ H Q=>ta σ H fun x H1=>∃c,x= .bl c∧if c=true then tb σ H1 Q else Q (.bl false) H1
def rO (ta:TE):TE:=fun σ H Q=>ta σ H fun x H1=>∃c,x= .bl c∧Q (.bl (!c)) H1
theorem iZ {op} {t:TE} (h:PE X a t):PE X (.BoolOp op [a] pos) t:=fun pins s σ H Q I hw=>BoolOp_one (h pins s σ H Q I hw)
theorem fY (ha:PE X a ta) (hb:PE X (.BoolOp .And (b::rest) pos) tb):PE X (.BoolOp .And (a::b::rest) pos) (p7 ta tb):=by
 intro pins s σ H Q I h
 refine BoolOp_and (CK (ha pins s σ H _ I h) fun v s1 ⟨x,H1,I1,r1,q1⟩=> ?_)
 obtain⟨c,rfl,q1⟩:=q1
 cases r1
 refine wpAny_truthy_bool ?_
 cases c with
 |true=>exact hb pins s1 σ H1 Q I1 q1
 |false=>exact⟨.bl false,H1,I1,rfl,q1⟩
theorem jU (ha:PE X a ta):PE X (.UnaryOp .Not a pos) (rO ta):=by
 intro pins s σ H Q I h
 refine UnaryOp_ (CK (ha pins s σ H _ I h) fun v s1 ⟨x,H1,I1,r1,q1⟩=> ?_)
 obtain⟨c,rfl,q1⟩:=q1
 cases r1
 exact not_of (wpAny_truthy_bool ⟨.bl (!c),H1,I1,rfl,q1⟩)
def xR (t:TT) (ta tb:TE):TE:=fun σ H Q=>t σ H fun c H1=>if c=true then ta σ H1 Q else tb σ H1 Q
theorem XI {c:Expr} (hc:PT X c tA) (ha:PE X a ta) (hb:PE X b tb):PE X (.IfExp c a b pos) (xR tA ta tb):=by
 intro pins s σ H Q I h
 refine wpAny_IfExp (CK (hc pins s σ H _ I h) fun d s1 ⟨H1,I1,q1⟩=> ?_)
 cases d with
 |true=>exact ha pins s1 σ H1 Q I1 q1
 |false=>exact hb pins s1 σ H1 Q I1 q1
end
end L2
namespace L2
open PySem PySem.Spec PyProof.Rows
def SqL (K:PySem.W.Frag) (H:Hp) (a:Addr) (xs:List V):Prop:=
 Rd H a (.lst xs)∨
  ∃(o:Obj) (its:Array Value) (n:Nat),K.lookup a=some o∧o.cls= .type "list"∧o.dict=none∧o.data= .seq its n∧its.size≤sizeLine∧Vals xs its.toList
def GD (K:PySem.W.Frag) (H:Hp) (a:Addr) (xs:List V):Prop:=
 Rd H a (.tup xs)∨
  ∃(o:Obj) (its:Array Value) (n:Nat),K.lookup a=some o∧kW o∧o.data= .seq its n∧its.size≤sizeLine∧Vals xs its.toList
def vQ:Value→Option V
 | .none=>some .non
 | .bool b=>some (.bl b)
 | .int i _=>some (.int i)
 | .str x _=>some (.str x)
 | .bytes b _=>some (.byt b)
 | .float b _=>some (.flt b)
 | .ref a=>some (.ref a)
 | .type n=>some (.ty n)
 |_=>none
theorem RelV.abs {x:V} {u:Value} (r:RelV x u):vQ u=some x:=by
 cases x with
 |non=>cases r;rfl
 |bl _=>cases r;rfl
 |int _=>obtain⟨t,rfl⟩:=r;rfl
 |str _=>obtain⟨t,rfl⟩:=r;rfl
 |byt _=>obtain⟨t,rfl⟩:=r;rfl
 |flt _=>obtain⟨t,rfl⟩:=r;rfl
 |ref _=>cases r;rfl
 |ty _=>cases r;rfl
theorem RelV.inj {x y:V} {u:Value} (r:RelV x u) (q:RelV y u):x=y:=Option.some.inj (r.abs.symm.trans q.abs)
theorem Vals.inj:∀{xs ys:List V} {us:List Value},Vals xs us→Vals ys us→xs=ys
 |_,_,_, .nil, .nil=>rfl
 |_,_,_, .cons r t, .cons r' t'=>by rw[r.inj r',Vals.inj t t']
section
variable {X:Cx} {pins:List (Addr×Obj)} {σ:St} {H:Hp} {s:Shared} {a:Addr} {xs ys:List V}
theorem SqL.of {K:PySem.W.Frag} (h:H a=some (.lst xs)):SqL K H a xs:= .inl (.inl h)
theorem Inv.list (I:Inv X pins σ H s) (h:SqL X.K H a xs):∃its:List Value,Vals xs its∧PlainL s.heap a its.toArray∧xs.length≤sizeLine:=by
 rcases h with h|⟨o,its,n,hk,hc,hd,hs,hz,r⟩
 ·obtain⟨z,its,n,r,e⟩:=h.ok I.hok
  exact⟨its,r,⟨_,n,e,rfl,rfl,rfl⟩,z⟩
 ·refine⟨its.toList,r,⟨o,n,I.kIn a o hk,hc,hd,by simpa using hs⟩,?_⟩
  have e:=r.length
  simp only[Array.length_toList]at e
  omega
theorem Inv.tuple (I:Inv X pins σ H s) (h:GD X.K H a xs):∃its:List Value,Vals xs its∧IsTup s.heap a its.toArray∧xs.length≤sizeLine:=by
 rcases h with h|⟨o,its,n,hk,hc,hs,hz,r⟩
 ·obtain⟨z,its,r,p⟩:=h.ok I.hok
  exact⟨its,r,p.tup,z⟩
 ·refine⟨its.toList,r,⟨o,I.kIn a o hk,hc.1,n,by simpa using hs⟩,?_⟩
  have e:=r.length
  simp only[Array.length_toList]at e
  omega
theorem Inv.tupleX (I:Inv X pins σ H s) (h:GD X.K H a xs):∃its:List Value,Vals xs its∧IsTupX s.heap a its.toArray∧xs.length≤sizeLine:=by
 rcases h with h|⟨o,its,n,hk,hc,hs,hz,r⟩
 ·obtain⟨z,its,r,p⟩:=h.ok I.hok
  exact⟨its,r,p,z⟩
 ·refine⟨its.toList,r,⟨o,I.kIn a o hk,hc,n,by simpa using hs⟩,?_⟩
  have e:=r.length
  simp only[Array.length_toList]at e
  omega
theorem Inv.list_inj (I:Inv X pins σ H s) (h:SqL X.K H a xs) (h':SqL X.K H a ys):xs=ys:=by
 obtain⟨its,r,⟨o,n,e,_,_,d⟩,_⟩:=I.list h
 obtain⟨its',r',⟨o',n',e',_,_,d'⟩,_⟩:=I.list h'
 rw[e]at e';cases e'
 rw[d]at d'
 injection d' with d1 _
 have:its=its':=by simpa using congrArg Array.toList d1
 subst this
 exact r.inj r'
theorem Inv.tuple_inj (I:Inv X pins σ H s) (h:GD X.K H a xs) (h':GD X.K H a ys):xs=ys:=by
 obtain⟨its,r,⟨o,e,_,n,d⟩,_⟩:=I.tuple h
 obtain⟨its',r',⟨o',e',_,n',d'⟩,_⟩:=I.tuple h'
 rw[e]at e';cases e'
 rw[d]at d'
 injection d' with d1 _
 have:its=its':=by simpa using congrArg Array.toList d1
 subst this
 exact r.inj r'
end
abbrev Cx.wish (X:Cx) (E:Value→Shared→Prop):Cx:={X with xe:=E}
abbrev Cx.nox (X:Cx):Cx:=X.wish fun _ _=>False
theorem Cx.Ok.wish {X:Cx} (ok:X.Ok) (E:Value→Shared→Prop):(X.wish E).Ok:=
 ⟨ok.mod,ok.kind,ok.glob,ok.blt,ok.above,ok.inj,ok.has,ok.cab,ok.hd,ok.frames,ok.stk,ok.exf,ok.bs,ok.bsz,ok.noex,ok.exfs,ok.funs,ok.frf⟩
theorem Cx.Ok.unwish {X:Cx} {E:Value→Shared→Prop} (ok:(X.wish E).Ok):X.Ok:=
 ⟨ok.mod,ok.kind,ok.glob,ok.blt,ok.above,ok.inj,ok.has,ok.cab,ok.hd,ok.frames,ok.stk,ok.exf,ok.bs,ok.bsz,ok.noex,ok.exfs,ok.funs,ok.frf⟩
section
variable {X:Cx} {pins:List (Addr×Obj)} {σ:St} {H:Hp} {s:Shared} {E:Value→Shared→Prop}
theorem Inv.wish (I:Inv X pins σ H s) (E:Value→Shared→Prop):Inv (X.wish E) pins σ H s:=⟨I.ok.wish E,I.os,I.bare,I.base,I.loc,I.cell,I.free,I.freeC,I.pin,I.hok,I.len⟩
theorem Inv.unwish (I:Inv (X.wish E) pins σ H s):Inv X pins σ H s:=⟨I.ok.unwish,I.os,I.bare,I.base,I.loc,I.cell,I.free,I.freeC,I.pin,I.hok,I.len⟩
theorem SP.unwish {D:Ends} {f:Flow} {s':Shared} (h:SP (X.wish E) pins D f s'):SP X pins D f s':=by
 cases f with
 |next=>obtain⟨σ',H',I,q⟩:=h;exact⟨σ',H',I.unwish,q⟩
 |brk=>obtain⟨σ',H',I,q⟩:=h;exact⟨σ',H',I.unwish,q⟩
 |cont=>obtain⟨σ',H',I,q⟩:=h;exact⟨σ',H',I.unwish,q⟩
 |ret u=>obtain⟨v,σ',H',I,r,q⟩:=h;exact⟨v,σ',H',I.unwish,r,q⟩
theorem PSs.nox {st:List Stmt} {t:TS} (h:PSs X.nox st t):PSs X st t:=fun pins s σ H D I hw=>
 wpAny_mono (h pins s σ H D (I.wish _) hw) (fun _ _ q=>q.unwish) fun _ _ z=>False.elim z
end
section
variable {X:Cx} {st:Stmt} {rest:List Stmt} {t u:TS} {e:Expr} {te:TE} {pos:Pos}
def pJ:TS:=fun D σ H=>D.nx σ H
def t8 (t u:TS):TS:=fun D σ H=>t {D with nx:=u D} σ H
theorem dF:PSs X [] pJ:=fun _ _ σ H _ I h=>wpAny_execs_nil ⟨σ,H,I,h⟩
theorem X8 (h1:PS X st t) (h2:PSs X rest u):PSs X (st::rest) (t8 t u):=by
 intro pins s σ H D I h
 refine wpAny_execs_cons (CK (h1 pins s σ H {D with nx:=u D} I h) fun f s1 q=> ?_)
 cases f with
 |next=>
  obtain⟨σ',H',I',q⟩:=q
  exact h2 pins s1 σ' H' D I' q
 |ret v=>exact q
 |brk=>exact q
 |cont=>exact q
theorem aR (h1:PS X st t):PSs X [st] t:=by
 intro pins s σ H D I h
 refine wpAny_execs_cons (CK (h1 pins s σ H D I h) fun f s1 q=> ?_)
 cases f with
 |next=>exact wpAny_execs_nil q
 |ret v=>exact q
 |brk=>exact q
 |cont=>exact q
theorem Inv.quiet {pins:List (Addr×Obj)} {σ:St} {H:Hp} {s:Shared} (I:Inv X pins σ H s):interactive X.env=false:=by simp[interactive,I.ok.kind]
def fE (te:TE):TS:=fun D σ H=>te σ H fun _ H1=>D.nx σ H1
theorem bH (he:PE X e te) (hs:swapsWith e none pos.line X.env=pure false:=by rfl):PS X (.Expr e pos) (fE te):=by
 intro pins s σ H D I h
 exact wpAny_Expr_any (CK (he pins s σ H _ I h) fun v s1 ⟨x,H1,I1,r1,q1⟩=>⟨σ,H1,I1,q1⟩) I.quiet hs
def u8 (te:TE):TS:=fun D σ H=>te σ H D.rt
theorem fZ (he:PE X e te):PS X (.Return (some e) pos) (u8 te):=by
 intro pins s σ H D I h
 exact wpAny_Return_some (CK (he pins s σ H _ I h) fun v s1 ⟨x,H1,I1,r1,q1⟩=>⟨x,σ,H1,I1,r1,q1⟩)
def uF (c:TT) (t u:TS):TS:=fun D σ H=>c σ H fun b H1=>if b=true then t D σ H1 else u D σ H1
theorem n8 {c:Expr} {a b:List Stmt} {tc:TT} (hc:PT X c tc) (ha:PSs X a t) (hb:PSs X b u):PS X (.If c a b pos) (uF tc t u):=by
 intro pins s σ H D I h
 refine wpAny_If (CK (hc pins s σ H _ I h) fun d s1 ⟨H1,I1,q1⟩=> ?_)
 cases d with
 |true=>exact ha pins s1 σ H1 D I1 q1
 |false=>exact hb pins s1 σ H1 D I1 q1
end
abbrev TG:=V→St→Hp→(St→Hp→Prop)→Prop
abbrev W8:=List V→St→Hp→(St→Hp→Prop)→Prop
def PG (X:Cx) (target:Expr) (t:TG):Prop:=
 ∀(pins:List (Addr×Obj)) (s:Shared) (σ:St) (H:Hp) (v:V) (u:Value) (Q:St→Hp→Prop),Inv X pins σ H s→RelV v u→t v σ H Q→
  wpAny (model X.prog X.w) X.A (assign target X.env u) (fun _ s'=>∃σ' H',Inv X pins σ' H' s'∧Q σ' H') X.xe s
def PGs (X:Cx) (ts:List Expr) (t:W8):Prop:=
 ∀(pins:List (Addr×Obj)) (s:Shared) (σ:St) (H:Hp) (vs:List V) (us:List Value) (Q:St→Hp→Prop),Inv X pins σ H s→Vals vs us→t vs σ H Q→
  wpAny (model X.prog X.w) X.A (assignInOrder ((assignEach ts X.env).map (·.2)) us) (fun _ s'=>∃σ' H',Inv X pins σ' H' s'∧Q σ' H') X.xe s
abbrev gZ:=V→V→V→Hp→(Hp→Prop)→Prop
def nT (X:Cx) (t:gZ):Prop:=
 ∀(pins:List (Addr×Obj)) (s:Shared) (σ:St) (H:Hp) (o i v:V) (ov iv u:Value) (Q:Hp→Prop),Inv X pins σ H s→RelV o ov→RelV i iv→RelV v u→t o i v H Q→
  wpAny (model X.prog X.w) X.A (setItem ov iv u) (fun _ s'=>∃H',Inv X pins σ H' s'∧Q H') X.xe s
section
variable {X:Cx} {pos:Pos}
def KI (i:Nat):TG:=fun v σ H Q=>Q (σ.set i (some v)) H
theorem C0 {i:Nat} {x:Str} (hN:X.N.Nodup) (hi:X.N[i]? =some x) (hx:mI X.env.scope x) (hf:X.fn x=true∨X.env.scope.names.lookup x=some .local:=by first|exact .inl rfl|exact .inr rfl|assumption):PG X (.Name x pos) (KI i):=by
 intro pins s σ H v u Q I r h
 exact wpAny_assign_Name (J1 I hN hi hx r (fun s' I'=>⟨_,H,I',h⟩) hf)
def nD:W8:=fun vs σ H Q=>vs=[]∧Q σ H
def eQ (t:TG) (u:W8):W8:=fun vs σ H Q=>∃v r,vs=v::r∧t v σ H fun σ' H'=>u r σ' H' Q
theorem UI:PGs X [] nD:=by
 intro pins s σ H vs us Q I r h
 obtain⟨e,h⟩:=h
 subst e
 cases r
 exact assignInOrder_nil ⟨σ,H,I,h⟩
theorem LC {e:Expr} {es:List Expr} {t:TG} {u:W8} (h1:PG X e t) (h2:PGs X es u)
 (hs:(assignEach (e::es) X.env).map (·.2)=assign e X.env::(assignEach es X.env).map (·.2):=by rfl):PGs X (e::es) (eQ t u):=by
 intro pins s σ H vs us Q I r h
 obtain⟨v,vr,e1,h⟩:=h
 subst e1
 cases r with
 |cons r rr=>
  rw[hs]
  refine assignInOrder_cons (CK (h1 pins s σ H _ _ _ I r h) fun _ s1 ⟨σ1,H1,I1,q1⟩=> ?_)
  exact h2 pins s1 σ1 H1 _ _ Q I1 rr q1
def nC (K:PySem.W.Frag) (n:Nat) (t:W8):TG:=fun v σ H Q=>∃a xs,v= .ref a∧GD K H a xs∧xs.length=n∧t xs σ H Q
theorem Y9 {es:List Expr} {k:Nat} {t:W8} {n:Nat} (hc:X.calm=true) (h:PGs X es t)
 (hn:(assignEach es X.env).length=n:=by rfl) (hst:(assignEach es X.env).findIdx? (·.1)=none:=by rfl):PG X (.Tuple es k pos) (nC X.K n t):=by
 intro pins s σ H v u Q I r hw
 obtain⟨a,xs,e1,hq,hl,hw⟩:=hw
 subst e1
 cases r
 obtain⟨its,rv,ht,hz⟩:=I.tuple hq
 refine assign_Tuple_tuple (I.ok.hd hc) ht (by simp[hn,←hl,rv.length]) hst fun h' hx=> ?_
 have I1:Inv X pins σ H {s with heap:=h'}:=I.kept (t':=s.toks) fun b o e=>hx b o (Nat.ne_of_lt (Heap.lt_size e)) e
 exact h pins _ σ H xs _ Q I1 (by simpa using rv) hw
def tO (to ti:TE) (t:gZ):TG:=fun v σ H Q=>to σ H fun o H1=>ti σ H1 fun i H2=>t o i v H2 fun H3=>Q σ H3
theorem iJ {o i:Expr} {to ti:TE} {t:gZ} (ho:PE X o to) (hi:PE X i ti) (hs:nT X t)
 (ha:∀v,assign (.Subscript o i pos) X.env v=(do
   let ov←holding [v] (eval o X.env)
   let iv←holding [v,ov] (eval i X.env)
   standAt pos
   holding [v,ov,iv] (setItem ov iv v)
   release [v,ov,iv] []):=by intro _;rfl):PG X (.Subscript o i pos) (tO to ti t):=by
 intro pins s σ H v u Q I r h
 rw[ha]
 refine wpAny_bind (wpAny_holding (CK (ho pins s σ H _ I h) fun ov s1 ⟨x,H1,I1,r1,q1⟩=> ?_))
 refine wpAny_bind (wpAny_holding (CK (hi pins s1 σ H1 _ I1 q1) fun iv s2 ⟨y,H2,I2,r2,q2⟩=> ?_))
 refine wpAny_bind (wpAny_standAt (wpAny_bind (wpAny_holding (CK (hs pins s2 σ H2 x y v ov iv u _ I2 r1 r2 r q2) fun _ s3 ⟨H3,I3,q3⟩=> ?_))))
 exact wpAny_release ⟨σ,H3,I3,q3⟩
def cA (te:TE) (g:TG):TS:=fun D σ H=>te σ H fun x H1=>g x σ H1 D.nx
theorem lX {tg e:Expr} {te:TE} {g:TG} (he:PE X e te) (hg:PG X tg g) (hs:swapsWithSole [tg] e pos.line X.env=pure false:=by rfl) (hw:swappedStores [tg] e X.env=pure none:=by rfl)
 (h1:(assignEach [tg] X.env).map (·.2)=[assign tg X.env]:=by rfl):PS X (.Assign [tg] e pos) (cA te g):=by
 intro pins s σ H D I h
 refine wpAny_Assign_stores (CK (he pins s σ H _ I h) fun v s1 ⟨x,H1,I1,r1,q1⟩=> ?_) hs hw
 rw[h1]
 exact CK (hg pins s1 σ H1 x v _ I1 r1 q1) fun _ s2 q=>q
theorem g7 {i:Nat} {x:Str} {e:Expr} {te:TE} {pos':Pos} (hN:X.N.Nodup) (hi:X.N[i]? =some x) (hx:mI X.env.scope x) (he:PE X e te) (hs:swapsWith e (some (.Name x pos')) pos.line X.env=pure false:=by rfl) (hf:X.fn x=true∨X.env.scope.names.lookup x=some .local:=by first|exact .inl rfl|exact .inr rfl|assumption):
 PS X (.Assign [.Name x pos'] e pos) (cA te (KI i)):=by
 intro pins s σ H D I h
 refine wpAny_Assign_Name (CK (he pins s σ H _ I h) fun v s1 ⟨y,H1,I1,r1,q1⟩=> ?_) hs
 exact J1 I1 hN hi hx r1 (fun s2 I2=>⟨_,H1,I2,q1⟩) hf
def uV (i j:Nat) (ta:TA):TS:=fun D σ H=>ta σ H fun vs H1=>∃v w,vs=[v,w]∧D.nx ((σ.set i (some v)).set j (some w)) H1
theorem jD {i j:Nat} {x y:Str} {a b:Expr} {ta:TA} {px py pt:Pos} {kt k2 pt2} (hc:X.calm=true) (hN:X.N.Nodup) (hi:X.N[i]? =some x) (hj:X.N[j]? =some y) (hij:i≠j)
 (hx:X.env.scope.names.lookup x=some .local) (hy:X.env.scope.names.lookup y=some .local) (ha:PA X [a,b] ta)
 (hw:swappedStores [.Tuple [.Name x px, .Name y py] kt pt] (.Tuple [a,b] k2 pt2) X.env=pure (some [x,y]))
 (hs:swapsWithSole [.Tuple [.Name x px, .Name y py] kt pt] (.Tuple [a,b] k2 pt2) pos.line X.env=pure false:=by rfl):
 PS X (.Assign [.Tuple [.Name x px, .Name y py] kt pt] (.Tuple [a,b] k2 pt2) pos) (uV i j ta):=by
 intro pins s σ H D I h
 rw[exec_Assign_arm]
 refine wpAny_bind (wpAny_standAt ?_)
 rw[hs]
 refine wpAny_bind (wpAny_pure ?_)
 rw[if_neg (by decide)]
 refine wpAny_bind (Tuple_ (CK (ha _ pins s σ H _ I h) fun us s1 ⟨vs,H1,I1,r1,q1⟩=> ?_))
 obtain⟨v,w,e1,q1⟩:=q1
 subst e1
 obtain⟨u1,u2,rfl,rv,rw'⟩:∃u1 u2,us=[u1,u2]∧RelV v u1∧RelV w u2:=by
  cases r1 with
  |cons p q=>
   cases q with
   |cons p' q'=>
    cases q'
    exact⟨_,_,rfl,p,p'⟩
 refine wpAny_newObj_type ?_ (by show 2≤sizeLine;decide)
 have I2:Inv X pins σ H1 {s1 with heap:=s1.heap.push {cls:= .type "tuple",data:= .seq [u1,u2].toArray}}:=I1.kept (t':=s1.toks) fun b o e=>Heap.get?_push_of_some _ e
 rw[hw]
 refine wpAny_bind (wpAny_pure ?_)
 show wpAny (model X.prog X.w) X.A (do rule "assign.swapped-stores";let items←unpackItems (.ref s1.heap.objs.size) 2 none;assignInOrder [fun v=>bindName X.env y v,fun v=>bindName X.env x v] items.reverse;pure Flow.next) _ _ _
 refine wpAny_bind (wpAny_rule (wpAny_bind (unpackItems_tuple (items:= #[u1,u2]) (I.ok.hd hc) (IsTup.new s1.heap _) fun h' hx'=> ?_)))
 have I3:=I2.kept (h':=h') (t':=s1.toks) fun b o e=>hx' b o (Nat.ne_of_lt (Heap.lt_size e)) e
 show wpAny _ _ (assignInOrder [fun v=>bindName X.env y v,fun v=>bindName X.env x v] [u2,u1]>>=fun _=>pure Flow.next) _ _ _
 refine wpAny_bind (assignInOrder_cons (wpAny_bindName (J1 I3 hN hj (.inl hy) rw' (fun s2 I4=> ?_) (.inr hy))))
 refine assignInOrder_cons (wpAny_bindName (J1 I4 hN hi (.inl hx) rv (fun s3 I5=>assignInOrder_nil (wpAny_pure ?_)) (.inr hx)))
 rw[List.set_comm _ _ (Ne.symm hij)]at I5
 exact⟨_,H1,I5,q1⟩
end
structure It where
 go:Nat→Hp→Prop
 yld:Nat→Hp→V→Hp→Prop
 stop:Nat→Hp→Prop
def HU (X:Cx) (pins:List (Addr×Obj)) (H:Hp) (b:Addr):Prop:=
 H b=none∧b≠X.env.locals∧b∉X.fs∧(b∈X.ex∨X.s₀.heap.objs.size≤b)∧(∀x c,X.env.cells.lookup x=some c→c≠b)∧∀p∈X.pn++pins,p.1≠b
theorem Inv.fpOk {X:Cx} {pins:List (Addr×Obj)} {σ:St} {H H':Hp} {s:Shared} {b:Addr} (I:Inv X pins σ H s) (hb:s.heap.objs.size≤b) (hn:H' b=none):HU X pins H' b:=by
 refine⟨hn,Nat.ne_of_gt (Nat.lt_of_lt_of_le I.lt hb),I.nofs hb, .inr (Nat.le_trans I.sz hb),fun x c e z=> ?_,fun p hp z=> ?_⟩
 ·obtain⟨v,q⟩:=I.cell x c e
  exact absurd (Nat.lt_of_lt_of_le q.lt (by rw[z];exact hb)) (Nat.lt_irrefl _)
 ·exact absurd (Nat.lt_of_lt_of_le (Heap.lt_size (I.pin p hp).1) (by rw[z];exact hb)) (Nat.lt_irrefl _)
structure Turn (P:Program) (w:World) (K:PySem.W.Frag) (tg:Expr) (J:It) (fp:List Addr) (it:Addr) (tn:Nat→Heap→Prop):Prop where
 mem:it∈fp
 obj:∀i h,tn i h→∀b∈fp,∃o,h.get? b=some o∧∀v,o.data≠ .cell v
 keep:∀i h h',tn i h→(∀b∈fp,∀o,h.get? b=some o→h'.get? b=some o)→tn i h'
 item:∀(X:Cx),X.prog=P→X.w=w→X.K=K→X.calm=true→∀(i:Nat) (pins:List (Addr×Obj)) (s:Shared) (σ:St) (H:Hp) (E:Value→Shared→Prop),Inv X pins σ H s→(∀b∈fp,HU X pins H b)→tn i s.heap→J.go i H→
  wpAny (model P w) X.A (pyNext (.ref it)) (fun r s1=>∃u,r=some u∧
   wpAny (model P w) X.A (letOwnedTupleGo tg (.ref it) u) (fun _ s2=>∃x H',Inv X pins σ H' s2∧RelV x u∧J.yld i H x H'∧tn (i+1) s2.heap∧∀b∈fp,H' b=none) E s1) E s
 done:∀(X:Cx),X.prog=P→X.w=w→X.K=K→X.calm=true→∀(i:Nat) (pins:List (Addr×Obj)) (s:Shared) (σ:St) (H:Hp) (E:Value→Shared→Prop),Inv X pins σ H s→(∀b∈fp,HU X pins H b)→tn i s.heap→J.stop i H→
  wpAny (model P w) X.A (pyNext (.ref it)) (fun r s1=>r=none∧Inv X pins σ H s1) E s
 self:∀(A:Around) (i:Nat) (s:Shared) (Q:Value→Shared→Prop) (E:Value→Shared→Prop),tn i s.heap→Q (.ref it) s→wpAny (model P w) A (pyIter (.ref it)) Q E s
abbrev TI:=St→Hp→(It→Hp→Prop)→Prop
def wF (X:Cx) (pins:List (Addr×Obj)) (σ:St) (tg:Expr) (R:It→Hp→Prop) (itv:Value) (s2:Shared):Prop:=
 ∃(it:Addr) (fp:List Addr) (tn:Nat→Heap→Prop) (J:It) (H':Hp),itv= .ref it∧Inv X pins σ H' s2∧Turn X.prog X.w X.K tg J fp it tn∧tn 0 s2.heap∧(∀b∈fp,HU X pins H' b)∧R J H'
def PI (X:Cx) (tg iter:Expr) (wi:TI):Prop:=
 ∀(pins:List (Addr×Obj)) (s:Shared) (σ:St) (H:Hp) (R:It→Hp→Prop),Inv X pins σ H s→wi σ H R→
  wpAny (model X.prog X.w) X.A (eval iter X.env) (fun v s1=>wpAny (model X.prog X.w) X.A (pyIter v) (wF X pins σ tg R) X.xe s1) X.xe s
theorem TM {M:Model} {A:Around} {E:Value→Shared→Prop} {s:Shared} {tg:Expr} {it:Addr} {u:Value} {o:Obj} {n:String} {vs:Array Value} {Q:Unit→Shared→Prop} (ho:s.heap.get? it=some o) (hc:o.cls= .type n) (hd:o.data= .fields vs)
 (hn:["enumerate","zip","dict_itemiterator","dict_reverseitemiterator","odict_iterator","itertools.zip_longest","itertools.pairwise"].contains n=false) (hQ:Q () s):wpAny M A (letOwnedTupleGo tg (.ref it) u) Q E s:=by
 unfold letOwnedTupleGo
 cases tg<;>first
  |exact wpAny_pure hQ
  |(cases u<;>first
     |exact wpAny_pure hQ
     |(refine wpAny_bind (wpAny_load ho ?_)
       rw[hc,hd]
       show wpAny M A (if(["enumerate","zip","dict_itemiterator","dict_reverseitemiterator","odict_iterator","itertools.zip_longest","itertools.pairwise"].contains n&&vs[0]? ==some (rawInt _))=true then _ else _) Q E s
       rw[if_neg (by intro h;rw[hn,Bool.false_and]at h;cases h)]
       exact wpAny_pure hQ))
def u4 (K:PySem.W.Frag) (a:Addr):It:=
 ⟨fun i H=>∃xs x,SqL K H a xs∧xs[i]? =some x,fun i H x H'=>H'=H∧∀xs,SqL K H a xs→xs[i]? =some x,fun i H=>∃xs,SqL K H a xs∧xs.length≤i⟩
def t7 (K:PySem.W.Frag) (a:Addr):It:=
 ⟨fun i H=>∃xs x,GD K H a xs∧xs[i]? =some x,fun i H x H'=>H'=H∧∀xs,GD K H a xs→xs[i]? =some x,fun i H=>∃xs,GD K H a xs∧xs.length≤i⟩
def sK (lo:Int) (n:Nat):It:=⟨fun i _=>i<n,fun i H x H'=>H'=H∧x= .int (lo+i),fun i _=>n≤i⟩
theorem VS {P:Program} {w:World} {K:PySem.W.Frag} {tg:Expr} (a it:Addr):Turn P w K tg (u4 K a) [it] it (fun i h=>h.IsListIter it a i) where
 mem:=by simp
 obj:=fun i h st b hb=>by
  have e:b=it:=by simpa using hb
  subst e
  obtain⟨o,e,c,d⟩:=st
  exact⟨o,e,fun v z=>by rw[d]at z;cases z⟩
 keep:=fun i h h' st k=>st.at fun o e=>k it (by simp) o e
 item:=by
  intro X hP hw hK hc i pins s σ H E I hf st hg
  subst hP hw hK
  obtain⟨xs,x,hq,hx⟩:=hg
  obtain⟨its,rv,p,hz⟩:=I.list hq
  obtain⟨u,hu,ru⟩:=rv.get hx
  obtain⟨f0,f1,f2,f3,f4,f5⟩:=hf it (by simp)
  refine wpAny_pyNext_list_item st p.isList (x:=u) (by simpa using hu) fun h' st' sb=> ?_
  have I1:Inv X pins σ H {s with heap:=h'}:=I.turned (t':=s.toks) (fun b o hb e=>(sb.2 b hb).trans e) f0 f1 f3 f4 f5
  obtain⟨o,e,c,d⟩:=id st'
  exact⟨u,rfl,TM (s:={s with heap:=h'}) e c d (by decide) ⟨x,H,I1,ru,⟨rfl,fun ys hy=>by rw[I.list_inj hy hq];exact hx⟩,st',fun b hb=>(hf b hb).1⟩⟩
 done:=by
  intro X hP hw hK hc i pins s σ H E I hf st hg
  subst hP hw hK
  obtain⟨xs,hq,hx⟩:=hg
  obtain⟨its,rv,p,hz⟩:=I.list hq
  obtain⟨f0,f1,f2,f3,f4,f5⟩:=hf it (by simp)
  have hl:=rv.length
  exact wpAny_pyNext_list_end (I.ok.hd hc) st p.isList (by simp;omega) fun h' eb=>⟨rfl,I.turned (t':=s.toks) (fun b o hb e=>eb b o hb e) f0 f1 f3 f4 f5⟩
 self:=fun _ _ _ _ _ st h=>wpAny_pyIter_listiter st h
theorem S4 {P:Program} {w:World} {K:PySem.W.Frag} {tg:Expr} (a it:Addr):Turn P w K tg (t7 K a) [it] it (fun i h=>h.IsTupleIter it a i) where
 mem:=by simp
 obj:=fun i h st b hb=>by
  have e:b=it:=by simpa using hb
  subst e
  obtain⟨o,e,c,d⟩:=st
  exact⟨o,e,fun v z=>by rw[d]at z;cases z⟩
 keep:=fun i h h' st k=>st.at fun o e=>k it (by simp) o e
 item:=by
  intro X hP hw hK hc i pins s σ H E I hf st hg
  subst hP hw hK
  obtain⟨xs,x,hq,hx⟩:=hg
  obtain⟨its,rv,p,hz⟩:=I.tuple hq
  obtain⟨u,hu,ru⟩:=rv.get hx
  obtain⟨f0,f1,f2,f3,f4,f5⟩:=hf it (by simp)
  refine wpAny_pyNext_tuple_item st (show s.heap.IsTuple a its.toArray from p) (x:=u) (by simpa using hu) fun h' st' sb=> ?_
  have I1:Inv X pins σ H {s with heap:=h'}:=I.turned (t':=s.toks) (fun b o hb e=>(sb.2 b hb).trans e) f0 f1 f3 f4 f5
  obtain⟨o,e,c,d⟩:=id st'
  exact⟨u,rfl,TM (s:={s with heap:=h'}) e c d (by decide) ⟨x,H,I1,ru,⟨rfl,fun ys hy=>by rw[I.tuple_inj hy hq];exact hx⟩,st',fun b hb=>(hf b hb).1⟩⟩
 done:=by
  intro X hP hw hK hc i pins s σ H E I hf st hg
  subst hP hw hK
  obtain⟨xs,hq,hx⟩:=hg
  obtain⟨its,rv,p,hz⟩:=I.tuple hq
  obtain⟨f0,f1,f2,f3,f4,f5⟩:=hf it (by simp)
  have hl:=rv.length
  exact wpAny_pyNext_tuple_end (I.ok.hd hc) st (show s.heap.IsTuple a its.toArray from p) (by simp;omega) fun h' eb=>⟨rfl,I.turned (t':=s.toks) (fun b o hb e=>eb b o hb e) f0 f1 f3 f4 f5⟩
 self:=fun _ _ _ _ _ st h=>wpAny_pyIter_tupleiter st h
theorem RI {P:Program} {w:World} {K:PySem.W.Frag} {tg:Expr} (it:Addr) (lo:Int) (n:Nat):Turn P w K tg (sK lo n) [it] it (fun i h=>IsRangeIter h it (lo+(i:Nat)*1) ((n:Int)-(i:Nat)) 1) where
 mem:=by simp
 obj:=fun i h st b hb=>by
  have e:b=it:=by simpa using hb
  subst e
  exact⟨_,st,fun v z=>by
   have z':Data.fields _=Data.cell v:=z
   cases z'⟩
 keep:=fun i h h' st k=>k it (by simp) _ st
 item:=by
  intro X hP hw hK hc i pins s σ H E I hf st hg
  subst hP hw hK
  obtain⟨f0,f1,f2,f3,f4,f5⟩:=hf it (by simp)
  have W:=Walks.range (prog:=X.prog) (w:=X.w) (I.ok.hd hc) it lo 1 n
  refine W.item i s _ _ hg st fun v h' tk hv st' kk=> ?_
  obtain⟨t,rfl⟩:=hv
  have I1:Inv X pins σ H {s with heap:=h',toks:=tk}:=I.turned (fun b o hb e=>kk b o (by simpa using hb) e) f0 f1 f3 f4 f5
  refine⟨_,rfl,TM (s:={s with heap:=h',toks:=tk}) (n:= "range_iterator") st' rfl rfl (by decide) ⟨.int (lo+i),H,I1,⟨t,?_⟩,⟨rfl,rfl⟩,st',fun b hb=>(hf b hb).1⟩⟩
  rw[Int.mul_one]
 done:=by
  intro X hP hw hK hc i pins s σ H E I hf st hg
  subst hP hw hK
  obtain⟨f0,f1,f2,f3,f4,f5⟩:=hf it (by simp)
  exact wpAny_pyNext_range_end (I.ok.hd hc) st (by have:n≤i:=hg;omega) fun h' eb=>⟨rfl,I.turned (t':=s.toks) (fun b o hb e=>eb b o hb e) f0 f1 f3 f4 f5⟩
 self:=fun _ _ _ _ _ st h=>wpAny_pyIter_rangeiter st h
end L2
namespace L2
open PySem PySem.Spec PyProof.Rows
section
variable {X:Cx} {tg:Expr}
def nB (K:PySem.W.Frag) (tl:TE):TI:=fun σ H R=>tl σ H fun x H1=>∃a,x= .ref a∧(∃xs,SqL K H1 a xs)∧R (u4 K a) H1
def uZ (K:PySem.W.Frag) (tl:TE):TI:=fun σ H R=>tl σ H fun x H1=>∃a,x= .ref a∧(∃xs,GD K H1 a xs)∧R (t7 K a) H1
theorem dS {l:Expr} {tl:TE} (hl:PE X l tl):PI X tg l (nB X.K tl):=by
 intro pins s σ H R I h
 refine CK (hl pins s σ H _ I h) fun v s1 ⟨x,H1,I1,r1,q1⟩=> ?_
 obtain⟨a,e,⟨xs,hq⟩,q⟩:=q1
 subst e
 cases r1
 obtain⟨its,rv,p,hz⟩:=I1.list hq
 refine wpAny_pyIter_list p.isList ?_
 refine⟨s1.heap.objs.size,[s1.heap.objs.size],_,_,H1,rfl,I1.kept (t':=s1.toks) fun b o e=>Heap.get?_push_of_some _ e,VS a _,⟨_,Heap.get?_push_size _ rfl,rfl,rfl⟩,fun b hb=> ?_,q⟩
 have e:b=s1.heap.objs.size:=by simpa using hb
 subst e
 exact I1.fpOk (Nat.le_refl _) (I1.hok.fresh (Nat.le_refl _))
theorem fT {l:Expr} {tl:TE} (hl:PE X l tl):PI X tg l (uZ X.K tl):=by
 intro pins s σ H R I h
 refine CK (hl pins s σ H _ I h) fun v s1 ⟨x,H1,I1,r1,q1⟩=> ?_
 obtain⟨a,e,⟨xs,hq⟩,q⟩:=q1
 subst e
 cases r1
 obtain⟨its,rv,p,hz⟩:=I1.tuple hq
 refine wpAny_pyIter_tuple (show s1.heap.IsTuple a its.toArray from p) ?_
 refine⟨s1.heap.objs.size,[s1.heap.objs.size],_,_,H1,rfl,I1.kept (t':=s1.toks) fun b o e=>Heap.get?_push_of_some _ e,S4 a _,⟨_,Heap.get?_push_size _ rfl,rfl,rfl⟩,fun b hb=> ?_,q⟩
 have e:b=s1.heap.objs.size:=by simpa using hb
 subst e
 exact I1.fpOk (Nat.le_refl _) (I1.hok.fresh (Nat.le_refl _))
theorem ZG {pins:List (Addr×Obj)} {σ:St} {H:Hp} {s:Shared} {R:It→Hp→Prop} {E:Value→Shared→Prop} {lo hi:Int} {t u v:Tok} {tk:Nat} (I:Inv X pins σ H s) (h1: -(2^62)≤lo) (h2:lo<2^62) (h3: -(2^62)≤hi) (h4:hi<2^62)
 (q:R (sK lo (hi-lo).toNat) H):wpAny (model X.prog X.w) X.A (pyIter (.ref s.heap.objs.size)) (wF X pins σ tg R) E {s with heap:=s.heap.push {cls:= .type "range",data:= .fields #[.int lo t, .int hi u, .int 1 v]},toks:=tk}:=by
 refine wpAny_pyIter_range (IsRange.new ..) (small_one h1 h2 h3 h4) ?_
 have I1:Inv X pins σ H {s with heap:=s.heap.push {cls:= .type "range",data:= .fields #[.int lo t, .int hi u, .int 1 v]},toks:=tk}:=I.kept fun b o e=>Heap.get?_push_of_some _ e
 refine⟨(s.heap.push {cls:= .type "range",data:= .fields #[.int lo t, .int hi u, .int 1 v]}).objs.size,[(s.heap.push {cls:= .type "range",data:= .fields #[.int lo t, .int hi u, .int 1 v]}).objs.size],_,_,H,rfl,
  I1.kept (t':=tk) fun b o e=>Heap.get?_push_of_some _ e,RI _ lo (hi-lo).toNat,?_,fun b hb=> ?_,q⟩
 ·have e1:lo+((0:Nat):Int)*1=lo:=by simp
  have e2:(((hi-lo).toNat:Nat):Int)-((0:Nat):Int)=Builtin.Range.rangeSize lo hi 1:=by rw[rangeSize_one];split<;>omega
  show IsRangeIter _ _ (lo+((0:Nat):Int)*1) ((((hi-lo).toNat:Nat):Int)-((0:Nat):Int)) 1
  rw[e1,e2]
  exact Heap.get?_push_size _ rfl
 ·have e:b=(s.heap.push {cls:= .type "range",data:= .fields #[.int lo t, .int hi u, .int 1 v]}).objs.size:=by simpa using hb
  subst e
  exact I1.fpOk (Nat.le_refl _) (I1.hok.fresh (Nat.le_refl _))
def pT (ta:TA):TI:=fun σ H R=>ta σ H fun vs H1=>∃j:Int,vs=[.int j]∧-(2^62)≤j∧j<2^62∧R (sK 0 j.toNat) H1
theorem VJ {a:Expr} {ta:TA} {p pos:Pos} (hg:Gl X "range") (hm:X.mg "range"=none) (ha:PA X [a] ta) (hs:starEach [a] X.env=[(false,eval a X.env)]:=by rfl):PI X tg (.Call (.Name "range" p) [a] [] pos) (pT ta):=by
 intro pins s σ H R I h
 refine Call_ (LV I hg hm boot_range (PyProof.Rows.callWith_type1 (CK (ha pos pins s σ H _ I h) fun us s1 ⟨vs,H1,I1,r1,q1⟩=> ?_) hs rfl))
 obtain⟨j,e,q1,q2,q⟩:=q1
 subst e
 cases r1 with
 |cons r rr=>
  cases rr
  obtain⟨t,rfl⟩:=r
  exact call_range_1 (ZG I1 (by omega) (by omega) q1 q2 (by simpa using q))
def vN (wi:TI) (g:TG) (tb:TS):TS:=fun D σ H=>wi σ H fun J H1=>∃W:Nat→Nat→St→Hp→Prop,(∃m,W 0 m σ H1)∧∀i m σ H,W i m σ H→
 (J.stop i H∧D.nx σ H)∨(J.go i H∧∃N:St→Hp→Prop,(∀σ' H',N σ' H'→∃m',m'<m∧W (i+1) m' σ' H')∧∀x H',J.yld i H x H'→g x σ H' fun σ2 H2=>tb {D with nx:=N,ct:=N,bk:=D.nx} σ2 H2)
def LY (fp:List Addr) (h:Heap):List (Addr×Obj):=fp.filterMap fun b=>(h.get? b).map fun o=>(b,o)
theorem G1 {fp:List Addr} {h:Heap} {b:Addr} {o:Obj} (hb:b∈fp) (e:h.get? b=some o):(b,o)∈LY fp h:=List.mem_filterMap.mpr ⟨b,hb,by rw[e];rfl⟩
theorem VM {fp:List Addr} {h:Heap} {p:Addr×Obj} (hp:p∈LY fp h):p.1∈fp∧h.get? p.1=some p.2:=by
 obtain⟨b,hb,e⟩:=List.mem_filterMap.mp hp
 cases q:h.get? b with
 |none=>rw[q]at e;cases e
 |some o=>
  rw[q]at e
  have e':(b,o)=p:=Option.some.inj e
  subst e'
  exact⟨hb,q⟩
theorem Inv.pinned {pins:List (Addr×Obj)} {σ:St} {H:Hp} {s:Shared} {fp:List Addr} (I:Inv X pins σ H s) (hf:∀b∈fp,HU X pins H b) (ho:∀b∈fp,∃o,s.heap.get? b=some o∧∀v,o.data≠ .cell v):Inv X (pins++LY fp s.heap) σ H s:=
 I.pins_of fun p hp=>(List.mem_append.mp hp).elim (fun z=>I.pin p (List.mem_append_right _ z)) fun z=>by
  obtain⟨hb,e⟩:=VM z
  obtain⟨f0,f1,f2,_⟩:=hf p.1 hb
  obtain⟨o,e',d⟩:=ho p.1 hb
  rw[e]at e';cases e'
  exact⟨e,f0,f1,f2,d⟩
theorem Inv.unpinned {pins pl:List (Addr×Obj)} {σ:St} {H:Hp} {s:Shared} (I:Inv X (pins++pl) σ H s):Inv X pins σ H s:=I.pins_of fun p hp=>I.pin p (List.mem_append_right _ (List.mem_append_left _ hp))
theorem jV {iter:Expr} {body:List Stmt} {wi:TI} {g:TG} {tb:TS} {pos:Pos} (hp:PassesOwn (model X.prog X.w) X.A X.env X.xe) (hc:X.calm=true) (hi:PI X tg iter wi) (hg:PG X tg g) (hb:PSs X body tb)
 (hs:∀x,foldedSetIterable iter X.env x=pure x:=by intro _;rfl):PS X (.For tg iter body [] pos) (vN wi g tb):=by
 intro pins s σ H D I h
 refine wpAny_For (CK (hi pins s σ H _ I h) fun v s1 h1=>CK h1 fun itv s2 h2=> ?_) hs
 obtain⟨it,fp,tn,J,H2,e,I2,T,st2,f2,W,⟨m0,w0⟩,turn⟩:=h2
 subst e
 have stat:∀{H':Hp},(∀b∈fp,H' b=none)→∀b∈fp,HU X pins H' b:=fun hn b hb=>⟨hn b hb,(f2 b hb).2⟩
 refine codeAny_forLoop_any (fun n s'=>∃i σ' H',Inv X pins σ' H' s'∧tn i s'.heap∧(∀b∈fp,H' b=none)∧W i n σ' H') ?_ m0 ⟨0,σ,H2,I2,st2,fun b hb=>(f2 b hb).1,w0⟩
 rintro n s3 ⟨i,σ3,H3,I3,st3,fr3,w3⟩
 rcases turn i n σ3 H3 w3 with⟨stop,qn⟩|⟨go,N,hN,step⟩
 ·refine wpAny_passesOwn hp (CK (T.done X rfl rfl rfl hc i pins s3 σ3 H3 X.xe I3 (stat fr3) st3 stop) fun r s4 ⟨hr,I4⟩=> ?_)
  subst hr
  exact wpAny_execs_nil ⟨σ3,H3,I4,qn⟩
 ·refine wpAny_passesOwn hp (CK (T.item X rfl rfl rfl hc i pins s3 σ3 H3 X.xe I3 (stat fr3) st3 go) fun r s4 ⟨u,hr,h4⟩=> ?_)
  subst hr
  refine wpAny_passesOwn hp (CK h4 fun _ s5 ⟨x,H5,I5,r5,y5,st5,fr5⟩=> ?_)
  have I5':=I5.pinned (stat fr5) (T.obj _ _ st5)
  refine wpAny_passesOwn hp (CK (hg _ s5 σ3 H5 x u _ I5' r5 (step x H5 y5)) fun _ s6 ⟨σ6,H6,I6,q6⟩=> ?_)
  refine wpAny_passesOwn hp (CK (hb _ s6 σ6 H6 _ I6 q6) fun f s7 q7=> ?_)
  have again:∀{σ7:St} {H7:Hp},Inv X (pins++LY fp s5.heap) σ7 H7 s7→N σ7 H7→∃m,m<n∧∃i σ' H',Inv X pins σ' H' s7∧tn i s7.heap∧(∀b∈fp,H' b=none)∧W i m σ' H':=fun{σ7 H7} I7 n7=>by
   obtain⟨m',hm,w7⟩:=hN σ7 H7 n7
   refine⟨m',hm,i+1,σ7,H7,I7.unpinned,T.keep _ _ _ st5 fun b hb o e=>(I7.pin (b,o) (List.mem_append_right _ (List.mem_append_right _ (G1 hb e)))).1,fun b hb=> ?_,w7⟩
   obtain⟨o,e,d⟩:=T.obj _ _ st5 b hb
   exact(I7.pin (b,o) (List.mem_append_right _ (List.mem_append_right _ (G1 hb e)))).2.1
  cases f with
  |next=>obtain⟨σ7,H7,I7,n7⟩:=q7;exact again I7 n7
  |cont=>obtain⟨σ7,H7,I7,n7⟩:=q7;exact again I7 n7
  |brk=>obtain⟨σ7,H7,I7,q7⟩:=q7;exact⟨σ7,H7,I7.unpinned,q7⟩
  |ret v=>obtain⟨x7,σ7,H7,I7,r7,q7⟩:=q7;exact⟨x7,σ7,H7,I7.unpinned,r7,q7⟩
end
end L2
namespace L2
open PySem PySem.Spec PyProof.Rows
abbrev R2:=V→V→Hp→VK→Prop
def OpR (X:Cx) (f:Value→Value→Sem Value) (r:R2):Prop:=
 ∀(pins:List (Addr×Obj)) (s:Shared) (σ:St) (H:Hp) (x y:V) (v u:Value) (Q:VK),Inv X pins σ H s→RelV x v→RelV y u→r x y H Q→
  wpAny (model X.prog X.w) X.A (f v u) (EP X pins σ Q) X.xe s
def sT (X:Cx) (f:Value→Sem Value) (r:V→Hp→VK→Prop):Prop:=
 ∀(pins:List (Addr×Obj)) (s:Shared) (σ:St) (H:Hp) (x:V) (v:Value) (Q:VK),Inv X pins σ H s→RelV x v→r x H Q→
  wpAny (model X.prog X.w) X.A (f v) (EP X pins σ Q) X.xe s
def DA (X:Cx) (f:Value) (r:List V→Hp→VK→Prop):Prop:=
 ∀(pins:List (Addr×Obj)) (s:Shared) (σ:St) (H:Hp) (xs:List V) (us:List Value) (Q:VK),Inv X pins σ H s→Vals xs us→r xs H Q→
  wpAny (model X.prog X.w) X.A (call f us) (EP X pins σ Q) X.xe s
def sO (r:R2) (ta tb:TE):TE:=fun σ H Q=>ta σ H fun x H1=>tb σ H1 fun y H2=>r x y H2 Q
def y8 (r:V→Hp→VK→Prop) (ta:TE):TE:=fun σ H Q=>ta σ H fun x H1=>r x H1 Q
def rI (C:Int→Int→Prop) (g:Int→Int→V):R2:=fun x y H Q=>∃i j,x= .int i∧y= .int j∧C i j∧Q (g i j) H
def W6 (g:Int→Int→V):R2:=fun x y H Q=>∃i j,x= .int i∧y= .int j∧Q (g i j) H
def rU (g:Int→V):V→Hp→VK→Prop:=fun x H Q=>∃i,x= .int i∧Q (g i) H
section
variable {X:Cx} {a b c:Expr} {ta tb tc:TE} {pos:Pos}
theorem jC (ha:PE X a ta) (hb:PE X b tb) {pins:List (Addr×Obj)} {s:Shared} {σ:St} {H:Hp} {R:V→V→Hp→Prop} (I:Inv X pins σ H s)
 (h:ta σ H fun x H1=>tb σ H1 fun y H2=>R x y H2) {Q:Value→Shared→Prop} {f:Value→Value→Sem Value}
 (hf:∀v u s2 x y H2,Inv X pins σ H2 s2→RelV x v→RelV y u→R x y H2→wpAny (model X.prog X.w) X.A (f v u) Q X.xe s2):
 wpAny (model X.prog X.w) X.A (eval a X.env) (fun v s₁=>wpAny (model X.prog X.w) X.A (eval b X.env) (fun u s₂=>wpAny (model X.prog X.w) X.A (f v u) Q X.xe s₂) X.xe s₁) X.xe s:=by
 refine CK (ha pins s σ H _ I h) fun v s1 ⟨x,H1,I1,r1,q1⟩=> ?_
 refine CK (hb pins s1 σ H1 _ I1 q1) fun u s2 ⟨y,H2,I2,r2,q2⟩=> ?_
 exact hf v u s2 x y H2 I2 r1 r2 q2
theorem oP {op:Operator} {r:R2} (ho:OpR X (binaryOp op) r) (ha:PE X a ta) (hb:PE X b tb):PE X (.BinOp a op b pos) (sO r ta tb):=by
 intro pins s σ H Q I h
 exact wpAny_BinOp (jC ha hb I h fun v u s2 x y H2 I2 rx ry q=>ho pins s2 σ H2 x y v u Q I2 rx ry q)
theorem rA {op:UnaryOp} {r:V→Hp→VK→Prop} (ho:sT X (unaryOp op) r) (ha:PE X a ta):PE X (.UnaryOp op a pos) (y8 r ta):=by
 intro pins s σ H Q I h
 exact UnaryOp_ (CK (ha pins s σ H _ I h) fun v s1 ⟨x,H1,I1,r1,q1⟩=>ho pins s1 σ H1 x v Q I1 r1 q1)
theorem sE {f:Value→Value→Sem Value} {C:Int→Int→Prop} {g:Int→Int→Int}
 (rule:∀(i j:Int) (t u:Tok) (s:Shared) (Q:Value→Shared→Prop) (E:Value→Shared→Prop),C i j→Q (.int (g i j) s.toks) {s with toks:=s.toks+1}→wpAny (model X.prog X.w) X.A (f (.int i t) (.int j u)) Q E s):
 OpR X f (rI C fun i j=> .int (g i j)):=by
 intro pins s σ H x y v u Q I rx ry h
 obtain⟨i,j,rfl,rfl,hc,q⟩:=h
 obtain⟨t,rfl⟩:=rx
 obtain⟨t',rfl⟩:=ry
 exact rule i j t t' s _ _ hc ⟨.int (g i j),H,I.tok _,⟨_,rfl⟩,q⟩
theorem qX {f:Value→Value→Sem Value} {g:Int→Int→Int}
 (rule:∀(i j:Int) (t u:Tok) (s:Shared) (Q:Value→Shared→Prop) (E:Value→Shared→Prop),Q (.int (g i j) s.toks) {s with toks:=s.toks+1}→wpAny (model X.prog X.w) X.A (f (.int i t) (.int j u)) Q E s):
 OpR X f (W6 fun i j=> .int (g i j)):=by
 intro pins s σ H x y v u Q I rx ry h
 obtain⟨i,j,rfl,rfl,q⟩:=h
 obtain⟨t,rfl⟩:=rx
 obtain⟨t',rfl⟩:=ry
 exact rule i j t t' s _ _ ⟨.int (g i j),H,I.tok _,⟨_,rfl⟩,q⟩
theorem iC {f:Value→Value→Sem Value} {g:Int→Int→Bool}
 (rule:∀(i j:Int) (t u:Tok) (s:Shared) (Q:Value→Shared→Prop) (E:Value→Shared→Prop),Q (.bool (g i j)) s→wpAny (model X.prog X.w) X.A (f (.int i t) (.int j u)) Q E s):
 OpR X f (W6 fun i j=> .bl (g i j)):=by
 intro pins s σ H x y v u Q I rx ry h
 obtain⟨i,j,rfl,rfl,q⟩:=h
 obtain⟨t,rfl⟩:=rx
 obtain⟨t',rfl⟩:=ry
 exact rule i j t t' s _ _ ⟨.bl (g i j),H,I,rfl,q⟩
def nQ (i j:Int):Prop:=0<j∧j<1073741824
def o9 (i j:Int):Prop:=0≤j∧j≤1000000∧i.natAbs<2^64
def CMul (i j:Int):Prop:=(-(2^64)<i∧i<2^64)∨(-(2^64)<j∧j<2^64)
theorem CMul.ok {i j:Int} (h:CMul i j):IntMulOk i j:=by
 rcases h with⟨h1,h2⟩|⟨h1,h2⟩
 ·exact .of_left (intBits_le_64 h1 h2)
 ·exact .of_right (intBits_le_64 h1 h2)
theorem lA:OpR X (binaryOp .Add) (W6 fun i j=> .int (i+j)):=qX fun _ _ _ _ _ _ _ q=>add_int q
theorem LP:OpR X (binaryOp .Sub) (W6 fun i j=> .int (i-j)):=qX fun _ _ _ _ _ _ _ q=>sub_int q
theorem fS:OpR X (binaryOp .Mult) (rI CMul fun i j=> .int (i*j)):=sE fun _ _ _ _ _ _ _ hc q=>mul_int q hc.ok
theorem U0:OpR X (binaryOp .FloorDiv) (rI nQ fun i j=> .int (i/j)):=sE fun i j _ _ _ _ _ hc q=>by
 have h1:(0:Int)<j:=hc.1
 have h2:j<1073741824:=hc.2
 exact floordiv_int (by omega) (by rw[Int.fdiv_eq_ediv_of_nonneg i (by omega)];exact q) (.inl (PyProof.noPylong_small (by omega)))
theorem IN:OpR X (binaryOp .Mod) (rI (fun _ j=>0<j) fun i j=> .int (i % j)):=sE fun i j _ _ _ _ _ hc q=>by
 have h1:(0:Int)<j:=hc
 exact mod_int' (by omega) (by rw[Int.fmod_eq_emod_of_nonneg i (by omega)];exact q)
theorem LS:OpR X (binaryOp .Pow) (rI o9 fun i j=> .int (i^j.toNat)):=sE fun _ _ _ _ _ _ _ hc q=>pow_int_small hc.1 hc.2.1 hc.2.2 q
theorem xK {f:Value→Sem Value} {g:Int→Int}
 (rule:∀(i:Int) (t:Tok) (s:Shared) (Q:Value→Shared→Prop) (E:Value→Shared→Prop),Q (.int (g i) s.toks) {s with toks:=s.toks+1}→wpAny (model X.prog X.w) X.A (f (.int i t)) Q E s):
 sT X f (rU fun i=> .int (g i)):=by
 intro pins s σ H x v Q I rx h
 obtain⟨i,rfl,q⟩:=h
 obtain⟨t,rfl⟩:=rx
 exact rule i t s _ _ ⟨.int (g i),H,I.tok _,⟨_,rfl⟩,q⟩
theorem WR:sT X (unaryOp .USub) (rU fun i=> .int (-i)):=xK fun _ _ _ _ _ q=>neg_int q
end
section
variable {X:Cx} {a b c:Expr} {ta tb tc:TE} {pos:Pos}
theorem OZ {pins:List (Addr×Obj)} {σ:St} {H:Hp} {s:Shared} {Q:VK} {k k':Bool} (I:Inv X pins σ H s) (q:Q (.bl k) H) (e:k=k'):EP X pins σ Q (.bool k') s:=by
 subst e
 exact⟨.bl k,H,I,rfl,q⟩
theorem n6:OpR X (compareOp .Lt) (W6 fun i j=> .bl (decide (i<j))):=iC fun _ _ _ _ _ _ _ q=>lt_int q
theorem nF:OpR X (compareOp .Gt) (W6 fun i j=> .bl (decide (j<i))):=iC fun _ _ _ _ _ _ _ q=>gt_int q
theorem oU:OpR X (compareOp .GtE) (W6 fun i j=> .bl (decide (j≤i))):=iC fun _ _ _ _ _ _ _ q=>ge_int q
theorem V9:OpR X (compareOp .Lt) (fun x y H Q=>∃i j,x= .str i∧y= .str j∧Q (.bl (decide (i.cps.toList<j.cps.toList))) H):=by
 intro pins s σ H x y v u Q I rx ry h
 obtain⟨i,j,rfl,rfl,q⟩:=h
 obtain⟨t,rfl⟩:=rx
 obtain⟨t',rfl⟩:=ry
 exact lt_str (OZ I q rfl)
theorem VX:OpR X (compareOp .In) (fun x y H Q=>∃i j,x= .str i∧y= .str j∧Q (.bl (!(Builtin.Str.occurrences j i 0 j.length 1).isEmpty)) H):=by
 intro pins s σ H x y v u Q I rx ry h
 obtain⟨i,j,rfl,rfl,q⟩:=h
 obtain⟨t,rfl⟩:=rx
 obtain⟨t',rfl⟩:=ry
 exact in_str (OZ I q rfl)
theorem iY:OpR X (compareOp .Is) (fun x y H Q=>y= .non∧Q (.bl (decide (x= .non))) H):=by
 intro pins s σ H x y v u Q I rx ry h
 obtain⟨rfl,q⟩:=h
 cases ry
 refine is_none_gen (OZ I q ?_)
 cases x<;>first
  |(cases rx;rfl)
  |(obtain⟨t,rfl⟩:=rx;rfl)
theorem cF:OpR X (compareOp .IsNot) (fun x y H Q=>y= .non∧Q (.bl (!decide (x= .non))) H):=by
 intro pins s σ H x y v u Q I rx ry h
 obtain⟨rfl,q⟩:=h
 cases ry
 refine isnot_none_gen (OZ I q ?_)
 cases x<;>first
  |(cases rx;rfl)
  |(obtain⟨t,rfl⟩:=rx;rfl)
theorem OpR.or {f:Value→Value→Sem Value} {r r':R2} (h:OpR X f r) (h':OpR X f r'):OpR X f (fun x y H Q=>r x y H Q∨r' x y H Q):=by
 intro pins s σ H x y v u Q I rx ry q
 rcases q with q|q
 ·exact h pins s σ H x y v u Q I rx ry q
 ·exact h' pins s σ H x y v u Q I rx ry q
theorem eI {op:CmpOp} {r:R2} (ho:OpR X (compareOp op) r) (ha:PE X a ta) (hb:PE X b tb) (hm:behindInMarks op b=false):PE X (.Compare a [op] [b] pos) (sO r ta tb):=by
 intro pins s σ H Q I h
 exact wpAny_Compare1 (jC ha hb I h fun v u s2 x y H2 I2 rx ry q=>ho pins s2 σ H2 x y v u Q I2 rx ry q) hm
def pI (t:TE):TT:=fun σ H Q=>t σ H fun x H'=>∃k,x= .bl k∧Q k H'
theorem dH {op:CmpOp} {r:R2} (ho:OpR X (compareOp op) r) (ha:PE X a ta) (hb:PE X b tb) (hm:behindInMarks op b=false):PT X (.Compare a [op] [b] pos) (pI (sO r ta tb)):=by
 intro pins s σ H Q I h
 refine wpAny_isTrue_Compare1 (CK (ha pins s σ H _ I h) fun v s1 ⟨x,H1,I1,r1,q1⟩=>CK (hb pins s1 σ H1 _ I1 q1) fun u s2 ⟨y,H2,I2,r2,q2⟩=>
  CK (ho pins s2 σ H2 x y v u _ I2 r1 r2 q2) fun c s3 ⟨z,H3,I3,r3,k,e,q3⟩=> ?_) hm
 subst e
 cases r3
 exact wpAny_truthy_bool ⟨H3,I3,q3⟩
theorem K6:(sizeLine:Nat)<2^63:=by rw[sizeLine_eq];decide
theorem SV:OpR X (binaryOp .Add) (fun x y H Q=>∃i j,x= .str i∧y= .str j∧i.length+j.length≤sizeLine∧Q (.str (i++j)) H):=by
 intro pins s σ H x y v u Q I rx ry h
 obtain⟨i,j,rfl,rfl,hz,q⟩:=h
 obtain⟨t,rfl⟩:=rx
 obtain⟨t',rfl⟩:=ry
 exact add_str (fun t' tk=>⟨.str (i++j),H,I.tok _,⟨_,rfl⟩,q⟩) hz
theorem E7 {x:V} {us:List Value} (r:Vals [x] us):∃u,us=[u]∧RelV x u:=by
 cases r with
 |cons r1 r2=>cases r2;exact⟨_,rfl,r1⟩
theorem NH {x y:V} {us:List Value} (r:Vals [x,y] us):∃u w',us=[u,w']∧RelV x u∧RelV y w':=by
 cases r with
 |cons r1 r2=>
  cases r2 with
  |cons r3 r4=>cases r4;exact⟨_,_,rfl,r1,r3⟩
theorem XT:DA X (.builtin "abs") (fun xs H Q=>∃i,xs=[.int i]∧Q (.int (if i<0 then-i else i)) H):=by
 intro pins s σ H xs us Q I r h
 obtain⟨i,rfl,q⟩:=h
 obtain⟨u,rfl,t,rfl⟩:=E7 r
 exact call_abs_int fun u tk=>⟨.int (if i<0 then-i else i),H,I.tok _,⟨_,rfl⟩,q⟩
theorem NY:DA X (.type "int") (fun xs H Q=>(∃i,xs=[.int i]∧Q (.int i) H)∨∃k,xs=[.bl k]∧Q (.int (if k then 1 else 0)) H):=by
 intro pins s σ H xs us Q I r h
 rcases h with⟨i,rfl,q⟩|⟨k,rfl,q⟩
 ·obtain⟨u,rfl,t,rfl⟩:=E7 r
  exact call_int_int ⟨.int i,H,I,⟨_,rfl⟩,q⟩
 ·obtain⟨u,rfl,r1⟩:=E7 r
  cases r1
  exact call_int_bool ⟨.int (if k then 1 else 0),H,I.tok _,⟨_,rfl⟩,q⟩
theorem PC:DA X (.type "str") (fun xs H Q=>∃i,xs=[.int i]∧i.natAbs.log2<1920∧Q (.str (toString i)) H):=by
 intro pins s σ H xs us Q I r h
 obtain⟨i,rfl,hz,q⟩:=h
 obtain⟨u,rfl,t,rfl⟩:=E7 r
 exact PySem.P.str_of_int hz ⟨.str _,H,I.tok _,⟨_,rfl⟩,q⟩
end
end L2
namespace L2
open PySem PySem.Spec PyProof.Rows
structure ObjM (h:Heap) (x dx C:Addr) (mA:Str→Option Value):Prop where
 obj:h.get? x=some (PySem.W.instObj C dx)
 ns:h.Ns1 dx mA
 ne:dx≠x
theorem VR {h:Heap} {dx:Addr} {mA:Str→Option Value} (n:h.Ns1 dx mA):∃od,h.get? dx=some od∧∀name,PySem.W.lookIn name od=some (mA name):=by
 obtain⟨o,es,ep,ho,hd,hk,_,hm⟩:=n
 refine⟨o,ho,fun name=> ?_⟩
 have e:=hm name
 unfold nsFind findBy at e
 rw[←Array.find?_toList]at e
 unfold PySem.W.lookIn
 rw[hd]
 dsimp only
 split
 ·rename_i y q
  rw[q]at e
  exact congrArg some e
 ·rename_i q
  rw[q]at e
  have a:es.toList.any (·.refKey)=false:=by
   rw[List.any_eq_false]
   intro y hy
   obtain⟨z,t,hkey⟩:=hk y (Array.mem_toList_iff.mp hy)
   simp[DictEntry.refKey,hkey]
  have a':¬es.toList.any (·.refKey)=true:=by rw[a];exact Bool.false_ne_true
  rw[if_neg a']
  exact congrArg some e
theorem ObjM.look {h:Heap} {x dx C:Addr} {mA:Str→Option Value} (I:ObjM h x dx C mA):∃od,PySem.W.InstAt h x (PySem.W.instObj C dx) C (some od)∧∀name,PySem.W.lookIn name od=some (mA name):=
 let⟨od,ho,hl⟩:=VR I.ns
 ⟨od,⟨I.obj,rfl,rfl,ho⟩,hl⟩
section
variable {prog:Program} {w:World} {A:Around} {E:Value→Shared→Prop} {s:Shared} {K:PySem.W.Frag} {x dx C f:Addr} {mA:Str→Option Value} {name:Str} {v:Value}
theorem bW {expr:Bool} {Q:Value→Shared→Prop} (X:K.In s.heap) (I:ObjM s.heap x dx C mA) (hg:PySem.W.plainGet K C name=true) (hh:PySem.W.hasDictIn K C=true)
 (ha:PySem.W.findIn K (.ref C) name=some none) (hv:mA name=some v) (hv':PySem.W.handedIn v=true) (h:Q v {s with toks:=s.toks+1}):
 wpAny (model prog w) A (getAttr (.ref x) name expr) Q E s:=by
 obtain⟨od,J,hl⟩:=I.look
 exact PySem.W.get_value X J (PySem.W.plainGet_of hg).1 (PySem.W.findObj_own hh ha rfl (by rw[hl,hv])) hv' h
theorem YL {pl:Sem Bool} {Q:Value×List Value→Shared→Prop} (X:K.In s.heap) (I:ObjM s.heap x dx C mA) (hg:PySem.W.plainGet K C name=true)
 (hf:PySem.W.findIn K (.ref C) name=some (some (.ref f))) (ht:PySem.W.isFn K (.ref f)=true) (hv:mA name=none) (h:Q (.ref f,[.ref x]) s):
 wpAny (model prog w) A (getMethod (.ref x) name pl) Q E s:=by
 obtain⟨od,J,hl⟩:=I.look
 exact PySem.W.method_fn X J (PySem.W.plainGet_of hg).1 (PySem.W.plainGet_of hg).2 hf (beq_iff_eq.mp ht) (by show(PySem.W.lookIn name od).map (·.isSome)=some false;rw[hl,hv];rfl) h
theorem aL {ns:List Str} {Q:Unit→Shared→Prop} (X:K.In s.heap) (I:ObjM s.heap x dx C mA)
 (hs:PySem.W.findIn K (.ref C) "__setattr__"=some (some (.builtin "object.__setattr__"))) (hp:PySem.W.plainOver K C=true) (ht:PySem.W.takerIn K C name=some none) (hh:PySem.W.hasDictIn K C=true)
 (hw:PySem.Within mA ns) (hsz:ns.length≤sizeLine)
 (h:∀h',ObjM h' x dx C (fun y=>if y=name then some v else mA y)→Heap.SameBut dx s.heap h'→Q () {s with heap:=h',toks:=s.toks+2}):
 wpAny (model prog w) A (setAttr (.ref x) name v) Q E s:=by
 obtain⟨od,J,hl⟩:=I.look
 refine PySem.W.set_plain X J hs (PySem.W.osa_open (s:={s with toks:=s.toks+1}) (r:=none) X J hp ht fun b=> ?_)
 obtain⟨cd,hc,hd'⟩:=PySem.W.any_some hh
 have hx:s.heap.get? x=some ⟨.ref C,some dx, .plain, #[]⟩:=I.obj
 refine wpAny_bind (wpAny_pure (wpAny_bind (wpAny_bind (wpAny_loadPart hx (wpAny_bind (PySem.W.Looks.here (s:={s with toks:=s.toks+1}) (PySem.W.looks_clsIn X hc) ?_))))))
 rw[hd']
 refine wpAny_pure (a:=some dx) (wpAny_bind (wpAny_pure (wpAny_bind ?_)))
 refine wpAny_nsSet1 (s:={s with toks:=s.toks+1}) I.ns fun h' hn2 hs2=> ?_
 obtain⟨oD,esD,epD,hoD,hdD,hcD⟩:=hn2.count (PySem.Within.cons name v hw)
 refine wpAny_bind (wpAny_lookBehind hoD (by rw[hdD];exact pastItsLine_dict (Nat.le_trans hcD (by rw[List.length_cons];omega))) ?_)
 exact wpAny_pure (h _ ⟨(hs2.2 _ (Ne.symm I.ne)).trans I.obj,hn2,I.ne⟩ hs2)
theorem YN {R:Result→Shared→Prop} {vs:List Value} {kw:List (Str×Value)} (X:K.In s.heap) (hm:PySem.W.makesIn K C=true)
 (hi:PySem.W.findIn K (.ref C) "__init__"=some (some (.ref f))) (hf:PySem.W.typeIn K (.ref f)=some (.type "function"))
 (h:codeAny (model prog w) (A.under (.builtin "type.__call__" ⟨.ref C::vs,kw⟩)) (.call (.ref f) ⟨.ref (s.heap.objs.size+1)::vs,kw⟩) (PySem.W.InitBack (s.heap.objs.size+1) R)
   {s with heap:=(s.heap.push PySem.W.emptyDict).push (PySem.W.instObj C s.heap.objs.size)}):
 codeAny (model prog w) A (.call (.ref C) ⟨vs,kw⟩) R s:=by
 obtain⟨hh,g,d,t,os⟩:=s
 exact PySem.W.make_core (PySem.W.makes_of X hm) (PySem.W.looks_findIn X hi) (fun self=>PySem.W.bind_fn X self hf) (.inl rfl) h
end
def FH (f:Str) (v:V):List (Str×V)→List (Str×V)
 |[]=>[(f,v)]
 |(g,x)::r=>if g=f then(g,v)::r else(g,x)::FH f v r
theorem KJ (f g:Str) (v:V):∀fs:List (Str×V),(FH f v fs).lookup g=if g=f then some v else fs.lookup g
 |[]=>by
  show List.lookup g [(f,v)]=_
  by_cases h:g=f
  ·have hb:(g==f)=true:=beq_iff_eq.mpr h
   simp only[List.lookup,hb,if_pos h]
  ·have hb:(g==f)=false:=beq_eq_false_iff_ne.mpr h
   simp only[List.lookup,hb,if_neg h]
 |(k,x)::r=>by
  have ih:=KJ f g v r
  rw[show FH f v ((k,x)::r)=(if k=f then(k,v)::r else(k,x)::FH f v r) from rfl]
  by_cases hk:k=f
  ·rw[if_pos hk]
   by_cases h:g=k
   ·have hb:(g==k)=true:=beq_iff_eq.mpr h
    simp only[List.lookup,hb,if_pos (h.trans hk)]
   ·have hb:(g==k)=false:=beq_eq_false_iff_ne.mpr h
    simp only[List.lookup,hb,if_neg (fun e:g=f=>h (e.trans hk.symm))]
  ·rw[if_neg hk]
   by_cases h:g=k
   ·have hb:(g==k)=true:=beq_iff_eq.mpr h
    simp only[List.lookup,hb,if_neg (fun e:g=f=>hk (h.symm.trans e))]
   ·have hb:(g==k)=false:=beq_eq_false_iff_ne.mpr h
    simp only[List.lookup,hb]
    exact ih
theorem K5 (f:Str) (v:V):∀fs:List (Str×V),f∈(FH f v fs).map (·.1)∧∀g,g∈fs.map (·.1)→g∈(FH f v fs).map (·.1)
 |[]=>⟨by simp[FH],fun g h=>by simp at h⟩
 |(k,x)::r=>by
  obtain⟨i1,i2⟩:=K5 f v r
  rw[show FH f v ((k,x)::r)=(if k=f then(k,v)::r else(k,x)::FH f v r) from rfl]
  by_cases hk:k=f
  ·rw[if_pos hk]
   subst hk
   exact⟨by simp,fun g h=>by simpa using h⟩
  ·rw[if_neg hk]
   refine⟨?_,fun g h=> ?_⟩
   ·rw[List.map_cons]
    exact List.mem_cons_of_mem _ i1
   ·rw[List.map_cons]at h⊢
    rcases List.mem_cons.mp h with e|e
    ·exact List.mem_cons.mpr (.inl e)
    ·exact List.mem_cons_of_mem _ (i2 g e)
theorem K9 (f:Str) (v:V):∀fs:List (Str×V),(FH f v fs).length≤fs.length+1
 |[]=>by simp[FH]
 |(k,x)::r=>by
  have ih:=K9 f v r
  rw[show FH f v ((k,x)::r)=(if k=f then(k,v)::r else(k,x)::FH f v r) from rfl]
  by_cases hk:k=f
  ·rw[if_pos hk,List.length_cons,List.length_cons];omega
  ·rw[if_neg hk,List.length_cons,List.length_cons];omega
theorem RelO.some_of {v:V} {o:Option Value} (r:RelO (some v) o):∃u,o=some u∧RelV v u:=by
 cases o with
 |none=>exact(show False from r).elim
 |some u=>exact⟨u,rfl,r⟩
theorem RelO.none_of {o:Option Value} (r:RelO none o):o=none:=by
 cases o with
 |none=>rfl
 |some u=>exact(show False from r).elim
theorem V5 {v:V} {u:Value} (r:RelV v u):PySem.W.handedIn u=true:=by
 cases v with
 |non=>cases(show u=Value.none from r);rfl
 |bl b=>cases(show u=Value.bool b from r);rfl
 |int i=>obtain⟨t,e⟩:=(show∃t,u=Value.int i t from r);cases e;rfl
 |str x=>obtain⟨t,e⟩:=(show∃t,u=Value.str x t from r);cases e;rfl
 |byt b=>obtain⟨t,e⟩:=(show∃t,u=Value.bytes b t from r);cases e;rfl
 |flt b=>obtain⟨t,e⟩:=(show∃t,u=Value.float b t from r);cases e;rfl
 |ref a=>cases(show u=Value.ref a from r);rfl
 |ty n=>cases(show u=Value.type n from r);rfl
section
variable {P:Program} {w:World} {H H':Hp} {h h':Heap} {a C dx:Addr} {fs fs':List (Str×V)}
theorem OX (hok:HOk P w H h) (e:H a=some (.ins C dx fs)):∃mA,ObjM h a dx C mA∧(∀f,RelO (fs.lookup f) (mA f))∧PySem.Within mA (fs.map (·.1))∧fs.length≤1000∧H dx=some (.own a):=by
 obtain⟨d,z,ne,ob,mA,n,r,q⟩:=(show ObjOk P w H h a (.ins C dx fs) from hok a _ e)
 exact⟨mA,⟨ob,n,ne⟩,r,q,z,d⟩
end
structure Cls (K:PySem.W.Frag) (C:Addr):Prop where
 pg:PySem.W.plainGet K C Str.empty=true
 hd:PySem.W.hasDictIn K C=true
 po:PySem.W.plainOver K C=true
 sa:PySem.W.findIn K (.ref C) "__setattr__"=some (some (.builtin "object.__setattr__"))
theorem Cls.get {K:PySem.W.Frag} {C:Addr} (c:Cls K C) (f:Str):PySem.W.plainGet K C f=true:=c.pg
def NoAttr (K:PySem.W.Frag) (C:Addr) (f:Str):Prop:=PySem.W.findIn K (.ref C) f=some none
theorem NoAttr.taker {K:PySem.W.Frag} {C:Addr} {f:Str} (n:NoAttr K C f):PySem.W.takerIn K C f=some none:=by
 unfold PySem.W.takerIn
 rw[show PySem.W.findIn K (.ref C) f=some none from n]
 rfl
structure Meth (K:PySem.W.Frag) (C:Addr) (m:Str) (f:Addr):Prop where
 at_:PySem.W.findIn K (.ref C) m=some (some (.ref f))
 fn:PySem.W.isFn K (.ref f)=true
 kp:PySem.W.keepIn K (.ref f)=true
section
variable {X:Cx} {pins:List (Addr×Obj)} {σ:St} {H:Hp} {s:Shared} {a C dx:Addr} {fs:List (Str×V)} {f:Str} {v:V} {A:Around} {E:Value→Shared→Prop}
theorem SA {b:Bool} {Q:Value→Shared→Prop} (I:Inv X pins σ H s) (e:H a=some (.ins C dx fs)) (c:Cls X.K C) (n:NoAttr X.K C f) (l:fs.lookup f=some v)
 (h:∀u s',Inv X pins σ H s'→RelV v u→Q u s'):wpAny (model X.prog X.w) A (getAttr (.ref a) f b) Q E s:=by
 obtain⟨mA,O,r,_,_,_⟩:=OX I.hok e
 obtain⟨u,hu,ru⟩:=RelO.some_of (v:=v) (o:=mA f) (by rw[←l];exact r f)
 exact bW I.kIn O (c.get f) c.hd n hu (V5 ru) (h u _ (I.tok _) ru)
theorem ST {m:Str} {g:Addr} {pl:Sem Bool} {Q:Value×List Value→Shared→Prop} (I:Inv X pins σ H s) (e:H a=some (.ins C dx fs)) (c:Cls X.K C) (k:Meth X.K C m g) (l:fs.lookup m=none)
 (h:Q (.ref g,[.ref a]) s):wpAny (model X.prog X.w) A (getMethod (.ref a) m pl) Q E s:=by
 obtain⟨mA,O,r,_,_,_⟩:=OX I.hok e
 have hn:mA m=none:=RelO.none_of (by rw[←l];exact r m)
 exact YL I.kIn O (c.get m) k.at_ k.fn hn h
theorem S6 {y:V} {u:Value} {Q:Unit→Shared→Prop} (I:Inv X pins σ H s) (e:H a=some (.ins C dx fs)) (c:Cls X.K C) (n:NoAttr X.K C f) (hl:fs.length<1000) (ry:RelV y u)
 (h:∀s',Inv X pins σ (upd H a (.ins C dx (FH f y fs))) s'→Q () s'):wpAny (model X.prog X.w) A (setAttr (.ref a) f u) Q E s:=by
 obtain⟨mA,O,r,wi,_,ho⟩:=OX I.hok e
 have hz:(fs.map (·.1)).length≤sizeLine:=by rw[List.length_map,sizeLine_eq];omega
 refine aL I.kIn O c.sa c.po n.taker c.hd wi hz fun h' O' sb=>h _ ?_
 have hd:∃o,h'.get? dx=some o:=let⟨o,_,_,e',_⟩:=O'.ns;⟨o,e'⟩
 refine I.write (x:=a) (e:=dx) (by rw[e];exact True.intro) (.inr ho) (fun b q hb z=>(sb.2 b hb).trans z) hd ?_
 refine⟨by rw[AF O.ne];exact ho,?_,O.ne,O'.obj,_,O'.ns,fun g=> ?_,fun g hg=> ?_⟩
 ·have:=K9 f y fs;omega
 ·show RelO ((FH f y fs).lookup g) (if g=f then some u else mA g)
  rw[KJ]
  by_cases q:g=f
  ·rw[if_pos q,if_pos q];exact ry
  ·rw[if_neg q,if_neg q];exact r g
 ·by_cases q:g=f
  ·rw[q];exact(K5 f y fs).1
  ·refine(K5 f y fs).2 g (wi g fun z=>hg ?_)
   show(if g=f then some u else mA g)=none
   rw[if_neg q];exact z
theorem Inv.made (I:Inv X pins σ H s):Inv X pins σ (upd (upd H s.heap.objs.size (.own (s.heap.objs.size+1))) (s.heap.objs.size+1) (.ins C s.heap.objs.size []))
 {s with heap:=(s.heap.push PySem.W.emptyDict).push (PySem.W.instObj C s.heap.objs.size)}:=by
 have e1:(s.heap.push PySem.W.emptyDict).get? s.heap.objs.size=some PySem.W.emptyDict:=Heap.get?_push_size s.heap rfl
 have e2:((s.heap.push PySem.W.emptyDict).push (PySem.W.instObj C s.heap.objs.size)).get? (s.heap.objs.size+1)=some (PySem.W.instObj C s.heap.objs.size):=by
  have:=Heap.get?_push_size (s.heap.push PySem.W.emptyDict) (o:=PySem.W.instObj C s.heap.objs.size) rfl
  rwa [Heap.size_push]at this
 have e3:(s.heap.push PySem.W.emptyDict).Ns s.heap.objs.size (fun _=>none):=⟨PySem.W.emptyDict, #[],_,e1,rfl,(fun e he=>absurd he (by simp)),fun _=>rfl⟩
 have I1:=I.laid (a:=s.heap.objs.size) (o:= .own (s.heap.objs.size+1)) (h':=s.heap.push PySem.W.emptyDict) (t':=s.toks) (fun b u q=>Heap.get?_push_of_some _ q) (Nat.le_refl _) ⟨_,e1⟩
 refine I1.laid (a:=s.heap.objs.size+1) (o:= .ins C s.heap.objs.size []) (t':=s.toks) (fun b u q=>Heap.get?_push_of_some _ q) (Nat.le_of_eq (Heap.size_push _ _)) ?_
 have ne:s.heap.objs.size≠s.heap.objs.size+1:=Nat.ne_of_lt (Nat.lt_succ_self _)
 refine⟨by rw[AF ne,AH],Nat.zero_le _,ne,e2,fun _=>none,(Heap.Ns1.of_empty e3).at fun o q=>Heap.get?_push_of_some _ q,fun _=>True.intro,fun y hy=>absurd rfl hy⟩
theorem aD {prog:Program} {w:World} {env:Env} {e:Expr} {f:Str} {pos:Pos} {s:Shared} {Q:Value→Shared→Prop} (hb:attributeBase e f env (eval e env)=eval e env)
 (h:wpAny (model prog w) A (eval e env) (fun o s₁=>wpAny (model prog w) A (getAttr o f true) Q E s₁) E s):wpAny (model prog w) A (eval (.Attribute e f pos) env) Q E s:=
 Attribute_any_ h (by rw[arm_eval_Attribute,hb])
end
def tQ (K:PySem.W.Frag) (ta:TE) (f:Str):TE:=fun σ H Q=>ta σ H fun x H1=>∃a C dx fs v,x= .ref a∧H1 a=some (.ins C dx fs)∧Cls K C∧NoAttr K C f∧fs.lookup f=some v∧Q v H1
def tR (K:PySem.W.Frag) (ta tv:TE) (f:Str):TS:=fun D σ H=>tv σ H fun y H1=>ta σ H1 fun x H2=>∃a C dx fs,x= .ref a∧H2 a=some (.ins C dx fs)∧Cls K C∧NoAttr K C f∧fs.length<1000∧
 D.nx σ (upd H2 a (.ins C dx (FH f y fs)))
section
variable {X:Cx} {o e value:Expr} {f:Str} {pos pos' tpos:Pos} {ta tv:TE}
theorem lC (he:PE X e ta) (hb:attributeBase e f X.env (eval e X.env)=eval e X.env):PE X (.Attribute e f pos) (tQ X.K ta f):=by
 intro pins s σ H Q I h
 refine aD hb (CK (he pins s σ H _ I h) fun u s1 ⟨x,H1,I1,rx,a,C,dx,fs,v,ex,ea,c,n,l,q⟩=> ?_)
 subst ex
 obtain rfl:u=Value.ref a:=rx
 exact SA I1 ea c n l fun u' s2 I2 ru=>⟨v,H1,I2,ru,q⟩
theorem m6 (ha:PE X o ta) (hv:PE X value tv) (hs:swapsWith value (some (.Attribute o f pos')) pos.line X.env=pure false):PS X (.Assign [.Attribute o f pos'] value pos) (tR X.K ta tv f):=by
 intro pins s σ H D I h
 refine plainObj_wpAny_Assign_Attribute (CK (hv pins s σ H _ I h) fun u s1 ⟨y,H1,I1,ry,q⟩=>CK (ha pins s1 σ H1 _ I1 q) fun ov s2 ⟨x,H2,I2,rx,a,C,dx,fs,ex,ea,c,n,l,q2⟩=> ?_) hs
 subst ex
 obtain rfl:ov=Value.ref a:=rx
 exact S6 I2 ea c n l ry fun s3 I3=>⟨σ,_,I3,q2⟩
end
end L2
namespace L2
open PySem PySem.Spec PyProof.Rows
structure Room (k:Nat) (A:Around):Prop where
 hd:A.handled=none
 dp:A.depth+3*k+5<recursionLimit
 un:A.units+16*k+200<cLine
 gd:A.guards=some []
theorem Room.mono {j k:Nat} {A:Around} (r:Room k A) (h:j≤k):Room j A:=⟨r.hd,by have:=r.dp;omega,by have:=r.un;omega,r.gd⟩
theorem Room.deeper {k:Nat} {A:Around} (r:Room (k+1) A) (env:Env):Room k (A.deeper env):=
 ⟨r.hd,by have:=r.dp;show A.depth+1+3*k+5<_;omega,by have:=r.un;show A.units+3+16*k+200<_;omega,r.gd⟩
theorem RU {A:Around} {C:Addr} {us:List Value} {kw:List (Str×Value)}:(A.under (.builtin "type.__call__" ⟨.ref C::us,kw⟩)).depth=A.depth+1:=by
 first|rfl|simp[Around.under,Code.weight,Code.isCreation,Code.isGuard,Code.isCaller,Code.frames,Code.isFrame,guardIds]
theorem SD {A:Around} {C:Addr} {us:List Value} {kw:List (Str×Value)}:(A.under (.builtin "type.__call__" ⟨.ref C::us,kw⟩)).units=A.units+1:=by
 first|rfl|simp[Around.under,Code.cUnits,Code.frames,Code.isFrame]
theorem Room.make {k:Nat} {A:Around} (r:Room (k+1) A) (C:Addr) (us:List Value) (kw:List (Str×Value)):Room k (A.under (.builtin "type.__call__" ⟨.ref C::us,kw⟩)):=
 ⟨r.hd,by have:=r.dp;rw[RU];omega,by have:=r.un;rw[SD];omega,by have:=r.gd;first|exact this|simpa[Around.under,Code.guards,Code.isGuard,guardIds]using this⟩
theorem Room.depth {k:Nat} {A:Around} (r:Room k A):A.depth<recursionLimit:=by have:=r.dp;omega
def kY:TA:=fun _ H Q=>Q [] H
def fM (ta:TE) (tr:TA):TA:=fun σ H Q=>ta σ H fun x H1=>tr σ H1 fun xs H2=>Q (x::xs) H2
section
variable {X:Cx} {e:Expr} {es:List Expr} {te:TE} {t:TA} {pos:Pos}
theorem X6:PA X [] kY:=fun _ _ _ _ H Q I h=>Calls.spliced_nil ⟨[],H,I, .nil,h⟩
theorem bB (ha:PE X e te) (hr:PA X es t) (hs:starEach (e::es) X.env=(false,eval e X.env)::starEach es X.env:=by rfl):PA X (e::es) (fM te t):=by
 intro pos pins s σ H Q I h
 rw[hs]
 show wpAny _ _ (spliced ((false,eval e X.env)::backTo pos (starEach es X.env))) _ _ s
 refine Calls.spliced_cons (CK (ha pins s σ H _ I h) fun u s1 ⟨x,H1,I1,r1,q1⟩=> ?_)
 exact CK (hr pos pins s1 σ H1 _ I1 q1) fun us s2 ⟨xs,H2,I2,r2,q2⟩=>⟨x::xs,H2,I2, .cons r1 r2,q2⟩
def vK (t:TA):TE:=fun σ H Q=>t σ H fun xs H1=>xs.length≤sizeLine∧∀p,H1 p=none→Q (.ref p) (upd H1 p (.tup xs))
def uT (t:TA):TE:=fun σ H Q=>t σ H fun xs H1=>xs.length≤sizeLine∧∀p,H1 p=none→Q (.ref p) (upd H1 p (.lst xs))
theorem jH {x1} (h:PA X es t):PE X (.Tuple es x1 pos) (vK t):=by
 intro pins s σ H Q I hq
 refine wpAny_Tuple_spliced (CK (h pos pins s σ H _ I hq) fun us s1 ⟨xs,H1,I1,r,z,q⟩=>⟨by rw[←r.length];exact z,?_⟩)
 have hf:H1 s1.heap.objs.size=none:=I1.hok.fresh (Nat.le_refl _)
 refine⟨.ref s1.heap.objs.size,upd H1 s1.heap.objs.size (.tup xs),I1.laid (t':=s1.toks) (fun b u e=>Heap.get?_push_of_some _ e) (Nat.le_refl _) ?_,rfl,q _ hf⟩
 exact⟨z,us,r,⟨_,Heap.get?_push_size _ rfl,⟨rfl,rfl⟩,_,rfl⟩⟩
theorem XM (h:PA X es t):PE X (.List es pos) (uT t):=by
 intro pins s σ H Q I hq
 refine wpAny_List_spliced (CK (h pos pins s σ H _ I hq) fun us s1 ⟨xs,H1,I1,r,z,q⟩=>⟨by rw[←r.length];exact z,?_⟩)
 have hf:H1 s1.heap.objs.size=none:=I1.hok.fresh (Nat.le_refl _)
 refine⟨.ref s1.heap.objs.size,upd H1 s1.heap.objs.size (.lst xs),I1.laid (t':=s1.toks) (fun b u e=>Heap.get?_push_of_some _ e) (Nat.le_refl _) ?_,rfl,q _ hf⟩
 exact⟨z,us,0,r,Heap.get?_push_size _ rfl⟩
end
abbrev Sp:=List V→Hp→VK→XK→Prop
abbrev PM:=List Env→Hp→Shared→XK→Value→Shared→Prop
structure Env0 (P:Program) (w:World) (K:PySem.W.Frag) (mg:Str→Option Value) (base:Heap) (A:Around) (outer:List Env) (s:Shared) (H:Hp):Prop where
 frames:A.frames=some outer
 mod:Mod K mg base
 bs:∀b o,base.get? b=some o→s.heap.get? b=some o∧H b=none
 bsz:base.objs.size≤s.heap.objs.size
 funs:s.heap.FunFrames base outer
 frf:∀b∈W4 outer,H b=none
 hok:HOk P w H s.heap
 bare:AllBare s.gens
def CE (outer:List Env) (P:Program) (w:World) (H:Hp) (s:Shared) (Q:VK) (u:Value) (s':Shared):Prop:=
 ∃v H',s'.os=s.os∧AllBare s'.gens∧Un (W4 outer) [] H H' s.heap s'.heap∧HOk P w H' s'.heap∧RelV v u∧Q v H'
def CR (CX:PM) (outer:List Env) (P:Program) (w:World) (H:Hp) (s:Shared) (Q:VK) (E:XK) (r:Result) (s':Shared):Prop:=
 match r with
 | .ok (.ret u)=>CE outer P w H s Q u s'
 | .ok _=>False
 | .error e=>CX outer H s E e s'
structure FnOk (P:Program) (w:World) (K:PySem.W.Frag) (mg:Str→Option Value) (base:Heap) (CX:PM) (k:Nat) (f:Addr) (fd:FuncData) (ps:List Str) (sp:Sp):Prop where
 len:∀vs H Q E,sp vs H Q E→vs.length=ps.length
 run:∀(A:Around) (outer:List Env) (s:Shared) (H:Hp) (args:Args) (us:List Value) (vs:List V) (Q:VK) (E:XK),Room k A→Env0 P w K mg base A outer s H→BindsTo s fd args (ps.zip us)→Vals vs us→sp vs H Q E→
  codeAny (model P w) A (.call (.ref f) args) (CR CX outer P w H s Q E) s
theorem FnOk.mono {P:Program} {w:World} {K:PySem.W.Frag} {mg:Str→Option Value} {base:Heap} {CX:PM} {j k:Nat} {f:Addr} {fd:FuncData} {ps:List Str} {sp:Sp} (F:FnOk P w K mg base CX j f fd ps sp) (h:j≤k):
 FnOk P w K mg base CX k f fd ps sp:=⟨F.len,fun A outer s H args us vs Q E hr=>F.run A outer s H args us vs Q E (hr.mono h)⟩
theorem FnOk.imp {P:Program} {w:World} {K:PySem.W.Frag} {mg:Str→Option Value} {base:Heap} {CX:PM} {k:Nat} {f:Addr} {fd:FuncData} {ps:List Str} {sp sp':Sp} (F:FnOk P w K mg base CX k f fd ps sp)
 (h:∀vs H Q E,sp' vs H Q E→sp vs H Q E):FnOk P w K mg base CX k f fd ps sp':=
 ⟨fun vs H Q E q=>F.len vs H Q E (h _ _ _ _ q),fun A outer s H args us vs Q E hr he hb hv hs=>F.run A outer s H args us vs Q E hr he hb hv (h _ _ _ _ hs)⟩
theorem Env0.make {P:Program} {w:World} {K:PySem.W.Frag} {mg:Str→Option Value} {base:Heap} {A:Around} {outer:List Env} {s:Shared} {H:Hp} (e:Env0 P w K mg base A outer s H) (C:Addr) (us:List Value) (kw:List (Str×Value)):
 Env0 P w K mg base (A.under (.builtin "type.__call__" ⟨.ref C::us,kw⟩)) outer s H:=⟨by first|exact e.frames|(simpa[Around.under,Code.envs,Code.isFrame,pushEnvs]using e.frames),e.mod,e.bs,e.bsz,e.funs,e.frf,e.hok,e.bare⟩
section
variable {X:Cx} {pins:List (Addr×Obj)} {σ:St} {H:Hp} {s s':Shared}
theorem Inv.env0 (I:Inv X pins σ H s):Env0 X.prog X.w X.K X.mg X.base X.A X.stack s H:=
 ⟨I.ok.frames,I.ok.mod,I.bs,Nat.le_trans I.ok.bsz I.sz,I.stack,I.stkFree,I.hok,I.bare⟩
theorem Inv.after {Q:VK} {u:Value} (I:Inv X pins σ H s) (h:CE X.stack X.prog X.w H s Q u s'):EP X pins σ Q u s':=by
 obtain⟨v,H',os,bare,un,hok,r,q⟩:=h
 obtain⟨hh,g,d,t,os'⟩:=s'
 obtain rfl:os'=s.os:=os
 exact⟨v,H',I.call (h':=hh) (g':=g) (d':=d) (t':=t) (ch:=[]) un hok bare (fun b z=>absurd z (by simp)),r,q⟩
end
def WV (sp:Sp) (dvs:List V) (E:XK) (t:TA):TE:=fun σ H Q=>t σ H fun vs H1=>sp (vs++dvs) H1 Q E
def nL (C:Addr) (m:Str) (sp:Sp) (dvs:List V) (E:XK) (ta:TE) (t:TA):TE:=fun σ H Q=>ta σ H fun x H1=>∃a dx fs,x= .ref a∧H1 a=some (.ins C dx fs)∧fs.lookup m=none∧
 t σ H1 fun vs H2=>sp (x::(vs++dvs)) H2 Q E
def pH (C:Addr) (sp:Sp) (dvs:List V) (E:XK) (t:TA):TE:=fun σ H Q=>t σ H fun vs H1=>∀x dx,H1 x=none→H1 dx=none→dx≠x→
 sp (.ref x::(vs++dvs)) (upd (upd H1 dx (.own x)) x (.ins C dx [])) (fun v H2=>v= .non∧Q (.ref x) H2) E
def Binds (K:PySem.W.Frag) (fd:FuncData) (ps:List Str) (ds:List Value):Prop:=
 ∀(s:Shared) (us:List Value),K.In s.heap→(us++ds).length=ps.length→BindsTo s fd ⟨us,[]⟩ (ps.zip (us++ds))
theorem Binds.all {K:PySem.W.Frag} {fd:FuncData} {ps:List Str} (h:∀us:List Value,us.length=ps.length→bindArgs fd ⟨us,[]⟩=pure (ps.zip us)):Binds K fd ps []:=fun s us _ hl=>by
 rw[List.append_nil]at hl⊢
 exact .of_eq (h us hl)
def E3 (CX:PM) (X:Cx) (E:XK):Prop:=∀(pins:List (Addr×Obj)) (σ:St) (H:Hp) (s:Shared) (e:Value) (s':Shared),Inv X pins σ H s→CX X.stack H s E e s'→X.xe e s'
section
variable {X:Cx} {CX:PM} {k:Nat} {f C:Addr} {fd:FuncData} {ps:List Str} {sp:Sp} {dvs:List V} {ds:List Value} {E:XK} {x m:Str} {p pos apos:Pos} {e o:Expr} {es:List Expr} {ta:TE} {t:TA}
theorem SF {pins:List (Addr×Obj)} {σ:St} {H:Hp} {s:Shared} {Q:VK} {us:List Value} {vs:List V} (F:FnOk X.prog X.w X.K X.mg X.base CX k f fd ps sp) (hr:Room k X.A) (hb:Binds X.K fd ps ds) (hd:Vals dvs ds) (hx:E3 CX X E)
 (I:Inv X pins σ H s) (r:Vals vs us) (h:sp (vs++dvs) H Q E):wpAny (model X.prog X.w) X.A (call (.ref f) us) (EP X pins σ Q) X.xe s:=by
 have r2:Vals (vs++dvs) (us++ds):=r.append hd
 have hl:(us++ds).length=ps.length:=by rw[←r2.length];exact F.len _ _ _ _ h
 refine wpAny_call (codeAny_mono (F.run X.A X.stack s H ⟨us,[]⟩ (us++ds) (vs++dvs) Q E hr I.env0 (hb s us I.kIn hl) r2 h) fun r s' hq=> ?_)
 cases r with
 |error e=>exact hx pins σ H s e s' I hq
 |ok fl=>
  cases fl with
  |ret u=>exact I.after hq
  |next=>exact False.elim hq
  |brk=>exact False.elim hq
  |cont=>exact False.elim hq
theorem dN (F:FnOk X.prog X.w X.K X.mg X.base CX k f fd ps sp) (hr:Room k X.A) (hg:Gl X x) (hm:X.mg x=some (.ref f)) (hk:PySem.W.keepIn X.K (.ref f)=true) (hb:Binds X.K fd ps ds) (hd:Vals dvs ds) (hx:E3 CX X E)
 (ha:PA X (e::es) t) (hdb:(x==("__debug__":Str))=false:=by decide) (he:starEach (e::es) X.env=(false,eval e X.env)::starEach es X.env:=by rfl) (hpl:(backTo pos (starEach es X.env)).any (·.1)=false:=by rfl):
 PE X (.Call (.Name x p) (e::es) [] pos) (WV sp dvs E t):=by
 intro pins s σ H Q I h
 refine wpAny_Call_Name_kw (P6 I hg hm ?_ hdb)
 refine PySem.W.callWith_K (h₀:=X.base) I.ok.mod.kin hk (CK (ha pos pins s σ H _ I h) fun us s1 ⟨vs,H1,I1,r,q⟩=>⟨I1.kIn,?_⟩) he hpl
 exact SF F hr hb hd hx I1 r q
theorem YU (F:FnOk X.prog X.w X.K X.mg X.base CX k f fd ps sp) (hr:Room k X.A) (hg:Gl X x) (hm:X.mg x=some (.ref f)) (hk:PySem.W.keepIn X.K (.ref f)=true) (hb:Binds X.K fd ps ds) (hd:Vals dvs ds) (hx:E3 CX X E)
 (hdb:(x==("__debug__":Str))=false:=by decide):PE X (.Call (.Name x p) [] [] pos) (WV sp dvs E kY):=by
 intro pins s σ H Q I h
 refine wpAny_Call_Name_kw (P6 I hg hm ?_ hdb)
 exact PySem.W.callWith_K0 I.kIn hk (SF (us:=[]) F hr hb hd hx I .nil h)
theorem cB {pl:Sem Bool} (he:PE X o ta) (c:Cls X.K C) (hm:Meth X.K C m f) (F:FnOk X.prog X.w X.K X.mg X.base CX k f fd ps sp) (hr:Room k X.A) (hb:Binds X.K fd ps ds) (hd:Vals dvs ds) (hx:E3 CX X E) (ha:PA X (e::es) t)
 (hst:starEach (e::es) X.env=(false,eval e X.env)::starEach es X.env:=by rfl) (hpl:(backTo pos (starEach es X.env)).any (·.1)=false:=by rfl)
 (ht:eval (.Call (.Attribute o m apos) (e::es) [] pos) X.env=(do
   let ov←eval o X.env
   standAt apos.atName
   let(f,first)←holding [ov] (getMethod ov m pl)
   callWith pos f first (backTo pos (starEach (e::es) X.env)) (backToKw pos (keywordEach [] X.env))):=by rfl):
 PE X (.Call (.Attribute o m apos) (e::es) [] pos) (nL C m sp dvs E ta t):=by
 intro pins s σ H Q I h
 refine PySem.W.methodCall_KW (pl:=pl) (CK (he pins s σ H _ I h) fun u s1 ⟨x,H1,I1,rx,a,dx,fs,ex,ea,l,q⟩=> ?_) ht
 subst ex
 obtain rfl:u=Value.ref a:=rx
 refine ST I1 ea c hm l ?_
 refine PySem.W.callWith_K (first:=[.ref a]) (h₀:=X.base) I.ok.mod.kin hm.kp (CK (ha pos pins s1 σ H1 _ I1 q) fun us s2 ⟨vs,H2,I2,r,q2⟩=>⟨I2.kIn,?_⟩) hst hpl
 exact SF (us:= .ref a::us) (vs:= .ref a::vs) F hr hb hd hx I2 (.cons rfl r) q2
structure Mk (K:PySem.W.Frag) (C f:Addr):Prop where
 makes:PySem.W.makesIn K C=true
 init:PySem.W.findIn K (.ref C) "__init__"=some (some (.ref f))
 fn:PySem.W.isFn K (.ref f)=true
 kp:PySem.W.keepIn K (.ref C)=true
theorem XQ {pins:List (Addr×Obj)} {σ:St} {H:Hp} {s:Shared} {Q:VK} {us:List Value} {vs:List V} (M:Mk X.K C f) (F:FnOk X.prog X.w X.K X.mg X.base CX k f fd ps sp) (hr:Room (k+1) X.A) (hb:Binds X.K fd ps ds) (hd:Vals dvs ds)
 (hx:E3 CX X E) (I:Inv X pins σ H s) (r:Vals vs us)
 (h:∀x dx,H x=none→H dx=none→dx≠x→sp (.ref x::(vs++dvs)) (upd (upd H dx (.own x)) x (.ins C dx [])) (fun v H2=>v= .non∧Q (.ref x) H2) E):
 wpAny (model X.prog X.w) X.A (call (.ref C) us) (EP X pins σ Q) X.xe s:=by
 have hq:=h (s.heap.objs.size+1) s.heap.objs.size (I.hok.fresh (Nat.le_succ _)) (I.hok.fresh (Nat.le_refl _)) (Nat.ne_of_lt (Nat.lt_succ_self _))
 have I2:=Inv.made (C:=C) I
 have r2:Vals (V.ref (s.heap.objs.size+1)::(vs++dvs)) (Value.ref (s.heap.objs.size+1)::(us++ds)):= .cons rfl (r.append hd)
 have hl:(Value.ref (s.heap.objs.size+1)::us++ds).length=ps.length:=by
  have e:=r2.length
  rw[F.len _ _ _ _ hq]at e
  exact e.symm
 refine wpAny_call (YN (f:=f) I.kIn M.makes M.init (beq_iff_eq.mp M.fn) (codeAny_mono (F.run _ X.stack _ _ ⟨Value.ref (s.heap.objs.size+1)::us,[]⟩ (Value.ref (s.heap.objs.size+1)::(us++ds)) _ _ E (hr.make C us [])
  (I2.env0.make C us []) (hb _ (Value.ref (s.heap.objs.size+1)::us) I2.kIn hl) r2 hq) fun r s' hq'=> ?_))
 cases r with
 |error e=>exact hx pins σ _ _ e s' I2 hq'
 |ok fl=>
  cases fl with
  |ret u=>
   obtain⟨v,H',I3,rv,ev,q3⟩:=I2.after hq'
   subst ev
   exact⟨rv,⟨V.ref (s.heap.objs.size+1),H',I3,rfl,q3⟩⟩
  |next=>exact False.elim hq'
  |brk=>exact False.elim hq'
  |cont=>exact False.elim hq'
theorem XB (M:Mk X.K C f) (F:FnOk X.prog X.w X.K X.mg X.base CX k f fd ps sp) (hr:Room (k+1) X.A) (hg:Gl X x) (hm:X.mg x=some (.ref C)) (hb:Binds X.K fd ps ds) (hd:Vals dvs ds) (hx:E3 CX X E)
 (hdb:(x==("__debug__":Str))=false:=by decide):PE X (.Call (.Name x p) [] [] pos) (pH C sp dvs E kY):=by
 intro pins s σ H Q I h
 refine wpAny_Call_Name_kw (P6 I hg hm ?_ hdb)
 exact PySem.W.callWith_K0 I.kIn M.kp (XQ (us:=[]) M F hr hb hd hx I .nil h)
end
structure FnScope (N P:List Str) (sc:Scope):Prop where
 kind:sc.kind= .function
 co:sc.isCoroutine=false
 gen:sc.isGenerator=false
 nd:N.Nodup
 pre:N.take P.length=P
 par:∀x∈P,sc.names.lookup x=some .local∨sc.names.lookup x=some .cell
 nofree:∀y∈sc.names,y.2≠ .free
theorem NC {kindOf:Str→Option NameKind} {x:Str}:∀{binds:List (Str×Value)} {m:Str→Option Value},(∀v,(x,v)∉binds)→bindL kindOf binds m x=m x
 |[],_,_=>rfl
 |(n,v)::r,m,h=>by
  unfold bindL
  rw[NC fun w hw=>h w (List.mem_cons_of_mem _ hw)]
  split
  ·have:x≠n:=by rintro rfl;exact h v List.mem_cons_self
   simp[this]
  ·rfl
theorem MX {kindOf:Str→Option NameKind} {x:Str}:∀{binds:List (Str×Value)} {m:Str→Option Value},(∀v,(x,v)∉binds)→bindC kindOf binds m x=m x
 |[],_,_=>rfl
 |(n,v)::r,m,h=>by
  unfold bindC
  rw[MX fun w hw=>h w (List.mem_cons_of_mem _ hw)]
  split
  ·rfl
  ·have:x≠n:=by rintro rfl;exact h v List.mem_cons_self
   simp[this]
theorem NS {kindOf:Str→Option NameKind} {x:Str} {v:Value}:∀{P:List Str} {vs:List Value} {i:Nat} {m:Str→Option Value},P.Nodup→P[i]? =some x→vs[i]? =some v→kindOf x=some .local→
 bindL kindOf (P.zip vs) m x=some v
 |[],_,_,_,_,h,_,_=>by simp at h
 |_::_,[],_,_,_,_,h,_=>by simp at h
 |p::P,w::vs,0,m,nd,h1,h2,hk=>by
  simp at h1 h2;subst h1;subst h2
  show bindL kindOf ((p,w)::P.zip vs) m p=_
  unfold bindL
  rw[NC fun v hv=>(List.nodup_cons.mp nd).1 (List.of_mem_zip hv).1,if_pos hk]
  simp
 |p::P,w::vs,i+1,m,nd,h1,h2,hk=>by
  show bindL kindOf ((p,w)::P.zip vs) m x=_
  unfold bindL
  exact NS (i:=i) (List.nodup_cons.mp nd).2 (by simpa using h1) (by simpa using h2) hk
theorem N6 {kindOf:Str→Option NameKind} {x:Str} {v:Value}:∀{P:List Str} {vs:List Value} {i:Nat} {m:Str→Option Value},P.Nodup→P[i]? =some x→vs[i]? =some v→kindOf x≠some .local→
 bindC kindOf (P.zip vs) m x=some v
 |[],_,_,_,_,h,_,_=>by simp at h
 |_::_,[],_,_,_,_,h,_=>by simp at h
 |p::P,w::vs,0,m,nd,h1,h2,hk=>by
  simp at h1 h2;subst h1;subst h2
  show bindC kindOf ((p,w)::P.zip vs) m p=_
  unfold bindC
  rw[MX fun v hv=>(List.nodup_cons.mp nd).1 (List.of_mem_zip hv).1,if_neg hk]
  simp
 |p::P,w::vs,i+1,m,nd,h1,h2,hk=>by
  show bindC kindOf ((p,w)::P.zip vs) m x=_
  unfold bindC
  exact N6 (i:=i) (List.nodup_cons.mp nd).2 (by simpa using h1) (by simpa using h2) hk
def start (N:List Str) (vs:List V):St:=vs.map some++List.replicate (N.length-vs.length) none
def QY (CX:PM) (P:Program) (w:World) (K:PySem.W.Frag) (mg:Str→Option Value) (base:Heap) (N:List Str) (qual:Str) (scope:Scope) (f:Addr) (cd:Value) (A:Around) (outer:List Env) (s:Shared) (H:Hp) (E:XK):Cx where
 prog:=P
 w:=w
 K:=K
 mg:=mg
 base:=base
 A:=A.deeper (envOfC qual scope s.heap.objs.size f cd)
 N:=N
 s₀:=s
 H₀:=H
 env:=envOfC qual scope s.heap.objs.size f cd
 outer:=outer
 stack:=envOfC qual scope s.heap.objs.size f cd::outer
 ex:=[]
 calm:=true
 fn:=fun _=>true
 pn:=[]
 xe:=fun e s'=>wpAny (model P w) (A.deeper (envOfC qual scope s.heap.objs.size f cd)) (leaving (envOfC qual scope s.heap.objs.size f cd) e) (fun _ s''=>CX outer H s E e s'') (fun e' s''=>CX outer H s E e' s'') s'
theorem QW {sc:Scope} {n:Nat} {x:Str} (h:sc.names.lookup x=some .cell):∃c,(cellsFrom n sc.names []).lookup x=some c:=by
 have q:=PySem.W.cellsFrom_some sc.names n [] (.inl h)
 exact Option.isSome_iff_exists.mp q
theorem VU {CX:PM} {P:Program} {w:World} {K:PySem.W.Frag} {mg:Str→Option Value} {base:Heap} {N ps:List Str} {qual:Str} {scope:Scope} {f:Addr} {cd:Value} {A:Around} {outer:List Env} {s s1:Shared} {H:Hp} {E:XK} {us:List Value} {vs:List V}
 (S:FnScope N ps scope) (hd:A.handled=none) (e0:Env0 P w K mg base A outer s H) (hl:vs.length=ps.length) (r:Vals vs us)
 (x:InCallC s s.heap.objs.size (bindL (envOfC qual scope s.heap.objs.size f cd).kindOf (ps.zip us) fun _=>none) (cellsFrom (s.heap.objs.size+1) scope.names []) (bindC (envOfC qual scope s.heap.objs.size f cd).kindOf (ps.zip us) fun _=>none) s1):
 Inv (QY CX P w K mg base N qual scope f cd A outer s H E) [] (start N vs) H s1:=by
 have hpl:ps.length≤N.length:=by have:=congrArg List.length S.pre;rw[List.length_take]at this;omega
 obtain⟨h1,tk,rfl,hk⟩:=x.done
 have noA:∀b:Addr,b∉(QY CX P w K mg base N qual scope f cd A outer s H E).ex:=fun b z=>absurd (show b∈([]:List Addr) from z) (by simp)
 refine⟨⟨e0.mod,S.kind,rfl,rfl,Nat.le_refl _,fun y z c h1 h2=> ?_,fun y hy=> ?_,fun y c _ h=> ?_,fun _=>hd,Around.frames_deeper e0.frames, .inr ⟨rfl,rfl⟩,fun b z=>absurd z (noA b),e0.bs,e0.bsz,fun b _ _=>noA b,fun b z=>absurd z (noA b),e0.funs,e0.frf⟩,
  rfl,e0.bare,Un.kept hk,⟨_,x.toInCall.ns,fun i y v h1 h2 h3=> ?_⟩,fun y c h=>⟨_,x.cell y c h⟩,e0.hok.fresh (Nat.le_refl _),fun y c h=> ?_,fun p hp=>absurd (show p∈([]:List (Addr×Obj)) from hp) (by simp),e0.hok.kept hk,?_⟩
 ·exact name_of_addr x.apart (PySem.mem_of_lookup h1) (PySem.mem_of_lookup h2)
 ·have hy:scope.names.lookup y=some .cell∨scope.names.lookup y=some .free:=hy
  rcases hy with hy|hy
  ·exact QW hy
  ·exact absurd rfl (S.nofree _ (PySem.mem_of_lookup hy))
 ·exact Nat.le_of_lt (x.above y c (PySem.mem_of_lookup h))
 ·have hi:i<vs.length:=by
   unfold start at h2
   by_cases hi:i<vs.length
   ·exact hi
   ·rw[List.getElem?_append_right (by simpa using hi)]at h2
    rw[List.getElem?_replicate]at h2
    split at h2<;>cases h2
  have ha:vs[i]? =some v:=by
   unfold start at h2
   rw[List.getElem?_append_left (by simpa using hi),List.getElem?_map]at h2
   cases e:vs[i]?with
   |none=>rw[e]at h2;cases h2
   |some a=>rw[e]at h2;cases h2;rfl
  obtain⟨u,hu,rv⟩:=r.get ha
  have hp:ps[i]? =some y:=by
   rw[←S.pre,List.getElem?_take_of_lt (by omega)];exact h1
  have ndP:ps.Nodup:=by rw[←S.pre];exact S.nd.sublist (List.take_sublist _ _)
  refine⟨u,rv,?_⟩
  rcases S.par y (List.mem_of_getElem? hp) with k|k
  ·exact .inl ⟨k,NS ndP hp hu k⟩
  ·obtain⟨c,e⟩:=QW (n:=s.heap.objs.size+1) k
   refine .inr ⟨.inl k,c,e,?_⟩
   have q:=x.cell y c e
   rw[N6 ndP hp hu (by show scope.names.lookup y≠_;rw[k];decide)]at q
   exact q
 ·exact e0.hok.fresh (Nat.le_of_lt (x.above y c (PySem.mem_of_lookup h)))
 ·unfold start
  show _=N.length
  rw[List.length_append,List.length_map,List.length_replicate]
  omega
theorem qW {CX:PM} {P:Program} {w:World} {K:PySem.W.Frag} {mg:Str→Option Value} {base:Heap} {k:Nat} {f:Addr} {name qual:Str} {params:Arguments} {body:List Stmt} {scope:Scope} {dV kV doc pm cdv ct oc:Value} {an od:Option Addr}
 {osl:Array (Option Value)} {N ps:List Str} {sp:Sp} (lk:K.lookup f=some ⟨oc,od, .func (PySem.W.fnOf name qual params body scope dV kV doc pm an cdv ct),osl⟩) (hcd:PySem.W.codeIn K cdv qual=true) (S:FnScope N ps scope)
 (len:∀vs H Q E,sp vs H Q E→vs.length=ps.length)
 (hbody:∀(A:Around) (outer:List Env) (s:Shared) (H:Hp) (vs:List V) (Q:VK) (E:XK),Room k (A.deeper (envOfC qual scope s.heap.objs.size f cdv))→sp vs H Q E→
   ∃t,PSs (QY CX P w K mg base N qual scope f cdv A outer s H E) body t∧t {nx:=fun _ H'=>Q .non H',rt:=Q} (start N vs) H):
 FnOk P w K mg base CX (k+1) f (PySem.W.fnOf name qual params body scope dV kV doc pm an cdv ct) ps sp:=by
 refine⟨len,fun A outer s H args us vs Q E hr e0 hb r hsp=> ?_⟩
 have hl:=len _ _ _ _ hsp
 have KX:K.In s.heap:=e0.mod.kin.keeps fun b o e=>(e0.bs b o e).1
 have lim:s.heap.NoLimit:=e0.mod.nolimit.keeps fun b o e=>(e0.bs b o e).1
 have hkind:∀y∈ps.zip us,scope.names.lookup y.1=some .local∨(scope.names.lookup y.1=some .cell∧((cellsFrom (s.heap.objs.size+1) scope.names []).lookup y.1).isSome=true):=fun⟨n,v⟩ hy=>by
  rcases S.par n (List.of_mem_zip hy).1 with q|q
  ·exact .inl q
  ·exact .inr ⟨q,PySem.W.cellsFrom_some _ _ _ (.inl q)⟩
 refine codeAny_call_function hr.depth (KX _ _ lk) rfl S.co S.gen rfl (PySem.W.codeRec_of KX hcd) (hb _ _ _ _ ?_)
 refine wpAny_newFunctionEnv_cells S.kind hkind fun env he s1 x=> ?_
 subst he
 refine⟨lim.keeps x.toInCall.keep,codeAny_func ?_⟩
 obtain⟨t,ht,hq⟩:=hbody A outer s H vs Q E (hr.deeper _) hsp
 have I:Inv (QY CX P w K mg base N qual scope f cdv A outer s H E) [] (start N vs) H s1:=VU S hr.hd e0 hl r x
 refine wpAny_mono (ht [] s1 (start N vs) H _ I hq) (fun fl s' hs=> ?_) fun e s' hs=>hs
 have fin:∀{σ':St} {H':Hp} {v:V} {u:Value},Inv (QY CX P w K mg base N qual scope f cdv A outer s H E) [] σ' H' s'→RelV v u→Q v H'→CE outer P w H s Q u s':=
  fun{σ' H' v u} J rv q=>⟨v,H',J.os,J.bare,J.base,J.hok,rv,q⟩
 cases fl with
 |ret u=>
  obtain⟨v,σ',H',J,rv,q⟩:=hs
  exact fin J rv q
 |next=>
  obtain⟨σ',H',J,q⟩:=hs
  exact fin (v:=V.non) (u:=Value.none) J rfl q
 |brk=>
  obtain⟨_,_,_,q⟩:=hs
  exact False.elim q
 |cont=>
  obtain⟨_,_,_,q⟩:=hs
  exact False.elim q
end L2
namespace L2
open PySem PySem.Spec PyProof.Rows
section
variable {X:Cx} {x:Str} {p pos:Pos} {e:Expr} {es:List Expr} {t:TA} {id T:String} {r:List V→Hp→VK→Prop}
def sP (r:List V→Hp→VK→Prop) (t:TA):TE:=fun σ H Q=>t σ H fun vs H1=>r vs H1 Q
theorem YT (hc:DA X (.builtin id) r) (hg:Gl X x) (hm:X.mg x=none) (hv:bootBuiltins x=some (.builtin id)) (ha:PA X (e::es) t) (hn:x≠ "__name__":=by decide) (hdb:(x==("__debug__":Str))=false:=by decide)
 (he:starEach (e::es) X.env=(false,eval e X.env)::starEach es X.env:=by rfl) (hpl:(backTo pos (starEach es X.env)).any (·.1)=false:=by rfl):PE X (.Call (.Name x p) (e::es) [] pos) (sP r t):=by
 intro pins s σ H Q I h
 refine wpAny_Call_Name_kw (LV I hg hm hv ?_ hn hdb)
 exact PyProof.Rows.callWith_builtin1 (CK (ha pos pins s σ H _ I h) fun us s1 ⟨vs,H1,I1,r1,q1⟩=>hc pins s1 σ H1 vs us Q I1 r1 q1) he hpl
theorem VZ (hc:DA X (.type T) r) (hg:Gl X x) (hm:X.mg x=none) (hv:bootBuiltins x=some (.type T)) (ha:PA X (e::es) t) (hn:x≠ "__name__":=by decide) (hdb:(x==("__debug__":Str))=false:=by decide)
 (he:starEach (e::es) X.env=(false,eval e X.env)::starEach es X.env:=by rfl) (hpl:(backTo pos (starEach es X.env)).any (·.1)=false:=by rfl):PE X (.Call (.Name x p) (e::es) [] pos) (sP r t):=by
 intro pins s σ H Q I h
 refine wpAny_Call_Name_kw (LV I hg hm hv ?_ hn hdb)
 exact PyProof.Rows.callWith_type1 (CK (ha pos pins s σ H _ I h) fun us s1 ⟨vs,H1,I1,r1,q1⟩=>hc pins s1 σ H1 vs us Q I1 r1 q1) he hpl
end
end L2
namespace HT
open PySem PyProof.Rows
section
variable {prog:Program} {w:World} {A:Around} {E:Value→Shared→Prop} {s:Shared}
theorem cS {t b:Addr} {vs ws:List Value} {Q:Value→Shared→Prop} (ht:IsTup s.heap t vs.toArray) (hb:IsTup s.heap b ws.toArray) (hv:vs≠[])
 (h1:ws=[]→Q (.ref t) s) (h2:ws≠[]→Q (.ref s.heap.objs.size) {s with heap:=s.heap.push {cls:= .type "tuple",data:= .seq (vs++ws).toArray}})
 (hsz:vs.length+ws.length≤sizeLine):wpAny (model prog w) A (binaryOp .Add (.ref t) (.ref b)) Q E s:=by
 obtain⟨⟨cls,dd,data,sl⟩,ho,hc,n,hd⟩:=id ht
 obtain⟨⟨cls2,dd2,data2,sl2⟩,ho2,hc2,n2,hd2⟩:=id hb
 simp only at hc hd hc2 hd2
 subst hc hd hc2 hd2
 have e:vs.toArray++ws.toArray=(vs++ws).toArray:=by simp
 by_cases hw:ws=[]
 ·exact concat_meets ⟨_,ho,rfl⟩ ⟨_,ho2,rfl⟩ noFill_tuple_add seq_tuple_add PySem.F.slot_tuple_add PySem.F.entry_tuple_add (PySem.F.args_tuple_add_2 _ _)
   (tuple_addW1 t b vs.toArray ws.toArray n n2 dd dd2 sl sl2 (by simpa using hv) (by simp[hw])) ⟨ho,ho2,h1 hw⟩
 ·refine concat_meets ⟨_,ho,rfl⟩ ⟨_,ho2,rfl⟩ noFill_tuple_add seq_tuple_add PySem.F.slot_tuple_add PySem.F.entry_tuple_add (PySem.F.args_tuple_add_2 _ _)
   (tuple_addW2 t b vs.toArray ws.toArray n n2 dd dd2 sl sl2 (by simpa using hv) (by simpa using hw) (by rw[List.size_toArray,List.size_toArray];exact hsz)) ⟨ho,ho2,?_⟩
  rw[e]
  exact h2 hw
def CZ (n d:Nat):Option Int→Nat
 |none=>d
 |some v=>if v<0 then(v+(n:Int)).toNat else min v.toNat n
theorem R7 (n d:Nat):CZ n d none=d:=rfl
theorem UT (n d k:Nat):CZ n d (some (k:Int))=min k n:=by
 show(if(k:Int)<0 then((k:Int)+(n:Int)).toNat else min (k:Int).toNat n)=min k n
 rw[if_neg (by omega),Int.toNat_natCast]
theorem kG (n d:Nat) (hd:d≤n) (o:Option Int):CZ n d o≤n:=by
 cases o with
 |none=>exact hd
 |some v=>
  show(if v<0 then(v+(n:Int)).toNat else min v.toNat n)≤n
  by_cases hv:v<0
  ·rw[if_pos hv];omega
  ·rw[if_neg hv];exact Nat.min_le_right _ _
theorem UP (v:Int) (n d:Nat):(if v<0 then max (v+(n:Int)) 0 else min v (n:Int))=((CZ n d (some v):Nat):Int):=by
 show(if v<0 then max (v+(n:Int)) 0 else min v (n:Int))=(((if v<0 then(v+(n:Int)).toNat else min v.toNat n):Nat):Int)
 by_cases hv:v<0
 ·simp only[if_pos hv];omega
 ·simp only[if_neg hv];omega
theorem RV (lo hi:Option Int) (n:Nat):Builtin.Slice.sliceAdjust lo hi 1 (n:Int)=(((CZ n 0 lo:Nat):Int),((CZ n n hi:Nat):Int)):=by
 have h1:¬((1:Int)<0):=by omega
 unfold Builtin.Slice.sliceAdjust
 simp only[h1,if_false]
 refine Prod.ext ?_ ?_
 ·cases lo with
  |none=>rfl
  |some v=>exact UP v n 0
 ·cases hi with
  |none=>rfl
  |some v=>exact UP v n n
theorem S7 (i j:Nat):Builtin.Slice.slicePlaces (i:Int) (j:Int) 1=j-i:=by
 unfold Builtin.Slice.slicePlaces
 have h1:(1:Int)>0:=by omega
 simp only[h1,if_true,Int.ediv_one]
 split<;>omega
theorem LB {v:Value} {o:Option Int} {Q:Option Int→Shared→Prop} (p:IsPart v o) (h:Q o s):wpAny (model prog w) A (Builtin.Slice.slicePartIndex v) Q E s:=by
 cases p with
 |none=>exact slicePart_none h
 |int i t=>exact slicePart_int h
theorem FD {sl:Addr} {vl vu:Value} {lo hi:Option Int} {n:Nat} {Q:Int×Int×Nat→Shared→Prop} (hs:s.heap.IsSliceOf sl vl vu .none) (pl:IsPart vl lo) (pu:IsPart vu hi)
 (h:Q (((CZ n 0 lo:Nat):Int),1,CZ n n hi-CZ n 0 lo) s):wpAny (model prog w) A (Builtin.Slice.sliceApplied (.ref sl) (pure (n:Int))) Q E s:=by
 obtain⟨os,hos,hcs,hds⟩:=id hs
 unfold Builtin.Slice.sliceApplied Builtin.Slice.sliceFields
 refine wpAny_bind (wpAny_bind (wpAny_field hos hds (x:=vl) rfl (wpAny_bind (wpAny_field hos hds (x:=vu) rfl (wpAny_bind (wpAny_field hos hds (x:= .none) rfl (wpAny_pure ?_)))))))
 refine wpAny_bind (slicePart_none ?_)
 show wpAny _ _ (if((1:Int)==0)=true then _ else _) _ _ s
 rw[if_neg (by decide)]
 refine wpAny_bind (LB pl (wpAny_bind (LB pu (wpAny_bind (wpAny_pure ?_)))))
 show wpAny _ _ (match Builtin.Slice.sliceAdjust lo hi 1 (n:Int) with|(lo,hi)=>pure (lo,(1:Int),Builtin.Slice.slicePlaces lo hi 1)) _ _ s
 rw[RV lo hi n]
 show wpAny _ _ (pure (((CZ n 0 lo:Nat):Int),(1:Int),Builtin.Slice.slicePlaces ((CZ n 0 lo:Nat):Int) ((CZ n n hi:Nat):Int) 1)) _ _ s
 rw[S7]
 exact wpAny_pure h
theorem XN (xs:Array Value) (i k:Nat):((List.range k).filterMap fun(m:Nat)=>xs[((i:Int)+(m:Int)*1).toNat]?).toArray=((xs.toList.drop i).take k).toArray:=by
 have e:(fun(m:Nat)=>xs[((i:Int)+(m:Int)*1).toNat]?)=fun m=>xs[i+m]? :=by
  funext m
  have:((i:Int)+(m:Int)*1).toNat=i+m:=by omega
  rw[this]
 rw[e]
 have:=pick_run xs i k
 rw[List.filterMap_map]at this
 have e2:((fun x=>xs[x]?)∘fun x=>i+x)=fun m=>xs[i+m]? :=rfl
 rw[e2]at this
 rw[this]
theorem JH {t sl:Addr} {items:Array Value} {vl vu:Value} {lo hi:Option Int} {Q:Value→Shared→Prop} (ht:IsTup s.heap t items) (hs:s.heap.IsSliceOf sl vl vu .none) (pl:IsPart vl lo) (pu:IsPart vu hi)
 (hw:¬(CZ items.size 0 lo=0∧CZ items.size items.size hi=items.size))
 (h:Q (.ref s.heap.objs.size) {s with heap:=s.heap.push {cls:= .type "tuple",data:= .seq ((items.toList.drop (CZ items.size 0 lo)).take (CZ items.size items.size hi-CZ items.size 0 lo)).toArray}})
 (hsz:items.size≤sizeLine):wpAny (model prog w) A (getItem (.ref t) (.ref sl)) Q E s:=by
 have htake:sizeOk (.seq ((items.toList.drop (CZ items.size 0 lo)).take (CZ items.size items.size hi-CZ items.size 0 lo)).toArray):=by
  show((items.toList.drop (CZ items.size 0 lo)).take (CZ items.size items.size hi-CZ items.size 0 lo)).toArray.size≤sizeLine
  rw[List.size_toArray,List.length_take,List.length_drop,Array.length_toList]
  omega
 have hj:CZ items.size items.size hi≤items.size:=kG _ _ (Nat.le_refl _) hi
 obtain⟨os,hos,hcs,hds⟩:=id hs
 have hTs:s.TypeIs (.ref sl) "slice":=⟨os,hos,hcs⟩
 unfold getItem
 try with_reducible refine wpAny_holding ?_
 first|refine wpAny_bind (wpAny_pure ?_)|skip
 refine wpAny_bind (wpAny_sequenceKey ht.typeIs (by decide) ?_)
 refine wpAny_bind (wpAny_callSpecial?_slot (name:=Str.ofString "__getitem__") ht.typeIs PyProof.Rows.slot_tuple_getitem
  (wpAny_call_entry PyProof.Rows.slot_tuple_getitem ht.typeIs entry_tuple_getitem ?_ (args_tuple_getitem _ _)))
 show wpAny _ _ (Builtin.Tuple.tupleItemsOf (.ref t)>>=_) _ _ s
 refine wpAny_bind (tupleItemsOf_ ht ?_)
 refine wpAny_bind (wpAny_typeOf hTs ?_)
 rw[if_pos (by decide)]
 refine wpAny_bind (FD hs pl pu ?_)
 have hno:¬((((CZ items.size 0 lo:Nat):Int)==0&&(1:Int)==1&&(CZ items.size items.size hi-CZ items.size 0 lo)==items.size)=true):=by
  intro q
  rw[Bool.and_eq_true,Bool.and_eq_true]at q
  have q1:((CZ items.size 0 lo:Nat):Int)=0:=eq_of_beq q.1.1
  have q2:CZ items.size items.size hi-CZ items.size 0 lo=items.size:=eq_of_beq q.2
  exact hw ⟨by omega,by omega⟩
 show wpAny _ _ (if(((CZ items.size 0 lo:Nat):Int)==0&&(1:Int)==1&&(CZ items.size items.size hi-CZ items.size 0 lo)==items.size)=true then _ else _) _ _ s
 rw[if_neg hno,XN]
 first
  |exact wpAny_bind (m:=Builtin.Tuple.tupleExact _) (wpAny_newObj_type (wpAny_pure ⟨_,rfl,wpAny_pure h⟩) htake)
  |exact wpAny_bind (m:=Builtin.Tuple.tupleExact _) (wpAny_newObj_type (wpAny_bind (wpAny_pure (wpAny_pure ⟨_,rfl,wpAny_pure h⟩))) htake)
  |exact wpAny_bind (wpAny_bind (m:=Builtin.Tuple.tupleExact _) (wpAny_newObj_type (wpAny_pure (wpAny_pure ⟨_,rfl,wpAny_pure h⟩)) htake))
  |exact wpAny_bind (wpAny_bind (m:=Builtin.Tuple.tupleExact _) (wpAny_newObj_type (wpAny_pure ⟨_,rfl,wpAny_pure h⟩) htake))
end
end HT
namespace L2
open PySem PySem.Spec PyProof.Rows
abbrev TO:=St→Hp→(Option Int→Hp→Prop)→Prop
def PO (X:Cx) (e:Option Expr) (t:TO):Prop:=
 ∀(pins:List (Addr×Obj)) (s:Shared) (σ:St) (H:Hp) (Q:Option Int→Hp→Prop),Inv X pins σ H s→t σ H Q→
  wpAny (model X.prog X.w) X.A (evalPart e X.env) (fun u s'=>∃o H',Inv X pins σ H' s'∧IsPart u o∧Q o H') X.xe s
def aH:TO:=fun _ H Q=>Q none H
def qB (t:TE):TO:=fun σ H Q=>t σ H fun x H1=>∃i,x= .int i∧Q (some i) H1
section
variable {X:Cx} {e:Expr} {te:TE} {lo hi:Option Expr} {tl th:TO} {pos p2:Pos}
theorem ZU:PO X none aH:=by
 intro pins s σ H Q I h
 rw[evalPart_none]
 exact wpAny_pure ⟨none,H,I, .none,h⟩
theorem d0 (h:PE X e te):PO X (some e) (qB te):=by
 intro pins s σ H Q I hw
 rw[evalPart_some]
 refine CK (h pins s σ H _ I hw) fun u s1 ⟨x,H1,I1,r1,q1⟩=> ?_
 obtain⟨i,rfl,q⟩:=q1
 obtain⟨t,rfl⟩:=r1
 exact⟨some i,H1,I1, .int i t,q⟩
def SlR (X:Cx) (r:V→Option Int→Option Int→Hp→VK→Prop):Prop:=
 ∀(pins:List (Addr×Obj)) (s:Shared) (σ:St) (H:Hp) (x:V) (v vl vu:Value) (lo hi:Option Int) (sl:Addr) (Q:VK),Inv X pins σ H s→RelV x v→s.heap.IsSliceOf sl vl vu .none→IsPart vl lo→IsPart vu hi→r x lo hi H Q→
  ∃T id,typeLookup (.type T) "__getitem__"=pure (some (.builtin id))∧s.TypeIs v T∧wpAny (model X.prog X.w) X.A (getItem v (.ref sl)) (EP X pins σ Q) X.xe s
theorem SlR.or {r r':V→Option Int→Option Int→Hp→VK→Prop} (h:SlR X r) (h':SlR X r'):SlR X (fun x lo hi H Q=>r x lo hi H Q∨r' x lo hi H Q):=by
 intro pins s σ H x v vl vu lo hi sl Q I rx hs pl pu q
 rcases q with q|q
 ·exact h pins s σ H x v vl vu lo hi sl Q I rx hs pl pu q
 ·exact h' pins s σ H x v vl vu lo hi sl Q I rx hs pl pu q
def x5 (r:V→Option Int→Option Int→Hp→VK→Prop) (te:TE) (tl th:TO):TE:=fun σ H Q=>te σ H fun x H1=>tl σ H1 fun l H2=>th σ H2 fun u H3=>r x l u H3 Q
theorem WG {r:V→Option Int→Option Int→Hp→VK→Prop} (hr:SlR X r) (he:PE X e te) (hl:PO X lo tl) (hu:PO X hi th):PE X (.Subscript e (.Slice lo hi none p2) pos) (x5 r te tl th):=by
 intro pins s σ H Q I h
 refine Subscript_ (CK (he pins s σ H _ I h) fun v s1 ⟨x,H1,I1,r1,q1⟩=> ?_)
 refine wpAny_Slice (CK (hl pins s1 σ H1 _ I1 q1) fun vl s2 ⟨l,H2,I2,pl,q2⟩=>CK (hu pins s2 σ H2 _ I2 q2) fun vu s3 ⟨u,H3,I3,pu,q3⟩=> ?_)
 rw[evalPart_none]
 refine wpAny_pure ?_
 have I4:Inv X pins σ H3 {s3 with heap:=s3.heap.push {cls:= .type "slice",data:= .fields #[vl,vu, .none]}}:=I3.kept (t':=s3.toks) fun b ob q=>Heap.get?_push_of_some _ q
 obtain⟨T,id,hT,ht,hg⟩:=hr pins {s3 with heap:=s3.heap.push {cls:= .type "slice",data:= .fields #[vl,vu, .none]}} σ H3 x v vl vu l u s3.heap.objs.size Q I4 r1 (Heap.IsSliceOf.new ..) pl pu q3
 show wpAny (model X.prog X.w) X.A (subscriptTail e (.Slice lo hi none p2) v (.ref s3.heap.objs.size)) (EP X pins σ Q) X.xe {s3 with heap:=s3.heap.push {cls:= .type "slice",data:= .fields #[vl,vu, .none]}}
 exact tail_any (ops:=[.ref s3.heap.objs.size,v]) ht hT hg (by with_unfolding_all rfl)
def LF (xs:List V) (lo hi:Option Int):List V:=(xs.drop (HT.CZ xs.length 0 lo)).take (HT.CZ xs.length xs.length hi-HT.CZ xs.length 0 lo)
theorem KC (xs:List V) (lo hi:Option Int):(LF xs lo hi).length≤xs.length:=by
 unfold LF
 rw[List.length_take,List.length_drop]
 omega
def uK (K:PySem.W.Frag):V→Option Int→Option Int→Hp→VK→Prop:=fun x lo hi H Q=>∃a xs,x= .ref a∧GD K H a xs∧
 ¬(HT.CZ xs.length 0 lo=0∧HT.CZ xs.length xs.length hi=xs.length)∧∀p,H p=none→Q (.ref p) (upd H p (.tup (LF xs lo hi)))
theorem gP:SlR X (uK X.K):=by
 intro pins s σ H x v vl vu lo hi sl Q I rx hs pl pu h
 obtain⟨a,xs,rfl,hx,hw,q⟩:=h
 cases rx
 obtain⟨its,r,ht,hz⟩:=I.tuple hx
 have hlen:its.toArray.size=xs.length:=by rw[List.size_toArray];exact r.length.symm
 refine⟨"tuple",_,PyProof.Rows.slot_tuple_getitem.lookup,ht.typeIs,?_⟩
 refine HT.JH ht hs pl pu (by rw[hlen];exact hw) ?_ (by rw[hlen];exact hz)
 rw[hlen]
 refine⟨.ref s.heap.objs.size,_,I.laid (t':=s.toks) (o:= .tup (LF xs lo hi)) (fun b ob q=>Heap.get?_push_of_some _ q) (Nat.le_refl _) ?_,rfl,q _ (I.hok.fresh (Nat.le_refl _))⟩
 exact⟨Nat.le_trans (KC xs lo hi) hz,_,(r.drop (HT.CZ xs.length 0 lo)).take (HT.CZ xs.length xs.length hi-HT.CZ xs.length 0 lo),IsTupX.new _ _⟩
def nH (K:PySem.W.Frag):R2:=fun x y H Q=>∃a b xs ys,x= .ref a∧y= .ref b∧GD K H a xs∧GD K H b ys∧xs≠[]∧xs.length+ys.length≤sizeLine∧
 (ys=[]→Q (.ref a) H)∧(ys≠[]→∀p,H p=none→Q (.ref p) (upd H p (.tup (xs++ys))))
theorem Vals.nil_iff {xs:List V} {us:List Value} (r:Vals xs us):us=[]↔xs=[]:=by
 cases r with
 |nil=>simp
 |cons _ _=>simp
theorem bL:OpR X (binaryOp .Add) (nH X.K):=by
 intro pins s σ H x y v u Q I rx ry h
 obtain⟨a,b,xs,ys,rfl,rfl,ha,hb,hx,hz,q1,q2⟩:=h
 cases rx
 cases ry
 obtain⟨its,r1,p1,_⟩:=I.tuple ha
 obtain⟨its2,r2,p2,_⟩:=I.tuple hb
 refine HT.cS p1 p2 (fun z=>hx (r1.nil_iff.mp z)) (fun z=>⟨.ref a,H,I,rfl,q1 (r2.nil_iff.mp z)⟩) (fun z=> ?_) (by rw[←r1.length,←r2.length];exact hz)
 refine⟨.ref s.heap.objs.size,_,I.laid (t':=s.toks) (o:= .tup (xs++ys)) (fun b ob q=>Heap.get?_push_of_some _ q) (Nat.le_refl _) ?_,rfl,q2 (fun w=>z (r2.nil_iff.mpr w)) _ (I.hok.fresh (Nat.le_refl _))⟩
 exact⟨by rw[List.length_append];exact hz,_,r1.append r2,IsTupX.new _ _⟩
end
end L2
namespace L2
open PySem PySem.Spec PyProof.Rows
def W5 (n:Nat) (i:Int):Option Nat:=if 0≤i then(if i<n then some i.toNat else none) else if-(n:Int)≤i then some (i+n).toNat else none
def L1 {α:Type} (xs:List α) (i:Int):Option α:=(W5 xs.length i).bind fun j=>xs[j]?
theorem T3 {n:Nat} {i:Int} {j:Nat} (h:W5 n i=some j):seqIndex? i n=some j∧j<n∧-(n:Int)≤i∧i<n:=by
 unfold W5 at h
 by_cases h0:0≤i
 ·rw[if_pos h0]at h
  by_cases h1:i<n
  ·rw[if_pos h1]at h
   have e:i.toNat=j:=Option.some.inj h
   exact⟨by rw[seqIndex_of h0 h1,e],by omega,by omega,h1⟩
  ·rw[if_neg h1]at h;cases h
 ·rw[if_neg h0]at h
  by_cases h1: -(n:Int)≤i
  ·rw[if_pos h1]at h
   have e:(i+n).toNat=j:=Option.some.inj h
   exact⟨by rw[seqIndex_neg (by omega) h1,e],by omega,h1,by omega⟩
  ·rw[if_neg h1]at h;cases h
theorem OP {α:Type} {xs:List α} {i:Int} {v:α} (h:L1 xs i=some v):∃j,seqIndex? i xs.length=some j∧xs[j]? =some v∧j<xs.length∧-(xs.length:Int)≤i∧i<xs.length:=by
 unfold L1 at h
 cases e:W5 xs.length i with
 |none=>rw[e]at h;cases h
 |some j=>
  rw[e]at h
  obtain⟨h1,h2,h3,h4⟩:=T3 e
  exact⟨j,h1,h,h2,h3,h4⟩
theorem HH {α:Type} {xs:List α} {j:Nat} {v:α} (h:xs[j]? =some v):L1 xs (j:Int)=some v:=by
 have hj:j<xs.length:=(List.getElem?_eq_some_iff.mp h).1
 have e:W5 xs.length (j:Int)=some j:=by
  unfold W5
  rw[if_pos (by omega),if_pos (by omega)];simp
 unfold L1;rw[e];exact h
def TL (b:Expr):Prop:=∀o i,subscripted b false o i=operate [o,i] (getItem o i)
def IxR (X:Cx) (r:R2):Prop:=
 ∀(value slice:Expr) (pins:List (Addr×Obj)) (s:Shared) (σ:St) (H:Hp) (x y:V) (v u:Value) (Q:VK),Inv X pins σ H s→RelV x v→RelV y u→r x y H Q→
  subscripted slice false v u=operate [v,u] (getItem v u)→wpAny (model X.prog X.w) X.A (subscriptTail value slice v u) (EP X pins σ Q) X.xe s
def eX (X:Cx) (id:String) (r:V→List V→Hp→VK→Prop):Prop:=
 ∀(pins:List (Addr×Obj)) (s:Shared) (σ:St) (H:Hp) (x:V) (xs:List V) (v:Value) (us:List Value) (Q:VK),Inv X pins σ H s→RelV x v→Vals xs us→r x xs H Q→
  wpAny (model X.prog X.w) X.A (call (.builtin id) (v::us)) (EP X pins σ Q) X.xe s
section
variable {X:Cx} {a b:Expr} {ta tb:TE} {pos:Pos}
theorem IxR.or {r r':R2} (h:IxR X r) (h':IxR X r'):IxR X (fun x y H Q=>r x y H Q∨r' x y H Q):=by
 intro value slice pins s σ H x y v u Q I rx ry q hs
 rcases q with q|q
 ·exact h value slice pins s σ H x y v u Q I rx ry q hs
 ·exact h' value slice pins s σ H x y v u Q I rx ry q hs
theorem oX {r:R2} (hr:IxR X r) (ha:PE X a ta) (hb:PE X b tb) (hs:TL b):PE X (.Subscript a b pos) (sO r ta tb):=by
 intro pins s σ H Q I h
 exact Subscript_ (jC ha hb I h fun v u s2 x y H2 I2 rx ry q=>hr a b pins s2 σ H2 x y v u Q I2 rx ry q (hs _ _))
def oJ (K:PySem.W.Frag):R2:=fun x y H Q=>∃p xs i v,x= .ref p∧y= .int i∧SqL K H p xs∧L1 xs i=some v∧Q v H
def qL (K:PySem.W.Frag):R2:=fun x y H Q=>∃p xs i v,x= .ref p∧y= .int i∧GD K H p xs∧L1 xs i=some v∧Q v H
def nX:R2:=fun x y H Q=>∃z i c,x= .str z∧y= .int i∧z.length≤sizeLine∧L1 z.cps.toList i=some c∧Q (.str ⟨#[c]⟩) H
theorem aI:IxR X (oJ X.K):=by
 intro value slice pins s σ H x y v u Q I rx ry h hs
 obtain⟨p,xs,i,z,rfl,rfl,hq,he,q⟩:=h
 cases rx
 obtain⟨t,rfl⟩:=ry
 obtain⟨its,r,pl,hz⟩:=I.list hq
 obtain⟨j,h1,h2,h3,h4,h5⟩:=OP he
 obtain⟨w,ew,rw'⟩:=r.get h2
 have hl:=r.length
 have hn:=K6
 have fin:EP X pins σ Q w s:=⟨z,H,I,rw',q⟩
 by_cases h0:0≤i
 ·have hj:i.toNat=j:=by
   rw[seqIndex_of h0 h5]at h1
   exact Option.some.inj h1
  exact item_listR pl.isList h0 (by omega) (by rw[hj];simpa using ew) fin hs
 ·have hj:(i+(its.toArray.size:Int)).toNat=j:=by
   rw[seqIndex_neg (by omega) h4]at h1
   rw[List.size_toArray,←hl]
   exact Option.some.inj h1
  exact subscriptTail_builtinR (x:=w) pl.isList.typeIs slot_list_getitem.lookup
   (wpAny_getItem_list_neg (Q:=fun r s'=>r=w∧EP X pins σ Q r s') pl.isList (by omega) (by rw[List.size_toArray]<;>omega) (by omega) (by rw[hj];simpa using ew) ⟨rfl,fin⟩) hs
theorem lY:IxR X (qL X.K):=by
 intro value slice pins s σ H x y v u Q I rx ry h hs
 obtain⟨p,xs,i,z,rfl,rfl,hq,he,q⟩:=h
 cases rx
 obtain⟨t,rfl⟩:=ry
 obtain⟨its,r,pl,hz⟩:=I.tuple hq
 obtain⟨j,h1,h2,h3,h4,h5⟩:=OP he
 obtain⟨w,ew,rw'⟩:=r.get h2
 have hl:=r.length
 have hn:=K6
 have fin:EP X pins σ Q w s:=⟨z,H,I,rw',q⟩
 exact subscriptTail_builtinR (x:=w) pl.typeIs slot_tuple_getitem.lookup
  (getItem_tuple (j:=j) (Q:=fun r s'=>r=w∧EP X pins σ Q r s') pl (by omega) (by omega) (by rw[List.size_toArray,←hl];exact h1) (by simpa using ew) ⟨rfl,fin⟩) hs
theorem kA:IxR X nX:=by
 intro value slice pins s σ H x y v u Q I rx ry h hs
 obtain⟨z,i,c,rfl,rfl,hz,he,q⟩:=h
 obtain⟨t,rfl⟩:=rx
 obtain⟨t',rfl⟩:=ry
 obtain⟨j,h1,h2,h3,h4,h5⟩:=OP he
 have hl:z.cps.toList.length=z.length:=by simp[Str.length]
 rw[hl]at h1 h4 h5
 have hn:=K6
 exact tail_any (typeIs_str s z t) slot_str_getitem.lookup (getItem_str (c:=c) (by
  have e1:decide (i< -(2^63:Int))=false:=decide_eq_false (by omega)
  have e2:decide (i≥2^63)=false:=decide_eq_false (by omega)
  rw[e1,e2,Bool.or_false]) (by rw[h1];simpa using h2) ⟨.str ⟨#[c]⟩,H,I.tok _,⟨_,rfl⟩,q⟩) hs
def wO (K:PySem.W.Frag):R2:=fun x y H Q=>oJ K x y H Q∨qL K x y H Q∨nX x y H Q
theorem kU:IxR X (wO X.K):=aI.or (lY.or kA)
theorem SM (its:List Value) (n j:Nat) (u:Value):Obj.mapSeq (·.setIfInBounds j u) {cls:= .type "list",data:= .seq its.toArray n}={cls:= .type "list",data:= .seq (its.set j u).toArray n}:=by
 simp[Obj.mapSeq]
theorem Inv.lst {pins:List (Addr×Obj)} {σ:St} {H:Hp} {s:Shared} {p:Addr} {xs:List V} (I:Inv X pins σ H s) (h:H p=some (.lst xs)):
 ∃(its:List Value) (n:Nat),Vals xs its∧s.heap.get? p=some {cls:= .type "list",data:= .seq its.toArray n}∧xs.length≤sizeLine:=by
 obtain⟨z,its,n,r,e⟩:=I.hok p _ h
 exact⟨its,n,r,e,z⟩
theorem Inv.lstUpd {pins:List (Addr×Obj)} {σ:St} {H:Hp} {s:Shared} {p:Addr} {xs ys:List V} {its its':List Value} {n n':Nat} {f:Obj→Obj} (I:Inv X pins σ H s) (h:H p=some (.lst xs))
 (ho:s.heap.get? p=some {cls:= .type "list",data:= .seq its.toArray n}) (hf:f {cls:= .type "list",data:= .seq its.toArray n}={cls:= .type "list",data:= .seq its'.toArray n'}) (r:Vals ys its') (hz:ys.length≤sizeLine) (t:Nat):
 Inv X pins σ (upd H p (.lst ys)) {s with heap:=s.heap.update p f,toks:=t}:=by
 have e:(s.heap.update p f).get? p=some {cls:= .type "list",data:= .seq its'.toArray n'}:=by
  rw[Heap.get?_update_self f ho (by rw[hf]<;>rfl),hf]
 refine I.write (x:=p) (e:=p) (by rw[h];trivial) (.inl rfl) (fun b u hb q=>(Heap.get?_update_other _ _ (Ne.symm hb)).trans q) ⟨_,e⟩ ?_
 exact⟨hz,its',n',r,e⟩
def rR:V→V→V→Hp→(Hp→Prop)→Prop:=fun o i v H Q=>∃p xs k j,o= .ref p∧i= .int k∧H p=some (.lst xs)∧W5 xs.length k=some j∧Q (upd H p (.lst (xs.set j v)))
theorem XH:nT X rR:=by
 intro pins s σ H o i v ov iv u Q I ro ri rv h
 obtain⟨p,xs,k,j,rfl,rfl,hp,hj,q⟩:=h
 cases ro
 obtain⟨t,rfl⟩:=ri
 obtain⟨its,n,r,ho,hz⟩:=I.lst hp
 obtain⟨h1,h2,h3,h4⟩:=T3 hj
 have hl:=r.length
 have hn:=K6
 have I':Inv X pins σ (upd H p (.lst (xs.set j v))) {s with heap:=s.heap.update p (Obj.mapSeq (·.setIfInBounds j u))}:=
  I.lstUpd hp ho (SM its n j u) (r.set rv j) (by rw[List.length_set];exact hz) s.toks
 by_cases h0:0≤k
 ·have hk:k.toNat=j:=by
   rw[seqIndex_of h0 h4]at h1
   exact Option.some.inj h1
  exact PySem.W.ki_setAt ho h0 (by omega) (by rw[List.size_toArray,←hl];exact h4) (by rw[hk];exact⟨_,I',q⟩)
 ·have hk:(k+(its.toArray.size:Int)).toNat=j:=by
   rw[seqIndex_neg (by omega) h3]at h1
   rw[List.size_toArray,←hl]
   exact Option.some.inj h1
  exact PySem.W.ki_setBack ho (by omega) (by rw[List.size_toArray,←hl];exact h3) (by omega) (by rw[hk];exact⟨_,I',q⟩)
theorem OI (lo hi:Option Int) (n:Nat):(sliceBounds lo hi none n).1=((HT.CZ n 0 lo:Nat):Int)∧(sliceBounds lo hi none n).2.1=((HT.CZ n n hi:Nat):Int)∧(sliceBounds lo hi none n).2.2=1:=by
 refine⟨?_,?_,rfl⟩
 ·cases lo with
  |none=>simp[sliceBounds,HT.CZ]
  |some i=>
   simp only[sliceBounds,HT.CZ,Option.getD_none,show(1:Int)>0 by decide,if_true]
   by_cases h:i<0
   ·simp only[h,if_true]<;>omega
   ·simp only[h,if_false]<;>omega
 ·cases hi with
  |none=>simp[sliceBounds,HT.CZ]
  |some i=>
   simp only[sliceBounds,HT.CZ,Option.getD_none,show(1:Int)>0 by decide,if_true]
   by_cases h:i<0
   ·simp only[h,if_true]<;>omega
   ·simp only[h,if_false]<;>omega
theorem MT (its:List Value) (lo hi:Option Int):slicePick its.toArray lo hi none=((its.drop (HT.CZ its.length 0 lo)).take (HT.CZ its.length its.length hi-HT.CZ its.length 0 lo)).toArray:=by
 obtain⟨h1,h2,h3⟩:=OI lo hi its.toArray.size
 unfold slicePick
 rw[h1,h2,h3]
 simp only[sliceRange_one,pick_run,List.size_toArray]<;>rfl
def mZ (K:PySem.W.Frag):V→Option Int→Option Int→Hp→VK→Prop:=fun x lo hi H Q=>∃a xs,x= .ref a∧SqL K H a xs∧∀p,H p=none→Q (.ref p) (upd H p (.lst (LF xs lo hi)))
theorem cL:SlR X (mZ X.K):=by
 intro pins s σ H x v vl vu lo hi sl Q I rx hs pl pu h
 obtain⟨a,xs,rfl,hx,q⟩:=h
 cases rx
 obtain⟨its,r,ht,hz⟩:=I.list hx
 have hlen:=r.length
 refine⟨"list",_,slot_list_getitem.lookup,ht.isList.typeIs,?_⟩
 refine wpAny_getItem_list_slice ht.isList hs pl pu .none (by simp) ?_ (by rw[List.size_toArray]<;>omega)
 rw[MT,←hlen]
 refine⟨.ref s.heap.objs.size,_,I.laid (t':=s.toks) (o:= .lst (LF xs lo hi)) (fun b ob q=>Heap.get?_push_of_some _ q) (Nat.le_refl _) ?_,rfl,q _ (I.hok.fresh (Nat.le_refl _))⟩
 exact⟨Nat.le_trans (KC xs lo hi) hz,_,0,(r.drop (HT.CZ xs.length 0 lo)).take (HT.CZ xs.length xs.length hi-HT.CZ xs.length 0 lo),Heap.get?_push_size _ rfl⟩
theorem OF:OpR X (compareOp .NotIn) (fun x y H Q=>∃i j,x= .str i∧y= .str j∧Q (.bl (!(!(Builtin.Str.occurrences j i 0 j.length 1).isEmpty))) H):=by
 intro pins s σ H x y v u Q I rx ry h
 obtain⟨i,j,rfl,rfl,q⟩:=h
 obtain⟨t,rfl⟩:=rx
 obtain⟨t',rfl⟩:=ry
 exact notIn_str ⟨.bl _,H,I,rfl,q⟩
theorem P9:DA X (.builtin "len") (fun xs H Q=>∃p ys,xs=[.ref p]∧(SqL X.K H p ys∨GD X.K H p ys)∧Q (.int ys.length) H):=by
 intro pins s σ H xs us Q I r h
 obtain⟨p,ys,rfl,hq,q⟩:=h
 obtain⟨u,rfl,rx⟩:=E7 r
 cases rx
 have hn:=K6
 rcases hq with hq|hq
 ·obtain⟨its,r',pl,hz⟩:=I.list hq
  have hlen:=r'.length
  exact Calls.call_len_list pl.isList (by simp only[List.size_toArray]<;>omega) ⟨.int ys.length,H,I.tok _,⟨s.toks+1,by rw[List.size_toArray,hlen]⟩,q⟩
 ·obtain⟨its,r',pl,hz⟩:=I.tuple hq
  have hlen:=r'.length
  exact len_tuple pl (by simp only[List.size_toArray]<;>omega) ⟨.int ys.length,H,I.tok _,⟨s.toks+1,by rw[List.size_toArray,hlen]⟩,q⟩
theorem O9:DA X (.builtin "len") (fun xs H Q=>∃z,xs=[.str z]∧z.length≤sizeLine∧Q (.int z.length) H):=by
 intro pins s σ H xs us Q I r h
 obtain⟨z,rfl,hz,q⟩:=h
 obtain⟨u,rfl,t,rfl⟩:=E7 r
 have hn:=K6
 exact len_str (by omega) ⟨.int z.length,H,I.tok _,⟨_,rfl⟩,q⟩
theorem I0:DA X (.type "tuple") (fun xs H Q=>∃p ys,xs=[.ref p]∧((SqL X.K H p ys∧∀l,H l=none→Q (.ref l) (upd H l (.tup ys)))∨(GD X.K H p ys∧Q (.ref p) H))):=by
 intro pins s σ H xs us Q I r h
 obtain⟨p,ys,rfl,h⟩:=h
 obtain⟨u,rfl,rx⟩:=E7 r
 cases rx
 rcases h with⟨hq,q⟩|⟨hq,q⟩
 ·obtain⟨its,r',pl,hz⟩:=I.list hq
  have hlen:=r'.length
  refine call_tuple_list pl.isList (fun h' kp=> ?_) (by simp only[List.size_toArray]<;>omega)
  have I1:Inv X pins σ H {s with heap:=h'}:=I.kept (t':=s.toks) kp
  have I2:Inv X pins σ (upd H h'.objs.size (.tup ys)) {s with heap:=h'.push {cls:= .type "tuple",data:= .seq its.toArray}}:=
   I1.laid (t':=s.toks) (fun b o e=>Heap.get?_push_of_some _ e) (Nat.le_refl _) (show ObjOk X.prog X.w _ _ _ (.tup ys) from⟨hz,its,r',IsTupX.new _ _⟩)
  exact⟨.ref h'.objs.size,_,I2,rfl,q _ (I1.hok.fresh (Nat.le_refl _))⟩
 ·obtain⟨its,r',pl,hz⟩:=I.tuple hq
  exact call_tuple_same pl ⟨.ref p,H,I,rfl,q⟩
def lN (K:PySem.W.Frag) (T:String) (x:V) (H:Hp):Prop:=match x with
 | .str _=>T= "str"
 | .int _=>T= "int"
 | .ref p=>(T= "list"∧∃xs,SqL K H p xs)∨(T= "tuple"∧∃xs,GD K H p xs)∨
     (T= "dict"∧((∃kvs,Rd H p (.dK kvs))∨∃kvs,H p=some (.dT kvs)))∨(T= "set"∧∃S n,H p=some (.set S n))
 |_=>False
theorem XU {pins:List (Addr×Obj)} {σ:St} {H:Hp} {s:Shared} {T:String} {x:V} {v:Value} (I:Inv X pins σ H s) (r:RelV x v) (ty:lN X.K T x H):
 s.TypeIs v T∧∀a,v= .ref a→∃ob,s.heap.get? a=some ob∧ob.dict=none:=by
 cases x with
 |str z=>
  obtain⟨t,rfl⟩:=r
  cases(show T= "str" from ty)
  exact⟨typeIs_str s z t,fun _ e=>nomatch e⟩
 |int i=>
  obtain⟨t,rfl⟩:=r
  cases(show T= "int" from ty)
  exact⟨typeIs_int s i t,fun _ e=>nomatch e⟩
 |ref p=>
  cases r
  rcases ty with⟨rfl,xs,hq⟩|⟨rfl,xs,hq⟩|⟨rfl,hk⟩|⟨rfl,S,n,hk⟩
  ·obtain⟨its,_,pl,_⟩:=I.list hq
   refine⟨pl.isList.typeIs,fun a e=> ?_⟩
   cases e
   obtain⟨o,n,e,c,hd,_⟩:=pl
   exact⟨o,e,hd⟩
  ·obtain⟨its,_,⟨o,e,c,_⟩,_⟩:=I.tupleX hq
   refine⟨⟨o,e,c.1⟩,fun a e2=> ?_⟩
   cases e2
   exact⟨o,e,c.2⟩
  ·have z:∃o,s.heap.get? p=some o∧o.ExactDict:=by
    rcases hk with⟨kvs,hk⟩|⟨kvs,hk⟩
    ·obtain⟨_,_,_,_,o,_,_,e,ex,_⟩:=(show ObjOk X.prog X.w H s.heap p (.dK kvs) from hk.ok I.hok)
     exact⟨o,e,ex⟩
    ·obtain⟨_,_,_,_,o,_,_,e,ex,_⟩:=I.hok p _ hk
     exact⟨o,e,ex⟩
   obtain⟨o,e,ex⟩:=z
   refine⟨⟨o,e,ex.1⟩,fun a e2=> ?_⟩
   cases e2
   exact⟨o,e,ex.2.1⟩
  ·obtain⟨o,_,_,_,e,ex,_⟩:=I.hok p _ hk
   refine⟨⟨o,e,ex.1⟩,fun a e2=> ?_⟩
   cases e2
   exact⟨o,e,ex.2.1⟩
 |_=>exact False.elim ty
def uR (K:PySem.W.Frag) (T:String) (r:V→List V→Hp→VK→Prop) (to:TE):TE:=fun σ H Q=>to σ H fun x H1=>lN K T x H1∧r x [] H1 Q
def xA (K:PySem.W.Frag) (T:String) (r:V→List V→Hp→VK→Prop) (to:TE) (t:TA):TE:=fun σ H Q=>to σ H fun x H1=>lN K T x H1∧t σ H1 fun xs H2=>r x xs H2 Q
variable {o e:Expr} {es:List Expr} {to:TE} {t:TA} {name:Str} {apos cpos:Pos} {T id:String} {r:V→List V→Hp→VK→Prop}
theorem iE (pa:PlainAttrs T) (slot:Slot T name id) (hty:typeOf (.builtin id)=pure (.type "method_descriptor")) (hm:eX X id r) (ho:PE X o to)
 (hbase:attributeBase o name X.env (eval o X.env)=eval o X.env:=by rfl) (hline:(apos.endLine==cpos.line)=true:=by rfl):PE X (.Call (.Attribute o name apos) [] [] cpos) (uR X.K T r to):=by
 intro pins s σ H Q I h
 refine wpAny_Call_method0_late hbase hline (CK (ho pins s σ H _ I h) fun v s1 ⟨x,H1,I1,r1,ty,q1⟩=> ?_)
 obtain⟨h1,h2⟩:=XU I1 r1 ty
 exact⟨T,id,pa,slot,hty,h1,h2,Calls.callWith_builtin rfl (PySem.evalArgs_none (hm pins s1 σ H1 x [] v [] Q I1 r1 .nil q1))⟩
theorem nZ (pa:PlainAttrs T) (slot:Slot T name id) (hty:typeOf (.builtin id)=pure (.type "method_descriptor")) (hm:eX X id r) (ho:PE X o to) (ha:PA X (e::es) t)
 (hbase:attributeBase o name X.env (eval o X.env)=eval o X.env:=by rfl)
 (hfew:((backTo cpos (starEach (e::es) X.env)).all (fun x=> !x.1)&&(backToKw cpos (keywordEach [] X.env)).all (fun x=>x.1.isSome)
   &&decide ((e::es).length+([]:List Keyword).length+(if([]:List Keyword).isEmpty then 0 else 1)<30))=true:=by rfl)
 (hline:(apos.endLine==cpos.line)=true:=by rfl) (hs:starEach (e::es) X.env=(false,eval e X.env)::starEach es X.env:=by rfl) (hplain:(backTo cpos (starEach es X.env)).any (·.1)=false:=by rfl):
 PE X (.Call (.Attribute o name apos) (e::es) [] cpos) (xA X.K T r to t):=by
 intro pins s σ H Q I h
 refine wpAny_Call_method_late hbase hfew hline rfl (CK (ho pins s σ H _ I h) fun v s1 ⟨x,H1,I1,r1,ty,q1⟩=> ?_)
 obtain⟨h1,h2⟩:=XU I1 r1 ty
 refine⟨T,id,pa,slot,hty,h1,h2,?_⟩
 have hA:=ha cpos pins s1 σ H1 _ I1 q1
 rw[hs]at hA⊢
 refine Calls.callWith_builtin (by show(false||(backTo cpos (starEach es X.env)).any (·.1))=false;rw[hplain]<;>rfl) (Calls.evalArgs_plain ?_)
 exact CK hA fun us s2 ⟨vs,H2,I2,r2,q2⟩=>hm pins s2 σ H2 x vs v us Q I2 r1 r2 q2
end
end L2
namespace L2
open PySem PySem.Spec PyProof.Rows
def xT (X:Cx) (id:String) (r:V→List V→Hp→VK→Prop):Prop:=
 ∀(pins:List (Addr×Obj)) (s:Shared) (σ:St) (H:Hp) (x:V) (xs:List V) (v:Value) (us:List Value) (Q:VK),Inv X pins σ H s→RelV x v→Vals xs us→r x xs H Q→
  wpAny (model X.prog X.w) X.A (call (.builtin id) (v::us)) (EP X pins σ Q) X.xe s
theorem Vals.one:∀{x:V} {us:List Value},Vals [x] us→∃u,us=[u]∧RelV x u
 |_,_, .cons r .nil=>⟨_,rfl,r⟩
theorem Vals.rep {xs:List V} {us:List Value} (h:Vals xs us):∀k:Nat,Vals (List.replicate k xs).flatten (List.replicate k us).flatten
 |0=> .nil
 |k+1=>by
  rw[List.replicate_succ,List.replicate_succ,List.flatten_cons,List.flatten_cons]
  exact Vals.append h (Vals.rep h k)
theorem NQ (its:List Value):∀(k:Nat) (acc:List Value),
 List.foldl (fun x1 x2=>x1++x2) acc.toArray (List.replicate k its.toArray)=(acc++(List.replicate k its).flatten).toArray
 |0,acc=>by simp
 |k+1,acc=>by
  have e:acc.toArray++its.toArray=(acc++its).toArray:=by simp
  have e2:(acc++its)++(List.replicate k its).flatten=acc++(List.replicate (k+1) its).flatten:=by
   rw[List.replicate_succ,List.flatten_cons,List.append_assoc]
  rw[←e2,←NQ its k (acc++its),←e,List.replicate_succ,List.foldl_cons]
section
variable {X:Cx} {pins:List (Addr×Obj)} {σ:St} {H:Hp} {s:Shared} {l b:Addr} {xs ys zs:List V}
theorem Inv.lset {its its':List Value} {n:Nat} {f:Array Value→Array Value} {t':Nat} (I:Inv X pins σ H s) (hH:H l=some (.lst xs))
 (e:s.heap.get? l=some {cls:= .type "list",data:= .seq its.toArray n}) (hf:f its.toArray=its'.toArray) (hv:Vals ys its') (hz:ys.length≤sizeLine):
 Inv X pins σ (upd H l (.lst ys)) {s with heap:=s.heap.update l (Obj.mapSeq f),toks:=t'}:=by
 have q:=PySem.IsL.update e f
 rw[hf]at q
 refine I.write (x:=l) (e:=l) (by rw[hH];exact trivial) (.inl rfl) (fun b' u hb hu=>(Heap.get?_update_other s.heap (Obj.mapSeq f) (Ne.symm hb)).trans hu) ⟨_,q⟩ ?_
 exact⟨hz,its',_,hv,q⟩
theorem Inv.lnew {its:List Value} {t':Nat} (I:Inv X pins σ H s) (hv:Vals ys its) (hz:ys.length≤sizeLine):
 Inv X pins σ (upd H s.heap.objs.size (.lst ys)) {s with heap:=s.heap.push {cls:= .type "list",data:= .seq its.toArray},toks:=t'}:=
 I.laid (fun _ _ q=>Heap.get?_push_of_some _ q) (Nat.le_refl _) ⟨hz,its,0,hv,Heap.get?_push_size _ rfl⟩
theorem Inv.fresh (I:Inv X pins σ H s):H s.heap.objs.size=none:=I.hok.fresh (Nat.le_refl _)
theorem Inv.lstM (I:Inv X pins σ H s) (hH:H l=some (.lst xs)):xs.length≤sizeLine∧∃(its:List Value) (n:Nat),Vals xs its∧xs.length=its.length∧s.heap.get? l=some {cls:= .type "list",data:= .seq its.toArray n}:=by
 obtain⟨z,its,n,r,e⟩:=I.hok l _ hH
 exact⟨z,its,n,r,r.length,e⟩
theorem WC {n:Nat} (h:n≤sizeLine):Builtin.List.listTooLong n=false:=by
 unfold Builtin.List.listTooLong
 exact decide_eq_false (by omega)
end
section
variable {X:Cx}
def TK:V→List V→Hp→VK→Prop:=fun x vs H Q=>∃l xs y,x= .ref l∧vs=[y]∧H l=some (.lst xs)∧xs.length<sizeLine∧Q .non (upd H l (.lst (xs++[y])))
theorem NX:xT X "list.append" TK:=by
 intro pins s σ H x vs v us Q I rx rv h
 obtain⟨l,xs,y,rfl,rfl,hH,hz,q⟩:=h
 cases rx
 obtain⟨u,rfl,ru⟩:=rv.one
 obtain⟨z,its,n,r,hl,e⟩:=I.lstM hH
 refine call_meets F.slot_list_append ⟨_,e,rfl⟩ F.entry_list_append (F.args_list_append_2 _ _) (PySem.list_append l its.toArray n u (by rw[List.size_toArray];omega)) ⟨e,?_⟩
 refine⟨.non,_,I.lset (its':=its++[u]) hH e (by simp) (r.append (.cons ru .nil)) ?_,rfl,q⟩
 rw[List.length_append,List.length_singleton]
 omega
def pS:R2:=fun x y H Q=>∃l b xs zs,x= .ref l∧y= .ref b∧H l=some (.lst xs)∧H b=some (.lst zs)∧xs.length+zs.length≤sizeLine∧∀p,H p=none→Q (.ref p) (upd H p (.lst (xs++zs)))
theorem lL:OpR X (binaryOp .Add) pS:=by
 intro pins s σ H x y v u Q I rx ry h
 obtain⟨l,b,xs,zs,rfl,rfl,hH,hB,hz,q⟩:=h
 cases rx
 cases ry
 obtain⟨z,its,n,r,hl,e⟩:=I.lstM hH
 obtain⟨z2,its2,n2,r2,hl2,e2⟩:=I.lstM hB
 refine PySem.P.add_list e e2 ?_ (by rw[List.size_toArray,List.size_toArray];omega)
 have ea:its.toArray++its2.toArray=(its++its2).toArray:=by simp
 rw[ea]
 exact⟨.ref _,_,I.lnew (t':=s.toks) (r.append r2) (by rw[List.length_append];omega),rfl,q _ I.fresh⟩
def rE:R2:=fun x y H Q=>∃l k xs,x= .ref l∧y= .int k∧H l=some (.lst xs)∧-(2^63)≤k∧k<2^63∧xs.length*k.toNat≤sizeLine∧
 ∀p,H p=none→Q (.ref p) (upd H p (.lst (List.replicate k.toNat xs).flatten))
theorem bS {α:Type} (xs:List α) (k:Nat):(List.replicate k xs).flatten.length=k*xs.length:=by
 induction k with
 |zero=>simp
 |succ k ih=>rw[List.replicate_succ,List.flatten_cons,List.length_append,ih,Nat.succ_mul,Nat.add_comm]
theorem lG:OpR X (binaryOp .Mult) rE:=by
 intro pins s σ H x y v u Q I rx ry h
 obtain⟨l,k,xs,rfl,rfl,hH,h1,h2,hz,q⟩:=h
 cases rx
 obtain⟨t,rfl⟩:=ry
 obtain⟨z,its,n,r,hl,e⟩:=I.lstM hH
 have hlen:its.toArray.size*k.toNat≤sizeLine:=by rw[List.size_toArray,←hl];exact hz
 have hcap:¬its.toArray.size*k.toNat>(2^63-1)/8:=by
  have:(sizeLine:Nat)≤(2^63-1)/8:=by decide
  omega
 have hfit:¬(!Builtin.List.listFitsIndex k)=true:=by
  rw[fitsIndex_both h1 h2]
  exact Bool.false_ne_true
 have hlong:¬Builtin.List.listTooLong (its.toArray.size*k.toNat)=true:=by
  rw[WC hlen]
  exact Bool.false_ne_true
 have hnew:List.foldl (fun x1 x2=>x1++x2) #[] (List.replicate (if its.toArray.isEmpty=true then 0 else k.toNat) its.toArray)=(List.replicate k.toNat its).flatten.toArray:=by
  have f0:∀m:Nat,List.foldl (fun x1 x2=>x1++x2) #[] (List.replicate m its.toArray)=(List.replicate m its).flatten.toArray:=fun m=>by
   have:=NQ its m []
   rw[List.nil_append]at this
   exact this
  rw[f0]
  cases its with
  |nil=>simp
  |cons a r'=>rw[if_neg (by simp)]
 refine wpAny_binaryOp_repeat_ref (T:= "list") (U:= "int") (by decide) ⟨_,e,rfl⟩ (fun s'=>typeIs_int s' k t) noFill_list_mul F.fills_int_mul F.slot_int_rmul repeat_list F.slot_int_index.lookup
  (call_meets F.slot_int_rmul (typeIs_int s k t) F.entry_int_rmul (F.args_int_rmul_2 _ _) (int___rmul___int_list k t l its.toArray n)
    ⟨e,rfl,⟨_,e,rfl⟩,call_meets F.slot_list_mul ⟨_,e,rfl⟩ F.entry_list_mul (F.args_list_mul_2 _ _) (AutoListH.list___mul___list_int_3 l its.toArray n k t hfit hcap hlong) ⟨e,?_⟩⟩)
 rw[hnew]
 exact⟨.ref _,_,I.lnew (t':=s.toks) (r.rep k.toNat) (by rw[bS,Nat.mul_comm];exact hz),rfl,q _ I.fresh⟩
end
end L2
namespace Att
open PySem PySem.W PySem.Calls PyProof.Rows
theorem KN {P:Params} {h:Heap}:∀(ns:List Int) (vs:List Value),WellAll P h vs (ns.map WData.int)→IntsAre vs ns:=by
 intro ns
 induction ns with
 |nil=>
  intro vs w
  rw[List.map_nil]at w
  cases w
  exact .nil
 |cons n ns ih=>
  intro vs w
  rw[List.map_cons]at w
  cases w with
  |cons a b=>
   cases a
   exact .cons _ _ (ih _ b)
theorem W1 {l:OpenLaw} {n:Nat} (hn:l.most=some n) {P:Params} {h:Heap} {args:List WData} {vals:List Value}
 (hpre:l.row.toRowW.claim.pre args=true) (hwl:WellAll P h vals args):
 ∃a vs ns,vals=[Value.ref a]∧args=[WData.list (ns.map WData.int)]∧h.get? a=some {cls:= .type "list",data:= .seq vs.toArray}∧IntsAre vs ns∧ns.length≤n:=by
 have hsh:WShape.hasAll [] args [.list .int]=true:=(pre_splitW hpre).1
 have hc:l.pre.holds [] {args:=args}=true:=(pre_splitW hpre).2
 obtain⟨d,r,rfl,h1,h2⟩:=hasAllW_cons hsh
 obtain rfl:=hasAllW_nil h2
 obtain⟨xs,rfl,h3⟩:=hasW_list h1
 obtain⟨ns,rfl⟩:=items_int h3
 have hlen:ns.length≤n:=by
  unfold OpenLaw.pre at hc
  have h4:(WTm.not (.lt (.lit (.int (n:Int))) (.len (.arg 0)))).holds [] {args:=[.list (ns.map .int)]}=true:=by
   have h4:=(holds_andW hc).1
   rw[hn]at h4
   exact h4
  have h5:=condW_of h4 (w_not (w_lt w_lit (w_len_list (w_arg rfl))))
  rw[List.length_map]at h5
  refine Nat.le_of_not_lt fun q=> ?_
  have q':(n:Int)<((ns.length:Nat):Int):=by omega
  first
   |(rw[decide_eq_true q']at h5;exact absurd h5 (by decide))
   |(simp at h5;omega)
 cases hwl with
 |cons w1 w2=>
  cases w2
  cases w1 with
  |list ho hall=>exact⟨_,_,ns,rfl,rfl,ho,KN ns _ hall,hlen⟩
theorem V7 (l:OpenLaw) (args:List WData):l.row.toRowW.claim.post args (.bool true) args=true:=
 postW_of (r:=l.row.toRowW) (X:=(true==true))
  (show WShape.has [] (.bool true) .bool=true by first|rfl|decide|simp[WShape.has,WShape.arms,WShape.armsAll])
  (show(WTm.eq .res (.lit (.bool true))).value [] {args:=args,res:=some (.bool true),after:=args}=some (.bool (true==true)) from w_eq_bool (w_res rfl) w_lit) rfl
theorem QT {l:OpenLaw} {n:Nat} {q:Program} {loose:List Str} {XP:(Str→Option Value)→Heap→Prop} {YP:World→Heap→Prop} {d:DefRec}
 (hn:l.most=some n) (hdf:d.params.defaults=[])
 (call:∀(w:World) (s₀ s₁:Shared) (mg mb:Str→Option Value) (fa:Addr) (o:Obj) (pm cd doc:Value) (a:Addr) (vs:List Value) (ns:List Int),
   Ground q loose [] XP w s₀ mg mb s₁.heap→YP w s₁.heap→
   s₁.heap.get? fa=some o→o.data= .func (docDef d.name d.params d.body d.scope pm cd doc)→s₁.heap.CodeRec cd d.name→mg d.name=some (.ref fa)→
   s₁.heap.get? a=some {cls:= .type "list",data:= .seq vs.toArray}→IntsAre vs ns→ns.length≤n→s₁.gens= #[]→
   codeAny (model l.prog w) callerA (.call (.ref fa) ⟨[.ref a],[]⟩) (fun r s'=>r= .ok (.ret (.bool true))∧OldK s₁.heap s'.heap∧s'.os=s₁.os∧AllBare s'.gens) s₁):
 WalkO q loose XP YP l.row.toRowW d [] (fun f vs=>PySem.call f vs):=by
 intro w s₀ s₁ mg mb G Y fa o pm cd doc dV kV ho hd hcd hD hmg hg args vals as hpre hlay hrd hwl hlo
 obtain rfl:dV= .none:=Dflts.none hD hdf
 obtain rfl:kV= .none:=Dflts.noKw hD
 obtain⟨a,vs,ns,rfl,rfl,hobj,hints,hlen⟩:=W1 hn hpre hwl
 refine enter_call (codeAny_mono (call w s₀ s₁ mg mb fa o pm cd doc a vs ns G Y ho (fd_plain hd) hcd hmg hobj hints hlen hg) fun r s' hq=> ?_)
 obtain⟨rfl,h2,h3,h4⟩:=hq
 exact⟨.inl ⟨.bool true, .bool true,[],rfl,fun _=>rfl, .bool true,V7 l _,fun _=>⟨List.Pairwise.nil,fun _ hm=>(nomatch hm)⟩⟩,h2,h3,h4⟩
end Att
namespace L2
open PySem PySem.Spec PyProof.Rows
theorem K1:∀{vs:List Value} {ns:List Int},IntsAre vs ns→Vals (ns.map V.int) vs
 |_,_, .nil=> .nil
 |_,_, .cons n t h=> .cons ⟨t,rfl⟩ (K1 h)
def cX (H:Hp):Prop:=∀b,H b=none∨∃o xs,H b=some (.frz o (.lst xs))
theorem Y0 {P:Program} {w:World} {K:PySem.W.Frag} {mg mb:Str→Option Value} {CX:PM} {k:Nat} {fa a:Addr} {fd:FuncData} {x:Str} {sp:Sp} {s₁:Shared} {vs:List Value} {ns:List Int}
 (KX:K.In s₁.heap) (hns:s₁.heap.Ns mainGlobals mg) (hb:s₁.heap.Ns builtinsNs mb) (hbb:∀x:Str,x≠ "__name__"→mb x=bootBuiltins x) (hlim:s₁.heap.NoLimit) (hg:s₁.gens= #[])
 (ha:s₁.heap.get? a=some {cls:= .type "list",data:= .seq vs.toArray}) (hi:IntsAre vs ns) (hl:ns.length≤sizeLine) (hr:Room k callerA)
 (F:∀base:Heap,K.In base→base.Ns mainGlobals mg→FnOk P w K mg base CX k fa fd [x] sp) (hbind:∀(s:Shared) (u:Value),BindsTo s fd ⟨[u],[]⟩ [(x,u)])
 (hsp:∀H:Hp,cX H→SqL K H a (ns.map V.int)→sp [.ref a] H (fun v _=>v= .bl true) fun _ _ _=>False)
 (hCX:∀H e s',CX [] H s₁ (fun _ _ _=>False) e s'→False):
 codeAny (model P w) callerA (.call (.ref fa) ⟨[.ref a],[]⟩) (fun r s'=>r= .ok (.ret (.bool true))∧OldK s₁.heap s'.heap∧s'.os=s₁.os∧AllBare s'.gens) s₁:=by
 have rv:=K1 hi
 have lenV:=hi.length
 have core:∀H:Hp,cX H→SqL K H a (ns.map V.int)→HOk P w H s₁.heap→(∀b,H b≠none→b=a)→(H a≠none→K.lookup a=none)→
  codeAny (model P w) callerA (.call (.ref fa) ⟨[.ref a],[]⟩) (fun r s'=>r= .ok (.ret (.bool true))∧OldK s₁.heap s'.heap∧s'.os=s₁.os∧AllBare s'.gens) s₁:=by
  intro H hO hS hok hA hK
  have base_of:∀{b:Addr} {o:Obj},s₁.heap.get? b=some o→H b=none→(O6 s₁.heap H).get? b=some o:=fun e n=>XR e n
  have noA:∀{b:Addr} {o:Obj} {es:Array DictEntry} {ep:Nat},s₁.heap.get? b=some o→o.data= .dict es ep→H b=none:=fun{b o es ep} e d=>by
   cases q:H b with
   |none=>rfl
   |some u=>
    have e':b=a:=hA b (by rw[q];simp)
    subst e'
    rw[ha]at e;cases e
    have d':Data.seq vs.toArray _=Data.dict es ep:=d
    cases d'
  have nsK:∀{b:Addr} {m:Str→Option Value},s₁.heap.Ns b m→(O6 s₁.heap H).Ns b m:=fun{b m} ⟨o,es,ep,e,d,r⟩=>⟨o,es,ep,base_of e (noA e d),d,r⟩
  have hKb:K.In (O6 s₁.heap H):=fun b o e=>base_of (KX b o e) (by
   cases q:H b with
   |none=>rfl
   |some u=>
    have e':b=a:=hA b (by rw[q];simp)
    subst e'
    rw[hK (by rw[q];simp)]at e;cases e)
  have hM:Mod K mg (O6 s₁.heap H):=⟨hKb,nsK hns,⟨mb,nsK hb,hbb⟩,let⟨mc,h1,h2⟩:=hlim;⟨mc,nsK h1,h2⟩⟩
  have e0:Env0 P w K mg (O6 s₁.heap H) callerA [] s₁ H:=⟨rfl,hM,fun b o e=>dY e,Nat.le_of_eq (VW _ _),trivial,fun b hb=>absurd (show b∈([]:List Addr) from hb) (by simp),hok, .of_eq hg⟩
  refine codeAny_mono ((F _ hKb (nsK hns)).run callerA [] s₁ H ⟨[.ref a],[]⟩ [.ref a] [.ref a] _ _ hr e0 (hbind s₁ (.ref a)) (.cons rfl .nil) (hsp H hO hS)) fun r s' h=> ?_
  cases r with
  |error e=>exact(hCX H e s' h).elim
  |ok fl=>
   cases fl with
   |next=>exact False.elim h
   |brk=>exact False.elim h
   |cont=>exact False.elim h
   |ret u=>
    obtain⟨v,H',os,bare,un,hok',r',q⟩:=h
    have q':v= .bl true:=q
    subst q'
    obtain rfl:u=Value.bool true:=r'
    refine⟨rfl,OldK.of_keep fun b o e=> ?_,os,bare⟩
    cases q:H b with
    |none=>exact un.keep b o e q (by intro z;exact absurd (show b∈([]:List Addr) from z) (by simp)) (by simp)
    |some u=>
     rcases hO b with z|⟨ob,xs,z⟩
     ·rw[q]at z;cases z
     ·have z2:=un.frzs b ob _ z
      obtain⟨e1,_⟩:=hok b _ z
      obtain⟨e2,_⟩:=hok' b _ z2
      rw[e]at e1;cases e1
      exact e2
 cases hk:K.lookup a with
 |some o=>
  have e:=KX a o hk
  rw[ha]at e
  cases e
  refine core (fun _=>none) (fun _=> .inl rfl) (.inr ⟨_,vs.toArray,_,hk,rfl,rfl,rfl,by rw[List.size_toArray,lenV];exact hl,by simpa using rv⟩) (fun b u z=>by have z':(none:Option HO)=some u:=z;cases z') (fun b z=>absurd rfl z) fun z=>absurd rfl z
 |none=>
  refine core (fun b=>if b=a then some (.frz {cls:= .type "list",data:= .seq vs.toArray} (.lst (ns.map V.int))) else none) (fun b=> ?_) (.inl (.inr ⟨{cls:= .type "list",data:= .seq vs.toArray},if_pos rfl⟩)) (fun b u z=> ?_) (fun b z=> ?_) fun _=>hk
  ·by_cases hb:b=a
   ·exact .inr ⟨_,_,if_pos hb⟩
   ·exact .inl (if_neg hb)
  ·by_cases hb:b=a
   ·have z':=(if_pos hb).symm.trans z
    cases z'
    subst hb
    exact⟨ha,by rw[List.length_map];exact hl,vs,_,rv,ha⟩
   ·have z':=(if_neg hb).symm.trans z
    cases z'
  ·by_cases hb:b=a
   ·exact hb
   ·exact absurd (if_neg hb) z
end L2
namespace L2
open PySem PySem.Spec PyProof.Rows
abbrev wK {K:PySem.W.Frag} {h:Heap} (_:K.In h):PySem.W.Frag:=K
theorem bG {l:PySem.W.OpenLaw} {n k:Nat} {q:Program} {loose:List Str} {XP:(Str→Option Value)→Heap→Prop} {YP:World→Heap→Prop} {d:DefRec} {K:Params→PySem.W.Frag} {CX:World→PM} {sp:World→Sp} {x:Str}
 (hn:l.most=some n) (hn2:n≤sizeLine) (hdf:d.params.defaults=[]) (hr:Room k callerA)
 (hY:∀(w:World) (h:Heap),YP w h→(K w.params).In h)
 (F:∀(w:World) (mg:Str→Option Value) (fa:Addr) (h:Heap),(K w.params).In h→h.Ns mainGlobals mg→mg d.name=some (.ref fa)→
   ∃fd:FuncData,(∀(s:Shared) (u:Value),BindsTo s fd ⟨[u],[]⟩ [(x,u)])∧
    ∀base:Heap,(K w.params).In base→base.Ns mainGlobals mg→FnOk l.prog w (K w.params) mg base (CX w) k fa fd [x] (sp w))
 (hsp:∀(w:World) (H:Hp) (a:Addr) (ns:List Int),ns.length≤n→cX H→SqL (K w.params) H a (ns.map V.int)→sp w [.ref a] H (fun v _=>v= .bl true) fun _ _ _=>False)
 (hCX:∀(w:World) (H:Hp) (s:Shared) (e:Value) (s':Shared),CX w [] H s (fun _ _ _=>False) e s'→False):
 PySem.W.WalkO q loose XP YP l.row.toRowW d [] (fun f vs=>PySem.call f vs):=by
 refine Att.QT hn hdf fun w s₀ s₁ mg mb fa o pm cd doc a vs ns G Y ho hd hcd hmg hobj hints hlen hg=> ?_
 have KX:=hY w _ Y
 obtain⟨fd,hb,hF⟩:=F w mg fa _ KX G.T.g hmg
 exact Y0 KX G.T.g G.T.b G.T.builtins G.T.nolimit hg hobj hints (Nat.le_trans hlen hn2) hr hF hb (fun H hO hS=>hsp w H a ns hlen hO hS) fun H e s'=>hCX w H s₁ e s'
theorem WT {l:PySem.W.OpenLaw} {n k:Nat} {q:Program} {loose:List Str} {XP:(Str→Option Value)→Heap→Prop} {YP:World→Heap→Prop} {d:DefRec} {K:Params→PySem.W.Frag} {CX:PM} {sp:PySem.W.Frag→Sp} {x:Str}
 (hn:l.most=some n) (hn2:n≤sizeLine) (hdf:d.params.defaults=[]) (hr:Room k callerA)
 (hY:∀(w:World) (h:Heap),YP w h→(K w.params).In h)
 (F:∀(w:World) (mg:Str→Option Value) (fa:Addr) (h:Heap),(K w.params).In h→h.Ns mainGlobals mg→mg d.name=some (.ref fa)→
   ∃fd:FuncData,(∀(s:Shared) (u:Value),BindsTo s fd ⟨[u],[]⟩ [(x,u)])∧
    ∀base:Heap,(K w.params).In base→base.Ns mainGlobals mg→FnOk l.prog w (K w.params) mg base CX k fa fd [x] (sp (K w.params)))
 (hsp:∀(K:PySem.W.Frag) (H:Hp) (a:Addr) (ns:List Int),ns.length≤n→cX H→SqL K H a (ns.map V.int)→sp K [.ref a] H (fun v _=>v= .bl true) fun _ _ _=>False)
 (hCX:∀(H:Hp) (s:Shared) (e:Value) (s':Shared),CX [] H s (fun _ _ _=>False) e s'→False):
 PySem.W.WalkO q loose XP YP l.row.toRowW d [] (fun f vs=>PySem.call f vs):=
 bG (K:=K) (CX:=fun _=>CX) (sp:=fun w=>sp (K w.params)) hn hn2 hdf hr hY F (fun w H a ns h1 h2 h3=>hsp (K w.params) H a ns h1 h2 h3) fun _ H s e s'=>hCX H s e s'
end L2
namespace L2
open PySem PySem.Spec PyProof.Rows
def AQ (s:Stmt):Arguments:=match s with
 | .FunctionDef _ a _ _ _ _ _ _ _ _=>a
 |_=>{posonlyargs:=[],args:=[],vararg:=none,kwonlyargs:=[],kw_defaults:=[],kwarg:=none,defaults:=[]}
def AO (s:Stmt):List Stmt:=match s with
 | .FunctionDef _ _ b _ _ _ _ _ _ _=>b
 |_=>[]
def A0 (s:Stmt):Scope:=match s with
 | .FunctionDef _ _ _ _ _ _ sc _ _ _=>sc
 |_=>{kind:= .function,names:=[],isGenerator:=false,isCoroutine:=false}
abbrev EW:PM:=fun _ _ _ _ _ _=>False
abbrev E0:XK:=fun _ _ _=>False
theorem fP {X:Cx}:E3 EW X E0:=fun _ _ _ _ _ _ _ h=>h.elim
structure Fun (K:PySem.W.Frag) (x qual:Str) (st:Stmt) (f:Addr) (fd:FuncData):Prop where
 ex:∃(oc:Value) (od:Option Addr) (kV doc pm:Value) (an:Option Addr) (cdv ct:Value) (osl:Array (Option Value)),
  fd=PySem.W.fnOf x qual (AQ st) (AO st) (A0 st) .none kV doc pm an cdv ct∧K.lookup f=some ⟨oc,od, .func fd,osl⟩∧PySem.W.codeIn K cdv qual=true
 kp:PySem.W.keepIn K (.ref f)=true
section
variable {P:Program} {w:World} {K:PySem.W.Frag} {mg:Str→Option Value} {base:Heap}
theorem Fun.ok {x qual:Str} {st:Stmt} {f:Addr} {fd:FuncData} {N ps:List Str} {k:Nat} {sp:Sp} (F:Fun K x qual st f fd) (S:FnScope N ps (A0 st)) (len:∀vs H Q E,sp vs H Q E→vs.length=ps.length)
 (hbody:∀(cdv:Value) (A:Around) (outer:List Env) (s:Shared) (H:Hp) (vs:List V) (Q:VK) (E:XK),Room k (A.deeper (envOfC qual (A0 st) s.heap.objs.size f cdv))→sp vs H Q E→
   ∃t,PSs (QY EW P w K mg base N qual (A0 st) f cdv A outer s H E).nox (AO st) t∧t {nx:=fun _ H'=>Q .non H',rt:=Q} (start N vs) H):FnOk P w K mg base EW (k+1) f fd ps sp:=by
 obtain⟨oc,od,kV,doc,pm,an,cdv,ct,osl,rfl,lk,hcd⟩:=F.ex
 refine qW lk hcd S len fun A outer s H vs Q E hr hsp=> ?_
 obtain⟨t,h,q⟩:=hbody cdv A outer s H vs Q E hr hsp
 exact⟨t,h.nox,q⟩
theorem Fun.binds {x qual:Str} {st:Stmt} {f:Addr} {fd:FuncData} {ps:List Str} (F:Fun K x qual st f fd)
 (h:∀(kV doc pm:Value) (an:Option Addr) (cdv ct:Value) (us:List Value),us.length=ps.length→bindArgs (PySem.W.fnOf x qual (AQ st) (AO st) (A0 st) .none kV doc pm an cdv ct) ⟨us,[]⟩=pure (ps.zip us)):Binds K fd ps []:=by
 obtain⟨oc,od,kV,doc,pm,an,cdv,ct,osl,rfl,lk,hcd⟩:=F.ex
 exact .all (h kV doc pm an cdv ct)
theorem BB {x qual:Str} {st:Stmt} {f:Addr} {oc:Value} {od an:Option Addr} {osl:Array (Option Value)} {kV doc pm cdv ct:Value} (l:K.lookup f=some ⟨oc,od, .func (PySem.W.fnOf x qual (AQ st) (AO st) (A0 st) .none kV doc pm an cdv ct),osl⟩)
 (c:PySem.W.codeIn K cdv qual=true) (k:PySem.W.keepIn K (.ref f)=true):Fun K x qual st f (PySem.W.fnOf x qual (AQ st) (AO st) (A0 st) .none kV doc pm an cdv ct):=⟨⟨oc,od,kV,doc,pm,an,cdv,ct,osl,rfl,l,c⟩,k⟩
end
def Same (H H':Hp):Prop:=∀b o,H b=some o→H' b=some o
theorem Same.refl (H:Hp):Same H H:=fun _ _ h=>h
theorem Same.trans {H H1 H2:Hp} (a:Same H H1) (b:Same H1 H2):Same H H2:=fun c o h=>b c o (a c o h)
end L2
namespace L2
open PySem PySem.Spec PyProof.Rows
def CP (cells:List (Str×Addr)):List (Str×NameKind)→List (Str×Addr)→List (Str×Addr)
 |[],acc=>acc
 |(n,k)::r,acc=>if k== .free then CP cells r ((n,(cells.lookup n).getD 0)::acc) else CP cells r acc
theorem LI (env:Env):∀(names:List (Str×NameKind)) (acc:List (Str×Addr)),(∀y∈names,y.2= .free→∃c,env.cells.lookup y.1=some c)→
 (forIn names acc fun(x:Str×NameKind) (cs:List (Str×Addr))=>
   match x with
   |(name,kind)=>if(kind== .free)=true then(do let c←cellOf env name;pure (ForInStep.yield ((name,c)::cs))) else pure (ForInStep.yield cs))=(pure (CP env.cells names acc):Sem _)
 |[],acc,_=>rfl
 |(n,k)::r,acc,h=>by
  rw[List.forIn_cons]
  by_cases hk:(k==NameKind.free)=true
  ·obtain⟨c,hc⟩:=h (n,k) List.mem_cons_self (eq_of_beq hk)
   have e:cellOf env n=pure c:=by unfold cellOf;rw[show env.cells.lookup n=some c from hc]
   simp only[hk,if_true,e,CP]
   rw[show env.cells.lookup n=some c from hc]
   simp only[pure_bind,Option.getD_some]
   exact LI env r _ fun y hy=>h y (List.mem_cons_of_mem _ hy)
  ·simp only[hk,if_false,CP,pure_bind]
   exact LI env r _ fun y hy=>h y (List.mem_cons_of_mem _ hy)
theorem MI {scope:Scope} {env:Env} (h:∀y∈scope.names,y.2= .free→∃c,env.cells.lookup y.1=some c):closureFor scope env=pure (CP env.cells scope.names []):=by
 have e:=LI env scope.names [] h
 simp only[closureFor]
 simp only[bind_pure_comp,map_pure]at e⊢
 first|exact e|(rw[e];rfl)|(simp only[e];rfl)
theorem JC {cells:List (Str×Addr)} {x:Str} {c:Addr}:∀{names:List (Str×NameKind)} {acc:List (Str×Addr)},(∀y∈names,y.2= .free→∃c,cells.lookup y.1=some c)→(∀z,acc.lookup x=some z→cells.lookup x=some z)→
 (CP cells names acc).lookup x=some c→cells.lookup x=some c
 |[],acc,_,ha,h=>ha c h
 |(n,k)::r,acc,hf,ha,h=>by
  unfold CP at h
  by_cases hk:(k==NameKind.free)=true
  ·rw[if_pos hk]at h
   refine JC (fun y hy=>hf y (List.mem_cons_of_mem _ hy)) (fun z hz=> ?_) h
   rw[List.lookup_cons]at hz
   split at hz
   ·rename_i q
    have e:x=n:=eq_of_beq q
    subst e
    obtain⟨d,hd⟩:=hf (x,k) List.mem_cons_self (eq_of_beq hk)
    have hd':cells.lookup x=some d:=hd
    rw[hd']at hz⊢
    exact hz
   ·exact ha z hz
  ·rw[if_neg hk]at h
   exact JC (fun y hy=>hf y (List.mem_cons_of_mem _ hy)) ha h
theorem JN {cells:List (Str×Addr)} {x:Str} {c:Addr} (hc:cells.lookup x=some c):∀{names:List (Str×NameKind)} {acc:List (Str×Addr)},((x,NameKind.free)∈names∨acc.lookup x=some c)→
 (CP cells names acc).lookup x=some c
 |[],acc,h=>by
  rcases h with h|h
  ·cases h
  ·exact h
 |(n,k)::r,acc,h=>by
  unfold CP
  by_cases hk:(k==NameKind.free)=true
  ·rw[if_pos hk]
   refine JN hc ?_
   by_cases hn:x=n
   ·subst hn
    right
    rw[List.lookup_cons]
    simp[hc]
   ·rcases h with h|h
    ·rcases List.mem_cons.mp h with h|h
     ·injection h with h1 _;exact absurd h1 hn
     ·exact .inl h
    ·right
     rw[List.lookup_cons]
     have:(x==n)=false:=beq_eq_false_iff_ne.mpr hn
     rw[this]
     exact h
  ·rw[if_neg hk]
   refine JN hc ?_
   rcases h with h|h
   ·rcases List.mem_cons.mp h with h|h
    ·injection h with _ h2;subst h2;exact absurd rfl hk
    ·exact .inl h
   ·exact .inr h
theorem J2 {env:Env} {x:Str}:∀{names:List (Str×NameKind)},(∀y∈names,y.2≠ .cell)→
 ((names.map fun(n,k)=>if(k==NameKind.free&&env.scope.kind== .function&&env.kindOf n==some .cell)=true then(n,NameKind.cell) else(n,k)).lookup x=some .cell∨
   (names.map fun(n,k)=>if(k==NameKind.free&&env.scope.kind== .function&&env.kindOf n==some .cell)=true then(n,NameKind.cell) else(n,k)).lookup x=some .free)→(x,NameKind.free)∈names
 |[],_,h=>by rcases h with h|h<;>cases h
 |(n,k)::r,hn,h=>by
  have ih:= @J2 env x r fun y hy=>hn y (List.mem_cons_of_mem _ hy)
  rw[List.map_cons]at h
  cases hx:x==n with
  |true=>
   have e:x=n:=eq_of_beq hx
   subst e
   by_cases hc:(k==NameKind.free&&env.scope.kind== .function&&env.kindOf x==some .cell)=true
   ·have hk:(k==NameKind.free)=true:=by
     rw[Bool.and_eq_true,Bool.and_eq_true]at hc
     exact hc.1.1
    have hk':k= .free:=eq_of_beq hk
    subst hk'
    exact List.mem_cons_self
   ·have hc':(if(k==NameKind.free&&env.scope.kind== .function&&env.kindOf x==some .cell)=true then(x,NameKind.cell) else(x,k))=(x,k):=if_neg hc
    simp only[hc',List.lookup_cons,beq_self_eq_true]at h
    have hk:k= .cell∨k= .free:=by
     rcases h with h|h
     ·exact .inl (Option.some.inj h)
     ·exact .inr (Option.some.inj h)
    rcases hk with hk|hk
    ·exact absurd hk (hn (x,k) List.mem_cons_self)
    ·subst hk;exact List.mem_cons_self
  |false=>
   refine List.mem_cons_of_mem _ (ih ?_)
   by_cases hc:(k==NameKind.free&&env.scope.kind== .function&&env.kindOf n==some .cell)=true
   ·have hc':(if(k==NameKind.free&&env.scope.kind== .function&&env.kindOf n==some .cell)=true then(n,NameKind.cell) else(n,k))=(n,NameKind.cell):=if_pos hc
    simp only[hc',List.lookup_cons,hx]at h
    exact h
   ·have hc':(if(k==NameKind.free&&env.scope.kind== .function&&env.kindOf n==some .cell)=true then(n,NameKind.cell) else(n,k))=(n,k):=if_neg hc
    simp only[hc',List.lookup_cons,hx]at h
    exact h
theorem CW {env:Env} {x:Str}:∀{names:List (Str×NameKind)},names.lookup x=some .free→
 (names.map fun(n,k)=>if(k==NameKind.free&&env.scope.kind== .function&&env.kindOf n==some .cell)=true then(n,NameKind.cell) else(n,k)).lookup x=some .cell∨
   (names.map fun(n,k)=>if(k==NameKind.free&&env.scope.kind== .function&&env.kindOf n==some .cell)=true then(n,NameKind.cell) else(n,k)).lookup x=some .free
 |[],h=>by cases h
 |(n,k)::r,h=>by
  have ih:= @CW env x r
  rw[List.map_cons]
  rw[List.lookup_cons]at h
  cases hx:x==n with
  |true=>
   rw[hx]at h
   have hk:k= .free:=Option.some.inj h
   subst hk
   by_cases hc:(NameKind.free==NameKind.free&&env.scope.kind== .function&&env.kindOf n==some .cell)=true
   ·have hc':(if(NameKind.free==NameKind.free&&env.scope.kind== .function&&env.kindOf n==some .cell)=true then(n,NameKind.cell) else(n,NameKind.free))=(n,NameKind.cell):=if_pos hc
    simp only[hc',List.lookup_cons,hx]
    exact .inl trivial
   ·have hc':(if(NameKind.free==NameKind.free&&env.scope.kind== .function&&env.kindOf n==some .cell)=true then(n,NameKind.cell) else(n,NameKind.free))=(n,NameKind.free):=if_neg hc
    simp only[hc',List.lookup_cons,hx]
    exact .inr trivial
  |false=>
   rw[hx]at h
   have q:=ih h
   by_cases hc:(k==NameKind.free&&env.scope.kind== .function&&env.kindOf n==some .cell)=true
   ·have hc':(if(k==NameKind.free&&env.scope.kind== .function&&env.kindOf n==some .cell)=true then(n,NameKind.cell) else(n,k))=(n,NameKind.cell):=if_pos hc
    simp only[hc',List.lookup_cons,hx]
    exact q
   ·have hc':(if(k==NameKind.free&&env.scope.kind== .function&&env.kindOf n==some .cell)=true then(n,NameKind.cell) else(n,k))=(n,k):=if_neg hc
    simp only[hc',List.lookup_cons,hx]
    exact q
theorem IM {x:Str} {k:NameKind}:∀{names:List (Str×NameKind)},names.lookup x=some k→(x,k)∈names:=fun h=>PySem.mem_of_lookup h
def Cx.comp (X:Cx) (scope:Scope) (cl:List (Str×Addr)) (C:Addr) (s₀:Shared) (H₀:Hp) (fp:List Addr) (N':List Str):Cx:=
 {prog:=X.prog,w:=X.w,K:=X.K,mg:=X.mg,base:=X.base,A:=X.A,N:=N',s₀:=s₀,H₀:=H₀,env:=compEnvC scope cl C X.env,outer:=X.stack,stack:=X.stack,ex:=fp,fn:=fun _=>false,calm:=X.calm,pn:=[],xe:=fun _ _=>False}
structure CompScope (X:Cx) (N':List Str) (ix:List (Option Nat)) (scope:Scope):Prop where
 kind:scope.kind= .function
 nocell:∀y∈scope.names,y.2≠ .cell
 names:∀y∈scope.names,y.2= .local→scope.names.lookup y.1=some .local
 free:∀y∈scope.names,y.2= .free→X.env.kindOf y.1=some .cell∨X.env.kindOf y.1=some .free
 len:ix.length=N'.length
 ixok:∀(i j:Nat) (x:Str),ix[i]? =some (some j)→N'[i]? =some x→X.N[j]? =some x∧scope.names.lookup x=some .free
def tau (ix:List (Option Nat)) (σ:St):St:=ix.map fun o=>match o with|none=>none|some j=>(σ[j]?).join
def UQ (ix:List (Option Nat)) (wi:TI) (g:TG) (tt:TT) (te:TE):TE:=fun σ H Q=>
 wi σ H fun J H1=>∀D,H1 D=none→
  ∃W:Nat→Nat→List V→Hp→Prop,(∃m,W 0 m [] (upd H1 D (.lst [])))∧
  ∀i m acc H2,W i m acc H2→H2 D=some (.lst acc)→
   (J.stop i H2∧Q (.ref D) H2)∨
   (J.go i H2∧acc.length<sizeLine∧∀x H3,J.yld i H2 x H3→g x (tau ix σ) H3 fun τ H4=>(τ.length=ix.length∧∀(k:Nat) v,(tau ix σ)[k]? =some (some v)→τ[k]? =some (some v))∧
     tt τ H4 fun b H5=>if b=true then te τ H5 fun y H6=>H6 D=some (.lst acc)∧∃m',m'<m∧W (i+1) m' (acc++[y]) (upd H6 D (.lst (acc++[y])))
      else H5 D=some (.lst acc)∧∃m',m'<m∧W (i+1) m' acc H5)
def PTs (X:Cx) (ifs:List Expr) (t:TT):Prop:=
 ∀(pins:List (Addr×Obj)) (s:Shared) (σ:St) (H:Hp) (Q:Bool→Hp→Prop),Inv X pins σ H s→t σ H Q→
  wpAny (model X.prog X.w) X.A (forIn ifs true fun c r=>if r=true then do let ok←isTrue c X.env (eval c X.env);pure (ForInStep.yield ok) else pure (ForInStep.yield r)) (TP X pins σ Q) X.xe s
def p8:TT:=fun _ H Q=>Q true H
theorem aB {X:Cx}:PTs X [] p8:=fun pins s σ H Q I h=>wpAny_tests_nil ⟨H,I,h⟩
theorem dI {X:Cx} {c:Expr} {t:TT} (h:PT X c t):PTs X [c] t:=fun pins s σ H Q I hw=>wpAny_tests_one (h pins s σ H Q I hw)
section
variable {prog:Program} {w:World} {A:Around} {R:Result→Shared→Prop} {s:Shared}
theorem OT {elt target iter:Expr} {ifs:List Expr} {scope:Scope} {pos:Pos} {it acc:Value} {env:Env} (I:Nat→Shared→Prop)
 (turn:∀n s,I n s→wpAny (model prog w) A (pyNext it) (fun r s₁=>match r with
   |none=>R (.ok .next) s₁
   |some v=>wpAny (model prog w) A (letOwnedTupleGo target it v) (fun _ s₁'=>wpAny (model prog w) A (assign target env v) (fun _ s₂=>
     wpAny (model prog w) A (forIn ifs true fun c r=>if r=true then do let ok←isTrue c env (eval c env);pure (ForInStep.yield ok) else pure (ForInStep.yield r)) (fun ok s₃=>
      if ok=true then wpAny (model prog w) A (eval elt env) (fun x s₄=>
       wpAny (model prog w) A (call (.builtin "list.append") [acc,x]) (fun _ s₅=>∃m,m<n∧I m s₅) (fun _ _=>False) s₄) (fun _ _=>False) s₃
      else∃m,m<n∧I m s₃) (fun _ _=>False) s₂) (fun _ _=>False) s₁') (fun _ _=>False) s₁) (fun _ _=>False) s)
 (n:Nat) (h:I n s):
 codeAny (model prog w) A (.compLoop (.ListComp elt [⟨target,iter,ifs,0⟩] scope pos) 0 it acc env) R s:=by
 refine codeAny_loop rfl I (fun n s hI=> ?_) n h
 show wpAny _ A ((compTurn (.ListComp elt [⟨target,iter,ifs,0⟩] scope pos) 0 it acc env).onRaise (fun x=>do noteFrame x env;theTreesLotGoes x)) _ _ s
 refine wpAny_noted ?_
 rw[compTurn_list]
 refine wpAny_bind (wpAny_standAt (wpAny_bind (wpAny_mono (turn n s hI) (fun r s₁ h₁=> ?_) fun _ _ h'=>h'.elim)))
 cases r with
 |none=>exact wpAny_pure h₁
 |some v=>
  refine wpAny_bind (wpAny_mono h₁ (fun _ s₁' h₁'=> ?_) fun _ _ h'=>h'.elim)
  refine wpAny_bind (wpAny_mono h₁' (fun _ s₂ h₂=>wpAny_bind (wpAny_mono h₂ (fun ok s₃ h₃=> ?_) fun _ _ h'=>h'.elim)) fun _ _ h'=>h'.elim)
  cases ok with
  |false=>exact wpAny_pure ⟨rfl,h₃⟩
  |true=>
   exact wpAny_bind (wpAny_bind (wpAny_mono h₃ (fun x s₄ h₄=>wpAny_bind (wpAny_mono h₄ (fun _ s₅ h₅=>wpAny_pure (wpAny_pure ⟨rfl,h₅⟩)) fun _ _ h'=>h'.elim)) fun _ _ h'=>h'.elim))
end
section
variable {X:Cx}
theorem SY {pins:List (Addr×Obj)} {σ:St} {H1:Hp} {s2:Shared} {N':List Str} {ix:List (Option Nat)} {scope:Scope} {fp:List Addr} {h₁:Heap}
 (S:CompScope X N' ix scope) (I:Inv X pins σ H1 s2) (f2:∀b∈fp,HU X pins H1 b) (hfp:∀b∈fp,b<s2.heap.objs.size)
 (hns:h₁.Ns (s2.heap.objs.size+1) (fun x=>([]:List (Str×Value)).reverse.lookup x))
 (hsb:Heap.SameBut (s2.heap.objs.size+1) ((s2.heap.push {cls:= .type "list",dict:=none,data:= .seq ([]:List Value).toArray}).push {cls:= .type "dict",data:= .dict #[]}) h₁) (tk:Nat):
 Inv (X.comp scope (CP X.env.cells scope.names []) (s2.heap.objs.size+1) {s2 with heap:=s2.heap.push {cls:= .type "list",dict:=none,data:= .seq ([]:List Value).toArray}} (upd H1 s2.heap.objs.size (.lst [])) fp N') [] (tau ix σ)
  (upd H1 s2.heap.objs.size (.lst [])) {s2 with heap:=h₁,toks:=tk}:=by
 have hfr:∀y∈scope.names,y.2= .free→∃c,X.env.cells.lookup y.1=some c:=fun y hy e=>I.ok.has _ (S.free y hy e)
 have fwd:∀x c,(CP X.env.cells scope.names []).lookup x=some c→X.env.cells.lookup x=some c:=fun x c h=>JC hfr (fun z hz=>by cases hz) h
 have I3:Inv X pins σ (upd H1 s2.heap.objs.size (.lst [])) {s2 with heap:=s2.heap.push {cls:= .type "list",dict:=none,data:= .seq ([]:List Value).toArray}}:=I.lnew (t':=s2.toks) (ys:=[]) .nil (Nat.zero_le _)
 have sz3:(s2.heap.push {cls:= .type "list",dict:=none,data:= .seq ([]:List Value).toArray}).objs.size=s2.heap.objs.size+1:=Heap.size_push ..
 have old:∀b o,(s2.heap.push {cls:= .type "list",dict:=none,data:= .seq ([]:List Value).toArray}).get? b=some o→h₁.get? b=some o:=fun b o e=>
  hsb.extBut b o (by have:=Heap.lt_size e;rw[sz3]at this;exact Nat.ne_of_lt this) (Heap.get?_push_of_some _ e)
 have ncell:∀x c,X.env.cells.lookup x=some c→c<s2.heap.objs.size:=fun x c e=>by
  obtain⟨v,z⟩:=I.cell x c e
  exact z.lt
 refine⟨⟨I.ok.mod,?_,I.ok.glob,I.ok.blt,?_,fun x y c h1 h2=>I.ok.inj x y c (fwd x c h1) (fwd y c h2),fun x hx=> ?_,fun _ _ h=>(nomatch h),I.ok.hd,I.ok.frames, .inl rfl,fun b hb=>⟨?_,fun x c e=> ?_⟩,fun b o e=>I3.bs b o e,?_,fun b o e hb=> ?_,fun b hb=> ?_,I3.stack,I3.stkFree⟩,
  rfl,I.bare,Un.kept old,⟨_,hns,fun i x v h1 h2 h3=> ?_⟩,fun x c e=> ?_,?_,fun x c e=> ?_,fun p hp=>absurd (show p∈([]:List (Addr×Obj)) from hp) (by simp),I3.hok.kept old,?_⟩
 ·show(relabel scope X.env).kind= .function
  exact S.kind
 ·show(s2.heap.push {cls:= .type "list",dict:=none,data:= .seq ([]:List Value).toArray}).objs.size≤s2.heap.objs.size+1
  rw[sz3];exact Nat.le_refl _
 ·have hx':(x,NameKind.free)∈scope.names:=J2 (env:=X.env) S.nocell hx
  obtain⟨c,hc⟩:=hfr _ hx' rfl
  exact⟨c,JN hc (.inl hx')⟩
 ·show b≠s2.heap.objs.size+1
  exact Nat.ne_of_lt (Nat.lt_succ_of_lt (hfp b hb))
 ·exact(f2 b hb).2.2.2.2.1 x c (fwd x c e)
 ·show X.base.objs.size≤(s2.heap.push {cls:= .type "list",dict:=none,data:= .seq ([]:List Value).toArray}).objs.size
  rw[sz3]
  exact Nat.le_succ_of_le (Nat.le_trans I.ok.bsz I.sz)
 ·rcases(f2 b hb).2.2.2.1 with z|z
  ·exact I.ok.noex b o e z
  ·exact absurd (Nat.lt_of_lt_of_le (Heap.lt_size e) (Nat.le_trans I.ok.bsz z)) (Nat.lt_irrefl _)
 ·intro hm
  rcases List.mem_cons.mp (I.stkSub b hm) with z|z
  ·exact(f2 b hb).2.1 z
  ·exact(f2 b hb).2.2.1 z
 ·have hi:∃j,ix[i]? =some (some j)∧σ[j]? =some (some v):=by
   unfold tau at h2
   rw[List.getElem?_map]at h2
   cases e:ix[i]?with
   |none=>rw[e]at h2;cases h2
   |some o=>
    rw[e]at h2
    cases o with
    |none=>cases h2
    |some j=>
     refine⟨j,rfl,?_⟩
     have h2':(σ[j]?).join=some v:=Option.some.inj h2
     cases e2:σ[j]?with
     |none=>rw[e2]at h2';cases h2'
     |some q=>rw[e2]at h2';exact congrArg some h2'
  obtain⟨j,hj,hσ⟩:=hi
  obtain⟨hN,hfree⟩:=S.ixok i j x hj h1
  have hmem:(x,NameKind.free)∈scope.names:=IM hfree
  have hk:=S.free _ hmem rfl
  obtain⟨m,hn,hl⟩:=I3.loc
  obtain⟨u,r,l⟩:=hl j x v hN hσ (by rcases hk with k|k;exact .inr (.inl k);exact .inr (.inr k))
  refine⟨u,r,?_⟩
  rcases l with⟨k,_⟩|⟨_,c,hc,z⟩
  ·rcases hk with q|q
   ·rw[show X.env.kindOf x=some .cell from q]at k;cases k
   ·rw[show X.env.kindOf x=some .free from q]at k;cases k
  ·refine .inr ⟨?_,c,JN hc (.inl hmem),z.keeps old⟩
   exact CW (env:=X.env) hfree
 ·obtain⟨v,z⟩:=I3.cell x c (fwd x c e)
  exact⟨v,z.keeps old⟩
 ·show(upd H1 s2.heap.objs.size (.lst [])) (s2.heap.objs.size+1)=none
  rw[AF (Nat.succ_ne_self _)]
  exact I.hok.fresh (Nat.le_succ _)
 ·exact I3.freeC x c (fwd x c e)
 ·show(tau ix σ).length=N'.length
  unfold tau
  rw[List.length_map]
  exact S.len
theorem L9 {pins:List (Addr×Obj)} {σ:St} {H1:Hp} {s2:Shared} {N':List Str} {ix:List (Option Nat)} {scope:Scope} {fp:List Addr} {it:Addr} {tn:Nat→Heap→Prop} {J:It}
 {elt tg iter:Expr} {ifs:List Expr} {pos:Pos} {g:TG} {tt:TT} {te:TE} {Q:VK} {RR:Value→Addr→Result→Shared→Prop}
 (S:CompScope X N' ix scope) (hcalm:X.calm=true) (I:Inv X pins σ H1 s2) (T:Turn X.prog X.w X.K tg J fp it tn) (st:tn 0 s2.heap) (f2:∀b∈fp,HU X pins H1 b)
 (hg:∀C s₀ H₀,PG (X.comp scope (CP X.env.cells scope.names []) C s₀ H₀ fp N') tg g)
 (ht:∀C s₀ H₀,PTs (X.comp scope (CP X.env.cells scope.names []) C s₀ H₀ fp N') ifs tt)
 (he:∀C s₀ H₀,PE (X.comp scope (CP X.env.cells scope.names []) C s₀ H₀ fp N') elt te)
 (h:∀D,H1 D=none→
   ∃W:Nat→Nat→List V→Hp→Prop,(∃m,W 0 m [] (upd H1 D (.lst [])))∧
   ∀i m acc H2,W i m acc H2→H2 D=some (.lst acc)→
    (J.stop i H2∧Q (.ref D) H2)∨
    (J.go i H2∧acc.length<sizeLine∧∀x H3,J.yld i H2 x H3→g x (tau ix σ) H3 fun τ H4=>(τ.length=ix.length∧∀(k:Nat) v,(tau ix σ)[k]? =some (some v)→τ[k]? =some (some v))∧
      tt τ H4 fun b H5=>if b=true then te τ H5 fun y H6=>H6 D=some (.lst acc)∧∃m',m'<m∧W (i+1) m' (acc++[y]) (upd H6 D (.lst (acc++[y])))
       else H5 D=some (.lst acc)∧∃m',m'<m∧W (i+1) m' acc H5))
 (hRR:∀D C s' H',Inv X pins σ H' s'→Q (.ref D) H'→(∃m,s'.heap.Ns C m)→H' C=none→C≠X.env.locals→X.s₀.heap.objs.size≤C→(∀x c,X.env.cells.lookup x=some c→c≠C)→(∀p∈X.pn++pins,p.1≠C)→RR (.ref D) C (.ok .next) s'):
 wpAny (model X.prog X.w) X.A (newList []) (fun acc s₃=>wpAny (model X.prog X.w) X.A (newFunctionEnv scope X.env.globals (CP X.env.cells scope.names []) [] X.env.qual none .none (some X.env)) (fun cenv s₄=>
  codeAny (model X.prog X.w) X.A (.compStart (.ListComp elt [⟨tg,iter,ifs,0⟩] scope pos) 0 (.ref it) acc {cenv with scope:=relabel scope X.env}) (RR acc cenv.locals) s₄) X.xe s₃) X.xe s2:=by
 have hfp:∀b∈fp,b<s2.heap.objs.size:=fun b hb=>by
  obtain⟨o,e,_⟩:=T.obj _ _ st b hb
  exact Heap.lt_size e
 refine wpAny_newObj_type (wpAny_newFunctionEnv S.nocell (by intro y hy;simp at hy) (fun h₁ hns₁ hsb₁=> ?_) S.kind)
 have sz3:(s2.heap.push {cls:= .type "list",dict:=none,data:= .seq ([]:List Value).toArray}).objs.size=s2.heap.objs.size+1:=Heap.size_push ..
 dsimp only at hns₁ hsb₁⊢
 rw[sz3]at hns₁ hsb₁⊢
 obtain⟨W,⟨m0,w0⟩,turn⟩:=h s2.heap.objs.size (I.hok.fresh (Nat.le_refl _))
 have I4:=SY (N':=N') (ix:=ix) (fp:=fp) S I f2 hfp hns₁ hsb₁ (s2.toks+([]:List (Str×Value)).length)
 generalize hX':X.comp scope (CP X.env.cells scope.names []) (s2.heap.objs.size+1) {s2 with heap:=s2.heap.push {cls:= .type "list",dict:=none,data:= .seq ([]:List Value).toArray}} (upd H1 s2.heap.objs.size (.lst [])) fp N'=X' at I4
 have old:∀b o,s2.heap.get? b=some o→h₁.get? b=some o:=fun b o e=>
  hsb₁.extBut b o (Nat.ne_of_lt (Nat.lt_succ_of_lt (Heap.lt_size e))) (Heap.get?_push_of_some _ (Heap.get?_push_of_some _ e))
 have st4:tn 0 h₁:=T.keep _ _ _ st fun b _ o e=>old b o e
 have n4:∀b∈fp,(upd H1 s2.heap.objs.size (.lst [])) b=none:=fun b hb=>by rw[AF (Nat.ne_of_lt (hfp b hb))];exact(f2 b hb).1
 have stat:∀{H':Hp},(∀b∈fp,H' b=none)→∀b∈fp,HU X' [] H' b:=fun{H'} hn b hb=>by
  subst hX'
  refine⟨hn b hb,Nat.ne_of_lt (Nat.lt_succ_of_lt (hfp b hb)),fun hm=> ?_, .inl hb,fun x c e=> ?_,fun p hp=>absurd (show p∈([]:List (Addr×Obj)) from hp) (by simp)⟩
  ·rcases List.mem_cons.mp (I.stkSub b hm) with z|z
   ·exact(f2 b hb).2.1 z
   ·exact(f2 b hb).2.2.1 z
  ·exact(f2 b hb).2.2.2.2.1 x c (JC (fun y hy e=>I.ok.has _ (S.free y hy e)) (fun z hz=>by cases hz) e)
 have loop:∀s₄:Shared,s₄={s2 with heap:=h₁,toks:=s2.toks+([]:List (Str×Value)).length}→
  codeAny (model X.prog X.w) X.A (.compLoop (.ListComp elt [⟨tg,iter,ifs,0⟩] scope pos) 0 (.ref it) (.ref s2.heap.objs.size) (compEnvC scope (CP X.env.cells scope.names []) (s2.heap.objs.size+1) X.env)) (RR (.ref s2.heap.objs.size) (s2.heap.objs.size+1)) s₄:=by
  rintro s₄ rfl
  refine OT (fun n s'=>∃i acc H',Inv X' [] (tau ix σ) H' s'∧tn i s'.heap∧(∀b∈fp,H' b=none)∧H' s2.heap.objs.size=some (.lst acc)∧W i n acc H') ?_ m0
   ⟨0,[],_,I4,st4,n4,AH,w0⟩
  rintro n s5 ⟨i,acc,H5,I5,st5,fr5,hD5,w5⟩
  have pE:X'.prog=X.prog:=by subst hX';rfl
  have wE:X'.w=X.w:=by subst hX';rfl
  have kE:X'.K=X.K:=by subst hX';rfl
  have aE:X'.A=X.A:=by subst hX';rfl
  have cE:X'.calm=true:=by subst hX';exact hcalm
  rcases turn i n acc H5 w5 hD5 with⟨stop,q⟩|⟨go,hz,step⟩
  ·have z:=T.done X' pE wE kE cE i [] s5 (tau ix σ) H5 (fun _ _=>False) I5 (stat fr5) st5 stop
   rw[aE]at z
   refine CK z fun r s6 ⟨hr,I6⟩=> ?_
   subst hr
   have I6':=I6
   subst hX'
   have bs6:=I6.base
   have un:Un (W4 X.stack) fp H1 H5 s2.heap s6.heap:=Un.trans (Un.laid (o:= .lst []) (fun b u q=>Heap.get?_push_of_some _ q) (Nat.le_refl _) (I.hok.fresh (Nat.le_refl _))) bs6
   have IX:Inv X pins σ H5 s6:=Inv.call' I I6.os un I6.hok I6.bare fun b hb=>⟨(f2 b hb).2.2.2.1,(f2 b hb).2.1,(f2 b hb).2.2.2.2.1,(f2 b hb).2.2.2.2.2⟩
   refine hRR _ _ s6 H5 IX q ?_ I6.free ?_ ?_ ?_ ?_
   ·obtain⟨m,hn,_⟩:=I6.loc
    exact⟨m,hn⟩
   ·exact Nat.ne_of_gt (Nat.lt_succ_of_lt I.lt)
   ·exact Nat.le_succ_of_le I.sz
   ·intro x c e
    obtain⟨v,z⟩:=I.cell x c e
    exact Nat.ne_of_lt (Nat.lt_succ_of_lt z.lt)
   ·intro p hp
    exact Nat.ne_of_lt (Nat.lt_succ_of_lt (Heap.lt_size (I.pin p hp).1))
  ·have z:=T.item X' pE wE kE cE i [] s5 (tau ix σ) H5 (fun _ _=>False) I5 (stat fr5) st5 go
   rw[aE]at z
   refine CK z fun r s6 ⟨u,hr,h6⟩=> ?_
   subst hr
   refine CK h6 fun _ s7 ⟨x,H7,I7,r7,y7,st7,fr7⟩=> ?_
   have I7':=I7.pinned (stat fr7) (T.obj _ _ st7)
   have hg':=hg (s2.heap.objs.size+1) {s2 with heap:=s2.heap.push {cls:= .type "list",dict:=none,data:= .seq ([]:List Value).toArray}} (upd H1 s2.heap.objs.size (.lst []))
   have ht':=ht (s2.heap.objs.size+1) {s2 with heap:=s2.heap.push {cls:= .type "list",dict:=none,data:= .seq ([]:List Value).toArray}} (upd H1 s2.heap.objs.size (.lst []))
   have he':=he (s2.heap.objs.size+1) {s2 with heap:=s2.heap.push {cls:= .type "list",dict:=none,data:= .seq ([]:List Value).toArray}} (upd H1 s2.heap.objs.size (.lst []))
   subst hX'
   have back:∀{τ:St} {H8:Hp} {s8:Shared},(τ.length=ix.length∧∀(k:Nat) v,(tau ix σ)[k]? =some (some v)→τ[k]? =some (some v))→
    Inv (X.comp scope (CP X.env.cells scope.names []) (s2.heap.objs.size+1) {s2 with heap:=s2.heap.push {cls:= .type "list",dict:=none,data:= .seq ([]:List Value).toArray}} (upd H1 s2.heap.objs.size (.lst [])) fp N') ([]++LY fp s7.heap) τ H8 s8→
    ∀{acc':List V} {m':Nat},H8 s2.heap.objs.size=some (.lst acc')→W (i+1) m' acc' H8→m'<n→
    ∃m,m<n∧∃i acc H',Inv (X.comp scope (CP X.env.cells scope.names []) (s2.heap.objs.size+1) {s2 with heap:=s2.heap.push {cls:= .type "list",dict:=none,data:= .seq ([]:List Value).toArray}} (upd H1 s2.heap.objs.size (.lst [])) fp N') [] (tau ix σ) H' s8∧tn i s8.heap∧(∀b∈fp,H' b=none)∧H' s2.heap.objs.size=some (.lst acc)∧W i m acc H':=fun{τ H8 s8} hτ I8 {acc' m'} hD8 w8 hm=>by
    refine⟨m',hm,i+1,acc',H8,(Inv.unpinned I8).weak (by rw[hτ.1];unfold tau;rw[List.length_map]) hτ.2,T.keep _ _ _ st7 fun b hb o e=>(I8.pin (b,o) (List.mem_append_right _ (List.mem_append_right _ (G1 hb e)))).1,fun b hb=> ?_,hD8,w8⟩
    obtain⟨o,e,d⟩:=T.obj _ _ st7 b hb
    exact(I8.pin (b,o) (List.mem_append_right _ (List.mem_append_right _ (G1 hb e)))).2.1
   refine CK (hg' _ s7 (tau ix σ) H7 x u _ I7' r7 (step x H7 y7)) fun _ s8 ⟨τ,H8,I8,hτ,q8⟩=> ?_
   refine CK (ht' _ s8 τ H8 _ I8 q8) fun b s9 ⟨H9,I9,q9⟩=> ?_
   cases b with
   |false=>
    obtain⟨hD9,m',hm,w9⟩:=q9
    exact back hτ I9 hD9 w9 hm
   |true=>
    refine CK (he' _ s9 τ H9 _ I9 q9) fun yv s10 ⟨y,H10,I10,r10,hD10,m',hm,w10⟩=> ?_
    refine CK (NX _ s10 τ H10 (.ref s2.heap.objs.size) [y] (.ref s2.heap.objs.size) [yv] (fun v H=>v= .non∧H=upd H10 s2.heap.objs.size (.lst (acc++[y]))) I10 rfl (.cons r10 .nil) ⟨_,acc,y,rfl,rfl,hD10,hz,rfl,rfl⟩) fun _ s11 ⟨v,H11,I11,r11,hv,hH⟩=> ?_
    subst hH
    exact back hτ I11 AH w10 hm
 exact codeAny_compStart_list (loop _ rfl) (T.self _ 0 _ _ _ st4 (loop _ rfl))
theorem dL {elt tg iter:Expr} {ifs:List Expr} {scope:Scope} {pos:Pos} {N':List Str} {ix:List (Option Nat)} {wi:TI} {g:TG} {tt:TT} {te:TE}
 (S:CompScope X N' ix scope) (hcalm:X.calm=true) (hi:PI X tg iter wi)
 (hg:∀C s₀ H₀ fp,PG (X.comp scope (CP X.env.cells scope.names []) C s₀ H₀ fp N') tg g)
 (ht:∀C s₀ H₀ fp,PTs (X.comp scope (CP X.env.cells scope.names []) C s₀ H₀ fp N') ifs tt)
 (he:∀C s₀ H₀ fp,PE (X.comp scope (CP X.env.cells scope.names []) C s₀ H₀ fp N') elt te)
 (hs:∀x,foldedSetIterable iter X.env x=pure x:=by intro _;rfl):
 PE X (.ListComp elt [⟨tg,iter,ifs,0⟩] scope pos) (UQ ix wi g tt te):=by
 intro pins s σ H Q I h
 rw[eval_ListComp]
 refine wpAny_comprehension_free (use:=none) rfl hs (MI fun y hy e=>I.ok.has _ (S.free y hy e)) S.kind S.names (CK (hi pins s σ H _ I h) fun v s1 h1=>CK h1 fun itv s2 h2=> ?_)
 obtain⟨it,fp,tn,J,H2,e,I2,T,st2,f2,hW⟩:=h2
 subst e
 refine L9 (RR:=fun acc C=>compPost (model X.prog X.w) X.A X.xe none (EP X pins σ Q) acc C) S hcalm I2 T st2 f2 (fun C s₀ H₀=>hg C s₀ H₀ fp) (fun C s₀ H₀=>ht C s₀ H₀ fp) (fun C s₀ H₀=>he C s₀ H₀ fp) hW ?_
 intro D C s' H' I' q hn hC hL h1 h2 h3
 obtain⟨m,hn⟩:=hn
 refine⟨m,hn,fun h' hs'=> ?_⟩
 have I'':Inv X pins σ H' {s' with heap:=h'}:=I'.turned (t':=s'.toks) (fun b o hb e=>hs'.extBut b o hb e) hC hL.symm.symm (.inr h1) h2 h3
 exact⟨.ref D,H',I'',rfl,q⟩
theorem bR {elt tg iter:Expr} {ifs:List Expr} {scope:Scope} {pos pos' spos:Pos} {N':List Str} {ix:List (Option Nat)} {wi:TI} {g:TG} {tt:TT} {te:TE} {k:Nat} {x:Str}
 (hN:X.N.Nodup) (hk:X.N[k]? =some x) (hx:X.env.scope.names.lookup x=some .local)
 (S:CompScope X N' ix scope) (hcalm:X.calm=true) (hi:PI X tg iter wi)
 (hg:∀C s₀ H₀ fp,PG (X.comp scope (CP X.env.cells scope.names []) C s₀ H₀ fp N') tg g)
 (ht:∀C s₀ H₀ fp,PTs (X.comp scope (CP X.env.cells scope.names []) C s₀ H₀ fp N') ifs tt)
 (he:∀C s₀ H₀ fp,PE (X.comp scope (CP X.env.cells scope.names []) C s₀ H₀ fp N') elt te)
 (hsw:swapsWith (.ListComp elt [⟨tg,iter,ifs,0⟩] scope pos) (some (.Name x pos')) spos.line X.env=pure true)
 (hs:∀x,foldedSetIterable iter X.env x=pure x:=by intro _;rfl):
 PS X (.Assign [.Name x pos'] (.ListComp elt [⟨tg,iter,ifs,0⟩] scope pos) spos) (cA (UQ ix wi g tt te) (KI k)):=by
 intro pins s σ H D I h
 rw[exec_Assign_Name_used _ _ _ _ hsw]
 refine wpAny_bind (wpAny_standAt (wpAny_bind ?_))
 show wpAny _ _ (do let _←comprehension (.ListComp elt [⟨tg,iter,ifs,0⟩] scope pos) scope X.env _ (newList []) false (eval iter X.env) (some (assign (.Name x pos') X.env))) _ _ s
 refine wpAny_bind (wpAny_mono (wpAny_comprehension_free (use:=some (assign (.Name x pos') X.env)) (Q:=fun _ s'=>SP X pins D .next s') rfl hs (MI fun y hy e=>I.ok.has _ (S.free y hy e)) S.kind S.names
  (CK (hi pins s σ H _ I h) fun v s1 h1=>CK h1 fun itv s2 h2=> ?_)) (fun _ s' hq=>wpAny_pure (wpAny_pure hq)) fun _ _ e=>e)
 obtain⟨it,fp,tn,J,H2,e,I2,T,st2,f2,hW⟩:=h2
 subst e
 refine L9 (RR:=fun acc C=>compPost (model X.prog X.w) X.A X.xe (some (assign (.Name x pos') X.env)) (fun _ s'=>SP X pins D .next s') acc C) (Q:=fun x H1=>KI k x σ H1 D.nx) S hcalm I2 T st2 f2 (fun C s₀ H₀=>hg C s₀ H₀ fp) (fun C s₀ H₀=>ht C s₀ H₀ fp) (fun C s₀ H₀=>he C s₀ H₀ fp) hW ?_
 intro Dd C s' H' I' q hn hC hL h1 h2 h3
 obtain⟨m,hn⟩:=hn
 show wpAny _ _ (assign (.Name x pos') X.env (.ref Dd)) _ _ _
 refine wpAny_assign_Name (NV I' hN hk (.inl hx) (v:= .ref Dd) rfl (fun s'' I'' hsame=> ?_) (.inr hx))
 obtain⟨a,hsb,ha⟩:=hsame
 have haC:C≠a:=by
  rcases ha with z|z
  ·rw[z];exact hL
  ·exact fun e=>h2 x a z e.symm
 refine⟨m,hn.sameBut hsb haC,fun h' hs'=> ?_⟩
 have I3:Inv X pins (σ.set k (some (.ref Dd))) H' {s'' with heap:=h'}:=I''.turned (t':=s''.toks) (fun b o hb e=>hs'.extBut b o hb e) hC hL (.inr h1) h2 h3
 exact⟨_,H',I3,q⟩
end
end L2
namespace L2
open PySem PySem.Spec PyProof.Rows
section
variable {X:Cx} {a b:Expr} {ta tb:TE} {pos:Pos}
theorem W3:OpR X (compareOp .Gt) (fun x y H Q=>∃i j,x= .str i∧y= .str j∧Q (.bl (decide (j.cps.toList<i.cps.toList))) H):=by
 intro pins s σ H x y v u Q I rx ry h
 obtain⟨i,j,rfl,rfl,q⟩:=h
 obtain⟨t,rfl⟩:=rx
 obtain⟨t',rfl⟩:=ry
 exact PySem.P.gt_str ⟨.bl _,H,I,rfl,q⟩
theorem UY:OpR X (compareOp .GtE) (fun x y H Q=>∃i j,x= .str i∧y= .str j∧Q (.bl (!decide (i.cps.toList<j.cps.toList))) H):=by
 intro pins s σ H x y v u Q I rx ry h
 obtain⟨i,j,rfl,rfl,q⟩:=h
 obtain⟨t,rfl⟩:=rx
 obtain⟨t',rfl⟩:=ry
 exact PySem.P.ge_str ⟨.bl _,H,I,rfl,q⟩
theorem WM:OpR X (compareOp .Is) (fun x y H Q=>∃i j,x= .bl i∧y= .bl j∧Q (.bl (i==j)) H):=by
 intro pins s σ H x y v u Q I rx ry h
 obtain⟨i,j,rfl,rfl,q⟩:=h
 cases rx
 cases ry
 exact is_bool ⟨.bl _,H,I,rfl,q⟩
theorem RP:OpR X (binaryOp .Mult) (fun x y H Q=>∃i j,x= .str i∧y= .int j∧(i.length≤16∧0≤j∧j≤1000)∧Q (.str (Txt.mul i j)) H):=by
 intro pins s σ H x y v u Q I rx ry h
 obtain⟨i,j,rfl,rfl,⟨h1,h2,h3⟩,q⟩:=h
 obtain⟨t,rfl⟩:=rx
 obtain⟨t',rfl⟩:=ry
 exact SB.mul (mulOk_of 16 1000 h1 (by omega) (by omega) (by decide) (by decide)) fun t' k=>⟨.str _,H,I.tok _,⟨_,rfl⟩,q⟩
theorem VY {n:Nat} {bs:List Bool} (hn:bs.length=n):(List.range n).all (fun i=>bs.getD i true)=bs.all id:=by
 subst hn
 rw[Bool.eq_iff_iff,List.all_eq_true,List.all_eq_true]
 constructor
 ·intro h x hx
  obtain⟨i,hi,rfl⟩:=List.mem_iff_getElem.mp hx
  have:=h i (List.mem_range.mpr hi)
  simpa[List.getD_eq_getElem?_getD,hi]using this
 ·intro h i hi
  have hi':=List.mem_range.mp hi
  have:=h _ (List.getElem_mem hi')
  simpa[List.getD_eq_getElem?_getD,hi']using this
theorem dD {bs:List Bool}:∀{us:List Value},Vals (bs.map V.bl) us→us=bs.map Value.bool:=by
 induction bs with
 |nil=>intro us r;cases r;rfl
 |cons b bs ih=>intro us r;cases r with|cons r1 r2=>rw[ih r2,show _=Value.bool b from r1];rfl
theorem Y6 (hc:X.calm=true):DA X (.builtin "all") (fun xs H Q=>∃(p:Addr) (bs:List Bool),xs=[.ref p]∧H p=some (.lst (bs.map V.bl))∧Q (.bl (bs.all id)) H):=by
 intro pins s σ H xs us Q I r h
 obtain⟨p,bs,e,hp,q⟩:=h
 subst e
 obtain⟨u,rfl,ru⟩:=E7 r
 obtain rfl:u=Value.ref p:=ru
 obtain⟨z,its,n,rv,hl,ho⟩:=I.lstM hp
 have ei:=dD rv
 have hI:s.heap.IsList p its.toArray:=⟨_,ho,rfl,n,rfl⟩
 have hne:p≠s.heap.objs.size:=Nat.ne_of_lt (Heap.lt_size ho)
 refine call_all_walk (wpAny_pyIter_list hI ?_)
 refine⟨s.heap.objs.size,_,_,_,_,_,fun i=>bs.getD i true,rfl,Walks.list (A:=X.A.in1) (I.ok.hd hc) s.heap.objs.size p hne its.toArray,⟨⟨_,Heap.get?_push_size _ rfl,rfl,rfl⟩,⟨_,Heap.get?_push_of_some _ ho,rfl,n,rfl⟩⟩,?_,fun h' tk hk=> ?_⟩
 ·intro i v s' Q' E' hP hQ
  have hP':its[i]? =some v:=by simpa using hP
  rw[ei,List.getElem?_map]at hP'
  cases e:bs[i]?with
  |none=>rw[e]at hP';cases hP'
  |some b'=>
   rw[e]at hP'
   have ev:Value.bool b'=v:=Option.some.inj hP'
   subst ev
   refine wpAny_truthy_bool ?_
   have:bs.getD i true=b':=by simp[List.getD_eq_getElem?_getD,e]
   dsimp only at hQ
   rw[this]at hQ
   exact hQ
 ·rw[VY (by rw[List.size_toArray,ei,List.length_map])]
  refine⟨.bl _,H,?_,rfl,q⟩
  exact I.kept (h':=h') (t':=tk) fun b o e=>hk b o (by simp;exact Nat.ne_of_lt (Heap.lt_size e)) (Heap.get?_push_of_some _ e)
def qF:V→Option Int→Option Int→Hp→VK→Prop:=fun x lo hi H Q=>∃z,x= .str z∧z.length≤sizeLine∧Q (.str (Txt.slice z lo hi)) H
theorem hU:SlR X qF:=by
 intro pins s σ H x v vl vu lo hi sl Q I rx hs pl pu h
 obtain⟨z,rfl,hz,q⟩:=h
 obtain⟨t,rfl⟩:=rx
 refine⟨"str",_,F.slot_str_getitem.lookup,typeIs_str _ _ _,?_⟩
 have fin:∀t' k,EP X pins σ Q (.str (Txt.slice z lo hi) t') {s with toks:=k}:=fun t' k=>⟨.str _,H,I.tok _,⟨_,rfl⟩,q⟩
 obtain⟨os,e1,e2,e3⟩:=hs
 cases pl with
 |none=>
  cases pu with
  |none=>exact wpAny_getItem_str_slice (l:=none) (u:=none) (st:=none) ⟨os,e1,e2,e3⟩ rfl (post_val_or_str ⟨Nat.le_trans (Txt.slice_le z _ _) hz,fin⟩)
  |int j u=>exact wpAny_getItem_str_slice (l:=none) (u:=some (j,u)) (st:=none) ⟨os,e1,e2,e3⟩ rfl (post_val_or_str ⟨Nat.le_trans (Txt.slice_le z _ _) hz,fin⟩)
 |int i t2=>
  cases pu with
  |none=>exact wpAny_getItem_str_slice (l:=some (i,t2)) (u:=none) (st:=none) ⟨os,e1,e2,e3⟩ rfl (post_val_or_str ⟨Nat.le_trans (Txt.slice_le z _ _) hz,fin⟩)
  |int j u=>exact wpAny_getItem_str_slice (l:=some (i,t2)) (u:=some (j,u)) (st:=none) ⟨os,e1,e2,e3⟩ rfl (post_val_or_str ⟨Nat.le_trans (Txt.slice_le z _ _) hz,fin⟩)
theorem RO {ys:List Str}:∀{us:List Value},Vals (ys.map V.str) us→StrsAre us ys:=by
 induction ys with
 |nil=>intro us r;rw[List.map_nil]at r;cases r;exact .nil
 |cons n ns ih=>
  intro us r
  rw[List.map_cons]at r
  cases r with
  |cons r1 r2=>
   obtain⟨t,e⟩:=r1
   subst e
   exact .cons n t (ih r2)
theorem bU:eX X "str.join" (fun x xs H Q=>∃(z:Str) (p:Addr) (ys:List Str),x= .str z∧xs=[.ref p]∧H p=some (.lst (ys.map V.str))∧(ys.map (·.length)).sum+ys.length*z.length≤16777216∧Q (.str (Txt.join z ys)) H):=by
 intro pins s σ H x xs v us Q I rx rs h
 obtain⟨z,p,ys,rfl,rfl,hp,hz,q⟩:=h
 obtain⟨t,rfl⟩:=rx
 obtain⟨u,rfl,ru⟩:=rs.one
 obtain rfl:u=Value.ref p:=ru
 obtain⟨_,its,n,rv,hl,ho⟩:=I.lstM hp
 refine join_list (items:=its.toArray) (ys:=ys) ⟨_,ho,rfl,n,rfl⟩ (by simpa using RO rv) hz fun t' k=>⟨.str _,H,I.tok _,⟨_,rfl⟩,q⟩
end
end L2
namespace L2
open PySem PySem.Spec PyProof.Rows
inductive D where
 |non|bl (b:Bool)|int (i:Int)|str (x:Str)|tup (ds:List D)|lst (ds:List D)
mutual
def BO:D→D→Bool
 | .non, .non=>true
 | .bl a, .bl b=>a==b
 | .bl a, .int j=>(if a then(1:Int) else 0)==j
 | .int i, .bl b=>i==(if b then(1:Int) else 0)
 | .int i, .int j=>i==j
 | .str x, .str y=>x==y
 | .tup a, .tup b=>MH a b
 | .lst a, .lst b=>MH a b
 |_,_=>false
def MH:List D→List D→Bool
 |[],[]=>true
 |x::xs,y::ys=>BO x y&&MH xs ys
 |_,_=>false
end
mutual
def D.deep:D→Nat
 | .tup ds=>D.deeps ds+1
 | .lst ds=>D.deeps ds+1
 |_=>0
def D.deeps:List D→Nat
 |[]=>0
 |d::ds=>max d.deep (D.deeps ds)
end
mutual
theorem GZ:∀d:D,BO d d=true
 | .non=>by simp[BO]
 | .bl _=>by simp[BO]
 | .int _=>by simp[BO]
 | .str _=>by simp[BO]
 | .tup ds=>by simp[BO,K7 ds]
 | .lst ds=>by simp[BO,K7 ds]
theorem K7:∀ds:List D,MH ds ds=true
 |[]=>by simp[MH]
 |d::ds=>by simp[MH,GZ d,K7 ds]
end
theorem GX:∀{ds:List D} {d:D} {j:Nat},ds[j]? =some d→d.deep≤D.deeps ds
 |[],_,_,h=>by simp at h
 |d::ds,e,0,h=>by simp at h;subst h;simp[D.deeps];omega
 |d::ds,e,j+1,h=>by
  have:=GX (ds:=ds) (j:=j) (by simpa using h)
  simp[D.deeps];omega
theorem D9:∀{ds ds':List D},((List.range (min ds.length ds'.length)).all (fun j=>BO (ds.getD j .non) (ds'.getD j .non))&&(ds.length==ds'.length))=MH ds ds'
 |[],[]=>by simp[MH]
 |[],_::_=>by simp[MH]
 |_::_,[]=>by simp[MH]
 |d::ds,d'::ds'=>by
  have ih:=D9 (ds:=ds) (ds':=ds')
  have e:min (d::ds).length (d'::ds').length=min ds.length ds'.length+1:=by simp
  rw[e,List.range_succ_eq_map,List.all_cons,List.all_map]
  simp only[MH]
  rw[←ih]
  simp[Function.comp_def,Bool.and_assoc]
end L2
namespace L2
open PySem PySem.Spec PyProof.Rows
section
variable {X:Cx} {a b:Expr} {ta tb:TE} {pos:Pos}
def rP:R2:=fun x y H Q=>W6 (fun i j=> .bl (decide (i<j))) x y H Q∨∃i j,x= .str i∧y= .str j∧Q (.bl (decide (i.cps.toList<j.cps.toList))) H
theorem gU:OpR X (compareOp .Lt) rP:=n6.or V9
def pC:R2:=fun x y H Q=>W6 (fun i j=> .bl (decide (j<i))) x y H Q∨∃i j,x= .str i∧y= .str j∧Q (.bl (decide (j.cps.toList<i.cps.toList))) H
theorem SC:OpR X (compareOp .Gt) pC:=nF.or W3
def qQ:R2:=fun x y H Q=>W6 (fun i j=> .bl (decide (j≤i))) x y H Q∨∃i j,x= .str i∧y= .str j∧Q (.bl (!decide (i.cps.toList<j.cps.toList))) H
theorem jA:OpR X (compareOp .GtE) qQ:=oU.or UY
def pL:R2:=fun x y H Q=>(y= .non∧Q (.bl (decide (x= .non))) H)∨∃i j,x= .bl i∧y= .bl j∧Q (.bl (i==j)) H
theorem iX:OpR X (compareOp .Is) pL:=iY.or WM
theorem EE (X:Cx) (scope:Scope) (h:(scope.names.all fun y=>y.2 != .free||(X.env.kindOf y.1==some .cell||X.env.kindOf y.1==some .free))=true):∀y∈scope.names,y.2= .free→X.env.kindOf y.1=some .cell∨X.env.kindOf y.1=some .free:=by
 intro y hy e
 have:=List.all_eq_true.mp h y hy
 rw[e]at this
 simpa using this
theorem HG (X:Cx) (N':List Str) (ix:List (Option Nat)) (scope:Scope) (h:((List.range ix.length).all fun i=>match ix[i]?,N'[i]?with
 |some (some j),some x=>decide (X.N[j]? =some x)&&decide (scope.names.lookup x=some .free)
 |_,_=>true)=true):∀(i j:Nat) (x:Str),ix[i]? =some (some j)→N'[i]? =some x→X.N[j]? =some x∧scope.names.lookup x=some .free:=by
 intro i j x h1 h2
 have hi:i<ix.length:=(List.getElem?_eq_some_iff.mp h1).1
 have:=List.all_eq_true.mp h i (List.mem_range.mpr hi)
 rw[h1,h2]at this
 simpa using this
def CC (t c:String):Bool:=t==c||(t== "bool" &&c== "int")
theorem N7 (K:PySem.W.Frag) {t c:String} (ht:t= "NoneType" ∨t= "bool" ∨t= "int" ∨t= "str" ∨t= "list" ∨t= "tuple" ∨t= "dict") (hc:c= "str" ∨c= "int" ∨c= "bool" ∨c= "tuple" ∨c= "list"):
 PySem.W.kitOne K (.type t) (.type c)=some (CC t c):=by
 rcases ht with rfl|rfl|rfl|rfl|rfl|rfl|rfl<;>rcases hc with rfl|rfl|rfl|rfl|rfl<;>rfl
theorem DF {A:Around} {k:Nat} (hr:Room k A):A.units+150<cLine:=by
 have:=hr.un
 omega
def B5:Expr→Bool
 | .Starred _ _=>false
 |_=>true
theorem FV {e:Expr} {es:List Expr} {env:Env} (h:B5 e=true):starEach (e::es) env=(false,eval e env)::starEach es env:=by
 cases e<;>first|rfl|cases h
theorem qS {e:Expr} {es:List Expr} {te:TE} {t:TA} (ha:PE X e te) (hr:PA X es t) (h:B5 e=true:=by rfl):PA X (e::es) (fM te t):=bB ha hr (FV h)
end
structure NmOk (sc:Scope) (x:Str) (k:NameKind):Prop where
 lk:sc.names.lookup x=some k
 db:(x==("__debug__":Str))=false
 cd:(x==("__classdict__":Str))=false
 nn:x≠ "__name__"
def uW (k:NameKind):Bool:=match k with| .local=>true| .cell=>true| .free=>true|_=>false
theorem E8 {env:Env} {x:Str}:∀{names:List (Str×NameKind)},names.lookup x=some .globalImplicit→
 (names.map fun(n,k)=>if(k==NameKind.free&&env.scope.kind== .function&&env.kindOf n==some .cell)=true then(n,NameKind.cell) else(n,k)).lookup x=some .globalImplicit
 |[],h=>by cases h
 |(n,k)::r,h=>by
  have ih:= @E8 env x r
  rw[List.map_cons]
  rw[List.lookup_cons]at h
  cases hx:x==n with
  |true=>
   rw[hx]at h
   have hk:k= .globalImplicit:=Option.some.inj h
   subst hk
   have hc':(if(NameKind.globalImplicit==NameKind.free&&env.scope.kind== .function&&env.kindOf n==some .cell)=true then(n,NameKind.cell) else(n,NameKind.globalImplicit))=(n,NameKind.globalImplicit):=if_neg (by simp)
   simp only[hc',List.lookup_cons,hx]
  |false=>
   rw[hx]at h
   have q:=ih h
   by_cases hc:(k==NameKind.free&&env.scope.kind== .function&&env.kindOf n==some .cell)=true
   ·have hc':(if(k==NameKind.free&&env.scope.kind== .function&&env.kindOf n==some .cell)=true then(n,NameKind.cell) else(n,k))=(n,NameKind.cell):=if_pos hc
    simp only[hc',List.lookup_cons,hx]
    exact q
   ·have hc':(if(k==NameKind.free&&env.scope.kind== .function&&env.kindOf n==some .cell)=true then(n,NameKind.cell) else(n,k))=(n,k):=if_neg hc
    simp only[hc',List.lookup_cons,hx]
    exact q
section
variable {X:Cx} {x:Str} {p pos:Pos} {e:Expr} {es:List Expr} {t:TA} {k:NameKind}
theorem AE (i:Nat) (q:NmOk X.env.scope x k) (hN:X.N[i]? =some x:=by rfl) (hk:uW k=true:=by rfl):PE X (.Name x pos) (cC i):=
 XZ hN (by cases k<;>first|exact .inl q.lk|exact .inr (.inl q.lk)|exact .inr (.inr q.lk)|exact absurd hk (by decide)) q.db q.cd
theorem NmOk.own {scope:Scope} {cl:List (Str×Addr)} {C:Addr} {s₀:Shared} {H₀:Hp} {fp:List Addr} {N':List Str} (q:NmOk scope x .local):NmOk (X.comp scope cl C s₀ H₀ fp N').env.scope x .local:=
 ⟨lookup_relabel_local q.lk,q.db,q.cd,q.nn⟩
theorem NmOk.glob {scope:Scope} {cl:List (Str×Addr)} {C:Addr} {s₀:Shared} {H₀:Hp} {fp:List Addr} {N':List Str} (q:NmOk scope x .globalImplicit):NmOk (X.comp scope cl C s₀ H₀ fp N').env.scope x .globalImplicit:=
 ⟨E8 q.lk,q.db,q.cd,q.nn⟩
theorem sZ (i:Nat) {scope:Scope} {cl:List (Str×Addr)} {C:Addr} {s₀:Shared} {H₀:Hp} {fp:List Addr} {N':List Str} (q:NmOk scope x .free) (hN:N'[i]? =some x:=by rfl):PE (X.comp scope cl C s₀ H₀ fp N') (.Name x pos) (cC i):=
 XZ (X:=X.comp scope cl C s₀ H₀ fp N') hN (by
  rcases CW (env:=X.env) q.lk with h|h
  ·exact .inr (.inl h)
  ·exact .inr (.inr h)) q.db q.cd
theorem iS {i:Nat} {scope:Scope} {cl:List (Str×Addr)} {C:Addr} {s₀:Shared} {H₀:Hp} {fp:List Addr} {N':List Str} (q:NmOk scope x .local) (hd:N'.Nodup) (hN:N'[i]? =some x:=by rfl):PG (X.comp scope cl C s₀ H₀ fp N') (.Name x pos) (KI i):=
 C0 (X:=X.comp scope cl C s₀ H₀ fp N') hd hN (.inl (lookup_relabel_local q.lk)) (.inr (lookup_relabel_local q.lk))
section
variable {CX:PM} {n:Nat} {f:Addr} {fd:FuncData} {ps:List Str} {sp:Sp} {dvs:List V} {ds:List Value} {E:XK} {id T:String} {r:List V→Hp→VK→Prop}
theorem ZC (F:FnOk X.prog X.w X.K X.mg X.base CX n f fd ps sp) (hr:Room n X.A) (q:NmOk X.env.scope x .globalImplicit) (hm:X.mg x=some (.ref f)) (hk:PySem.W.keepIn X.K (.ref f)=true) (hb:Binds X.K fd ps ds) (hd:Vals dvs ds) (hx:E3 CX X E)
 (ha:PA X (e::es) t) (he:B5 e=true:=by rfl) (hpl:(backTo pos (starEach es X.env)).any (·.1)=false:=by rfl):
 PE X (.Call (.Name x p) (e::es) [] pos) (WV sp dvs E t):=dN F hr q.lk hm hk hb hd hx ha q.db (FV he) hpl
theorem NK (hc:DA X (.builtin id) r) (q:NmOk X.env.scope x .globalImplicit) (hm:X.mg x=none) (hv:bootBuiltins x=some (.builtin id)) (ha:PA X (e::es) t)
 (he:B5 e=true:=by rfl) (hpl:(backTo pos (starEach es X.env)).any (·.1)=false:=by rfl):PE X (.Call (.Name x p) (e::es) [] pos) (sP r t):=YT hc q.lk hm hv ha q.nn q.db (FV he) hpl
theorem MA (hc:DA X (.type T) r) (q:NmOk X.env.scope x .globalImplicit) (hm:X.mg x=none) (hv:bootBuiltins x=some (.type T)) (ha:PA X (e::es) t)
 (he:B5 e=true:=by rfl) (hpl:(backTo pos (starEach es X.env)).any (·.1)=false:=by rfl):PE X (.Call (.Name x p) (e::es) [] pos) (sP r t):=VZ hc q.lk hm hv ha q.nn q.db (FV he) hpl
theorem CS {v:V} {u:Value} (q:NmOk X.env.scope x .globalImplicit) (hm:X.mg x=none) (hv:bootBuiltins x=some u) (r:RelV v u):PE X (.Name x pos) (tC v):=bV q.lk hm hv r q.nn q.db
end
end
def JM:Expr→Bool
 | .ListComp _ _ _ _=>false
 | .SetComp _ _ _ _=>false
 | .DictComp _ _ _ _ _=>false
 |_=>true
theorem RB {value:Expr} {tgt:Option Expr} {l:Nat} {env:Env} (h:JM value=true):swapsWith value tgt l env=pure false:=by
 cases value<;>first|rfl|cases h
section
variable {X:Cx}
theorem ZY {i:Nat} {x:Str} {e:Expr} {te:TE} {pos pos':Pos} (hN:X.N.Nodup) (hi:X.N[i]? =some x) (hx:mI X.env.scope x) (he:PE X e te) (hs:JM e=true:=by rfl) (hf:X.fn x=true:=by rfl):
 PS X (.Assign [.Name x pos'] e pos) (cA te (KI i)):=g7 hN hi hx he (RB hs) (.inl hf)
theorem WB {e:Expr} {te:TE} {pos:Pos} (he:PE X e te) (hs:JM e=true:=by rfl):PS X (.Expr e pos) (fE te):=bH he (RB hs)
end
end L2
namespace L2
open PySem PySem.Spec PyProof.Rows
section
variable {D:Ends} {σ:St} {H:Hp} {Q:VK} {B:Bool→Hp→Prop} {te ta tb tc:TE} {t u:TS} {g:TG} {tt uu:TT} {tr:TA} {r r':R2} {K:PySem.W.Frag}
def RG (ix:List (Option Nat)) (σ τ:St):Prop:=τ.length=ix.length∧∀(k:Nat) v,(tau ix σ)[k]? =some (some v)→τ[k]? =some (some v)
variable {ix:List (Option Nat)}
end
theorem FZ {H:Hp} {b p:Addr} {o u:HO} (e:H b=some u) (hp:H p=none):upd H p o b=some u:=by rw[AF (BQ e hp)];exact e
theorem AX {H:Hp} {p:Addr} (h:H p=none) (o:HO):Same H (upd H p o):=fun b u q=>by rw[AF (BQ q h)];exact q
end L2
namespace L2
open PySem PySem.Spec PyProof.Rows
section
variable {κ:Type} [DecidableEq κ]
def DO (kvs:List (κ×V)) (k:κ):Option V:=(kvs.find? fun kv=>decide (kv.1=k)).map (·.2)
def G3 (kvs:List (κ×V)) (k:κ) (v:V):List (κ×V):=
 if(kvs.any fun kv=>decide (kv.1=k))=true then kvs.map (fun kv=>if kv.1=k then(kv.1,v) else kv) else kvs++[(k,v)]
def HW (kvs:List (κ×V)) (k:κ):List (κ×V):=kvs.filter fun kv=>decide (kv.1≠k)
theorem GL {p:κ×V} {r:List (κ×V)} {k:κ} (e:p.1=k):DO (p::r) k=some p.2:=by simp[DO,List.find?_cons,e]
theorem GK {p:κ×V} {r:List (κ×V)} {k:κ} (e:¬p.1=k):DO (p::r) k=DO r k:=by simp[DO,List.find?_cons,e]
theorem QG (k:κ):∀kvs:List (κ×V),(kvs.any fun kv=>decide (kv.1=k))=(DO kvs k).isSome
 |[]=>rfl
 |p::r=>by
  rw[List.any_cons]
  by_cases e:p.1=k
  ·simp only[GL e,decide_eq_true e,Bool.true_or,Option.isSome_some]
  ·rw[GK e,decide_eq_false e,Bool.false_or];exact QG k r
theorem GN (kvs:List (κ×V)) (k:κ) (v:V):(G3 kvs k v).length≤kvs.length+1:=by
 unfold G3
 split
 ·rw[List.length_map];omega
 ·rw[List.length_append,List.length_cons,List.length_nil];omega
theorem RelO.isSome_eq {o:Option V} {u:Option Value} (r:RelO o u):o.isSome=u.isSome:=by
 cases o with
 |none=>cases u with
  |none=>rfl
  |some _=>exact(show False from r).elim
 |some _=>cases u with
  |none=>exact(show False from r).elim
  |some _=>rfl
theorem RelO.getD {o:Option V} {u:Option Value} {d:V} {d':Value} (r:RelO o u) (rd:RelV d d'):RelV (o.getD d) (u.getD d'):=by
 cases o with
 |none=>cases u with
  |none=>exact rd
  |some _=>exact(show False from r).elim
 |some _=>cases u with
  |none=>exact(show False from r).elim
  |some _=>exact r
theorem KV.val {kvs:List (κ×V)} {vs:List (κ×Value)} (r:KV kvs vs) (k:κ):RelO (DO kvs k) (valueAt vs k):=by
 unfold KV at r
 induction r with
 |nil=>exact True.intro
 | @cons p q ps qs h t ih=>
   obtain⟨h1,h2⟩:=h
   by_cases e:p.1=k
   ·have e':q.1=k:=h1.symm.trans e
    have b:valueAt (q::qs) k=some q.2:=by simp[valueAt,List.find?_cons,e']
    rw[GL e,b];exact h2
   ·have e':¬q.1=k:=fun z=>e (h1.trans z)
    have b:valueAt (q::qs) k=valueAt qs k:=by simp[valueAt,List.find?_cons,e']
    rw[GK e,b];exact ih
theorem KV.any {kvs:List (κ×V)} {vs:List (κ×Value)} (r:KV kvs vs) (k:κ):(kvs.any fun kv=>decide (kv.1=k))=vs.any fun kv=>decide (kv.1=k):=by
 unfold KV at r
 induction r with
 |nil=>rfl
 |cons h t ih=>rw[List.any_cons,List.any_cons,ih,h.1]
theorem KV.repl {kvs:List (κ×V)} {vs:List (κ×Value)} (r:KV kvs vs) (k:κ) {y:V} {u:Value} (ry:RelV y u):
 KV (kvs.map fun kv=>if kv.1=k then(kv.1,y) else kv) (vs.map fun kv=>if kv.1=k then(kv.1,u) else kv):=by
 unfold KV at r⊢
 induction r with
 |nil=>exact .nil
 | @cons p q ps qs h t ih=>
   rw[List.map_cons,List.map_cons]
   refine .cons ?_ ih
   obtain⟨h1,h2⟩:=h
   by_cases e:p.1=k
   ·rw[if_pos e,if_pos (h1.symm.trans e)];exact⟨h1,ry⟩
   ·rw[if_neg e,if_neg (fun z=>e (h1.trans z))];exact⟨h1,h2⟩
theorem KV.put {kvs:List (κ×V)} {vs:List (κ×Value)} (r:KV kvs vs) (k:κ) {y:V} {u:Value} (ry:RelV y u):KV (G3 kvs k y) (stored vs k u):=by
 unfold G3 stored
 rw[r.any k]
 by_cases e:(vs.any fun kv=>decide (kv.1=k))=true
 ·rw[if_pos e,if_pos e];exact r.repl k ry
 ·rw[if_neg e,if_neg e];exact Paired.snoc r ⟨rfl,ry⟩
theorem KV.drop {kvs:List (κ×V)} {vs:List (κ×Value)} (r:KV kvs vs) (k:κ):KV (HW kvs k) (without vs k):=by
 unfold KV at r⊢
 unfold HW without
 induction r with
 |nil=>exact .nil
 | @cons p q ps qs h t ih=>
   obtain⟨h1,h2⟩:=h
   rw[List.filter_cons,List.filter_cons]
   by_cases e:p.1=k
   ·have a:¬decide (p.1≠k)=true:=by simp[e]
    have b:¬decide (q.1≠k)=true:=by simp[h1.symm.trans e]
    rw[if_neg a,if_neg b];exact ih
   ·have e':¬q.1=k:=fun z=>e (h1.trans z)
    have a:decide (p.1≠k)=true:=by simp[e]
    have b:decide (q.1≠k)=true:=by simp[e']
    rw[if_pos a,if_pos b];exact .cons ⟨h1,h2⟩ ih
theorem KV.keys {kvs:List (κ×V)} {vs:List (κ×Value)} (r:KV kvs vs):kvs.map (·.1)=vs.map (·.1):=by
 unfold KV at r
 induction r with
 |nil=>rfl
 |cons h t ih=>rw[List.map_cons,List.map_cons,ih,h.1]
theorem KV.length {kvs:List (κ×V)} {vs:List (κ×Value)} (r:KV kvs vs):kvs.length=vs.length:=Paired.length r
theorem WK (kvs:List (κ×V)) (k:κ):(HW kvs k).length≤kvs.length:=List.length_filter_le _ _
end
theorem HY {P:Program} {w:World} {k:AI} {u:Value} (r:RelV (kV k) u):(AW P w).is k u=true:=by
 cases k with
 |inl i=>obtain⟨t,e⟩:=(show∃t,u=Value.int i t from r);subst e;exact QS P w i t
 |inr x=>obtain⟨t,e⟩:=(show∃t,u=Value.str x t from r);subst e;exact Q1 P w x t
theorem O0 {P:Program} {w:World}:∀{ks:List AI} {us:List Value},Vals (ks.map kV) us→ItemsAre (AW P w) ks us
 |[],_,r=>by rw[List.map_nil]at r;cases r;exact .nil
 |k::ks,_,r=>by
  rw[List.map_cons]at r
  cases r with
  |cons h t=>exact .cons (HY h) (O0 t)
abbrev KT (H:Hp):List (List AI×V)→List (List AI×Addr×Value)→Prop:=Paired fun p q=>p.1=q.1∧H q.2.1=some (.tup (p.1.map kV))∧RelV p.2 q.2.2
theorem KT.val {H:Hp} {kvs:List (List AI×V)} {xs:List (List AI×Addr×Value)} (r:KT H kvs xs) (k:List AI):RelO (DO kvs k) ((atKey xs k).map (·.2)):=by
 induction r with
 |nil=>exact True.intro
 | @cons p q ps qs h t ih=>
   obtain⟨h1,_,h2⟩:=h
   by_cases e:p.1=k
   ·have e':q.1=k:=h1.symm.trans e
    have b:atKey (q::qs) k=some q.2:=by simp[atKey,List.find?_cons,e']
    rw[GL e,b];exact h2
   ·have e':¬q.1=k:=fun z=>e (h1.trans z)
    have b:atKey (q::qs) k=atKey qs k:=by simp[atKey,List.find?_cons,e']
    rw[GK e,b];exact ih
theorem KT.repl {H:Hp} {kvs:List (List AI×V)} {xs:List (List AI×Addr×Value)} (r:KT H kvs xs) (k:List AI) {y:V} {u:Value} (ry:RelV y u):
 KT H (kvs.map fun kv=>if kv.1=k then(kv.1,y) else kv) (xs.map (putAt k u)):=by
 induction r with
 |nil=>exact .nil
 | @cons p q ps qs h t ih=>
   rw[List.map_cons,List.map_cons]
   refine .cons ?_ ih
   obtain⟨h1,h2,h3⟩:=h
   unfold putAt
   by_cases e:p.1=k
   ·rw[if_pos e,if_pos (h1.symm.trans e)];exact⟨h1,h2,ry⟩
   ·rw[if_neg e,if_neg (fun z=>e (h1.trans z))];exact⟨h1,h2,h3⟩
theorem KT.put {H:Hp} {kvs:List (List AI×V)} {xs:List (List AI×Addr×Value)} (r:KT H kvs xs) (k:List AI) {b:Addr} {y:V} {u:Value} (hb:H b=some (.tup (k.map kV))) (ry:RelV y u):
 KT H (G3 kvs k y) (storedH xs k b u):=by
 have e:(kvs.any fun kv=>decide (kv.1=k))=(atKey xs k).isSome:=by
  rw[QG,(r.val k).isSome_eq,Option.isSome_map]
 unfold G3 storedH
 rw[e]
 by_cases q:(atKey xs k).isSome=true
 ·rw[if_pos q,if_pos q];exact r.repl k ry
 ·rw[if_neg q,if_neg q];exact Paired.snoc r ⟨rfl,hb,ry⟩
theorem KT.keeps {H H':Hp} {kvs:List (List AI×V)} {xs:List (List AI×Addr×Value)} (r:KT H kvs xs) (ht:∀b ys,H b=some (.tup ys)→H' b=some (.tup ys)):KT H' kvs xs:=
 Paired.mapP r fun _ _ z=>⟨z.1,ht _ _ z.2.1,z.2.2⟩
section
variable {P:Program} {w:World} {H:Hp} {h:Heap} {a:Addr}
theorem fG {u:HO} (ok:HOk P w H h) (e:Rd H a u):ObjOk P w H h a u:=e.ok ok
theorem DK {kvs:List (AI×V)} (ok:HOk P w H h) (e:Rd H a (.dK kvs)):kvs.length≤sizeLine∧(a==sysModules)=false∧∃vs,KV kvs vs∧h.DictOf (AW P w) a vs:=
 show ObjOk P w H h a (.dK kvs) from fG ok e
theorem TC {kvs:List (AI×V)} (ok:HOk P w H h) (e:H a=some (.dK kvs)):kvs.length≤sizeLine∧(a==sysModules)=false∧∃vs,KV kvs vs∧h.DictOf (AW P w) a vs:=DK ok (.inl e)
theorem JU {ks:List AI} (ok:HOk P w H h) (e:H a=some (.tup (ks.map kV))):(tupleKind (AW P w)).is h ks a:=by
 obtain⟨_,its,r,o,h1,h2,n,h3⟩:=(show ObjOk P w H h a (.tup (ks.map kV)) from ok a _ e)
 exact⟨o,its.toArray,n,h1,h2.1,h3,by simpa using O0 r⟩
theorem NL {kvs:List (List AI×V)} (ok:HOk P w H h) (e:Rd H a (.dT kvs)):kvs.length≤sizeLine∧(a==sysModules)=false∧
 ∃xs,KT H kvs xs∧h.DictOfH (tupleKind (AW P w)) a xs:=by
 obtain⟨z,y,xs,r,o,es,ep,h1,h2,h3,h4,h5⟩:=(show ObjOk P w H h a (.dT kvs) from fG ok e)
 refine⟨z,y,xs,r,o,es,ep,h1,h2,h3,h4,fun x hx=> ?_,h5⟩
 have all:∀{l:List (List AI×V)} {m:List (List AI×Addr×Value)},KT H l m→∀x∈m,(tupleKind (AW P w)).is h x.1 x.2.1:=by
  intro l m q
  induction q with
  |nil=>intro x hx;exact nomatch hx
  | @cons p q ps qs hq t ih=>
    intro x hx
    rcases List.mem_cons.mp hx with e|hx
    ·subst e
     exact JU ok (by rw[←hq.1];exact hq.2.1)
    ·exact ih x hx
 exact all r x hx
theorem pX {kvs:List (List AI×V)} (ok:HOk P w H h) (e:H a=some (.dT kvs)):kvs.length≤sizeLine∧(a==sysModules)=false∧
 ∃xs,KT H kvs xs∧h.DictOfH (tupleKind (AW P w)) a xs:=NL ok (.inl e)
end
def QC (H:Hp) (a:Addr) (y:V) (r:Option V):Prop:=
 (∃kvs k,Rd H a (.dK kvs)∧y=kV k∧r=DO kvs k)∨∃kvs k b,Rd H a (.dT kvs)∧y= .ref b∧H b=some (.tup (k.map kV))∧r=DO kvs k
def DPut (H:Hp) (a:Addr) (y v:V) (H':Hp):Prop:=
 (∃kvs k,H a=some (.dK kvs)∧y=kV k∧kvs.length<sizeLine∧H'=upd H a (.dK (G3 kvs k v)))∨
 ∃kvs k b,H a=some (.dT kvs)∧y= .ref b∧H b=some (.tup (k.map kV))∧kvs.length<sizeLine∧H'=upd H a (.dT (G3 kvs k v))
theorem DPut.k {H:Hp} {a:Addr} {kvs:List (AI×V)} {k:AI} {v:V} (e:H a=some (.dK kvs)) (hl:kvs.length<sizeLine):DPut H a (kV k) v (upd H a (.dK (G3 kvs k v))):= .inl ⟨kvs,k,e,rfl,hl,rfl⟩
section
variable {X:Cx} {pins:List (Addr×Obj)} {σ:St} {H:Hp} {s:Shared} {a:Addr} {y v:V} {u r:Value} {o:Option V} {A:Around} {E:Value→Shared→Prop}
theorem Inv.big (I:Inv X pins σ H s):sysModules<s.heap.objs.size:=by
 have h:mainGlobals<s.heap.objs.size:=(I.mod.glob.keeps I.bk).lt
 exact Nat.lt_trans (by decide) h
theorem UW {Q:Value→Shared→Prop} (hu:A.units+1<cLine) (I:Inv X pins σ H s) (g:QC H a y (some v)) (ry:RelV y u) (h:∀w' s',Inv X pins σ H s'→RelV v w'→Q w' s'):
 wpAny (model X.prog X.w) A (getItem (.ref a) u) Q E s:=by
 rcases g with⟨kvs,k,e,ey,l⟩|⟨kvs,k,b,e,ey,eb,l⟩
 ·subst ey
  obtain⟨z,hd,vs,rel,dd⟩:=DK I.hok e
  obtain⟨w',hw,rw'⟩:=RelO.some_of (v:=v) (o:=valueAt vs k) (by rw[l];exact rel.val k)
  exact wpAny_getItem_of (HY ry) dd.mapOf hw (h w' _ (I.tok _) rw')
 ·subst ey
  cases(show u=Value.ref b from ry)
  obtain⟨z,hd,xs,rel,dd⟩:=NL I.hok e
  obtain⟨w',hw,rw'⟩:=RelO.some_of (v:=v) (o:=(atKey xs k).map (·.2)) (by rw[l];exact rel.val k)
  obtain⟨p,hp,hp2⟩:=Option.map_eq_some_iff.mp hw
  refine wpAny_getItem_heap (tupleKind_room_in1 hu) (JU I.hok eb) dd hp ?_
  rw[hp2]
  exact h w' _ (I.tok _) rw'
theorem v1 {Q:Value→Shared→Prop} (hu:A.units+1<cLine) (I:Inv X pins σ H s) (g:QC H a y o) (ry:RelV y u) (h:∀s',Inv X pins σ H s'→Q (.bool o.isSome) s'):
 wpAny (model X.prog X.w) A (compareOp .In u (.ref a)) Q E s:=by
 rcases g with⟨kvs,k,e,ey,l⟩|⟨kvs,k,b,e,ey,eb,l⟩
 ·subst ey
  obtain⟨z,hd,vs,rel,dd⟩:=DK I.hok e
  refine wpAny_in_of (HY ry) hd dd.mapOf ?_
  rw[←(rel.val k).isSome_eq,←l]
  exact h _ (I.tok _)
 ·subst ey
  cases(show u=Value.ref b from ry)
  obtain⟨z,hd,xs,rel,dd⟩:=NL I.hok e
  refine wpAny_in_heap (tupleKind_room_in1 hu) (JU I.hok eb) hd dd ?_
  have q:=(rel.val k).isSome_eq
  rw[Option.isSome_map]at q
  rw[←q,←l]
  exact h _ (I.tok _)
theorem cH {Q:Value→Shared→Prop} (hu:A.units+1<cLine) (I:Inv X pins σ H s) (g:QC H a y o) (ry:RelV y u) (h:∀s',Inv X pins σ H s'→Q (.bool (!o.isSome)) s'):
 wpAny (model X.prog X.w) A (compareOp .NotIn u (.ref a)) Q E s:=by
 rcases g with⟨kvs,k,e,ey,l⟩|⟨kvs,k,b,e,ey,eb,l⟩
 ·subst ey
  obtain⟨z,hd,vs,rel,dd⟩:=DK I.hok e
  refine wpAny_notIn_of (HY ry) hd dd.mapOf ?_
  rw[←(rel.val k).isSome_eq,←l]
  exact h _ (I.tok _)
 ·subst ey
  cases(show u=Value.ref b from ry)
  obtain⟨z,hd,xs,rel,dd⟩:=NL I.hok e
  refine wpAny_notIn_heap (tupleKind_room_in1 hu) (JU I.hok eb) hd dd ?_
  have q:=(rel.val k).isSome_eq
  rw[Option.isSome_map]at q
  rw[←q,←l]
  exact h _ (I.tok _)
theorem KU {h':Heap} {t':Nat} {ob:HO} (I:Inv X pins σ H s) (mu:oI (H a)) (hs:Heap.SameBut a s.heap h') (he:∃q,h'.get? a=some q) (new:ObjOk X.prog X.w (upd H a ob) h' a ob):
 Inv X pins σ (upd H a ob) {s with heap:=h',toks:=t'}:=
 I.write (x:=a) (e:=a) mu (.inl rfl) (fun b q hb z=>(hs.2 b hb).trans z) he new
theorem MK {P:Program} {w:World} {H':Hp} {h':Heap} {kvs:List (AI×V)} {vs:List (AI×Value)} (z:kvs.length≤sizeLine) (hd:(a==sysModules)=false) (rel:KV kvs vs) (dd:h'.DictOf (AW P w) a vs):
 ObjOk P w H' h' a (.dK kvs):=⟨z,hd,vs,rel,dd⟩
theorem W0 {H':Hp} {Q:Unit→Shared→Prop} (hu:A.units+1<cLine) (I:Inv X pins σ H s) (g:DPut H a y v H') (ry:RelV y u) (rv:RelV v r) (h:∀s',Inv X pins σ H' s'→Q () s'):
 wpAny (model X.prog X.w) A (setItem (.ref a) u r) Q E s:=by
 rcases g with⟨kvs,k,e,ey,l,eH⟩|⟨kvs,k,b,e,ey,eb,l,eH⟩
 ·subst ey eH
  obtain⟨z,hd,vs,rel,dd⟩:=TC I.hok e
  have hz:vs.length≤sizeLine:=by rw[←rel.length];exact z
  have hl:(G3 kvs k v).length≤sizeLine:=by have:=GN kvs k v;omega
  refine wpAny_setItem_pairs (hsz:=hz) (HY ry) dd fun h' dd' hs=>h _ ?_
  have he:∃q,h'.get? a=some q:=let⟨q,_,_,hq,_⟩:=dd';⟨q,hq⟩
  exact KU I (by rw[e];exact True.intro) hs he (MK hl hd (rel.put k rv) dd')
 ·subst ey eH
  cases(show u=Value.ref b from ry)
  obtain⟨z,hd,xs,rel,dd⟩:=pX I.hok e
  have hz:xs.length≤sizeLine:=by rw[←Paired.length rel];exact z
  have hl:(G3 kvs k v).length≤sizeLine:=by have:=GN kvs k v;omega
  refine wpAny_setItem_heap (hsz:=hz) (tupleKind_room_in1 hu) (JU I.hok eb) dd fun h' dd' hs=>h _ ?_
  obtain⟨q,es,ep,hq,h2,h3,h4,_,h5⟩:=dd'
  refine KU I (by rw[e];exact True.intro) hs ⟨q,hq⟩ ⟨hl,hd,_,(rel.put k eb rv).keeps fun c ys ec=> ?_,q,es,ep,hq,h2,h3,h4,h5⟩
  rw[AF (oN ec e (fun z=>nomatch z))]
  exact ec
end
section
variable {X:Cx} {pins:List (Addr×Obj)} {σ:St} {H:Hp} {s:Shared} {a:Addr} {kvs:List (AI×V)} {k:AI} {u:Value} {A:Around} {E:Value→Shared→Prop}
theorem fH {v:V} {more:List Value} {Q:Value→Shared→Prop} (I:Inv X pins σ H s) (e:H a=some (.dK kvs)) (ry:RelV (kV k) u) (l:DO kvs k=some v) (hm:more=[]∨∃x,more=[x])
 (h:∀w' s',Inv X pins σ (upd H a (.dK (HW kvs k))) s'→RelV v w'→Q w' s'):wpAny (model X.prog X.w) A (call (.builtin "dict.pop") (.ref a::u::more)) Q E s:=by
 obtain⟨z,hd,vs,rel,dd⟩:=TC I.hok e
 obtain⟨w',hw,rw'⟩:=RelO.some_of (v:=v) (o:=valueAt vs k) (by rw[←l];exact rel.val k)
 have hp:(keyPart u).isSome=true:=by
  cases k with
  |inl i=>obtain⟨t,q⟩:=(show∃t,u=Value.int i t from ry);subst q;rfl
  |inr x=>obtain⟨t,q⟩:=(show∃t,u=Value.str x t from ry);subst q;rfl
 have ha:argsOk "dict.pop" ⟨.ref a::u::more,[]⟩:=by
  rcases hm with q|⟨x,q⟩
  ·subst q;exact PySem.F.args_dict_pop_2 _ _
  ·subst q;exact PySem.F.args_dict_pop_3 _ _ _
 refine call_meetsIn PySem.F.slot_dict_pop dd.typeIs PySem.F.entry_dict_pop ha (meets_dict_pop_there (AW X.prog X.w) a (HY ry) more hm hp)
  ⟨vs,w',dd,by rw[←rel.length];exact z,hw,fun h' dd' hs=>h w' _ ?_ rw'⟩
 have he:∃q,h'.get? a=some q:=let⟨q,_,_,hq,_⟩:=dd';⟨q,hq⟩
 exact KU I (by rw[e];exact True.intro) hs he (MK (Nat.le_trans (WK kvs k) z) hd (rel.drop k) dd')
theorem jG {r:Value} {Q:Value→Shared→Prop} (I:Inv X pins σ H s) (e:H a=some (.dK kvs)) (ry:RelV (kV k) u) (l:DO kvs k=none) (h:∀s',Inv X pins σ H s'→Q r s'):
 wpAny (model X.prog X.w) A (call (.builtin "dict.pop") [.ref a,u,r]) Q E s:=by
 obtain⟨z,hd,vs,rel,dd⟩:=TC I.hok e
 have hn:valueAt vs k=none:=RelO.none_of (by rw[←l];exact rel.val k)
 have hp:(keyPart u).isSome=true:=by
  cases k with
  |inl i=>obtain⟨t,q⟩:=(show∃t,u=Value.int i t from ry);subst q;rfl
  |inr x=>obtain⟨t,q⟩:=(show∃t,u=Value.str x t from ry);subst q;rfl
 exact call_meetsIn PySem.F.slot_dict_pop dd.typeIs PySem.F.entry_dict_pop (PySem.F.args_dict_pop_3 _ _ _) (meets_dict_pop_default (AW X.prog X.w) a (HY ry) hd hp r) ⟨vs,dd,hn,h _ (I.tok _)⟩
theorem sC {Q:Value→Shared→Prop} (I:Inv X pins σ H s) (e:Rd H a (.dK kvs)) (h:∀t s',Inv X pins σ H s'→Q (.int kvs.length t) s'):wpAny (model X.prog X.w) A (call (.builtin "len") [.ref a]) Q E s:=by
 obtain⟨z,hd,vs,rel,dd⟩:=DK I.hok e
 refine call_len_dict hd dd (by rw[←rel.length];rw[sizeLine_eq]at z;omega) ?_
 rw[←rel.length]
 exact h _ _ (I.tok _)
end
theorem QM {X:Cx} {pins:List (Addr×Obj)} {σ:St} {H:Hp} {s:Shared} {a:Addr} {y:V} {o:Option V} (I:Inv X pins σ H s) (g:QC H a y o):s.TypeIs (.ref a) "dict":=by
 rcases g with⟨kvs,k,e,_,_⟩|⟨kvs,k,b,e,_,_,_⟩
 ·obtain⟨_,_,vs,_,dd⟩:=DK I.hok e
  exact dd.typeIs
 ·obtain⟨_,_,xs,_,dd⟩:=NL I.hok e
  exact dd.typeIs
def nI (td ty tv:TE):TS:=fun D σ H=>tv σ H fun v H1=>td σ H1 fun x H2=>ty σ H2 fun y H3=>∃a H4,x= .ref a∧DPut H3 a y v H4∧D.nx σ H4
section
variable {X:Cx} {o i e value:Expr} {pos pos' tpos:Pos} {td ty tv:TE}
theorem dM (hu:X.A.units+1<cLine) (ho:PE X o td) (hi:PE X i ty) (hv:PE X value tv) (hs:swapsWith value (some (.Subscript o i pos')) pos.line X.env=pure false):
 PS X (.Assign [.Subscript o i pos'] value pos) (nI td ty tv):=by
 intro pins s σ H D I h
 refine wpAny_Assign_Subscript (CK (hv pins s σ H _ I h) fun r s1 ⟨v,H1,I1,rv,q1⟩=>CK (ho pins s1 σ H1 _ I1 q1) fun u s2 ⟨x,H2,I2,rx,q2⟩=>CK (hi pins s2 σ H2 _ I2 q2) fun iv s3 ⟨y,H3,I3,ry,a,H4,ex,g,q3⟩=> ?_) hs
 subst ex
 obtain rfl:u=Value.ref a:=rx
 exact W0 hu I3 g ry rv fun s4 I4=>⟨σ,H4,I4,q3⟩
end
theorem R4 {P:Program} {w:World} {H:Hp} (h:Heap) (hb:sysModules<h.objs.size):ObjOk P w H (h.push {cls:= .type "dict",data:= .dict #[]}) h.objs.size (.dK []):=
 ⟨Nat.zero_le _,beq_eq_false_iff_ne.mpr (Ne.symm (Nat.ne_of_lt hb)),[], .nil,Heap.DictOf.new h⟩
def lM:TE:=fun _ H Q=>∀p,H p=none→Q (.ref p) (upd H p (.dK []))
section
variable {X:Cx} {pos:Pos}
theorem QV:PE X (.Dict [] [] pos) lM:=fun pins s σ H Q I h=>
 wpAny_Dict_empty ⟨.ref s.heap.objs.size,_,I.laid (a:=s.heap.objs.size) (o:= .dK []) (t':=s.toks) (fun _ _ q=>Heap.get?_push_of_some _ q) (Nat.le_refl _) (R4 s.heap I.big),rfl,h _ (I.hok.fresh (Nat.le_refl _))⟩
end
abbrev VV:List (V×V)→List (Value×Value)→Prop:=Paired fun p q=>RelV p.1 q.1∧RelV p.2 q.2
def DS (kvs more:List (AI×V)):List (AI×V):=more.foldl (fun acc kv=>G3 acc kv.1 kv.2) kvs
theorem KV.merge:∀{more:List (AI×V)} {rs:List (AI×Value)} {kvs:List (AI×V)} {vs:List (AI×Value)},KV more rs→KV kvs vs→KV (DS kvs more) (merged vs rs):=by
 intro more rs kvs vs r
 unfold KV at r
 induction r generalizing kvs vs with
 |nil=>intro q;exact q
 | @cons p q ps qs h t ih=>
   intro r0
   have e:KV (G3 kvs p.1 p.2) (stored vs q.1 q.2):=by
    have:=r0.put p.1 h.2
    rw[←h.1];exact this
   exact ih e
theorem EY:∀(more kvs:List (AI×V)),(DS kvs more).length≤kvs.length+more.length
 |[],kvs=>by show kvs.length≤kvs.length+0;omega
 |p::r,kvs=>by
  have h1:=EY r (G3 kvs p.1 p.2)
  have h2:=GN kvs p.1 p.2
  show(DS (G3 kvs p.1 p.2) r).length≤_
  rw[List.length_cons];omega
theorem M0 {P:Program} {w:World}:∀{kvs:List (AI×V)} {ws:List (Value×Value)},VV (kvs.map fun kv=>(kV kv.1,kv.2)) ws→∃rs,Carries (AW P w) ws rs∧KV kvs rs
 |[],_,r=>by rw[List.map_nil]at r;cases r;exact⟨[],True.intro, .nil⟩
 |p::kvs,_,r=>by
  rw[List.map_cons]at r
  cases r with
  | @cons a b as bs h t=>
    obtain⟨rs,c,q⟩:=M0 (P:=P) (w:=w) t
    obtain⟨b1,b2⟩:=b
    exact⟨(p.1,b2)::rs,⟨HY h.1,rfl,c⟩, .cons ⟨rfl,h.2⟩ q⟩
section
variable {X:Cx} {pins:List (Addr×Obj)} {σ:St} {H:Hp} {s:Shared} {a:Addr} {y d:V} {u r:Value} {o:Option V} {A:Around} {E:Value→Shared→Prop}
theorem iW {Q:Value→Shared→Prop} (hu:A.units+1<cLine) (I:Inv X pins σ H s) (g:QC H a y o) (ry:RelV y u) (rd:RelV d r) (h:∀w' s',Inv X pins σ H s'→RelV (o.getD d) w'→Q w' s'):
 wpAny (model X.prog X.w) A (call (.builtin "dict.get") [.ref a,u,r]) Q E s:=by
 rcases g with⟨kvs,k,e,ey,l⟩|⟨kvs,k,b,e,ey,eb,l⟩
 ·subst ey
  obtain⟨z,hd,vs,rel,dd⟩:=DK I.hok e
  refine call_meetsIn PySem.F.slot_dict_get dd.typeIs PySem.F.entry_dict_get (PySem.F.args_dict_get_3 _ _ _) (meets_dict_get_default (AW X.prog X.w) a (HY ry) hd r) ⟨_,dd.mapOf,h _ _ (I.tok _) ?_⟩
  rw[l]
  exact(rel.val k).getD rd
 ·subst ey
  cases(show u=Value.ref b from ry)
  obtain⟨z,hd,xs,rel,dd⟩:=NL I.hok e
  refine call_meetsIn PySem.F.slot_dict_get dd.typeIs PySem.F.entry_dict_get (PySem.F.args_dict_get_3 _ _ _) (meetsH_dict_get_default (tupleKind (AW X.prog X.w)) a b hd r) ⟨tupleKind_room_in1 hu,k,xs,JU I.hok eb,dd,h _ _ (I.tok _) ?_⟩
  rw[l]
  exact(rel.val k).getD rd
end
section
variable {X:Cx} {pins:List (Addr×Obj)} {σ:St} {H:Hp} {s:Shared} {a:Addr} {kvs:List (AI×V)} {A:Around} {E:Value→Shared→Prop}
theorem WI {Q:Value→Shared→Prop} (I:Inv X pins σ H s) (e:Rd H a (.dK kvs)) (h:∀p s',H p=none→Inv X pins σ (upd H p (.dK kvs)) s'→Q (.ref p) s'):wpAny (model X.prog X.w) A (call (.type "dict") [.ref a]) Q E s:=by
 obtain⟨z,hd,vs,rel,dd⟩:=DK I.hok e
 refine kt_call_dict hd dd (by rw[←rel.length];exact z) fun h' dd' hs=> ?_
 refine h _ _ (I.hok.fresh (Nat.le_refl _)) (I.laid (a:=s.heap.objs.size) (o:= .dK kvs) (t':=s.toks) (fun b q hq=> ?_) (Nat.le_refl _) (MK z (beq_eq_false_iff_ne.mpr (Ne.symm (Nat.ne_of_lt I.big))) rel dd'))
 exact(hs.2 b (Nat.ne_of_lt (Heap.lt_size hq))).trans (Heap.get?_push_of_some _ hq)
end
end L2
namespace L2
open PySem PySem.Spec PyProof.Rows
section
open PySem.SeqAt
variable {X:Cx} {pins:List (Addr×Obj)} {σ:St} {H:Hp} {s:Shared}
theorem NP (K:PySem.W.Frag) {t:String} (ht:t= "NoneType" ∨t= "bool" ∨t= "int" ∨t= "str" ∨t= "list" ∨t= "tuple" ∨t= "dict"):∀{cs:List String},(∀c∈cs,c= "str" ∨c= "int" ∨c= "bool" ∨c= "tuple" ∨c= "list")→
 PySem.W.kitAny K (.type t) (cs.map Value.type)=some (cs.any (CC t))
 |[],_=>rfl
 |c::r,h=>by
  have e:=N7 K ht (h c List.mem_cons_self)
  have ih:=NP K ht (cs:=r) fun c' hc=>h c' (List.mem_cons_of_mem _ hc)
  rw[List.map_cons,List.any_cons]
  unfold PySem.W.kitAny
  rw[e]
  cases CC t c with
  |true=>rfl
  |false=>simpa using ih
theorem eF {cs:List String}:∀{us:List Value},Vals (cs.map V.ty) us→us=cs.map Value.type:=by
 induction cs with
 |nil=>intro us r;cases r;rfl
 |cons b bs ih=>intro us r;cases r with|cons r1 r2=>rw[ih r2,show _=Value.type b from r1];rfl
end
theorem A8 {A:Around} {k:Nat} (hr:Room k A):A.units+151<cLine:=by
 have:=hr.un
 omega
section
variable {X:Cx}
theorem PN:OpR X (compareOp .IsNot) (fun x y H Q=>∃i j,x= .bl i∧y= .bl j∧Q (.bl (i !=j)) H):=by
 intro pins s σ H x y v u Q I rx ry h
 obtain⟨i,j,rfl,rfl,q⟩:=h
 cases rx
 cases ry
 exact isnot_bool ⟨.bl _,H,I,rfl,q⟩
def UE:R2:=fun x y H Q=>(y= .non∧Q (.bl (!decide (x= .non))) H)∨∃i j,x= .bl i∧y= .bl j∧Q (.bl (i !=j)) H
theorem JO:OpR X (compareOp .IsNot) UE:=cF.or PN
end
end L2
namespace L2
open PySem PySem.Spec PyProof.Rows HT
section
variable {prog:Program} {w:World} {A:Around} {E:Value→Shared→Prop} {s:Shared}
theorem Q5 {t sl:Addr} {items:Array Value} {vl vu:Value} {lo hi:Option Int} {Q:Value→Shared→Prop} (ht:IsTup s.heap t items) (hs:s.heap.IsSliceOf sl vl vu .none) (pl:IsPart vl lo) (pu:IsPart vu hi)
 (hw:CZ items.size 0 lo=0∧CZ items.size items.size hi=items.size) (h:Q (.ref t) s):wpAny (model prog w) A (getItem (.ref t) (.ref sl)) Q E s:=by
 have hTs:s.TypeIs (.ref sl) "slice":=by
  obtain⟨os,hos,hcs,_⟩:=id hs
  exact⟨os,hos,hcs⟩
 unfold getItem
 try with_reducible refine wpAny_holding ?_
 first|refine wpAny_bind (wpAny_pure ?_)|skip
 refine wpAny_bind (wpAny_sequenceKey ht.typeIs (by decide) ?_)
 refine wpAny_bind (wpAny_callSpecial?_slot (name:=Str.ofString "__getitem__") ht.typeIs PyProof.Rows.slot_tuple_getitem
  (wpAny_call_entry PyProof.Rows.slot_tuple_getitem ht.typeIs entry_tuple_getitem ?_ (args_tuple_getitem _ _)))
 show wpAny _ _ (Builtin.Tuple.tupleItemsOf (.ref t)>>=_) _ _ s
 refine wpAny_bind (tupleItemsOf_ ht ?_)
 refine wpAny_bind (wpAny_typeOf hTs ?_)
 rw[if_pos (by decide)]
 refine wpAny_bind (FD hs pl pu ?_)
 have yes:(((CZ items.size 0 lo:Nat):Int)==0&&(1:Int)==1&&(CZ items.size items.size hi-CZ items.size 0 lo)==items.size)=true:=by
  rw[hw.1,hw.2];simp
 show wpAny _ _ (if(((CZ items.size 0 lo:Nat):Int)==0&&(1:Int)==1&&(CZ items.size items.size hi-CZ items.size 0 lo)==items.size)=true then _ else _) _ _ s
 rw[if_pos yes]
 refine wpAny_bind (m:=Builtin.Tuple.tupleIsExact _) (wpAny_bind (wpAny_typeOf ht.typeIs (wpAny_pure ?_)))
 show wpAny _ _ (if(Value.type "tuple"==Value.type "tuple")=true then _ else _) _ _ s
 rw[if_pos (by decide)]
 first
  |exact wpAny_bind (wpAny_pure (wpAny_pure ⟨_,rfl,wpAny_pure h⟩))
  |exact wpAny_bind (wpAny_rule (wpAny_pure ⟨_,rfl,wpAny_pure h⟩))
end
end L2
namespace ZS
open PySem PyProof.Rows
def N9 (x:Str):String:=if x.cps.all (· <128)=true then "str_ascii_iterator" else "str_iterator"
abbrev X4 (x:Str) (t:Tok):Obj:={cls:= .type (N9 x),data:= .fields #[.str x t, .int 0 0]}
theorem rC {prog:Program} {w:World} {A:Around} (hh:A.handled=none) (it:Addr) (x:Str) (t:Tok):
 Draws prog w A it [it] x.cps.size (fun i v=>∃c u,x.cps[i]? =some c∧v= .str ⟨#[c]⟩ u) (fun i h=>h.IsStrIter it (N9 x) x t i):=by
 unfold N9
 by_cases ha:x.cps.all (· <128)=true
 ·rw[if_pos ha];exact Draws.strAscii hh it x t
 ·rw[if_neg ha];exact Draws.strWide hh it x t
structure ZA (z TI TO i1 i2:Addr) (f1 f2:List Addr):Prop where
 TIz:TI≠z
 TOz:TO≠z
 i1z:i1≠z
 i2z:i2≠z
 TITO:TI≠TO
 TIi1:TI≠i1
 TIi2:TI≠i2
 TOi1:TO≠i1
 TOi2:TO≠i2
 i12:i1≠i2
 f1z:∀b∈f1,b≠z
 f1TO:∀b∈f1,b≠TO
 f1i2:∀b∈f1,b≠i2
 f2z:∀b∈f2,b≠z
 f2TO:∀b∈f2,b≠TO
 f2i1:∀b∈f2,b≠i1
section
variable {prog:Program} {w:World} {A:Around} {E:Value→Shared→Prop} {s:Shared}
theorem WQ {x:Str} {t:Tok} {Q:Value→Shared→Prop} (hQ:Q (.ref s.heap.objs.size) {s with heap:=s.heap.push (X4 x t)}):wpAny (model prog w) A (pyIter (.str x t)) Q E s:=by
 unfold X4 N9 at hQ
 cases ha:x.cps.all (· <128)
 ·rw[ha]at hQ;exact wpAny_pyIter_wide ha hQ
 ·rw[ha]at hQ;exact wpAny_pyIter_ascii ha hQ
theorem W2 {z TI TO i1 i2:Addr} {f1 f2:List Addr} {k n1 n2:Nat} {P1 P2:Nat→Value→Prop} {St1 St2:Nat→Heap→Prop} {a b:Value} {Q:Value→Shared→Prop} (Z:ZA z TI TO i1 i2 f1 f2)
 (D1:Draws prog w A i1 f1 n1 P1 St1) (D2:Draws prog w A i2 f2 n2 P2 St2)
 (hz:IsZip s.heap z TI TO .none) (hTI:IsPair s.heap TI (.ref i1) (.ref i2)) (hTO:IsPair s.heap TO a b) (h1:St1 k s.heap) (h2:St2 k s.heap) (hk1:k<n1) (hk2:k<n2)
 (hi1:∃o,s.heap.get? i1=some o) (hi2:∃o,s.heap.get? i2=some o)
 (hQ:∀x y h' tk,P1 k x→P2 k y→IsZip h' z TI TO (rawInt s.heap.objs.size)→IsPair h' TO x y→St1 (k+1) h'→St2 (k+1) h'→IsPair h' s.heap.objs.size x y→h'.objs.size=s.heap.objs.size+1→
   (∀c o,c≠z→c≠TO→c≠i1→c≠i2→s.heap.get? c=some o→h'.get? c=some o)→Q (.ref s.heap.objs.size) {s with heap:=h',toks:=tk}):
 wpAny (model prog w) A (Builtin.«zip.__next__» ⟨[.ref z],[]⟩) (fun fin s'=>∃v,fin= .done (.ret v)∧Q v s') E s:=by
 obtain⟨hp,g,d,tk₀,os⟩:=s
 show wpAny _ _ (field (.ref z) 2>>=_) _ _ _
 refine wpAny_bind (wpAny_field hz rfl (x:= .bool false) rfl ?_)
 show wpAny _ _ (field (.ref z) 3>>=_) _ _ _
 refine wpAny_bind (wpAny_field hz rfl (x:= .ref TI) rfl ?_)
 refine wpAny_bind (wpAny_seqItems hTI rfl ?_)
 show wpAny _ _ (Builtin.SmallTypes.ownedTupleIsFree (.ref z)>>=_) _ _ _
 refine wpAny_bind ?_
 unfold Builtin.SmallTypes.ownedTupleIsFree
 refine wpAny_bind (wpAny_field hz rfl (x:= .none) rfl (wpAny_pure ?_))
 simp only[if_true]
 refine wpAny_bind (wpAny_rule ?_)
 refine wpAny_bind (wpAny_field hz rfl (x:= .ref TO) rfl ?_)
 refine wpAny_bind (wpAny_setField_rec hz (by simp) fun h₁ hz₁ hs₁=> ?_)
 replace hz₁:IsZip h₁ z TI TO .ellipsis:=hz₁
 replace hs₁:Heap.SameBut z hp h₁:=hs₁
 refine wpAny_bind ?_
 simp only[List.zipIdx_cons,List.zipIdx_nil,List.forIn_cons,List.forIn_nil]
 refine wpAny_bind (wpAny_bind (wpAny_onRaise ?_))
 show wpAny _ _ (Builtin.SmallTypes.nextOf (.ref i1)>>=_) _ _ _
 have h1₁:St1 k h₁:=D1.frame _ _ _ h1 fun b hb o e=>hs₁.extBut _ _ (Z.f1z b hb) e
 refine wpAny_bind (D1.item k _ _ _ hk1 h1₁ fun x h₂ tk₂ hPx h1₂ hs₂=>wpAny_pure ?_)
 replace hs₂:Heap.SameBut i1 h₁ h₂:=hs₂
 have hTO₂:IsPair h₂ TO a b:=hs₂.extBut _ _ Z.TOi1 (hs₁.extBut _ _ Z.TOz hTO)
 refine wpAny_bind (wpAny_seqItems hTO₂ rfl ?_)
 refine wpAny_bind (wpAny_updateSeq_pair hTO₂ fun h₃ hTO₃ hs₃=> ?_)
 replace hTO₃:IsPair h₃ TO x b:=hTO₃
 replace hs₃:Heap.SameBut TO h₂ h₃:=hs₃
 refine wpAny_bind (wpAny_letGo (wpAny_pure ?_))
 refine wpAny_bind (wpAny_bind (wpAny_onRaise ?_))
 show wpAny _ _ (Builtin.SmallTypes.nextOf (.ref i2)>>=_) _ _ _
 have h2₃:St2 k h₃:=D2.frame _ _ _ h2 fun b hb o e=>hs₃.extBut _ _ (Z.f2TO b hb) (hs₂.extBut _ _ (Z.f2i1 b hb) (hs₁.extBut _ _ (Z.f2z b hb) e))
 refine wpAny_bind (D2.item k _ _ _ hk2 h2₃ fun y h₄ tk₄ hPy h2₄ hs₄=>wpAny_pure ?_)
 replace hs₄:Heap.SameBut i2 h₃ h₄:=hs₄
 have hTO₄:IsPair h₄ TO x b:=hs₄.extBut _ _ Z.TOi2 hTO₃
 refine wpAny_bind (wpAny_seqItems hTO₄ rfl ?_)
 refine wpAny_bind (wpAny_updateSeq_pair hTO₄ fun h₅ hTO₅ hs₅=> ?_)
 replace hTO₅:IsPair h₅ TO x y:=hTO₅
 replace hs₅:Heap.SameBut TO h₄ h₅:=hs₅
 refine wpAny_bind (wpAny_letGo (wpAny_pure (wpAny_pure ?_)))
 refine wpAny_bind (wpAny_seqItems hTO₅ rfl ?_)
 refine wpAny_bind (wpAny_newTuple ?_)
 have hsz:h₅.objs.size=hp.objs.size:=by rw[hs₅.1,hs₄.1,hs₃.1,hs₂.1,hs₁.1]
 have hz₅:IsZip h₅ z TI TO .ellipsis:=hs₅.extBut _ _ Z.TOz.symm (hs₄.extBut _ _ Z.i2z.symm (hs₃.extBut _ _ Z.TOz.symm (hs₂.extBut _ _ Z.i1z.symm hz₁)))
 have hk₅:∀c o,c≠z→c≠TO→c≠i1→c≠i2→hp.get? c=some o→h₅.get? c=some o:=fun c o c1 c2 c3 c4 e=>
  hs₅.extBut _ _ c2 (hs₄.extBut _ _ c4 (hs₃.extBut _ _ c2 (hs₂.extBut _ _ c3 (hs₁.extBut _ _ c1 e))))
 have hzlt:z<h₅.objs.size:=Heap.lt_size hz₅
 show wpAny _ _ (Builtin.SmallTypes.ownedTupleHandOut (.ref z) (.ref h₅.objs.size)>>=_) _ _ _
 refine wpAny_bind ?_
 unfold Builtin.SmallTypes.ownedTupleHandOut
 have hz₆:IsZip (h₅.push {cls:= .type "tuple",data:= .seq #[x,y]}) z TI TO .ellipsis:=Heap.get?_push_of_some _ hz₅
 refine wpAny_bind (wpAny_setField_rec hz₆ (by simp) fun h₇ hz₇ hs₇=> ?_)
 replace hz₇:IsZip h₇ z TI TO (rawInt h₅.objs.size):=hz₇
 refine wpAny_setField_rec hz₇ (by simp) fun h₈ hz₈ hs₈=> ?_
 replace hz₈:IsZip h₈ z TI TO (rawInt h₅.objs.size):=hz₈
 replace hs₇:Heap.SameBut z (h₅.push {cls:= .type "tuple",data:= .seq #[x,y]}) h₇:=hs₇
 replace hs₈:Heap.SameBut z h₇ h₈:=hs₈
 have up:∀c o,c≠z→h₅.get? c=some o→h₈.get? c=some o:=fun c o c1 e=>hs₈.extBut _ _ c1 (hs₇.extBut _ _ c1 (Heap.get?_push_of_some _ e))
 have hT₈:IsPair h₈ h₅.objs.size x y:=hs₈.extBut _ _ (Nat.ne_of_gt hzlt) (hs₇.extBut _ _ (Nat.ne_of_gt hzlt) (Heap.get?_push_size _ rfl))
 have hz8:h₈.objs.size=h₅.objs.size+1:=by rw[hs₈.1,hs₇.1,Heap.size_push]
 rw[hsz]at hz₈ hT₈ hz8
 refine wpAny_pure ⟨_,rfl,?_⟩
 show Q (.ref h₅.objs.size) _
 rw[hsz]
 refine hQ x y h₈ tk₄ hPx hPy hz₈ (up _ _ Z.TOz hTO₅) ?_ ?_ hT₈ hz8 fun c o c1 c2 c3 c4 e=>up c o c1 (hk₅ c o c1 c2 c3 c4 e)
 ·refine D1.frame _ _ _ h1₂ fun b hb o e=>up _ _ (Z.f1z b hb) (hs₅.extBut _ _ (Z.f1TO b hb) (hs₄.extBut _ _ (Z.f1i2 b hb) (hs₃.extBut _ _ (Z.f1TO b hb) e)))
 ·refine D2.frame _ _ _ h2₄ fun b hb o e=>up _ _ (Z.f2z b hb) (hs₅.extBut _ _ (Z.f2TO b hb) e)
theorem X2 {z TI TO i1 i2:Addr} {f1 f2:List Addr} {k n1 n2:Nat} {P1 P2:Nat→Value→Prop} {St1 St2:Nat→Heap→Prop} {a b:Value} {Q:Fin→Shared→Prop} (Z:ZA z TI TO i1 i2 f1 f2)
 (D1:Draws prog w A i1 f1 n1 P1 St1) (D2:Draws prog w A i2 f2 n2 P2 St2)
 (hz:IsZip s.heap z TI TO .none) (hTI:IsPair s.heap TI (.ref i1) (.ref i2)) (hTO:IsPair s.heap TO a b) (h1:St1 k s.heap) (h2:St2 k s.heap) (hk1:k≤n1) (hk2:k≤n2) (hend:k=n1∨k=n2)
 (hE:∀h' e tk,(∀c o,c≠z→c≠TO→c≠i1→c≠i2→s.heap.get? c=some o→h'.get? c=some o)→(∃o,h'.get? e=some o∧o.cls= .type "StopIteration")→E (.ref e) {s with heap:=h',toks:=tk}):
 wpAny (model prog w) A (Builtin.«zip.__next__» ⟨[.ref z],[]⟩) Q E s:=by
 obtain⟨hp,g,d,tk₀,os⟩:=s
 show wpAny _ _ (field (.ref z) 2>>=_) _ _ _
 refine wpAny_bind (wpAny_field hz rfl (x:= .bool false) rfl ?_)
 show wpAny _ _ (field (.ref z) 3>>=_) _ _ _
 refine wpAny_bind (wpAny_field hz rfl (x:= .ref TI) rfl ?_)
 refine wpAny_bind (wpAny_seqItems hTI rfl ?_)
 show wpAny _ _ (Builtin.SmallTypes.ownedTupleIsFree (.ref z)>>=_) _ _ _
 refine wpAny_bind ?_
 unfold Builtin.SmallTypes.ownedTupleIsFree
 refine wpAny_bind (wpAny_field hz rfl (x:= .none) rfl (wpAny_pure ?_))
 simp only[if_true]
 refine wpAny_bind (wpAny_rule ?_)
 refine wpAny_bind (wpAny_field hz rfl (x:= .ref TO) rfl ?_)
 refine wpAny_bind (wpAny_setField_rec hz (by simp) fun h₁ hz₁ hs₁=> ?_)
 replace hz₁:IsZip h₁ z TI TO .ellipsis:=hz₁
 replace hs₁:Heap.SameBut z hp h₁:=hs₁
 refine wpAny_bind ?_
 simp only[List.zipIdx_cons,List.zipIdx_nil,List.forIn_cons,List.forIn_nil]
 refine wpAny_bind (wpAny_bind (wpAny_onRaise ?_))
 show wpAny _ _ (Builtin.SmallTypes.nextOf (.ref i1)>>=_) _ _ _
 have h1₁:St1 k h₁:=D1.frame _ _ _ h1 fun b hb o e=>hs₁.extBut _ _ (Z.f1z b hb) e
 by_cases he1:k=n1
 ·subst he1
  refine wpAny_bind (D1.done _ _ _ h1₁ fun h₂ e hs₂ he=> ?_)
  replace hs₂:Heap.ExtBut i1 h₁ h₂:=hs₂
  obtain⟨oe,hoe,hce⟩:=he
  have hz₂:IsZip h₂ z TI TO .ellipsis:=hs₂ _ _ Z.i1z.symm hz₁
  have hez:e≠z:=fun x=>by subst x;rw[hz₂]at hoe;cases hoe;simp at hce
  refine wpAny_setField_rec hz₂ (by simp) fun h₃ _ hs₃=>hE h₃ e _ (fun c o c1 _ c3 _ x=>hs₃.extBut _ _ c1 (hs₂ _ _ c3 (hs₁.extBut _ _ c1 x))) ⟨oe,hs₃.extBut _ _ hez hoe,hce⟩
 ·have he2:k=n2:=hend.resolve_left he1
  subst he2
  refine wpAny_bind (D1.item k _ _ _ (by omega) h1₁ fun x h₂ tk₂ hPx h1₂ hs₂=>wpAny_pure ?_)
  replace hs₂:Heap.SameBut i1 h₁ h₂:=hs₂
  have hTO₂:IsPair h₂ TO a b:=hs₂.extBut _ _ Z.TOi1 (hs₁.extBut _ _ Z.TOz hTO)
  refine wpAny_bind (wpAny_seqItems hTO₂ rfl ?_)
  refine wpAny_bind (wpAny_updateSeq_pair hTO₂ fun h₃ hTO₃ hs₃=> ?_)
  replace hs₃:Heap.SameBut TO h₂ h₃:=hs₃
  refine wpAny_bind (wpAny_letGo (wpAny_pure ?_))
  refine wpAny_bind (wpAny_bind (wpAny_onRaise ?_))
  show wpAny _ _ (Builtin.SmallTypes.nextOf (.ref i2)>>=_) _ _ _
  have h2₃:St2 k h₃:=D2.frame _ _ _ h2 fun b hb o e=>hs₃.extBut _ _ (Z.f2TO b hb) (hs₂.extBut _ _ (Z.f2i1 b hb) (hs₁.extBut _ _ (Z.f2z b hb) e))
  refine wpAny_bind (D2.done _ _ _ h2₃ fun h₄ e hs₄ he=> ?_)
  replace hs₄:Heap.ExtBut i2 h₃ h₄:=hs₄
  obtain⟨oe,hoe,hce⟩:=he
  have hz₄:IsZip h₄ z TI TO .ellipsis:=hs₄ _ _ Z.i2z.symm (hs₃.extBut _ _ Z.TOz.symm (hs₂.extBut _ _ Z.i1z.symm hz₁))
  have hez:e≠z:=fun x=>by subst x;rw[hz₄]at hoe;cases hoe;simp at hce
  refine wpAny_setField_rec hz₄ (by simp) fun h₅ _ hs₅=>hE h₅ e _ (fun c o c1 c2 c3 c4 x=>hs₅.extBut _ _ c1 (hs₄ _ _ c4 (hs₃.extBut _ _ c2 (hs₂.extBut _ _ c3 (hs₁.extBut _ _ c1 x))))) ⟨oe,hs₅.extBut _ _ hez hoe,hce⟩
theorem QO {z TI TO i1 i2:Addr} {f1 f2:List Addr} {k n1 n2:Nat} {P1 P2:Nat→Value→Prop} {St1 St2:Nat→Heap→Prop} {a b:Value} {Q:Option Value→Shared→Prop} (Z:ZA z TI TO i1 i2 f1 f2)
 (D1:Draws prog w A.in1 i1 f1 n1 P1 St1) (D2:Draws prog w A.in1 i2 f2 n2 P2 St2)
 (hz:IsZip s.heap z TI TO .none) (hTI:IsPair s.heap TI (.ref i1) (.ref i2)) (hTO:IsPair s.heap TO a b) (h1:St1 k s.heap) (h2:St2 k s.heap) (hk1:k<n1) (hk2:k<n2)
 (hQ:∀x y h' tk,P1 k x→P2 k y→IsZip h' z TI TO (rawInt s.heap.objs.size)→IsPair h' TO x y→St1 (k+1) h'→St2 (k+1) h'→IsPair h' s.heap.objs.size x y→h'.objs.size=s.heap.objs.size+1→
   (∀c o,c≠z→c≠TO→c≠i1→c≠i2→s.heap.get? c=some o→h'.get? c=some o)→Q (some (.ref s.heap.objs.size)) {s with heap:=h',toks:=tk}):
 wpAny (model prog w) A (pyNext (.ref z)) Q E s:=by
 have hT:s.TypeIs (.ref z) "zip":=⟨_,hz,rfl⟩
 unfold pyNext
 exact wpAny_bind (wpAny_attempt (wpAny_callSpecial?_slot (name:=Str.ofString "__next__") hT F.slot_zip_next
  (wpAny_call_entry F.slot_zip_next hT F.entry_zip_next
    (W2 Z D1 D2 hz hTI hTO h1 h2 hk1 hk2 (D1.live _ _ h1) (D2.live _ _ h2) fun x y h' tk a1 a2 a3 a4 a5 a6 a7 a8 a9=>wpAny_pure (hQ x y h' tk a1 a2 a3 a4 a5 a6 a7 a8 a9)) (F.args_zip_next_1 _))))
theorem SJ {z TI TO i1 i2:Addr} {f1 f2:List Addr} {k n1 n2:Nat} {P1 P2:Nat→Value→Prop} {St1 St2:Nat→Heap→Prop} {a b:Value} {Q:Option Value→Shared→Prop} (Z:ZA z TI TO i1 i2 f1 f2)
 (D1:Draws prog w A.in1 i1 f1 n1 P1 St1) (D2:Draws prog w A.in1 i2 f2 n2 P2 St2)
 (hz:IsZip s.heap z TI TO .none) (hTI:IsPair s.heap TI (.ref i1) (.ref i2)) (hTO:IsPair s.heap TO a b) (h1:St1 k s.heap) (h2:St2 k s.heap) (hk1:k≤n1) (hk2:k≤n2) (hend:k=n1∨k=n2)
 (hQ:∀h' tk,(∀c o,c≠z→c≠TO→c≠i1→c≠i2→s.heap.get? c=some o→h'.get? c=some o)→Q none {s with heap:=h',toks:=tk}):wpAny (model prog w) A (pyNext (.ref z)) Q E s:=by
 have hT:s.TypeIs (.ref z) "zip":=⟨_,hz,rfl⟩
 unfold pyNext
 refine wpAny_bind (wpAny_attempt (wpAny_callSpecial?_slot (name:=Str.ofString "__next__") hT F.slot_zip_next
  (wpAny_call_entry F.slot_zip_next hT F.entry_zip_next (X2 Z D1 D2 hz hTI hTO h1 h2 hk1 hk2 hend fun h' e tk hk he=> ?_) (F.args_zip_next_1 _))))
 obtain⟨o,ho,hc⟩:=he
 refine wpAny_bind (wpAny_isInstance (T:= "StopIteration") (b:=true) ⟨o,ho,hc⟩ isSubtype_stop ?_)
 exact wpAny_pure (hQ _ _ hk)
end
inductive Src (h:Heap):Value→Obj→Prop where
 |str (x:Str) (t:Tok):Src h (.str x t) (X4 x t)
 |lst {l:Addr} {items:Array Value} (hl:h.IsList l items):Src h (.ref l) {cls:= .type "list_iterator",data:= .fields #[.ref l, .int 0 0]}
 |tup {l:Addr} {items:Array Value} (hl:h.IsTuple l items):Src h (.ref l) {cls:= .type "tuple_iterator",data:= .fields #[.ref l, .int 0 0]}
theorem Src.push {h:Heap} {x:Value} {ob o:Obj} (S:Src h x ob):Src (h.push o) x ob:=by
 cases S with
 |str x t=>exact .str x t
 |lst hl=>
  obtain⟨o',e,r⟩:=hl
  exact .lst ⟨o',Heap.get?_push_of_some _ e,r⟩
 |tup hl=>
  obtain⟨o',e,r⟩:=hl
  exact .tup ⟨o',Heap.get?_push_of_some _ e,r⟩
theorem Src.live {h:Heap} {x:Value} {ob:Obj} (S:Src h x ob):ob.isFreed=false:=by cases S<;>rfl
section
variable {prog:Program} {w:World} {A:Around} {E:Value→Shared→Prop} {s:Shared}
theorem PV {x:Value} {ob:Obj} {Q:Value→Shared→Prop} (S:Src s.heap x ob) (hQ:Q (.ref s.heap.objs.size) {s with heap:=s.heap.push ob}):wpAny (model prog w) A (pyIter x) Q E s:=by
 cases S with
 |str x t=>exact WQ hQ
 |lst hl=>exact wpAny_pyIter_list hl hQ
 |tup hl=>exact wpAny_pyIter_tuple hl hQ
end
abbrev fA (h:Heap) (o1:Obj):Heap:=h.push o1
abbrev oC (h:Heap) (o1 o2:Obj):Heap:=(fA h o1).push o2
abbrev sS (h:Heap) (o1 o2:Obj):Heap:=(oC h o1 o2).push {cls:= .type "tuple",data:= .seq #[.ref h.objs.size, .ref (fA h o1).objs.size]}
abbrev sW (h:Heap) (o1 o2:Obj):Heap:=(sS h o1 o2).push {cls:= .type "tuple",data:= .seq #[.none, .none]}
abbrev gG (h:Heap) (o1 o2:Obj):Heap:=(sW h o1 o2).push {cls:= .type "zip",data:= .fields #[.none, .bool false, .bool false, .ref (oC h o1 o2).objs.size, .ref (sS h o1 o2).objs.size]}
set_option maxHeartbeats 4000000 in
theorem VT (x y:Value) (o1 o2:Obj):
 Meets (Builtin.«zip.__new__» ⟨[.type "zip",x,y],[]⟩) (fun _ R s=>Src s.heap x o1∧Src s.heap y o2∧R (.ok (.ret (.ref (sW s.heap o1 o2).objs.size))) {s with heap:=gG s.heap o1 o2}):=
 .of_wp fun prog w A R s h=>by
   obtain⟨hp,g,d,tk,os⟩:=s
   have hsub:=sub_zip
   obtain⟨S1,S2,h⟩:=h
   have S2':Src (fA hp o1) y o2:=S2.push
   have i1:∀{Q:Value→Shared→Prop} {E:Value→Shared→Prop} {A:Around},Q (.ref hp.objs.size) ⟨hp.push o1,g,d,tk,os⟩→wpAny (model prog w) A (pyIter x) Q E ⟨hp,g,d,tk,os⟩:=fun{Q E A} q=>PV (s:=⟨hp,g,d,tk,os⟩) S1 q
   have i2:∀{Q:Value→Shared→Prop} {E:Value→Shared→Prop} {A:Around},Q (.ref (fA hp o1).objs.size) ⟨oC hp o1 o2,g,d,tk,os⟩→wpAny (model prog w) A (pyIter y) Q E ⟨fA hp o1,g,d,tk,os⟩:=fun{Q E A} q=>PV (s:=⟨fA hp o1,g,d,tk,os⟩) S2' q
   wp_walk using i1,i2
   exact⟨_,rfl,h⟩
section
variable {prog:Program} {w:World} {A:Around} {E:Value→Shared→Prop} {s:Shared}
theorem Z3 {x y:Value} {o1 o2:Obj} {Q:Value→Shared→Prop} (S1:Src s.heap x o1) (S2:Src s.heap y o2)
 (h:∀h',IsZip h' (s.heap.objs.size+4) (s.heap.objs.size+2) (s.heap.objs.size+3) .none→IsPair h' (s.heap.objs.size+2) (.ref s.heap.objs.size) (.ref (s.heap.objs.size+1))→
   IsPair h' (s.heap.objs.size+3) .none .none→h'.get? s.heap.objs.size=some o1→h'.get? (s.heap.objs.size+1)=some o2→h'.objs.size=s.heap.objs.size+5→
   (∀c o,s.heap.get? c=some o→h'.get? c=some o)→Q (.ref (s.heap.objs.size+4)) {s with heap:=h'}):
 wpAny (model prog w) A (call (.type "zip") [x,y]) Q E s:=by
 refine callType_new F.called_zip (by decide) (F.typeCall_zip_2 _ _) (F.newCall_zip_2 _ _) (fun obj=>F.args_object_init_3 obj _ _) F.entry_zip_new (VT x y o1 o2) ?_
 have z1:(fA s.heap o1).objs.size=s.heap.objs.size+1:=Heap.size_push ..
 have z2:(oC s.heap o1 o2).objs.size=s.heap.objs.size+2:=by rw[Heap.size_push,z1]
 have z3:(sS s.heap o1 o2).objs.size=s.heap.objs.size+3:=by rw[Heap.size_push,z2]
 have z4:(sW s.heap o1 o2).objs.size=s.heap.objs.size+4:=by rw[Heap.size_push,z3]
 have z5:(gG s.heap o1 o2).objs.size=s.heap.objs.size+5:=by rw[Heap.size_push,z4]
 have g5:(gG s.heap o1 o2).get? (sW s.heap o1 o2).objs.size=some _:=Heap.get?_push_size _ rfl
 have g4:(gG s.heap o1 o2).get? (sS s.heap o1 o2).objs.size=some _:=Heap.get?_push_of_some _ (Heap.get?_push_size _ rfl)
 have g3:(gG s.heap o1 o2).get? (oC s.heap o1 o2).objs.size=some _:=Heap.get?_push_of_some _ (Heap.get?_push_of_some _ (Heap.get?_push_size _ rfl))
 have g2:(gG s.heap o1 o2).get? (fA s.heap o1).objs.size=some _:=Heap.get?_push_of_some _ (Heap.get?_push_of_some _ (Heap.get?_push_of_some _ (Heap.get?_push_size _ S2.live)))
 have g1:(gG s.heap o1 o2).get? s.heap.objs.size=some _:=Heap.get?_push_of_some _ (Heap.get?_push_of_some _ (Heap.get?_push_of_some _ (Heap.get?_push_of_some _ (Heap.get?_push_size _ S1.live))))
 refine⟨S1,S2,?_⟩
 show _∧_
 rw[z2,z3,z4]at g5
 rw[z1,z2]at g3
 rw[z3]at g4
 rw[z1]at g2
 rw[z4]
 exact⟨⟨_,g5,rfl⟩,h _ g5 g3 g4 g1 g2 z5 fun c o x=>
  Heap.get?_push_of_some _ (Heap.get?_push_of_some _ (Heap.get?_push_of_some _ (Heap.get?_push_of_some _ (Heap.get?_push_of_some _ x))))⟩
end
end ZS
namespace ES
open PySem PyProof.Rows
open AutoSeq1 (wpAny_loadPart')
section
variable {prog:Program} {w:World} {A:Around} {E:Value→Shared→Prop} {s:Shared}
theorem JJ {it l:Addr} {i:Nat} {items} {x:Value} {Q:Value→Shared→Prop} (hit:s.heap.IsTupleIter it l i)
 (hl:s.heap.IsTuple l items) (hx:items[i]? =some x)
 (hQ:∀h',h'.IsTupleIter it l (i+1)→Heap.SameBut it s.heap h'→Q x {s with heap:=h'}):
 wpAny (model prog w) A (Builtin.SmallTypes.nextOf (.ref it)) Q E s:=by
 obtain⟨o,ho,hc,hd⟩:=id hit
 obtain⟨ol,hol,_,nl,hdl⟩:=hl
 unfold Builtin.SmallTypes.nextOf
 refine wpAny_bind (wpAny_callSpecial?_slot (name:=Str.ofString "__next__") hit.typeIs F.slot_tuple_iterator_next
  (wpAny_call_entry F.slot_tuple_iterator_next hit.typeIs F.entry_tuple_iterator_next ?_ (F.args_tuple_iterator_next_1 _)))
 show wpAny _ _ (field (.ref it) 0>>=_) _ _ s
 refine wpAny_bind (wpAny_field ho hd (x:= .ref l) rfl ?_)
 show wpAny _ _ (if(Value.ref l==Value.none)=true then _ else _) _ _ s
 rw[if_neg (show¬((Value.ref l==Value.none)=true) from Bool.false_ne_true)]
 show wpAny _ _ (field (.ref it) 1>>=_) _ _ s
 refine wpAny_bind (wpAny_field ho hd (x:= .int i 0) rfl ?_)
 show wpAny _ _ (seqItems? (.ref l)>>=_) _ _ s
 refine wpAny_bind (wpAny_seqItems hol hdl ?_)
 simp only[Int.toNat_natCast,hx]
 refine wpAny_bind (wpAny_setField ho hd (by simp) (wpAny_pure ⟨x,rfl,wpAny_pure (hQ _ ?_ (Heap.SameBut.update ..))⟩))
 exact⟨_,Heap.get?_update_self _ ho (Obj.isFreed_of_fields (Obj.data_mapFields hd _)),(Obj.cls_mapFields ..).trans hc,by
  rw[Obj.data_mapFields hd];simp[rawInt]⟩
theorem K0 {it l:Addr} {i:Nat} {items} {Q:Value→Shared→Prop} (hh:A.handled=none)
 (hit:s.heap.IsTupleIter it l i) (hl:s.heap.IsTuple l items) (hx:items[i]? =none)
 (hE:∀h' e,Heap.ExtBut it s.heap h'→(∃o,h'.get? e=some o∧o.cls= .type "StopIteration")→E (.ref e) {s with heap:=h'}):
 wpAny (model prog w) A (Builtin.SmallTypes.nextOf (.ref it)) Q E s:=by
 obtain⟨o,ho,hc,hd⟩:=id hit
 obtain⟨ol,hol,_,nl,hdl⟩:=hl
 unfold Builtin.SmallTypes.nextOf
 refine wpAny_bind (wpAny_callSpecial?_slot (name:=Str.ofString "__next__") hit.typeIs F.slot_tuple_iterator_next
  (wpAny_call_entry F.slot_tuple_iterator_next hit.typeIs F.entry_tuple_iterator_next ?_ (F.args_tuple_iterator_next_1 _)))
 show wpAny _ _ (field (.ref it) 0>>=_) _ _ s
 refine wpAny_bind (wpAny_field ho hd (x:= .ref l) rfl ?_)
 show wpAny _ _ (if(Value.ref l==Value.none)=true then _ else _) _ _ s
 rw[if_neg (show¬((Value.ref l==Value.none)=true) from Bool.false_ne_true)]
 show wpAny _ _ (field (.ref it) 1>>=_) _ _ s
 refine wpAny_bind (wpAny_field ho hd (x:= .int i 0) rfl ?_)
 show wpAny _ _ (seqItems? (.ref l)>>=_) _ _ s
 refine wpAny_bind (wpAny_seqItems hol hdl ?_)
 simp only[Int.toNat_natCast,hx]
 refine wpAny_bind (wpAny_rule (wpAny_bind (wpAny_setField ho hd (by simp) ?_)))
 show wpAny _ _ (newExc (.type "StopIteration") []>>=_) _ _ _
 refine wpAny_bind ?_
 simp only[newExc,newTuple]
 refine wpAny_bind (wpAny_newObj_type ?_ (by size_fits))
 refine wpAny_bind (m:=firstArgMember _ _) (wpAny_of_eq (a:=Value.none) (by first|rfl|(simp only[firstArgMember];rfl)) ?_)
 refine wpAny_newObj_type ?_ (by size_fits)
 simp only[raiseNew]
 refine wpAny_bind (wpAny_handled ?_)
 first|rw[show A.in1.handled=none from hh]|rw[hh]
 refine wpAny_bind (wpAny_pure (wpAny_throw ?_))
 exact hE _ _ (((Heap.SameBut.update ..).extBut.push _).push _) ⟨_,Heap.get?_push_size _ rfl,rfl⟩
end
theorem fU {prog:Program} {w:World} {A:Around} (hh:A.handled=none) (it l:Addr) (hne:l≠it) (items:Array Value):
 Draws prog w A it [it,l] items.size (fun i v=>items[i]? =some v) (fun i h=>h.IsTupleIter it l i∧h.IsTuple l items) where
 live:=fun _ _ st=>let⟨o,ho,_⟩:=st.1;⟨o,ho⟩
 frame:=fun _ _ _ st hk=>by
  obtain⟨⟨o,e,r⟩,⟨o',e',r'⟩⟩:=st
  exact⟨⟨o,hk it (by simp) o e,r⟩,⟨o',hk l (by simp) o' e',r'⟩⟩
 item:=fun i s Q E hi st hQ=>by
  refine JJ st.1 st.2 (x:=items[i]) (by simp[hi]) fun h' hit' hs'=> ?_
  exact hQ _ h' s.toks (by simp[hi]) ⟨hit',st.2.extBut hs'.extBut hne⟩ hs'
 done:=fun s Q E st hE=>K0 hh st.1 st.2 (by simp) hE
end ES
namespace L2
open PySem PySem.Spec PyProof.Rows
section
variable {X:Cx} {pins:List (Addr×Obj)} {σ:St} {H:Hp} {s:Shared}
theorem Inv.turnedT {t':Nat} {ch:List Addr} {p:Addr} {xs:List V} {its:List Value} {h':Heap} (I:Inv X pins σ H s) (k:∀b o,b∉ch→s.heap.get? b=some o→h'.get? b=some o) (hf:∀b∈ch,HU X pins H b)
 (hp:s.heap.objs.size≤p) (hx:Vals xs its) (hz:xs.length≤sizeLine) (ht:IsTupX h' p its.toArray):Inv X pins σ (upd H p (.tup xs)) {s with heap:=h',toks:=t'}:=by
 have hn:H p=none:=I.hok.fresh hp
 have nch:∀b u,H b=some u→b∉ch:=fun b u e z=>by rw[(hf b z).1]at e;cases e
 refine I.call (g':=s.gens) (d':=s.drawn) (ch:=ch) ⟨fun b o e _ _ hb=>k b o hb e,fun b o e _ _ hb=>⟨o.slots,k b o hb e⟩,fun b o e n hb=> ?_,fun b o e hb=>⟨o,k b o hb e⟩,fun b ys q=>by rw[AF (BQ q hn)];exact q,fun b u ys q=>by rw[AF (BQ q hn)];exact q,fun b ps q=>⟨#[],by rw[AF (BQ q hn),q];simp⟩⟩ (fun b u e=> ?_) I.bare fun b hb=>⟨(hf b hb).2.2.2.1,(hf b hb).2.1,(hf b hb).2.2.2.2.1,(hf b hb).2.2.2.2.2⟩
 ·rw[AF (Nat.ne_of_lt (Nat.lt_of_lt_of_le (Heap.lt_size e) hp))];exact n
 ·by_cases hb:b=p
  ·subst hb
   rw[AH]at e
   cases e
   exact⟨hz,its,hx,ht⟩
  ·rw[AF hb]at e
   refine(I.hok b u e).stay (fun c v hc q=>k c v ?_ q) (fun c q=> ?_) fun c ys q=> ?_
   ·rcases hc with z|z
    ·rw[z];exact nch b u e
    ·exact nch c _ z
   ·rw[AF (BQ q hn)];exact q
   ·rw[AF (BQ q hn)];exact q
theorem Inv.turnedL {t':Nat} {ch:List Addr} {h':Heap} (I:Inv X pins σ H s) (k:∀b o,b∉ch→s.heap.get? b=some o→h'.get? b=some o) (hf:∀b∈ch,HU X pins H b):Inv X pins σ H {s with heap:=h',toks:=t'}:=by
 have nch:∀b u,H b=some u→b∉ch:=fun b u e z=>by rw[(hf b z).1]at e;cases e
 refine I.call (g':=s.gens) (d':=s.drawn) (ch:=ch) ⟨fun b o e _ _ hb=>k b o hb e,fun b o e _ _ hb=>⟨o.slots,k b o hb e⟩,fun b o e n hb=>n,fun b o e hb=>⟨o,k b o hb e⟩,fun b ys q=>q,fun b u ys q=>q,fun b ps q=>⟨#[],by rw[q];simp⟩⟩ (fun b u e=> ?_) I.bare fun b hb=>⟨(hf b hb).2.2.2.1,(hf b hb).2.1,(hf b hb).2.2.2.2.1,(hf b hb).2.2.2.2.2⟩
 refine(I.hok b u e).stay (fun c v hc q=>k c v ?_ q) (fun c q=>q) fun c ys q=>q
 rcases hc with z|z
 ·rw[z];exact nch b u e
 ·exact nch c _ z
end
inductive ZSrc where
 |str (z:Str)|lst (a:Addr)|tup (a:Addr)
def ZSrc.val:ZSrc→V
 | .str z=> .str z
 | .lst a=> .ref a
 | .tup a=> .ref a
def MV (K:PySem.W.Frag) (H:Hp):ZSrc→Nat→Prop
 | .str z,n=>n=z.cps.size
 | .lst a,n=>∃xs,SqL K H a xs∧n=xs.length
 | .tup a,n=>∃xs,GD K H a xs∧n=xs.length
def sU (K:PySem.W.Frag) (H:Hp):ZSrc→Nat→V→Prop
 | .str z,i,v=>∃c,z.cps[i]? =some c∧v= .str ⟨#[c]⟩
 | .lst a,i,v=>∀xs,SqL K H a xs→xs[i]? =some v
 | .tup a,i,v=>∀xs,GD K H a xs→xs[i]? =some v
def zSt (t:Tok) (it:Addr):ZSrc→Nat→Heap→Prop
 | .str z,i,h=>h.IsStrIter it (ZS.N9 z) z t i
 | .lst a,i,h=>h.IsListIter it a i
 | .tup a,i,h=>h.IsTupleIter it a i
theorem zSt.obj {t:Tok} {it:Addr} {z:ZSrc} {i:Nat} {h:Heap} (q:zSt t it z i h):∃o c vs,h.get? it=some o∧o.cls= .type c∧(c= "list_iterator" ∨c= "str_ascii_iterator" ∨c= "str_iterator" ∨c= "tuple_iterator")∧o.data= .fields vs:=by
 cases z with
 |str z=>
  obtain⟨o,e,c,d⟩:=q
  refine⟨o,_,_,e,c,?_,d⟩
  unfold ZS.N9
  split
  ·exact .inr (.inl rfl)
  ·exact .inr (.inr (.inl rfl))
 |lst a=>obtain⟨o,e,c,d⟩:=q;exact⟨o,_,_,e,c, .inl rfl,d⟩
 |tup a=>obtain⟨o,e,c,d⟩:=q;exact⟨o,_,_,e,c, .inr (.inr (.inr rfl)),d⟩
theorem zSt.keep {t:Tok} {it:Addr} {z:ZSrc} {i:Nat} {h h':Heap} (q:zSt t it z i h) (k:∀o,h.get? it=some o→h'.get? it=some o):zSt t it z i h':=by
 cases z with
 |str z=>obtain⟨o,e,r⟩:=q;exact⟨o,k o e,r⟩
 |lst a=>obtain⟨o,e,r⟩:=q;exact⟨o,k o e,r⟩
 |tup a=>obtain⟨o,e,r⟩:=q;exact⟨o,k o e,r⟩
theorem eS {X:Cx} {pins:List (Addr×Obj)} {σ:St} {H:Hp} {s:Shared} (I:Inv X pins σ H s) {fp:List Addr} (hf:∀b∈fp,HU X pins H b) {a:Addr} {o:HO} (r:Rd H a o):a∉fp:=fun hm=>by
 have:=(hf a hm).1
 rcases r with r|⟨_,r⟩<;>(rw[this]at r;cases r)
theorem oY {X:Cx} {pins:List (Addr×Obj)} {σ:St} {H:Hp} {s:Shared} (I:Inv X pins σ H s) {fp:List Addr} (hf:∀b∈fp,HU X pins H b) {a:Addr} {o:Obj} (hk:X.K.lookup a=some o):a∉fp:=fun hm=>by
 have e:X.base.get? a=some o:=I.ok.mod.kin a o hk
 rcases(hf a hm).2.2.2.1 with z|z
 ·exact I.ok.noex a o e z
 ·exact absurd (Nat.lt_of_lt_of_le (Heap.lt_size e) (Nat.le_trans I.ok.bsz z)) (Nat.lt_irrefl _)
theorem kL {X:Cx} {pins:List (Addr×Obj)} {σ:St} {H:Hp} {s:Shared} (I:Inv X pins σ H s) {fp:List Addr} (hf:∀b∈fp,HU X pins H b) {a:Addr} {xs:List V} (h:SqL X.K H a xs):a∉fp:=by
 rcases h with h|⟨o,_,_,hk,_⟩
 ·exact eS I hf h
 ·exact oY I hf hk
theorem kS {X:Cx} {pins:List (Addr×Obj)} {σ:St} {H:Hp} {s:Shared} (I:Inv X pins σ H s) {fp:List Addr} (hf:∀b∈fp,HU X pins H b) {a:Addr} {xs:List V} (h:GD X.K H a xs):a∉fp:=by
 rcases h with h|⟨o,_,_,hk,_⟩
 ·exact eS I hf h
 ·exact oY I hf hk
theorem P7 {X:Cx} {pins:List (Addr×Obj)} {σ:St} {H:Hp} {s:Shared} {A:Around} (I:Inv X pins σ H s) (hh:A.handled=none) {fp:List Addr} (hf:∀b∈fp,HU X pins H b) {t:Tok} {it:Addr} (hit:it∈fp) {z:ZSrc} {i n:Nat} (hn:MV X.K H z n) (q:zSt t it z i s.heap):
 ∃(f:List Addr) (P:Nat→Value→Prop) (St:Nat→Heap→Prop),Draws X.prog X.w A it f n P St∧St i s.heap∧(∀j v,P j v→∃x,RelV x v∧sU X.K H z j x)∧(∀j h,St j h→zSt t it z j h)∧
  ∀b∈f,b=it∨b∉fp:=by
 cases z with
 |str z=>
  cases(show n=z.cps.size from hn)
  exact⟨[it],_,_,ZS.rC hh it z t,q,fun j v ⟨c,u,e,ev⟩=>⟨.str ⟨#[c]⟩,⟨u,ev⟩,c,e,rfl⟩,fun j h x=>x,fun b hb=> .inl (by simpa using hb)⟩
 |lst a=>
  obtain⟨xs,hq,rfl⟩:=hn
  obtain⟨its,r,pl,hz⟩:=I.list hq
  have hnf:=kL I hf hq
  have hne:a≠it:=fun z=>hnf (z▸hit)
  have e:xs.length=its.toArray.size:=by rw[List.size_toArray];exact r.length
  refine⟨[it,a],fun i v=>its.toArray[i]? =some v,fun i h=>h.IsListIter it a i∧h.IsList a its.toArray,by rw[e];exact Draws.list hh it a hne its.toArray,⟨q,pl.isList⟩,fun j v hv=> ?_,fun j h x=>x.1,fun b hb=> ?_⟩
  ·have hv':its[j]? =some v:=by simpa using hv
   have hj:j<xs.length:=by rw[r.length];exact(List.getElem?_eq_some_iff.mp hv').1
   obtain⟨u,eu,ru⟩:=r.get (i:=j) (x:=xs[j]) (by simp[hj])
   rw[hv']at eu;cases eu
   exact⟨xs[j],ru,fun ys hy=>by rw[I.list_inj hy hq];simp[hj]⟩
  ·rcases List.mem_cons.mp hb with z|z
   ·exact .inl z
   ·cases(List.mem_singleton.mp z)
    exact .inr hnf
 |tup a=>
  obtain⟨xs,hq,rfl⟩:=hn
  obtain⟨its,r,pl,hz⟩:=I.tuple hq
  have pl':s.heap.IsTuple a its.toArray:=pl
  have hnf:=kS I hf hq
  have hne:a≠it:=fun z=>hnf (z▸hit)
  have e:xs.length=its.toArray.size:=by rw[List.size_toArray];exact r.length
  refine⟨[it,a],fun i v=>its.toArray[i]? =some v,fun i h=>h.IsTupleIter it a i∧h.IsTuple a its.toArray,by rw[e];exact ES.fU hh it a hne its.toArray,⟨q,pl'⟩,fun j v hv=> ?_,fun j h x=>x.1,fun b hb=> ?_⟩
  ·have hv':its[j]? =some v:=by simpa using hv
   have hj:j<xs.length:=by rw[r.length];exact(List.getElem?_eq_some_iff.mp hv').1
   obtain⟨u,eu,ru⟩:=r.get (i:=j) (x:=xs[j]) (by simp[hj])
   rw[hv']at eu;cases eu
   exact⟨xs[j],ru,fun ys hy=>by rw[I.tuple_inj hy hq];simp[hj]⟩
  ·rcases List.mem_cons.mp hb with z|z
   ·exact .inl z
   ·cases(List.mem_singleton.mp z)
    exact .inr hnf
def vF (K:PySem.W.Frag) (a b:ZSrc):It:=
 ⟨fun i H=>∃n m,MV K H a n∧MV K H b m∧i<n∧i<m,fun i H v H'=>∃x y p,sU K H a i x∧sU K H b i y∧H p=none∧v= .ref p∧H'=upd H p (.tup [x,y]),
   fun i H=>∃n m,MV K H a n∧MV K H b m∧i≤n∧i≤m∧(i=n∨i=m)⟩
structure ZP (z TI TO i1 i2:Addr):Prop where
 TIz:TI≠z
 TOz:TO≠z
 i1z:i1≠z
 i2z:i2≠z
 TITO:TI≠TO
 TIi1:TI≠i1
 TIi2:TI≠i2
 TOi1:TO≠i1
 TOi2:TO≠i2
 i12:i1≠i2
theorem ZP.za {z TI TO i1 i2:Addr} {f1 f2:List Addr} (Z:ZP z TI TO i1 i2) (q1:∀b∈f1,b=i1∨b∉[z,TI,TO,i1,i2]) (q2:∀b∈f2,b=i2∨b∉[z,TI,TO,i1,i2]):ZS.ZA z TI TO i1 i2 f1 f2:=by
 refine⟨Z.TIz,Z.TOz,Z.i1z,Z.i2z,Z.TITO,Z.TIi1,Z.TIi2,Z.TOi1,Z.TOi2,Z.i12,fun b hb=> ?_,fun b hb=> ?_,fun b hb=> ?_,fun b hb=> ?_,fun b hb=> ?_,fun b hb=> ?_⟩
 ·rcases q1 b hb with rfl|n;exact Z.i1z;exact fun e=>n (by simp[e])
 ·rcases q1 b hb with rfl|n;exact Z.TOi1.symm;exact fun e=>n (by simp[e])
 ·rcases q1 b hb with rfl|n;exact Z.i12;exact fun e=>n (by simp[e])
 ·rcases q2 b hb with rfl|n;exact Z.i2z;exact fun e=>n (by simp[e])
 ·rcases q2 b hb with rfl|n;exact Z.TOi2.symm;exact fun e=>n (by simp[e])
 ·rcases q2 b hb with rfl|n;exact Z.i12.symm;exact fun e=>n (by simp[e])
theorem QI {P:Program} {w:World} {K:PySem.W.Frag} {elts:List Expr} {k0:Nat} {pos:Pos} {z TI TO i1 i2:Addr} {t1 t2:Tok} {a b:ZSrc} (Z:ZP z TI TO i1 i2):
 Turn P w K (.Tuple elts k0 pos) (vF K a b) [z,TI,TO,i1,i2] z (fun i h=>IsZip h z TI TO .none∧IsPair h TI (.ref i1) (.ref i2)∧(∃x y,IsPair h TO x y)∧zSt t1 i1 a i h∧zSt t2 i2 b i h) where
 mem:=by simp
 obj:=fun i h st c hc=>by
  obtain⟨s1,s2,⟨x,y,s3⟩,s4,s5⟩:=st
  simp only[List.mem_cons,List.not_mem_nil,or_false]at hc
  rcases hc with rfl|rfl|rfl|rfl|rfl
  ·exact⟨_,s1,fun v e=>nomatch e⟩
  ·exact⟨_,s2,fun v e=>nomatch e⟩
  ·exact⟨_,s3,fun v e=>nomatch e⟩
  ·obtain⟨o,c,vs,e,_,_,d⟩:=s4.obj;exact⟨o,e,fun v q=>by rw[d]at q;cases q⟩
  ·obtain⟨o,c,vs,e,_,_,d⟩:=s5.obj;exact⟨o,e,fun v q=>by rw[d]at q;cases q⟩
 keep:=fun i h h' st k=>by
  obtain⟨s1,s2,⟨x,y,s3⟩,s4,s5⟩:=st
  exact⟨k z (by simp) _ s1,k TI (by simp) _ s2,⟨x,y,k TO (by simp) _ s3⟩,s4.keep fun o e=>k i1 (by simp) o e,s5.keep fun o e=>k i2 (by simp) o e⟩
 item:=by
  intro X hP hw hK hc i pins s σ H E I hf st hg
  subst hP hw hK
  obtain⟨s1,s2,⟨x0,y0,s3⟩,s4,s5⟩:=st
  obtain⟨n,m,hn,hm,hin,him⟩:=hg
  have hh:X.A.in1.handled=none:=I.ok.hd hc
  obtain⟨f1,P1,St1,D1,st1,p1,b1,q1⟩:=P7 I hh hf (by simp) hn s4
  obtain⟨f2,P2,St2,D2,st2,p2,b2,q2⟩:=P7 I hh hf (by simp) hm s5
  obtain⟨o1,c1,vs1,e1,k1,kk1,_⟩:=s4.obj
  obtain⟨o2,c2,vs2,e2,k2,kk2,_⟩:=s5.obj
  have ZAa:=Z.za q1 q2
  refine ZS.QO ZAa D1 D2 s1 s2 s3 st1 st2 hin him fun u v h' tk pu pv hz' hTO' st1' st2' hp' hsz' hk'=>⟨_,rfl,?_⟩
  refine PySem.wpAny_letOwnedTupleGo_zip hz' fun h'' hz'' hs''=> ?_
  obtain⟨x,rx,ax⟩:=p1 i u pu
  obtain⟨y,ry,ay⟩:=p2 i v pv
  have hpz:s.heap.objs.size≠z:=Nat.ne_of_gt (Heap.lt_size s1)
  have keepAll:∀c o,c∉[z,TI,TO,i1,i2]→s.heap.get? c=some o→h''.get? c=some o:=fun c o hc e=>by
   simp only[List.mem_cons,List.not_mem_nil,or_false,not_or]at hc
   exact hs''.extBut _ _ hc.1 (hk' c o hc.1 hc.2.2.1 hc.2.2.2.1 hc.2.2.2.2 e)
  have hT'':IsPair h'' s.heap.objs.size u v:=hs''.extBut _ _ hpz hp'
  refine⟨.ref s.heap.objs.size,upd H s.heap.objs.size (.tup [x,y]),I.turnedT (its:=[u,v]) keepAll hf (Nat.le_refl _) (.cons rx (.cons ry .nil)) (by show 2≤sizeLine;rw[sizeLine_eq];decide) ⟨_,hT'',⟨rfl,rfl⟩,_,rfl⟩,rfl,⟨x,y,_,ax,ay,I.hok.fresh (Nat.le_refl _),rfl,rfl⟩,?_,fun c hc=> ?_⟩
  ·refine⟨hz'',hs''.extBut _ _ Z.TIz (hk' TI _ Z.TIz Z.TITO Z.TIi1 Z.TIi2 s2),⟨u,v,hs''.extBut _ _ Z.TOz hTO'⟩,(b1 _ _ st1').keep fun o e=>hs''.extBut _ _ Z.i1z e,(b2 _ _ st2').keep fun o e=>hs''.extBut _ _ Z.i2z e⟩
  ·have:c≠s.heap.objs.size:=by
    have hlt:c<s.heap.objs.size:=by
     simp only[List.mem_cons,List.not_mem_nil,or_false]at hc
     rcases hc with rfl|rfl|rfl|rfl|rfl
     ·exact Heap.lt_size s1
     ·exact Heap.lt_size s2
     ·exact Heap.lt_size s3
     ·exact Heap.lt_size e1
     ·exact Heap.lt_size e2
    exact Nat.ne_of_lt hlt
   rw[AF this];exact(hf c hc).1
 done:=by
  intro X hP hw hK hc i pins s σ H E I hf st hg
  subst hP hw hK
  obtain⟨s1,s2,⟨x0,y0,s3⟩,s4,s5⟩:=st
  obtain⟨n,m,hn,hm,hin,him,hend⟩:=hg
  have hh:X.A.in1.handled=none:=I.ok.hd hc
  obtain⟨f1,P1,St1,D1,st1,p1,b1,q1⟩:=P7 I hh hf (by simp) hn s4
  obtain⟨f2,P2,St2,D2,st2,p2,b2,q2⟩:=P7 I hh hf (by simp) hm s5
  obtain⟨o1,c1,vs1,e1,k1,kk1,_⟩:=s4.obj
  obtain⟨o2,c2,vs2,e2,k2,kk2,_⟩:=s5.obj
  have ZAa:=Z.za q1 q2
  refine ZS.SJ ZAa D1 D2 s1 s2 s3 st1 st2 hin him hend fun h' tk hk'=>⟨rfl,I.turnedL (fun c o hc e=> ?_) hf⟩
  simp only[List.mem_cons,List.not_mem_nil,or_false,not_or]at hc
  exact hk' c o hc.1 hc.2.2.1 hc.2.2.2.1 hc.2.2.2.2 e
 self:=fun A i s Q E st h=>by
  have hT:s.TypeIs (.ref z) "zip":=⟨_,st.1,rfl⟩
  refine wpAny_pyIter_slot hT F.slot_zip_iter (wpAny_call_entry F.slot_zip_iter hT F.entry_zip_iter ?_ (F.args_zip_iter_1 _))
  show wpAny _ _ (ret (.ref z)) _ _ s
  exact wpAny_pure ⟨_,rfl,"zip",_,hT,F.slot_zip_next.lookup,h⟩
theorem pV (n:Nat):ZP (n+4) (n+2) (n+3) n (n+1):=⟨fun h=>by have h':(n+2:Nat)=n+4:=h;omega,fun h=>by have h':(n+3:Nat)=n+4:=h;omega,fun h=>by have h':(n:Nat)=n+4:=h;omega,fun h=>by have h':(n+1:Nat)=n+4:=h;omega,fun h=>by have h':(n+2:Nat)=n+3:=h;omega,fun h=>by have h':(n+2:Nat)=n:=h;omega,fun h=>by have h':(n+2:Nat)=n+1:=h;omega,fun h=>by have h':(n+3:Nat)=n:=h;omega,fun h=>by have h':(n+3:Nat)=n+1:=h;omega,fun h=>by have h':(n:Nat)=n+1:=h;omega⟩
def yA (K:PySem.W.Frag) (ta:TA):TI:=fun σ H R=>ta σ H fun vs H1=>∃a b:ZSrc,vs=[a.val,b.val]∧(∃n,MV K H1 a n)∧(∃n,MV K H1 b n)∧R (vF K a b) H1
theorem U5 {X:Cx} {pins:List (Addr×Obj)} {σ:St} {H:Hp} {s:Shared} (I:Inv X pins σ H s) {a:ZSrc} {n:Nat} (hn:MV X.K H a n) {u:Value} (r:RelV a.val u):∃ob t,ZS.Src s.heap u ob∧∀(h:Heap) (it:Addr),h.get? it=some ob→zSt t it a 0 h:=by
 cases a with
 |str z=>obtain⟨t,rfl⟩:=r;exact⟨_,t, .str z t,fun h it e=>⟨_,e,rfl,rfl⟩⟩
 |lst a=>
  cases(show u= .ref a from r)
  obtain⟨xs,hq,_⟩:=hn
  obtain⟨its,_,pl,_⟩:=I.list hq
  exact⟨_,0, .lst pl.isList,fun h it e=>⟨_,e,rfl,rfl⟩⟩
 |tup a=>
  cases(show u= .ref a from r)
  obtain⟨xs,hq,_⟩:=hn
  obtain⟨its,_,pl,_⟩:=I.tuple hq
  exact⟨_,0, .tup (show s.heap.IsTuple a its.toArray from pl),fun h it e=>⟨_,e,rfl,rfl⟩⟩
theorem g8 {X:Cx} {x y:Expr} {ta:TA} {p pos:Pos} {elts:List Expr} {k0:Nat} {tp:Pos} (hg:Gl X "zip") (hm:X.mg "zip"=none) (ha:PA X [x,y] ta) (hs:starEach [x,y] X.env=[(false,eval x X.env),(false,eval y X.env)]) (hs2:starEach [y] X.env=[(false,eval y X.env)]):
 PI X (.Tuple elts k0 tp) (.Call (.Name "zip" p) [x,y] [] pos) (yA X.K ta):=by
 intro pins s σ H R I h
 refine Call_ (LV I hg hm (show bootBuiltins "zip"=some (.type "zip") by decide+kernel) (PyProof.Rows.callWith_type1 (CK (ha pos pins s σ H _ I h) fun us s1 ⟨vs,H1,I1,r1,q1⟩=> ?_) (by rw[hs,hs2]) (by rw[hs2];rfl)))
 obtain⟨a,b,rfl,⟨n,hn⟩,⟨m,hm⟩,q⟩:=q1
 obtain⟨u,v,rfl,ru,rv⟩:=NH r1
 obtain⟨o1,t1,S1,w1⟩:=U5 I1 hn ru
 obtain⟨o2,t2,S2,w2⟩:=U5 I1 hm rv
 refine ZS.Z3 S1 S2 fun h' hz hTI hTO g1 g2 hsz hk=> ?_
 have I2:Inv X pins σ H1 {s1 with heap:=h'}:=I1.kept (t':=s1.toks) hk
 have Z:ZP (s1.heap.objs.size+4) (s1.heap.objs.size+2) (s1.heap.objs.size+3) s1.heap.objs.size (s1.heap.objs.size+1):=pV _
 have st:IsZip h' (s1.heap.objs.size+4) (s1.heap.objs.size+2) (s1.heap.objs.size+3) .none∧IsPair h' (s1.heap.objs.size+2) (.ref s1.heap.objs.size) (.ref (s1.heap.objs.size+1))∧(∃x y,IsPair h' (s1.heap.objs.size+3) x y)∧zSt t1 s1.heap.objs.size a 0 h'∧zSt t2 (s1.heap.objs.size+1) b 0 h':=⟨hz,hTI,⟨_,_,hTO⟩,w1 _ _ g1,w2 _ _ g2⟩
 refine(QI (P:=X.prog) (w:=X.w) (K:=X.K) (elts:=elts) (k0:=k0) (pos:=tp) Z).self _ 0 _ _ _ st ⟨_,_,_,vF X.K a b,H1,rfl,I2,QI Z,st,fun c hc=> ?_,q⟩
 have hge:s1.heap.objs.size≤c:=by
  simp only[List.mem_cons,List.not_mem_nil,or_false]at hc
  rcases hc with rfl|rfl|rfl|rfl|rfl
  ·exact Nat.le_add_right _ _
  ·exact Nat.le_add_right _ _
  ·exact Nat.le_add_right _ _
  ·exact Nat.le_refl _
  ·exact Nat.le_add_right _ _
 exact I1.fpOk hge (I1.hok.fresh hge)
end L2
namespace L2
open PySem PySem.Spec PyProof.Rows
inductive M where
 |non|bl (b:Bool)|int (i:Int)|str (x:Str)|ty (n:String)
 |tup (xs:List M)|lst (xs:List M)|dct (ks:List AI) (xs:List M)|ref (k:Nat)|scr (ns:List Int)
inductive MO where
 |lst (xs:List M)|dct (kvs:List (AI×M))|ins (c:Str) (fs:List (Str×M))|fdc (kvs:List (AI×M))
abbrev A7:=List MO
abbrev B4:=List (Option M)
abbrev FE:=B4→A7→Option (M×A7)
abbrev FA:=B4→A7→Option (List M×A7)
abbrev FT:=B4→A7→Option (Bool×A7)
abbrev FF:=List M→A7→Option (M×A7)
inductive Out where
 |nx (ρ:B4)|bk (ρ:B4)|ct (ρ:B4)|rt (d:M)
abbrev FS:=B4→A7→Option (Out×A7)
abbrev FG:=M→B4→A7→Option (B4×A7)
structure Pl where
 a:List Addr
 g:List Addr
def Pl.no (α:Pl) (b:Addr):Prop:=b∉α.a∧b∉α.g
def Pl.add (α:Pl) (b:Addr):Pl:=⟨α.a++[b],α.g⟩
def Pl.hide (α:Pl) (b:Addr):Pl:=⟨α.a,b::α.g⟩
def TupAt (K:PySem.W.Frag) (α:Pl) (H:Hp) (a:Addr) (vs:List V):Prop:=
 (Rd H a (.tup vs)∧α.no a)∨
   ∃(o:Obj) (its:Array Value) (n:Nat),K.lookup a=some o∧kW o∧o.data= .seq its n∧its.size≤sizeLine∧Vals vs its.toList
def ScrAt (K:PySem.W.Frag) (α:Pl) (H:Hp) (a:Addr) (vs:List V):Prop:=
 (Rd H a (.lst vs)∧α.no a)∨
   ∃(o:Obj) (its:Array Value) (n:Nat),K.lookup a=some o∧o.cls= .type "list"∧o.dict=none∧o.data= .seq its n∧its.size≤sizeLine∧Vals vs its.toList
mutual
def RepA (K:PySem.W.Frag) (α:Pl) (H:Hp):M→V→Prop
 | .non,v=>v= .non
 | .bl b,v=>v= .bl b
 | .int i,v=>v= .int i
 | .str x,v=>v= .str x
 | .ty n,v=>v= .ty n
 | .tup xs,v=>∃a vs,v= .ref a∧TupAt K α H a vs∧RepAs K α H xs vs
 | .scr ns,v=>∃a,v= .ref a∧ScrAt K α H a (ns.map V.int)
 | .lst xs,v=>∃a vs,v= .ref a∧α.no a∧H a=some (.lst vs)∧RepAs K α H xs vs
 | .dct ks xs,v=>∃a ws,v= .ref a∧α.no a∧Rd H a (.dK ws)∧ws.map (·.1)=ks∧RepAs K α H xs (ws.map (·.2))
 | .ref k,v=>∃a,α.a[k]? =some a∧v= .ref a
def RepAs (K:PySem.W.Frag) (α:Pl) (H:Hp):List M→List V→Prop
 |[],vs=>vs=[]
 |x::xs,vs=>∃v r,vs=v::r∧RepA K α H x v∧RepAs K α H xs r
end
def DI (K:PySem.W.Frag) (c:Str):Option Addr:=(K.find? fun p=>match p.2.data with| .cls cd=>cd.name==c|_=>false).map (·.1)
def bZ (K:PySem.W.Frag) (α:Pl) (H:Hp):MO→Addr→Prop
 | .lst xs,a=>∃vs,H a=some (.lst vs)∧RepAs K α H xs vs
 | .dct kvs,a=>∃ws,H a=some (.dK ws)∧ws.map (·.1)=kvs.map (·.1)∧RepAs K α H (kvs.map (·.2)) (ws.map (·.2))
 | .ins c fs,a=>∃C dx ws,DI K c=some C∧H a=some (.ins C dx ws)∧ws.map (·.1)=fs.map (·.1)∧RepAs K α H (fs.map (·.2)) (ws.map (·.2))
 | .fdc kvs,a=>∃ob ws,H a=some (.frz ob (.dK ws))∧ws.map (·.1)=kvs.map (·.1)∧RepAs K α H (kvs.map (·.2)) (ws.map (·.2))
structure Rl (K:PySem.W.Frag) (α:Pl) (h:A7) (H:Hp):Prop where
 len:α.a.length=h.length
 nd:α.a.Nodup
 ap:∀b∈α.a,b∉α.g
 hid:∀b∈α.g,∃o,H b=some o
 obj:∀(k:Nat) (a:Addr) (o:MO),α.a[k]? =some a→h[k]? =some o→bZ K α H o a
def qJ:HO→Prop
 | .dK _=>False
 |_=>True
structure Ev (α α':Pl) (H H':Hp):Prop where
 pre:α'.g=α.g∧∃β,α'.a=α.a++β∧∀b∈β,H b=none
 keep:∀b o,H b=some o→(qJ o∨b∈α.g)→b∉α.a→H' b=some o
 keepD:∀b ws,H b=some (.dK ws)→b∉α.a→Rd H' b (.dK ws)
 dom:∀b,H' b=none→H b=none
 keepF:∀b ob u,H b=some (.frz ob u)→H' b=some (.frz ob u)
def REnv (K:PySem.W.Frag) (α:Pl) (H:Hp) (ρ:B4) (σ:St):Prop:=
 ρ.length=σ.length∧∀(i:Nat) (m:M),ρ[i]? =some (some m)→∃v,σ[i]? =some (some v)∧RepA K α H m v
theorem Ev.mkk {α α':Pl} {H H':Hp} (pre:α'.g=α.g∧∃β,α'.a=α.a++β∧∀b∈β,H b=none) (keep:∀b o,H b=some o→b∉α.a→H' b=some o) (dom:∀b,H' b=none→H b=none) (kf:∀b ob u,H b=some (.frz ob u)→H' b=some (.frz ob u)):Ev α α' H H':=
 ⟨pre,fun b o h _ n=>keep b o h n,fun b ws h n=> .inl (keep b _ h n),dom,kf⟩
theorem Ev.refl {α:Pl} {H:Hp}:Ev α α H H:= .mkk ⟨rfl,[],by simp,by simp⟩ (fun _ _ e _=>e) (fun _ e=>e) (fun _ _ _ e=>e)
theorem Ev.notA {α α':Pl} {H H':Hp} (e:Ev α α' H H') {b:Addr} {o:HO} (hb:H b=some o) (n:b∉α.a):b∉α'.a:=by
 obtain⟨_,β,e1,f⟩:=e.pre
 intro h
 rw[e1]at h
 rcases List.mem_append.mp h with h|h
 ·exact n h
 ·rw[f b h]at hb;cases hb
theorem Ev.notMem {α α':Pl} {H H':Hp} (e:Ev α α' H H') {b:Addr} {o:HO} (hb:H b=some o) (n:α.no b):α'.no b:=⟨e.notA hb n.1,by rw[e.pre.1];exact n.2⟩
theorem Ev.trans {α α1 α2:Pl} {H H1 H2:Hp} (e:Ev α α1 H H1) (f:Ev α1 α2 H1 H2):Ev α α2 H H2:=by
 refine⟨?_,fun b o hb q n=>f.keep b o (e.keep b o hb q n) (q.imp id fun z=>by rw[e.pre.1];exact z) (e.notA hb n),fun b ws hb n=> ?_,fun b hb=>e.dom b (f.dom b hb),fun b ob u h=>f.keepF b ob u (e.keepF b ob u h)⟩
 rotate_left
 ·rcases e.keepD b ws hb n with z|⟨o,z⟩
  ·exact f.keepD b ws z (e.notA hb n)
  ·exact .inr ⟨o,f.keep b _ z (.inl trivial) (e.notA hb n)⟩
 obtain⟨g1,β,e1,f1⟩:=e.pre
 obtain⟨g2,γ,e2,f2⟩:=f.pre
 refine⟨g2.trans g1,β++γ,by rw[e2,e1,List.append_assoc],fun b hb=> ?_⟩
 rcases List.mem_append.mp hb with hb|hb
 ·exact f1 b hb
 ·exact e.dom b (f2 b hb)
theorem Ev.same {α:Pl} {H H':Hp} (s:Same H H'):Ev α α H H':= .mkk ⟨rfl,[],by simp,by simp⟩ (fun b o e _=>s b o e) (fun b e=>by
 cases h:H b with
 |none=>rfl
 |some o=>rw[s b o h]at e;cases e) (fun b _ _ h=>s b _ h)
theorem Ev.rd {α α':Pl} {H H':Hp} (e:Ev α α' H H') {a:Addr} {u:HO} (r:Rd H a u) (n:α.no a) (hd:qJ u):Rd H' a u∧α'.no a:=by
 rcases r with r|⟨o,r⟩
 ·exact⟨.inl (e.keep _ _ r (.inl hd) n.1),e.notMem r n⟩
 ·exact⟨.inr ⟨o,e.keep _ _ r (.inl trivial) n.1⟩,e.notMem r n⟩
theorem Ev.rdD {α α':Pl} {H H':Hp} (e:Ev α α' H H') {a:Addr} {ws:List (AI×V)} (r:Rd H a (.dK ws)) (n:α.no a):Rd H' a (.dK ws)∧α'.no a:=by
 rcases r with r|⟨o,r⟩
 ·exact⟨e.keepD _ _ r n.1,e.notMem r n⟩
 ·exact⟨.inr ⟨o,e.keep _ _ r (.inl trivial) n.1⟩,e.notMem r n⟩
theorem Ev.ix {α α':Pl} {H H':Hp} (e:Ev α α' H H') {k:Nat} {a:Addr} (h:α.a[k]? =some a):α'.a[k]? =some a:=by
 obtain⟨_,β,e1,_⟩:=e.pre
 have hk:k<α.a.length:=(List.getElem?_eq_some_iff.mp h).1
 rw[e1,List.getElem?_append_left hk];exact h
theorem TupAt.ev {K:PySem.W.Frag} {α α':Pl} {H H':Hp} (e:Ev α α' H H') {a:Addr} {vs:List V} (t:TupAt K α H a vs):TupAt K α' H' a vs:=by
 rcases t with⟨r,n⟩|t
 ·exact .inl (e.rd r n trivial)
 ·exact .inr t
theorem TupAt.sq {K:PySem.W.Frag} {α:Pl} {H:Hp} {a:Addr} {vs:List V} (t:TupAt K α H a vs):GD K H a vs:=by
 rcases t with⟨r,_⟩|t
 ·exact .inl r
 ·exact .inr t
theorem ScrAt.ev {K:PySem.W.Frag} {α α':Pl} {H H':Hp} (e:Ev α α' H H') {a:Addr} {vs:List V} (t:ScrAt K α H a vs):ScrAt K α' H' a vs:=by
 rcases t with⟨r,n⟩|t
 ·exact .inl (e.rd r n trivial)
 ·exact .inr t
theorem ScrAt.sq {K:PySem.W.Frag} {α:Pl} {H:Hp} {a:Addr} {vs:List V} (t:ScrAt K α H a vs):SqL K H a vs:=by
 rcases t with⟨r,_⟩|t
 ·exact .inl r
 ·exact .inr t
mutual
theorem RepA.ev {K:PySem.W.Frag} {α α':Pl} {H H':Hp} (e:Ev α α' H H'):∀{m:M} {v:V},RepA K α H m v→RepA K α' H' m v
 | .non,_,h=>h
 | .bl _,_,h=>h
 | .int _,_,h=>h
 | .str _,_,h=>h
 | .ty _,_,h=>h
 | .tup xs,_,⟨a,vs,e1,t,r⟩=>⟨a,vs,e1,t.ev e,RepAs.ev e r⟩
 | .scr ns,_,⟨a,e1,t⟩=>⟨a,e1,t.ev e⟩
 | .lst xs,_,⟨a,vs,e1,n,t,r⟩=>⟨a,vs,e1,e.notMem t n,e.keep _ _ t (.inl trivial) n.1,RepAs.ev e r⟩
 | .dct ks xs,_,⟨a,ws,e1,n,t,ek,r⟩=>⟨a,ws,e1,(e.rdD t n).2,(e.rdD t n).1,ek,RepAs.ev e r⟩
 | .ref k,_,⟨a,h,e1⟩=>⟨a,e.ix h,e1⟩
theorem RepAs.ev {K:PySem.W.Frag} {α α':Pl} {H H':Hp} (e:Ev α α' H H'):∀{xs:List M} {vs:List V},RepAs K α H xs vs→RepAs K α' H' xs vs
 |[],_,h=>h
 |x::xs,_,⟨v,r,e1,h1,h2⟩=>⟨v,r,e1,RepA.ev e h1,RepAs.ev e h2⟩
end
theorem REnv.ev {K:PySem.W.Frag} {α α':Pl} {H H':Hp} (e:Ev α α' H H') {ρ:B4} {σ:St} (r:REnv K α H ρ σ):REnv K α' H' ρ σ:=
 ⟨r.1,fun i m h=>by obtain⟨v,h1,h2⟩:=r.2 i m h;exact⟨v,h1,h2.ev e⟩⟩
theorem RepAs.length {K:PySem.W.Frag} {α:Pl} {H:Hp}:∀{xs:List M} {vs:List V},RepAs K α H xs vs→xs.length=vs.length
 |[],_,h=>by cases(show _=[] from h);rfl
 |x::xs,_,⟨v,r,e1,_,h2⟩=>by subst e1;simp[RepAs.length h2]
theorem RepAs.get {K:PySem.W.Frag} {α:Pl} {H:Hp}:∀{xs:List M} {vs:List V} {i:Nat} {m:M},RepAs K α H xs vs→xs[i]? =some m→∃v,vs[i]? =some v∧RepA K α H m v
 |[],_,_,_,_,h=>by simp at h
 |x::xs,_,0,m,⟨v,r,e1,h1,h2⟩,h=>by subst e1;simp at h;subst h;exact⟨v,rfl,h1⟩
 |x::xs,_,i+1,m,⟨v,r,e1,h1,h2⟩,h=>by subst e1;simpa using RepAs.get (i:=i) h2 (by simpa using h)
theorem RepAs.app {K:PySem.W.Frag} {α:Pl} {H:Hp}:∀{xs:List M} {vs:List V} {ys:List M} {ws:List V},RepAs K α H xs vs→RepAs K α H ys ws→RepAs K α H (xs++ys) (vs++ws)
 |[],_,_,_,h,h'=>by cases(show _=[] from h);exact h'
 |x::xs,_,_,_,⟨v,r,e1,h1,h2⟩,h'=>by subst e1;exact⟨v,_,rfl,h1,RepAs.app h2 h'⟩
theorem RepAs.drop {K:PySem.W.Frag} {α:Pl} {H:Hp}:∀{xs:List M} {vs:List V} (n:Nat),RepAs K α H xs vs→RepAs K α H (xs.drop n) (vs.drop n)
 |_,_,0,h=>h
 |[],_,_+1,h=>by cases(show _=[] from h);exact rfl
 |x::xs,_,n+1,⟨v,r,e1,h1,h2⟩=>by subst e1;exact RepAs.drop n h2
theorem RepAs.take {K:PySem.W.Frag} {α:Pl} {H:Hp}:∀{xs:List M} {vs:List V} (n:Nat),RepAs K α H xs vs→RepAs K α H (xs.take n) (vs.take n)
 |_,_,0,h=>by simp only[List.take_zero];exact rfl
 |[],_,_+1,h=>by cases(show _=[] from h);exact rfl
 |x::xs,_,n+1,⟨v,r,e1,h1,h2⟩=>by subst e1;exact⟨v,_,rfl,h1,RepAs.take n h2⟩
theorem RepAs.set {K:PySem.W.Frag} {α:Pl} {H:Hp} {m:M} {v:V} (hm:RepA K α H m v):∀{xs:List M} {vs:List V} (n:Nat),RepAs K α H xs vs→RepAs K α H (xs.set n m) (vs.set n v)
 |[],_,n,h=>by cases(show _=[] from h);exact rfl
 |x::xs,_,0,⟨v,r,e1,h1,h2⟩=>by subst e1;exact⟨_,_,rfl,hm,h2⟩
 |x::xs,_,n+1,⟨v,r,e1,h1,h2⟩=>by subst e1;exact⟨v,_,rfl,h1,RepAs.set hm n h2⟩
theorem RepAs.snoc {K:PySem.W.Frag} {α:Pl} {H:Hp} {xs:List M} {vs:List V} {m:M} {v:V} (h:RepAs K α H xs vs) (hm:RepA K α H m v):RepAs K α H (xs++[m]) (vs++[v]):=h.app ⟨v,[],rfl,hm,rfl⟩
theorem RepAs.at {K:PySem.W.Frag} {α:Pl} {H:Hp} {xs:List M} {vs:List V} {i:Int} {m:M} (h:RepAs K α H xs vs) (e:L1 xs i=some m):∃v,L1 vs i=some v∧RepA K α H m v:=by
 unfold L1 at e⊢
 rw[←h.length]
 cases q:W5 xs.length i with
 |none=>rw[q]at e;cases e
 |some j=>
  rw[q]at e
  exact h.get e
theorem Rl.same {K:PySem.W.Frag} {α:Pl} {h:A7} {H H':Hp} (r:Rl K α h H) (s:Same H H'):Rl K α h H':=
 ⟨r.len,r.nd,r.ap,fun b hb=>by
   obtain⟨o,e⟩:=r.hid b hb
   exact⟨o,s b o e⟩,fun k a o hk ho=>by
   have e:Ev α α H H':=Ev.same s
   have q:=r.obj k a o hk ho
   cases o with
   |lst xs=>obtain⟨vs,h1,h2⟩:=q;exact⟨vs,s _ _ h1,h2.ev e⟩
   |dct kvs=>obtain⟨ws,h1,h2,h3⟩:=q;exact⟨ws,s _ _ h1,h2,h3.ev e⟩
   |ins c fs=>obtain⟨C,dx,ws,h0,h1,h2,h3⟩:=q;exact⟨C,dx,ws,h0,s _ _ h1,h2,h3.ev e⟩
   |fdc kvs=>obtain⟨ob,ws,h1,h2,h3⟩:=q;exact⟨ob,ws,s _ _ h1,h2,h3.ev e⟩⟩
theorem Rl.some_at {K:PySem.W.Frag} {α:Pl} {h:A7} {H:Hp} (r:Rl K α h H) {a:Addr} (ha:a∈α.a):∃o,H a=some o:=by
 obtain⟨k,hk⟩:=List.getElem?_of_mem ha
 have hl:k<h.length:=by rw[←r.len];exact(List.getElem?_eq_some_iff.mp hk).1
 have q:=r.obj k a h[k] hk (by simp[hl])
 revert q
 cases h[k]with
 |lst xs=>rintro⟨vs,h1,_⟩;exact⟨_,h1⟩
 |dct kvs=>rintro⟨vs,h1,_⟩;exact⟨_,h1⟩
 |ins c fs=>rintro⟨C,dx,ws,_,h1,_⟩;exact⟨_,h1⟩
 |fdc kvs=>rintro⟨ob,ws,h1,_⟩;exact⟨_,h1⟩
theorem Ev.write {K:PySem.W.Frag} {α:Pl} {h:A7} {H:Hp} (r:Rl K α h H) {a:Addr} (ha:a∈α.a) {u:HO} (nf:∀ob u',H a≠some (.frz ob u')):Ev α α H (upd H a u):=
 .mkk ⟨rfl,[],by simp,by simp⟩ (fun b o e n=>by
   have hba:b≠a:=by intro z;subst z;exact n ha
   rw[AF hba];exact e) (fun b e=>by
   by_cases hb:b=a
   ·subst hb;rw[AH]at e;cases e
   ·rw[AF hb]at e;exact e) (fun b ob u' h=>by
   have hba:b≠a:=by intro z;subst z;exact nf _ _ h
   rw[AF hba];exact h)
theorem m7 {H:Hp} {a:Addr} {ws:List (AI×V)} (e:H a=some (.dK ws)):∀ob u',H a≠some (.frz ob u'):=fun ob u' h=>by rw[e]at h;cases h
theorem sR {H:Hp} {a:Addr} {ws:List V} (e:H a=some (.lst ws)):∀ob u',H a≠some (.frz ob u'):=fun ob u' h=>by rw[e]at h;cases h
theorem vR {H:Hp} {a C dx:Addr} {ws:List (Str×V)} (e:H a=some (.ins C dx ws)):∀ob u',H a≠some (.frz ob u'):=fun ob u' h=>by rw[e]at h;cases h
theorem Rl.write {K:PySem.W.Frag} {α:Pl} {h:A7} {H:Hp} (r:Rl K α h H) {k:Nat} {a:Addr} (ha:α.a[k]? =some a) {u:HO} {o:MO} (ho:bZ K α (upd H a u) o a) (nf:∀ob u',H a≠some (.frz ob u')):Rl K α (h.set k o) (upd H a u):=by
 have e:Ev α α H (upd H a u):=Ev.write r (List.mem_of_getElem? ha) nf
 refine⟨by simp[r.len],r.nd,r.ap,fun b hb=>by
  obtain⟨o,e⟩:=r.hid b hb
  by_cases z:b=a
  ·subst z;exact⟨_,AH⟩
  ·exact⟨o,by rw[AF z];exact e⟩,fun j b o' hj ho'=> ?_⟩
 by_cases hjk:j=k
 ·subst hjk
  rw[ha]at hj;cases hj
  have hl:j<h.length:=by rw[←r.len];exact(List.getElem?_eq_some_iff.mp ha).1
  rw[List.getElem?_set_self hl]at ho';cases ho'
  exact ho
 ·rw[List.getElem?_set_ne (fun z=>hjk z.symm)]at ho'
  have hba:b≠a:=fun z=>by
   subst z
   have hjl:=(List.getElem?_eq_some_iff.mp hj)
   have hkl:=(List.getElem?_eq_some_iff.mp ha)
   exact hjk ((List.getElem_inj r.nd).mp (hjl.2.trans hkl.2.symm))
  have q:=r.obj j b o' hj ho'
  cases o' with
  |lst xs=>obtain⟨vs,h1,h2⟩:=q;exact⟨vs,by rw[AF hba];exact h1,h2.ev e⟩
  |dct kvs=>obtain⟨ws,h1,h2,h3⟩:=q;exact⟨ws,by rw[AF hba];exact h1,h2,h3.ev e⟩
  |ins c fs=>obtain⟨C,dx,ws,h0,h1,h2,h3⟩:=q;exact⟨C,dx,ws,h0,by rw[AF hba];exact h1,h2,h3.ev e⟩
  |fdc kvs=>obtain⟨ob,ws,h1,h2,h3⟩:=q;exact⟨ob,ws,by rw[AF hba];exact h1,h2,h3.ev e⟩
theorem Ev.alloc {α:Pl} {H:Hp} {p:Addr} (hp:H p=none) {u:HO}:Ev α (α.add p) H (upd H p u):=
 .mkk ⟨rfl,[p],rfl,fun b hb=>by rw[List.mem_singleton.mp hb];exact hp⟩ (fun b o e _=>FZ e hp) (fun b e=>by
   by_cases hb:b=p
   ·subst hb;exact hp
   ·rw[AF hb]at e;exact e) (fun b _ _ h=>FZ h hp)
theorem Rl.newA {K:PySem.W.Frag} {α:Pl} {h:A7} {H:Hp} (r:Rl K α h H) {p:Addr} (hp:H p=none):p∉α.a:=fun hm=>by
 obtain⟨o,e⟩:=r.some_at hm
 rw[hp]at e;cases e
theorem Rl.new {K:PySem.W.Frag} {α:Pl} {h:A7} {H:Hp} (r:Rl K α h H) {p:Addr} (hp:H p=none):α.no p:=⟨r.newA hp,fun hm=>by
 obtain⟨o,e⟩:=r.hid p hm
 rw[hp]at e;cases e⟩
theorem Rl.alloc {K:PySem.W.Frag} {α:Pl} {h:A7} {H:Hp} (r:Rl K α h H) {p:Addr} (hp:H p=none) {u:HO} {o:MO} (ho:bZ K (α.add p) (upd H p u) o p):Rl K (α.add p) (h++[o]) (upd H p u):=by
 have e:Ev α (α.add p) H (upd H p u):=Ev.alloc hp
 refine⟨by simp[r.len,Pl.add],?_,fun b hb=> ?_,fun b hb=> ?_,fun j b o' hj ho'=> ?_⟩
 ·show(α.a++[p]).Nodup
  rw[List.nodup_append]
  refine⟨r.nd,by simp,fun x hx y hy=> ?_⟩
  rw[List.mem_singleton.mp hy]
  exact fun z=>r.newA hp (z▸hx)
 ·rcases List.mem_append.mp (show b∈α.a++[p] from hb) with hb|hb
  ·exact r.ap b hb
  ·rw[List.mem_singleton.mp hb];exact(r.new hp).2
 ·obtain⟨o,e⟩:=r.hid b hb
  exact⟨o,FZ e hp⟩
 ·have hj:(α.a++[p])[j]? =some b:=hj
  by_cases hl:j<α.a.length
  ·rw[List.getElem?_append_left hl]at hj
   rw[List.getElem?_append_left (by rw[←r.len];exact hl)]at ho'
   have q:=r.obj j b o' hj ho'
   cases o' with
   |lst xs=>obtain⟨vs,h1,h2⟩:=q;exact⟨vs,FZ h1 hp,h2.ev e⟩
   |dct kvs=>obtain⟨ws,h1,h2,h3⟩:=q;exact⟨ws,FZ h1 hp,h2,h3.ev e⟩
   |ins c fs=>obtain⟨C,dx,ws,h0,h1,h2,h3⟩:=q;exact⟨C,dx,ws,h0,FZ h1 hp,h2,h3.ev e⟩
   |fdc kvs=>obtain⟨ob,ws,h1,h2,h3⟩:=q;exact⟨ob,ws,FZ h1 hp,h2,h3.ev e⟩
  ·have hj':j<α.a.length+1:=by simpa using(List.getElem?_eq_some_iff.mp hj).1
   have ej:j=α.a.length:=by omega
   subst ej
   rw[List.getElem?_append_right (Nat.le_refl _)]at hj
   simp at hj
   rw[r.len,List.getElem?_append_right (Nat.le_refl _)]at ho'
   simp at ho'
   subst hj ho'
   exact ho
mutual
theorem RepA.hide {K:PySem.W.Frag} {α:Pl} {H:Hp} {p:Addr} (hp:H p=none):∀{m:M} {v:V},RepA K α H m v→RepA K (α.hide p) H m v
 | .non,_,h=>h
 | .bl _,_,h=>h
 | .int _,_,h=>h
 | .str _,_,h=>h
 | .ty _,_,h=>h
 | .tup xs,_,⟨a,vs,e1,t,r⟩=>⟨a,vs,e1,t.elim (fun⟨q,n⟩=> .inl ⟨q,n.1,fun hm=>by
     rcases List.mem_cons.mp hm with z|z
     ·subst z;rcases q with q|⟨_,q⟩<;>(rw[hp]at q;cases q)
     ·exact n.2 z⟩) .inr,RepAs.hide hp r⟩
 | .scr ns,_,⟨a,e1,t⟩=>⟨a,e1,t.elim (fun⟨q,n⟩=> .inl ⟨q,n.1,fun hm=>by
     rcases List.mem_cons.mp hm with z|z
     ·subst z;rcases q with q|⟨_,q⟩<;>(rw[hp]at q;cases q)
     ·exact n.2 z⟩) .inr⟩
 | .lst xs,_,⟨a,vs,e1,n,t,r⟩=>⟨a,vs,e1,⟨n.1,fun hm=>by
     rcases List.mem_cons.mp hm with z|z
     ·subst z;rw[hp]at t;cases t
     ·exact n.2 z⟩,t,RepAs.hide hp r⟩
 | .dct ks xs,_,⟨a,ws,e1,n,t,ek,r⟩=>⟨a,ws,e1,⟨n.1,fun hm=>by
     rcases List.mem_cons.mp hm with z|z
     ·subst z;rcases t with t|⟨_,t⟩<;>(rw[hp]at t;cases t)
     ·exact n.2 z⟩,t,ek,RepAs.hide hp r⟩
 | .ref k,_,h=>h
theorem RepAs.hide {K:PySem.W.Frag} {α:Pl} {H:Hp} {p:Addr} (hp:H p=none):∀{xs:List M} {vs:List V},RepAs K α H xs vs→RepAs K (α.hide p) H xs vs
 |[],_,h=>h
 |x::xs,_,⟨v,r,e1,h1,h2⟩=>⟨v,r,e1,RepA.hide hp h1,RepAs.hide hp h2⟩
end
mutual
theorem RepA.show {K:PySem.W.Frag} {α:Pl} {H:Hp} {p:Addr}:∀{m:M} {v:V},RepA K (α.hide p) H m v→RepA K α H m v
 | .non,_,h=>h
 | .bl _,_,h=>h
 | .int _,_,h=>h
 | .str _,_,h=>h
 | .ty _,_,h=>h
 | .tup xs,_,⟨a,vs,e1,t,r⟩=>⟨a,vs,e1,t.elim (fun⟨q,n⟩=> .inl ⟨q,n.1,fun hm=>n.2 (List.mem_cons_of_mem _ hm)⟩) .inr,RepAs.show r⟩
 | .scr ns,_,⟨a,e1,t⟩=>⟨a,e1,t.elim (fun⟨q,n⟩=> .inl ⟨q,n.1,fun hm=>n.2 (List.mem_cons_of_mem _ hm)⟩) .inr⟩
 | .lst xs,_,⟨a,vs,e1,n,t,r⟩=>⟨a,vs,e1,⟨n.1,fun hm=>n.2 (List.mem_cons_of_mem _ hm)⟩,t,RepAs.show r⟩
 | .dct ks xs,_,⟨a,ws,e1,n,t,ek,r⟩=>⟨a,ws,e1,⟨n.1,fun hm=>n.2 (List.mem_cons_of_mem _ hm)⟩,t,ek,RepAs.show r⟩
 | .ref k,_,h=>h
theorem RepAs.show {K:PySem.W.Frag} {α:Pl} {H:Hp} {p:Addr}:∀{xs:List M} {vs:List V},RepAs K (α.hide p) H xs vs→RepAs K α H xs vs
 |[],_,h=>h
 |x::xs,_,⟨v,r,e1,h1,h2⟩=>⟨v,r,e1,RepA.show h1,RepAs.show h2⟩
end
mutual
theorem RepA.hw {K:PySem.W.Frag} {α:Pl} {H:Hp} {p:Addr} {u:HO} (hp:p∈α.g):∀{m:M} {v:V},RepA K α H m v→RepA K α (upd H p u) m v
 | .non,_,h=>h
 | .bl _,_,h=>h
 | .int _,_,h=>h
 | .str _,_,h=>h
 | .ty _,_,h=>h
 | .tup xs,_,⟨a,vs,e1,t,r⟩=>⟨a,vs,e1,t.elim (fun⟨q,n⟩=> .inl ⟨by
     have hn:a≠p:=by intro z;subst z;exact n.2 hp
     rcases q with q|⟨o,q⟩
     ·exact .inl (by rw[AF hn];exact q)
     ·exact .inr ⟨o,by rw[AF hn];exact q⟩,n⟩) .inr,RepAs.hw hp r⟩
 | .scr ns,_,⟨a,e1,t⟩=>⟨a,e1,t.elim (fun⟨q,n⟩=> .inl ⟨by
     have hn:a≠p:=by intro z;subst z;exact n.2 hp
     rcases q with q|⟨o,q⟩
     ·exact .inl (by rw[AF hn];exact q)
     ·exact .inr ⟨o,by rw[AF hn];exact q⟩,n⟩) .inr⟩
 | .lst xs,_,⟨a,vs,e1,n,t,r⟩=>⟨a,vs,e1,n,by
     have hn:a≠p:=by intro z;subst z;exact n.2 hp
     rw[AF hn];exact t,RepAs.hw hp r⟩
 | .dct ks xs,_,⟨a,ws,e1,n,t,ek,r⟩=>⟨a,ws,e1,n,by
     have hn:a≠p:=by intro z;subst z;exact n.2 hp
     rcases t with t|⟨o,t⟩
     ·exact .inl (by rw[AF hn];exact t)
     ·exact .inr ⟨o,by rw[AF hn];exact t⟩,ek,RepAs.hw hp r⟩
 | .ref k,_,h=>h
theorem RepAs.hw {K:PySem.W.Frag} {α:Pl} {H:Hp} {p:Addr} {u:HO} (hp:p∈α.g):∀{xs:List M} {vs:List V},RepAs K α H xs vs→RepAs K α (upd H p u) xs vs
 |[],_,h=>h
 |x::xs,_,⟨v,r,e1,h1,h2⟩=>⟨v,r,e1,RepA.hw hp h1,RepAs.hw hp h2⟩
end
theorem Rl.hw {K:PySem.W.Frag} {α:Pl} {h:A7} {H:Hp} {p:Addr} {u:HO} (r:Rl K α h H) (hp:p∈α.g):Rl K α h (upd H p u):=
 ⟨r.len,r.nd,r.ap,fun b hb=>by
   by_cases z:b=p
   ·subst z;exact⟨_,AH⟩
   ·obtain⟨o,e⟩:=r.hid b hb
    exact⟨o,by rw[AF z];exact e⟩,fun k a o hk ho=>by
   have hn:a≠p:=by intro z;subst z;exact r.ap _ (List.mem_of_getElem? hk) hp
   have q:=r.obj k a o hk ho
   cases o with
   |lst xs=>obtain⟨vs,h1,h2⟩:=q;exact⟨vs,by rw[AF hn];exact h1,h2.hw hp⟩
   |dct kvs=>obtain⟨ws,h1,h2,h3⟩:=q;exact⟨ws,by rw[AF hn];exact h1,h2,h3.hw hp⟩
   |ins c fs=>obtain⟨C,dx,ws,h0,h1,h2,h3⟩:=q;exact⟨C,dx,ws,h0,by rw[AF hn];exact h1,h2,h3.hw hp⟩
   |fdc kvs=>obtain⟨ob,ws,h1,h2,h3⟩:=q;exact⟨ob,ws,by rw[AF hn];exact h1,h2,h3.hw hp⟩⟩
theorem REnv.hw {K:PySem.W.Frag} {α:Pl} {H:Hp} {ρ:B4} {σ:St} {p:Addr} {u:HO} (r:REnv K α H ρ σ) (hp:p∈α.g):REnv K α (upd H p u) ρ σ:=
 ⟨r.1,fun i m h=>by obtain⟨v,h1,h2⟩:=r.2 i m h;exact⟨v,h1,h2.hw hp⟩⟩
theorem REnv.hide {K:PySem.W.Frag} {α:Pl} {H:Hp} {ρ:B4} {σ:St} {p:Addr} (r:REnv K α H ρ σ) (hp:H p=none):REnv K (α.hide p) H ρ σ:=
 ⟨r.1,fun i m h=>by obtain⟨v,h1,h2⟩:=r.2 i m h;exact⟨v,h1,h2.hide hp⟩⟩
theorem Rl.lay {K:PySem.W.Frag} {α:Pl} {h:A7} {H:Hp} {p:Addr} {u:HO} (r:Rl K α h H) (hp:H p=none):Rl K (α.hide p) h (upd H p u):=
 have s:Same H (upd H p u):=AX hp u
 ⟨r.len,r.nd,fun b hb hm=>by
   rcases List.mem_cons.mp hm with z|z
   ·subst z;exact r.newA hp hb
   ·exact r.ap b hb z,fun b hb=>by
   rcases List.mem_cons.mp hb with z|z
   ·subst z;exact⟨_,AH⟩
   ·obtain⟨o,e⟩:=r.hid b z
    exact⟨o,s b o e⟩,fun k a o hk ho=>by
   have q:=r.obj k a o hk ho
   cases o with
   |lst xs=>obtain⟨vs,h1,h2⟩:=q;exact⟨vs,s _ _ h1,(h2.hide hp).ev (.same s)⟩
   |dct kvs=>obtain⟨ws,h1,h2,h3⟩:=q;exact⟨ws,s _ _ h1,h2,(h3.hide hp).ev (.same s)⟩
   |ins c fs=>obtain⟨C,dx,ws,h0,h1,h2,h3⟩:=q;exact⟨C,dx,ws,h0,s _ _ h1,h2,(h3.hide hp).ev (.same s)⟩
   |fdc kvs=>obtain⟨ob,ws,h1,h2,h3⟩:=q;exact⟨ob,ws,s _ _ h1,h2,(h3.hide hp).ev (.same s)⟩⟩
theorem Rl.show {K:PySem.W.Frag} {α:Pl} {h:A7} {H:Hp} {p:Addr} (r:Rl K (α.hide p) h H):Rl K α h H:=
 ⟨r.len,r.nd,fun b hb hm=>r.ap b hb (List.mem_cons_of_mem _ hm),fun b hb=>r.hid b (List.mem_cons_of_mem _ hb),fun k a o hk ho=>by
   have q:=r.obj k a o hk ho
   cases o with
   |lst xs=>obtain⟨vs,h1,h2⟩:=q;exact⟨vs,h1,h2.show⟩
   |dct kvs=>obtain⟨ws,h1,h2,h3⟩:=q;exact⟨ws,h1,h2,h3.show⟩
   |ins c fs=>obtain⟨C,dx,ws,h0,h1,h2,h3⟩:=q;exact⟨C,dx,ws,h0,h1,h2,h3.show⟩
   |fdc kvs=>obtain⟨ob,ws,h1,h2,h3⟩:=q;exact⟨ob,ws,h1,h2,h3.show⟩⟩
theorem Ev.unhide {α α':Pl} {H H':Hp} {p:Addr} (e:Ev (α.hide p) (α'.hide p) H H'):Ev α α' H H':=
 ⟨⟨(List.cons.inj e.pre.1).2,e.pre.2⟩,fun b o h q n=>e.keep b o h (q.imp id fun z=>List.mem_cons_of_mem _ z) n,e.keepD,e.dom,e.keepF⟩
theorem Ev.hw {α α':Pl} {H H':Hp} {p:Addr} {u:HO} (e:Ev α α' H H') (hp:H p=none):Ev α α' H (upd H' p u):=
 ⟨e.pre,fun b o hb q n=>by
   have z:b≠p:=by intro z;subst z;rw[hp]at hb;cases hb
   rw[AF z];exact e.keep b o hb q n,fun b ws hb n=>by
   have z:b≠p:=by intro z;subst z;rw[hp]at hb;cases hb
   rcases e.keepD b ws hb n with r|⟨o,r⟩
   ·exact .inl (by rw[AF z];exact r)
   ·exact .inr ⟨o,by rw[AF z];exact r⟩,fun b hb=>by
   by_cases z:b=p
   ·subst z;exact hp
   ·rw[AF z]at hb;exact e.dom b hb,fun b ob u' h=>by
   have z:b≠p:=by intro z;subst z;rw[hp]at h;cases h
   rw[AF z];exact e.keepF b ob u' h⟩
def tM (K:PySem.W.Frag) (m:FE):TE:=fun σ H Q=>∃α ρ h d h',REnv K α H ρ σ∧Rl K α h H∧m ρ h=some (d,h')∧∀α' H' v,Ev α α' H H'→Rl K α' h' H'→RepA K α' H' d v→Q v H'
def aM (K:PySem.W.Frag) (m:FA):TA:=fun σ H Q=>∃α ρ h d h',REnv K α H ρ σ∧Rl K α h H∧m ρ h=some (d,h')∧∀α' H' v,Ev α α' H H'→Rl K α' h' H'→RepAs K α' H' d v→Q v H'
def bM (K:PySem.W.Frag) (m:FT):TT:=fun σ H Q=>∃α ρ h d h',REnv K α H ρ σ∧Rl K α h H∧m ρ h=some (d,h')∧∀α' H',Ev α α' H H'→Rl K α' h' H'→Q d H'
def Fin (K:PySem.W.Frag) (D:Ends) (α':Pl) (H':Hp):Out→Prop
 | .nx ρ=>∀σ,REnv K α' H' ρ σ→D.nx σ H'
 | .bk ρ=>∀σ,REnv K α' H' ρ σ→D.bk σ H'
 | .ct ρ=>∀σ,REnv K α' H' ρ σ→D.ct σ H'
 | .rt d=>∀v,RepA K α' H' d v→D.rt v H'
def sM (K:PySem.W.Frag) (m:FS):TS:=fun D σ H=>∃α ρ h o h',REnv K α H ρ σ∧Rl K α h H∧m ρ h=some (o,h')∧∀α' H',Ev α α' H H'→Rl K α' h' H'→Fin K D α' H' o
def gM (K:PySem.W.Frag) (m:FG):TG:=fun v σ H Q=>∃α ρ h x ρ' h',REnv K α H ρ σ∧Rl K α h H∧RepA K α H x v∧m x ρ h=some (ρ',h')∧∀α' H' σ',Ev α α' H H'→Rl K α' h' H'→REnv K α' H' ρ' σ'→Q σ' H'
abbrev W7:=List M→B4→A7→Option (B4×A7)
def sI (K:PySem.W.Frag) (m:W7):W8:=fun v σ H Q=>∃α ρ h x ρ' h',REnv K α H ρ σ∧Rl K α h H∧RepAs K α H x v∧m x ρ h=some (ρ',h')∧∀α' H' σ',Ev α α' H H'→Rl K α' h' H'→REnv K α' H' ρ' σ'→Q σ' H'
def FC (K:PySem.W.Frag) (m:FF):Sp:=fun vs H Q _=>∃α h ds d h',RepAs K α H ds vs∧Rl K α h H∧m ds h=some (d,h')∧∀α' H' v,Ev α α' H H'→Rl K α' h' H'→RepA K α' H' d v→Q v H'
section
variable {X:Cx}
theorem PE.imp {e:Expr} {t t':TE} (h:PE X e t) (i:∀σ H Q,t' σ H Q→t σ H Q):PE X e t':=fun pins s σ H Q I q=>h pins s σ H Q I (i σ H Q q)
theorem PT.imp {e:Expr} {t t':TT} (h:PT X e t) (i:∀σ H Q,t' σ H Q→t σ H Q):PT X e t':=fun pins s σ H Q I q=>h pins s σ H Q I (i σ H Q q)
theorem PW.imp {e:Expr} {t t':TT} (h:PW X e t) (i:∀σ H Q,t' σ H Q→t σ H Q):PW X e t':=fun wh pins s σ H Q I q=>h wh pins s σ H Q I (i σ H Q q)
theorem PA.imp {e:List Expr} {t t':TA} (h:PA X e t) (i:∀σ H Q,t' σ H Q→t σ H Q):PA X e t':=fun pos pins s σ H Q I q=>h pos pins s σ H Q I (i σ H Q q)
theorem PS.imp {e:Stmt} {t t':TS} (h:PS X e t) (i:∀D σ H,t' D σ H→t D σ H):PS X e t':=fun pins s σ H D I q=>h pins s σ H D I (i D σ H q)
theorem PSs.imp {e:List Stmt} {t t':TS} (h:PSs X e t) (i:∀D σ H,t' D σ H→t D σ H):PSs X e t':=fun pins s σ H D I q=>h pins s σ H D I (i D σ H q)
theorem PG.imp {e:Expr} {t t':TG} (h:PG X e t) (i:∀v σ H Q,t' v σ H Q→t v σ H Q):PG X e t':=fun pins s σ H v u Q I r q=>h pins s σ H v u Q I r (i v σ H Q q)
theorem PGs.imp {e:List Expr} {t t':W8} (h:PGs X e t) (i:∀v σ H Q,t' v σ H Q→t v σ H Q):PGs X e t':=fun pins s σ H v u Q I r q=>h pins s σ H v u Q I r (i v σ H Q q)
end
def bnd {a b:Type} (x:Option (a×A7)) (f:a→A7→Option b):Option b:=match x with|some (y,h)=>f y h|none=>none
theorem A6 {a b:Type} {x:Option (a×A7)} {f:a→A7→Option b} {r:b} (e:bnd x f=some r):∃y h,x=some (y,h)∧f y h=some r:=by
 unfold bnd at e
 split at e
 ·exact⟨_,_,rfl,e⟩
 ·cases e
end L2
namespace L2
open PySem PySem.Spec PyProof.Rows
def mC (d:M):FE:=fun _ h=>some (d,h)
def A3 (i:Nat):FE:=fun ρ h=>match ρ[i]?with|some (some m)=>some (m,h)|_=>none
def AB:FA:=fun _ h=>some ([],h)
def A2 (a:FE) (r:FA):FA:=fun ρ h=>bnd (a ρ h) fun x h1=>bnd (r ρ h1) fun xs h2=>some (x::xs,h2)
def EA (a:FA):FE:=fun ρ h=>bnd (a ρ h) fun xs h1=>if xs.length≤16777216 then some (.tup xs,h1) else none
def J4 (a:FA):FE:=fun ρ h=>bnd (a ρ h) fun xs h1=>if xs.length≤16777216 then some (.lst xs,h1) else none
def UC (a:FA):FE:=fun ρ h=>bnd (a ρ h) fun xs h1=>if xs.length≤16777216 then some (.ref h1.length,h1++[.lst xs]) else none
def AM (f:M→M→A7→Option M) (a b:FE):FE:=fun ρ h=>bnd (a ρ h) fun x h1=>bnd (b ρ h1) fun y h2=>(f x y h2).map (·,h2)
def mK (f:M→A7→Option M) (a:FE):FE:=fun ρ h=>bnd (a ρ h) fun x h1=>(f x h1).map (·,h1)
def HK (f:List M→A7→Option M) (a:FA):FE:=fun ρ h=>bnd (a ρ h) fun xs h1=>(f xs h1).map (·,h1)
def AR (f:FF) (a:FA):FE:=fun ρ h=>bnd (a ρ h) fun xs h1=>f xs h1
def ZR (ok:M→A7→Bool) (f:M→List M→A7→Option (M×A7)) (o:FE) (a:FA):FE:=fun ρ h=>bnd (o ρ h) fun x h1=>if ok x h1=true then bnd (a ρ h1) fun xs h2=>f x xs h2 else none
def mO {a:Type} (x:M) (f:Bool→Option a):Option a:=match x with| .bl b=>f b|_=>none
def RW (a b:FE):FE:=fun ρ h=>bnd (a ρ h) fun x h1=>mO x fun c=>if c=true then b ρ h1 else some (.bl false,h1)
def jB (a:FE):FE:=fun ρ h=>bnd (a ρ h) fun x h1=>mO x fun c=>some (.bl (!c),h1)
def uN (c:FT) (a b:FE):FE:=fun ρ h=>bnd (c ρ h) fun c h1=>if c=true then a ρ h1 else b ρ h1
def tV (a:FE):FT:=fun ρ h=>bnd (a ρ h) fun x h1=>mO x fun c=>some (c,h1)
def YY (a b:FT):FT:=fun ρ h=>bnd (a ρ h) fun c h1=>if c=true then b ρ h1 else some (false,h1)
def PR (a b:FT):FT:=fun ρ h=>bnd (a ρ h) fun c h1=>if c=true then some (true,h1) else b ρ h1
def J9 (a:FT):FT:=fun ρ h=>bnd (a ρ h) fun c h1=>some (!c,h1)
theorem L0 {a:Type} {x:M} {f:Bool→Option a} {r:a} (e:mO x f=some r):∃b,x= .bl b∧f b=some r:=by
 cases x<;>first|exact⟨_,rfl,e⟩|cases e
theorem DV {a:Type} {x:Option a} {h:A7} {r:a×A7} (e:x.map (·,h)=some r):x=some r.1∧r.2=h:=by
 cases x with
 |none=>cases e
 |some y=>cases e;exact⟨rfl,rfl⟩
def MR (K:PySem.W.Frag) (r:R2) (f:M→M→A7→Option M):Prop:=∀(α:Pl) (h:A7) (H:Hp) (x y d:M) (u v:V) (Q:VK),Rl K α h H→RepA K α H x u→RepA K α H y v→f x y h=some d→(∀H' w,Same H H'→RepA K α H' d w→Q w H')→r u v H Q
def wG (K:PySem.W.Frag) (r:V→Hp→VK→Prop) (f:M→A7→Option M):Prop:=∀(α:Pl) (h:A7) (H:Hp) (x d:M) (u:V) (Q:VK),Rl K α h H→RepA K α H x u→f x h=some d→(∀H' w,Same H H'→RepA K α H' d w→Q w H')→r u H Q
def FJ (K:PySem.W.Frag) (r:List V→Hp→VK→Prop) (f:List M→A7→Option M):Prop:=∀(α:Pl) (h:A7) (H:Hp) (xs:List M) (d:M) (us:List V) (Q:VK),Rl K α h H→RepAs K α H xs us→f xs h=some d→(∀H' w,Same H H'→RepA K α H' d w→Q w H')→r us H Q
def mL (K:PySem.W.Frag) (r:V→List V→Hp→VK→Prop) (f:M→List M→A7→Option (M×A7)):Prop:=∀(α:Pl) (h h':A7) (H:Hp) (x:M) (xs:List M) (d:M) (u:V) (us:List V) (Q:VK),Rl K α h H→RepA K α H x u→RepAs K α H xs us→f x xs h=some (d,h')→
 (∀α' H' w,Ev α α' H H'→Rl K α' h' H'→RepA K α' H' d w→Q w H')→r u us H Q
section
variable {X:Cx} {a b c e:Expr} {es:List Expr} {ma mb mc me:FE} {mas:FA} {ta tb:FT} {pos p:Pos}
theorem IJ {v:V} {d:M} (h:PE X e (tC v)) (r:∀α H,RepA X.K α H d v):PE X e (tM X.K (mC d)):=h.imp fun σ H Q ⟨α,ρ,h,d',h',hσ,hr,e,k⟩=>by
 cases e
 exact k α H v .refl hr (r α H)
theorem A4 {i j pos}:PE X (.Constant (.int i) j pos) (tM X.K (mC (.int i))):=IJ m5 fun _ _=>rfl
theorem HZ {b j pos}:PE X (.Constant (.bool b) j pos) (tM X.K (mC (.bl b))):=IJ n5 fun _ _=>rfl
theorem GO {j pos}:PE X (.Constant .none j pos) (tM X.K (mC .non)):=IJ j7 fun _ _=>rfl
theorem A9 {x j pos}:PE X (.Constant (.str x) j pos) (tM X.K (mC (.str x))):=IJ jZ fun _ _=>rfl
theorem A1 {i:Nat} (h:PE X e (cC i)):PE X e (tM X.K (A3 i)):=h.imp fun σ H Q ⟨α,ρ,h,d',h',hσ,hr,e,k⟩=>by
 unfold A3 at e
 split at e
 ·rename_i m em
  cases e
  obtain⟨v,h1,h2⟩:=hσ.2 i _ em
  exact⟨v,h1,k α H v .refl hr h2⟩
 ·cases e
theorem WS:PA X [] (aM X.K AB):=X6.imp fun σ H Q ⟨α,ρ,h,d',h',hσ,hr,e,k⟩=>by
 cases e
 exact k α H [] .refl hr rfl
theorem G4 (ha:PE X e (tM X.K ma)) (hr:PA X es (aM X.K mas)) (h:B5 e=true):PA X (e::es) (aM X.K (A2 ma mas)):=(qS ha hr h).imp fun σ H Q ⟨α,ρ,h,d',h',hσ,hr,e,k⟩=>by
 obtain⟨x,h1,e1,e⟩:=A6 e
 obtain⟨xs,h2,e2,e⟩:=A6 e
 cases e
 exact⟨α,ρ,h,x,h1,hσ,hr,e1,fun α1 H1 u ev1 hr1 rx=>⟨α1,ρ,h1,xs,_,hσ.ev ev1,hr1,e2,fun α2 H2 us ev2 hr2 rs=>k α2 H2 _ (ev1.trans ev2) hr2 ⟨u,us,rfl,rx.ev ev2,rs⟩⟩⟩
theorem C3 {x1} (h:PA X es (aM X.K mas)):PE X (.Tuple es x1 pos) (tM X.K (EA mas)):=(jH h).imp fun σ H Q ⟨α,ρ,h,d',h',hσ,hr,e,k⟩=>by
 obtain⟨xs,h1,e1,e⟩:=A6 e
 split at e
 ·rename_i hl
  cases e
  refine⟨α,ρ,h,xs,_,hσ,hr,e1,fun α1 H1 us ev1 hr1 rs=>⟨by rw[←rs.length,sizeLine_eq];exact hl,fun p hp=> ?_⟩⟩
  have s:=AX hp (.tup us)
  exact k α1 _ _ (ev1.trans (.same s)) (hr1.same s) ⟨p,us,rfl, .inl ⟨.inl AH,hr1.new hp⟩,rs.ev (.same s)⟩
 ·cases e
theorem E4 (h:PA X es (aM X.K mas)):PE X (.List es pos) (tM X.K (J4 mas)):=(XM h).imp fun σ H Q ⟨α,ρ,h,d',h',hσ,hr,e,k⟩=>by
 obtain⟨xs,h1,e1,e⟩:=A6 e
 split at e
 ·rename_i hl
  cases e
  refine⟨α,ρ,h,xs,_,hσ,hr,e1,fun α1 H1 us ev1 hr1 rs=>⟨by rw[←rs.length,sizeLine_eq];exact hl,fun p hp=> ?_⟩⟩
  have s:=AX hp (.lst us)
  exact k α1 _ _ (ev1.trans (.same s)) (hr1.same s) ⟨p,us,rfl,hr1.new hp,AH,rs.ev (.same s)⟩
 ·cases e
theorem UU (h:PA X es (aM X.K mas)):PE X (.List es pos) (tM X.K (UC mas)):=(XM h).imp fun σ H Q ⟨α,ρ,h,d',h',hσ,hr,e,k⟩=>by
 obtain⟨xs,h1,e1,e⟩:=A6 e
 split at e
 ·rename_i hl
  cases e
  refine⟨α,ρ,h,xs,h1,hσ,hr,e1,fun α1 H1 us ev1 hr1 rs=>⟨by rw[←rs.length,sizeLine_eq];exact hl,fun p hp=> ?_⟩⟩
  have ea:Ev α1 (α1.add p) H1 (upd H1 p (.lst us)):= .alloc hp
  exact k (α1.add p) _ _ (ev1.trans ea) (hr1.alloc hp ⟨us,AH,rs.ev ea⟩) ⟨p,by rw[←hr1.len];simp[Pl.add],rfl⟩
 ·cases e
theorem B1 {op:Operator} {r:R2} {f:M→M→A7→Option M} (ho:OpR X (binaryOp op) r) (hf:MR X.K r f) (ha:PE X a (tM X.K ma)) (hb:PE X b (tM X.K mb)):PE X (.BinOp a op b pos) (tM X.K (AM f ma mb)):=(oP ho ha hb).imp fun σ H Q ⟨α,ρ,h,d,h',hσ,hr,e,k⟩=>by
 obtain⟨x,h1,e1,e⟩:=A6 e
 obtain⟨y,h2,e2,e⟩:=A6 e
 obtain⟨e3,e4⟩:=DV e
 dsimp only at e3 e4
 subst e4
 exact⟨α,ρ,h,x,h1,hσ,hr,e1,fun α1 H1 u ev1 hr1 rx=>⟨α1,ρ,h1,y,_,hσ.ev ev1,hr1,e2,fun α2 H2 v ev2 hr2 ry=>
  hf α2 _ H2 x y d u v Q hr2 (rx.ev ev2) ry e3 fun H3 w s rw=>k α2 H3 w ((ev1.trans ev2).trans (.same s)) (hr2.same s) rw⟩⟩
theorem fL {op:UnaryOp} {r:V→Hp→VK→Prop} {f:M→A7→Option M} (ho:sT X (unaryOp op) r) (hf:wG X.K r f) (ha:PE X a (tM X.K ma)):PE X (.UnaryOp op a pos) (tM X.K (mK f ma)):=(rA ho ha).imp fun σ H Q ⟨α,ρ,h,d,h',hσ,hr,e,k⟩=>by
 obtain⟨x,h1,e1,e⟩:=A6 e
 obtain⟨e3,e4⟩:=DV e
 dsimp only at e3 e4
 subst e4
 exact⟨α,ρ,h,x,_,hσ,hr,e1,fun α1 H1 u ev1 hr1 rx=>hf α1 _ H1 x d u Q hr1 rx e3 fun H3 w s rw=>k α1 H3 w (ev1.trans (.same s)) (hr1.same s) rw⟩
theorem GG {op:CmpOp} {r:R2} {f:M→M→A7→Option M} (ho:OpR X (compareOp op) r) (hf:MR X.K r f) (ha:PE X a (tM X.K ma)) (hb:PE X b (tM X.K mb)) (hm:behindInMarks op b=false):PE X (.Compare a [op] [b] pos) (tM X.K (AM f ma mb)):=(eI ho ha hb hm).imp fun σ H Q ⟨α,ρ,h,d,h',hσ,hr,e,k⟩=>by
 obtain⟨x,h1,e1,e⟩:=A6 e
 obtain⟨y,h2,e2,e⟩:=A6 e
 obtain⟨e3,e4⟩:=DV e
 dsimp only at e3 e4
 subst e4
 exact⟨α,ρ,h,x,h1,hσ,hr,e1,fun α1 H1 u ev1 hr1 rx=>⟨α1,ρ,h1,y,_,hσ.ev ev1,hr1,e2,fun α2 H2 v ev2 hr2 ry=>
  hf α2 _ H2 x y d u v Q hr2 (rx.ev ev2) ry e3 fun H3 w s rw=>k α2 H3 w ((ev1.trans ev2).trans (.same s)) (hr2.same s) rw⟩⟩
theorem B8 {op:CmpOp} {r:R2} {f:M→M→A7→Option M} (ho:OpR X (compareOp op) r) (hf:MR X.K r f) (ha:PE X a (tM X.K ma)) (hb:PE X b (tM X.K mb)) (hm:behindInMarks op b=false):PT X (.Compare a [op] [b] pos) (bM X.K (tV (AM f ma mb))):=(dH ho ha hb hm).imp fun σ H Q ⟨α,ρ,h,d,h',hσ,hr,e,k⟩=>by
 obtain⟨z,h0,e0,e⟩:=A6 e
 obtain⟨q,rfl,e⟩:=L0 e
 cases e
 obtain⟨x,h1,e1,e⟩:=A6 e0
 obtain⟨y,h2,e2,e⟩:=A6 e
 obtain⟨e3,e4⟩:=DV e
 dsimp only at e3 e4
 subst e4
 exact⟨α,ρ,h,x,h1,hσ,hr,e1,fun α1 H1 u ev1 hr1 rx=>⟨α1,ρ,h1,y,_,hσ.ev ev1,hr1,e2,fun α2 H2 v ev2 hr2 ry=>
  hf α2 _ H2 x y _ u v _ hr2 (rx.ev ev2) ry e3 fun H3 w s rw=>⟨d,rw,k α2 H3 ((ev1.trans ev2).trans (.same s)) (hr2.same s)⟩⟩⟩
theorem G2 {t:FE} (h:PE X e (tM X.K t)) (he:∀whole,isTrue e X.env whole=(do let v←whole;standAt e.pos;holding [v] (truthy v))):PT X e (bM X.K (tV t)):=(gW h he).imp fun σ H Q ⟨α,ρ,h,d,h',hσ,hr,e,k⟩=>by
 obtain⟨z,h0,e0,e⟩:=A6 e
 obtain⟨q,rfl,e⟩:=L0 e
 cases e
 exact⟨α,ρ,h,_,_,hσ,hr,e0,fun α1 H1 u ev1 hr1 rx=>⟨d,rx,k α1 H1 ev1 hr1⟩⟩
theorem cZ (ha:PT X a (bM X.K ta)):PW X (.BoolOp .And [a] pos) (bM X.K ta):=aN ha
theorem JR (ha:PT X a (bM X.K ta)):PW X (.BoolOp .Or [a] pos) (bM X.K ta):=lW ha
theorem m4 {rest:List Expr} (ha:PT X a (bM X.K ta)) (hb:PW X (.BoolOp .And (b::rest) pos) (bM X.K tb)):PW X (.BoolOp .And (a::b::rest) pos) (bM X.K (YY ta tb)):=(jE ha hb).imp fun σ H Q ⟨α,ρ,h,d,h',hσ,hr,e,k⟩=>by
 obtain⟨z,h0,e0,e⟩:=A6 e
 refine⟨α,ρ,h,z,h0,hσ,hr,e0,fun α1 H1 ev1 hr1=> ?_⟩
 cases z with
 |false=>cases e;exact k α1 H1 ev1 hr1
 |true=>exact⟨α1,ρ,h0,d,h',hσ.ev ev1,hr1,e,fun α2 H2 ev2 hr2=>k α2 H2 (ev1.trans ev2) hr2⟩
theorem NM {rest:List Expr} (ha:PT X a (bM X.K ta)) (hb:PW X (.BoolOp .Or (b::rest) pos) (bM X.K tb)):PW X (.BoolOp .Or (a::b::rest) pos) (bM X.K (PR ta tb)):=(oW ha hb).imp fun σ H Q ⟨α,ρ,h,d,h',hσ,hr,e,k⟩=>by
 obtain⟨z,h0,e0,e⟩:=A6 e
 refine⟨α,ρ,h,z,h0,hσ,hr,e0,fun α1 H1 ev1 hr1=> ?_⟩
 cases z with
 |true=>cases e;exact k α1 H1 ev1 hr1
 |false=>exact⟨α1,ρ,h0,d,h',hσ.ev ev1,hr1,e,fun α2 H2 ev2 hr2=>k α2 H2 (ev1.trans ev2) hr2⟩
theorem IB (ha:PT X a (bM X.K ta)):PT X (.UnaryOp .Not a pos) (bM X.K (J9 ta)):=(kZ ha).imp fun σ H Q ⟨α,ρ,h,d,h',hσ,hr,e,k⟩=>by
 obtain⟨z,h0,e0,e⟩:=A6 e
 cases e
 exact⟨α,ρ,h,z,_,hσ,hr,e0,fun α1 H1 ev1 hr1=>k α1 H1 ev1 hr1⟩
theorem OE {op} (h:PE X a (tM X.K ma)):PE X (.BoolOp op [a] pos) (tM X.K ma):=iZ h
theorem L6 {rest:List Expr} (ha:PE X a (tM X.K ma)) (hb:PE X (.BoolOp .And (b::rest) pos) (tM X.K mb)):PE X (.BoolOp .And (a::b::rest) pos) (tM X.K (RW ma mb)):=(fY ha hb).imp fun σ H Q ⟨α,ρ,h,d,h',hσ,hr,e,k⟩=>by
 obtain⟨z,h0,e0,e⟩:=A6 e
 obtain⟨q,rfl,e⟩:=L0 e
 refine⟨α,ρ,h,_,h0,hσ,hr,e0,fun α1 H1 u ev1 hr1 ru=>⟨q,ru,?_⟩⟩
 cases q with
 |false=>cases e;exact k α1 H1 _ ev1 hr1 rfl
 |true=>exact⟨α1,ρ,h0,d,h',hσ.ev ev1,hr1,e,fun α2 H2 w ev2 hr2 rw=>k α2 H2 w (ev1.trans ev2) hr2 rw⟩
theorem i8 (ha:PE X a (tM X.K ma)):PE X (.UnaryOp .Not a pos) (tM X.K (jB ma)):=(jU ha).imp fun σ H Q ⟨α,ρ,h,d,h',hσ,hr,e,k⟩=>by
 obtain⟨z,h0,e0,e⟩:=A6 e
 obtain⟨q,rfl,e⟩:=L0 e
 cases e
 exact⟨α,ρ,h,_,_,hσ,hr,e0,fun α1 H1 u ev1 hr1 ru=>⟨q,ru,k α1 H1 _ ev1 hr1 rfl⟩⟩
theorem nU (hc:PT X c (bM X.K ta)) (ha:PE X a (tM X.K ma)) (hb:PE X b (tM X.K mb)):PE X (.IfExp c a b pos) (tM X.K (uN ta ma mb)):=(XI hc ha hb).imp fun σ H Q ⟨α,ρ,h,d,h',hσ,hr,e,k⟩=>by
 obtain⟨z,h0,e0,e⟩:=A6 e
 refine⟨α,ρ,h,z,h0,hσ,hr,e0,fun α1 H1 ev1 hr1=> ?_⟩
 cases z with
 |true=>exact⟨α1,ρ,h0,d,h',hσ.ev ev1,hr1,e,fun α2 H2 w ev2 hr2 rw=>k α2 H2 w (ev1.trans ev2) hr2 rw⟩
 |false=>exact⟨α1,ρ,h0,d,h',hσ.ev ev1,hr1,e,fun α2 H2 w ev2 hr2 rw=>k α2 H2 w (ev1.trans ev2) hr2 rw⟩
section
variable {CX:PM} {n:Nat} {f:Addr} {fd:FuncData} {ps:List Str} {m:FF} {E:XK} {id T:String} {r:List V→Hp→VK→Prop} {g:List M→A7→Option M} {x:Str}
theorem cV (F:FnOk X.prog X.w X.K X.mg X.base CX n f fd ps (FC X.K m)) (hr:Room n X.A) (q:NmOk X.env.scope x .globalImplicit) (hm:X.mg x=some (.ref f)) (hk:PySem.W.keepIn X.K (.ref f)=true) (hb:Binds X.K fd ps []) (hx:E3 CX X E)
 (ha:PA X (e::es) (aM X.K mas)) (he:B5 e=true) (hpl:(backTo pos (starEach es X.env)).any (·.1)=false):PE X (.Call (.Name x p) (e::es) [] pos) (tM X.K (AR m mas)):=
 (ZC F hr q hm hk hb .nil hx ha he hpl).imp fun σ H Q ⟨α,ρ,h,d,h',hσ,hr,e,k⟩=>by
 obtain⟨xs,h0,e0,e⟩:=A6 e
 exact⟨α,ρ,h,xs,h0,hσ,hr,e0,fun α1 H1 us ev1 hr1 rs=>⟨α1,h0,xs,d,h',by rw[List.append_nil];exact rs,hr1,e,fun α2 H2 w ev2 hr2 rw=>k α2 H2 w (ev1.trans ev2) hr2 rw⟩⟩
theorem CQ (hc:DA X (.builtin id) r) (hg:FJ X.K r g) (q:NmOk X.env.scope x .globalImplicit) (hm:X.mg x=none) (hv:bootBuiltins x=some (.builtin id)) (ha:PA X (e::es) (aM X.K mas)) (he:B5 e=true) (hpl:(backTo pos (starEach es X.env)).any (·.1)=false):
 PE X (.Call (.Name x p) (e::es) [] pos) (tM X.K (HK g mas)):=(NK hc q hm hv ha he hpl).imp fun σ H Q ⟨α,ρ,h,d,h',hσ,hr,e,k⟩=>by
 obtain⟨xs,h0,e0,e⟩:=A6 e
 obtain⟨e5,e6⟩:=DV e
 dsimp only at e5 e6
 subst e6
 exact⟨α,ρ,h,xs,_,hσ,hr,e0,fun α1 H1 us ev1 hr1 rs=>hg α1 _ H1 xs d us Q hr1 rs e5 fun H2 w s rw=>k α1 H2 w (ev1.trans (.same s)) (hr1.same s) rw⟩
theorem IQ (hc:DA X (.type T) r) (hg:FJ X.K r g) (q:NmOk X.env.scope x .globalImplicit) (hm:X.mg x=none) (hv:bootBuiltins x=some (.type T)) (ha:PA X (e::es) (aM X.K mas)) (he:B5 e=true) (hpl:(backTo pos (starEach es X.env)).any (·.1)=false):
 PE X (.Call (.Name x p) (e::es) [] pos) (tM X.K (HK g mas)):=(MA hc q hm hv ha he hpl).imp fun σ H Q ⟨α,ρ,h,d,h',hσ,hr,e,k⟩=>by
 obtain⟨xs,h0,e0,e⟩:=A6 e
 obtain⟨e5,e6⟩:=DV e
 dsimp only at e5 e6
 subst e6
 exact⟨α,ρ,h,xs,_,hσ,hr,e0,fun α1 H1 us ev1 hr1 rs=>hg α1 _ H1 xs d us Q hr1 rs e5 fun H2 w s rw=>k α1 H2 w (ev1.trans (.same s)) (hr1.same s) rw⟩
end
section
variable {o:Expr} {mo:FE} {name:Str} {apos cpos:Pos} {T id:String} {r:V→List V→Hp→VK→Prop} {ok:M→A7→Bool} {f:M→List M→A7→Option (M×A7)}
theorem MD (pa:PlainAttrs T) (slot:Slot T name id) (hty:typeOf (.builtin id)=pure (.type "method_descriptor")) (hm:eX X id r) (hok:∀α h H x v,Rl X.K α h H→RepA X.K α H x v→ok x h=true→lN X.K T v H) (hf:mL X.K r f)
 (ho:PE X o (tM X.K mo)) (ha:PA X (e::es) (aM X.K mas)) (hbase:attributeBase o name X.env (eval o X.env)=eval o X.env)
 (hfew:((backTo cpos (starEach (e::es) X.env)).all (fun x=> !x.1)&&(backToKw cpos (keywordEach [] X.env)).all (fun x=>x.1.isSome)
   &&decide ((e::es).length+([]:List Keyword).length+(if([]:List Keyword).isEmpty then 0 else 1)<30))=true)
 (hline:(apos.endLine==cpos.line)=true) (hs:starEach (e::es) X.env=(false,eval e X.env)::starEach es X.env) (hplain:(backTo cpos (starEach es X.env)).any (·.1)=false):
 PE X (.Call (.Attribute o name apos) (e::es) [] cpos) (tM X.K (ZR ok f mo mas)):=(nZ pa slot hty hm ho ha hbase hfew hline hs hplain).imp fun σ H Q ⟨α,ρ,h,d,h',hσ,hr,e,k⟩=>by
 obtain⟨x,h0,e0,e⟩:=A6 e
 split at e
 ·rename_i hk
  obtain⟨xs,h1,e1,e⟩:=A6 e
  exact⟨α,ρ,h,x,h0,hσ,hr,e0,fun α1 H1 u ev1 hr1 ru=>⟨hok α1 h0 H1 x u hr1 ru hk,α1,ρ,h0,xs,h1,hσ.ev ev1,hr1,e1,fun α2 H2 us ev2 hr2 rs=>
   hf α2 h1 h' H2 x xs d u us Q hr2 (ru.ev ev2) rs e fun α3 H3 w ev3 hr3 rw=>k α3 H3 w ((ev1.trans ev2).trans ev3) hr3 rw⟩⟩
 ·cases e
end
theorem AD {r:R2} {f:M→M→A7→Option M} (ho:IxR X r) (hf:MR X.K r f) (ha:PE X a (tM X.K ma)) (hb:PE X b (tM X.K mb)) (hs:TL b):PE X (.Subscript a b pos) (tM X.K (AM f ma mb)):=(oX ho ha hb hs).imp fun σ H Q ⟨α,ρ,h,d,h',hσ,hr,e,k⟩=>by
 obtain⟨x,h1,e1,e⟩:=A6 e
 obtain⟨y,h2,e2,e⟩:=A6 e
 obtain⟨e3,e4⟩:=DV e
 dsimp only at e3 e4
 subst e4
 exact⟨α,ρ,h,x,h1,hσ,hr,e1,fun α1 H1 u ev1 hr1 rx=>⟨α1,ρ,h1,y,_,hσ.ev ev1,hr1,e2,fun α2 H2 v ev2 hr2 ry=>
  hf α2 _ H2 x y d u v Q hr2 (rx.ev ev2) ry e3 fun H3 w s rw=>k α2 H3 w ((ev1.trans ev2).trans (.same s)) (hr2.same s) rw⟩⟩
abbrev FO:=B4→A7→Option (Option Int×A7)
def oM (K:PySem.W.Frag) (m:FO):TO:=fun σ H Q=>∃α ρ h d h',REnv K α H ρ σ∧Rl K α h H∧m ρ h=some (d,h')∧∀α' H',Ev α α' H H'→Rl K α' h' H'→Q d H'
def qT:FO:=fun _ h=>some (none,h)
def GB (a:FE):FO:=fun ρ h=>bnd (a ρ h) fun x h1=>match x with| .int i=>some (some i,h1)|_=>none
theorem PO.imp {e:Option Expr} {t t':TO} (h:PO X e t) (i:∀σ H Q,t' σ H Q→t σ H Q):PO X e t':=fun pins s σ H Q I q=>h pins s σ H Q I (i σ H Q q)
theorem P8:PO X none (oM X.K qT):=ZU.imp fun σ H Q ⟨α,ρ,h,d,h',hσ,hr,e,k⟩=>by
 cases e
 exact k α H .refl hr
theorem EC (ha:PE X a (tM X.K ma)):PO X (some a) (oM X.K (GB ma)):=(d0 ha).imp fun σ H Q ⟨α,ρ,h,d,h',hσ,hr,e,k⟩=>by
 obtain⟨x,h1,e1,e⟩:=A6 e
 split at e
 ·cases e
  exact⟨α,ρ,h,_,_,hσ,hr,e1,fun α1 H1 u ev1 hr1 ru=>⟨_,ru,k α1 H1 ev1 hr1⟩⟩
 ·cases e
def wC (K:PySem.W.Frag) (r:V→Option Int→Option Int→Hp→VK→Prop) (f:M→Option Int→Option Int→A7→Option M):Prop:=∀(α:Pl) (h:A7) (H:Hp) (x d:M) (lo hi:Option Int) (u:V) (Q:VK),Rl K α h H→RepA K α H x u→f x lo hi h=some d→(∀H' w,Same H H'→RepA K α H' d w→Q w H')→r u lo hi H Q
def fJ (f:M→Option Int→Option Int→A7→Option M) (a:FE) (lo hi:FO):FE:=fun ρ h=>bnd (a ρ h) fun x h1=>bnd (lo ρ h1) fun l h2=>bnd (hi ρ h2) fun u h3=>(f x l u h3).map (·,h3)
theorem FW {lo hi:Option Expr} {p2:Pos} {r:V→Option Int→Option Int→Hp→VK→Prop} {f:M→Option Int→Option Int→A7→Option M} {ml mh:FO} (hr:SlR X r) (hf:wC X.K r f) (he:PE X a (tM X.K ma)) (hl:PO X lo (oM X.K ml)) (hu:PO X hi (oM X.K mh)):
 PE X (.Subscript a (.Slice lo hi none p2) pos) (tM X.K (fJ f ma ml mh)):=(WG hr he hl hu).imp fun σ H Q ⟨α,ρ,h,d,h',hσ,hr,e,k⟩=>by
 obtain⟨x,h1,e1,e⟩:=A6 e
 obtain⟨l,h2,e2,e⟩:=A6 e
 obtain⟨u,h3,e3,e⟩:=A6 e
 obtain⟨e5,e6⟩:=DV e
 dsimp only at e5 e6
 subst e6
 exact⟨α,ρ,h,x,h1,hσ,hr,e1,fun α1 H1 v ev1 hr1 rx=>⟨α1,ρ,h1,l,h2,hσ.ev ev1,hr1,e2,fun α2 H2 ev2 hr2=>⟨α2,ρ,h2,u,_,hσ.ev (ev1.trans ev2),hr2,e3,fun α3 H3 ev3 hr3=>
  hf α3 _ H3 x d l u v Q hr3 ((rx.ev ev2).ev ev3) e5 fun H4 w s rw=>k α3 H4 w (((ev1.trans ev2).trans ev3).trans (.same s)) (hr3.same s) rw⟩⟩⟩
end
end L2
namespace L2
open PySem PySem.Spec PyProof.Rows
def BV:FS:=fun ρ h=>some (.nx ρ,h)
def C1 (a:FE):FS:=fun ρ h=>bnd (a ρ h) fun x h1=>some (.rt x,h1)
def ET (a:FE):FS:=fun ρ h=>bnd (a ρ h) fun _ h1=>some (.nx ρ,h1)
def AS (a b:FS):FS:=fun ρ h=>bnd (a ρ h) fun o h1=>match o with| .nx ρ'=>b ρ' h1|o=>some (o,h1)
def GT (c:FT) (a b:FS):FS:=fun ρ h=>bnd (c ρ h) fun c h1=>if c=true then a ρ h1 else b ρ h1
def D0 (i:Nat):FG:=fun x ρ h=>some (ρ.set i (some x),h)
def KL:W7:=fun xs ρ h=>match xs with|[]=>some (ρ,h)|_=>none
def CV (g:FG) (gs:W7):W7:=fun xs ρ h=>match xs with|x::r=>bnd (g x ρ h) fun ρ' h'=>gs r ρ' h'|[]=>none
def ZQ (n:Nat) (gs:W7):FG:=fun x ρ h=>match x with| .tup xs=>if xs.length=n then gs xs ρ h else none|_=>none
def BR (a:FE) (g:FG):FS:=fun ρ h=>bnd (a ρ h) fun x h1=>bnd (g x ρ h1) fun ρ' h2=>some (.nx ρ',h2)
abbrev FI:=B4→A7→Option ((List M×Option Nat)×A7)
def WP (xs:List M) (k:Option Nat) (h:A7):Prop:=match k with|none=>True|some k=>h[k]? =some (.lst xs)
section
open Classical
noncomputable def GA (xs:List M) (k:Option Nat) (b:M→FS):List M→B4→A7→Option (Out×A7)
 |[],ρ,h=>if WP xs k h then some (.nx ρ,h) else none
 |x::r,ρ,h=>if WP xs k h then bnd (b x ρ h) fun o h1=>match o with
   | .nx ρ'=>GA xs k b r ρ' h1
   | .ct ρ'=>GA xs k b r ρ' h1
   | .bk ρ'=>some (.nx ρ',h1)
   | .rt d=>some (.rt d,h1)
  else none
noncomputable def CY (xs:List M) (k:Option Nat) (g:FG) (c:FT) (e:FE) (τ:B4):List M→A7→Option (List M×A7)
 |[],h=>if WP xs k h then some ([],h) else none
 |x::r,h=>if WP xs k h then bnd (g x τ h) fun τ' h1=>bnd (c τ' h1) fun t h2=>if t=true then bnd (e τ' h2) fun y h3=>bnd (CY xs k g c e τ r h3) fun ys h4=>some (y::ys,h4) else CY xs k g c e τ r h2
  else none
end
noncomputable def RN (i:FI) (g:FG) (b:FS):FS:=fun ρ h=>bnd (i ρ h) fun s h1=>GA s.1 s.2 (fun x ρ h=>bnd (g x ρ h) fun ρ' h'=>b ρ' h') s.1 ρ h1
def MF (ix:List (Option Nat)) (ρ:B4):B4:=ix.map fun o=>match o with|none=>none|some j=>(ρ[j]?).join
noncomputable def GW (ix:List (Option Nat)) (i:FI) (g:FG) (c:FT) (e:FE):FE:=fun ρ h=>bnd (i ρ h) fun s h1=>if s.1.length≤16777216 then bnd (CY s.1 s.2 g c e (MF ix ρ) s.1 h1) fun ys h2=>some (.lst ys,h2) else none
def Wk (K:PySem.W.Frag) (α:Pl) (H:Hp) (xs:List M) (k:Option Nat) (J:It):Prop:=∀γ:List Addr,(∀b∈γ,H b=none)→∀α1 h1 H1,Ev ⟨α.a,γ++α.g⟩ α1 H H1→Rl K α1 h1 H1→WP xs k h1→∀i:Nat,
 (∀x,xs[i]? =some x→J.go i H1∧∀v H2,J.yld i H1 v H2→Same H1 H2∧RepA K α1 H2 x v)∧(i=xs.length→J.stop i H1)
def iM (K:PySem.W.Frag) (m:FI):TI:=fun σ H R=>∃α ρ h s h',REnv K α H ρ σ∧Rl K α h H∧m ρ h=some (s,h')∧∀α' H' J,Ev α α' H H'→Rl K α' h' H'→Wk K α' H' s.1 s.2 J→R J H'
theorem REnv.set {K:PySem.W.Frag} {α:Pl} {H:Hp} {ρ:B4} {σ:St} {i:Nat} {x:M} {v:V} (r:REnv K α H ρ σ) (hx:RepA K α H x v):REnv K α H (ρ.set i (some x)) (σ.set i (some v)):=by
 refine⟨by simp[r.1],fun j m hj=> ?_⟩
 by_cases e:i=j
 ·subst e
  have hl:i<ρ.length:=by have:=(List.getElem?_eq_some_iff.mp hj).1;simpa using this
  rw[List.getElem?_set_self hl]at hj
  cases hj
  exact⟨v,by rw[List.getElem?_set_self (by rw[←r.1];exact hl)],hx⟩
 ·rw[List.getElem?_set_ne e]at hj
  obtain⟨w,h1,h2⟩:=r.2 j m hj
  exact⟨w,by rw[List.getElem?_set_ne e];exact h1,h2⟩
theorem REnv.tau {K:PySem.W.Frag} {α:Pl} {H:Hp} {ρ:B4} {σ:St} {ix:List (Option Nat)} (r:REnv K α H ρ σ):REnv K α H (MF ix ρ) (tau ix σ):=by
 refine⟨by simp[MF,L2.tau],fun j m hj=> ?_⟩
 unfold MF at hj
 rw[List.getElem?_map]at hj
 cases e:ix[j]?with
 |none=>rw[e]at hj;cases hj
 |some o=>
  rw[e]at hj
  cases o with
  |none=>cases hj
  |some q=>
   have hj':(ρ[q]?).join=some m:=Option.some.inj hj
   have hq:ρ[q]? =some (some m):=by
    cases e2:ρ[q]?with
    |none=>rw[e2]at hj';cases hj'
    |some z=>rw[e2]at hj';exact congrArg some hj'
   obtain⟨v,h1,h2⟩:=r.2 q m hq
   refine⟨v,?_,h2⟩
   unfold L2.tau
   rw[List.getElem?_map,e]
   show some (σ[q]?).join=_
   rw[h1]
   rfl
section
variable {X:Cx} {a b c e o:Expr} {es:List Expr} {ma mb mc me:FE} {mas:FA} {tc:FT} {st:Stmt} {rest:List Stmt} {ms mr:FS} {g:FG} {gs:W7} {pos p:Pos}
theorem AY:PSs X [] (sM X.K BV):=dF.imp fun D σ H ⟨α,ρ,h,d,h',hσ,hr,e,k⟩=>by
 cases e
 exact k α H .refl hr σ hσ
theorem AA (h:PS X st (sM X.K ms)):PSs X [st] (sM X.K ms):=aR h
theorem A5 (h1:PS X st (sM X.K ms)) (h2:PSs X rest (sM X.K mr)):PSs X (st::rest) (sM X.K (AS ms mr)):=(X8 h1 h2).imp fun D σ H ⟨α,ρ,h,d,h',hσ,hr,e,k⟩=>by
 obtain⟨o,h1,e1,e⟩:=A6 e
 refine⟨α,ρ,h,o,h1,hσ,hr,e1,fun α1 H1 ev1 hr1=> ?_⟩
 cases o with
 |nx ρ'=>exact fun σ' hσ'=>⟨α1,ρ',h1,d,h',hσ',hr1,e,fun α2 H2 ev2 hr2=>k α2 H2 (ev1.trans ev2) hr2⟩
 |bk ρ'=>cases e;exact k α1 H1 ev1 hr1
 |ct ρ'=>cases e;exact k α1 H1 ev1 hr1
 |rt x=>cases e;exact k α1 H1 ev1 hr1
theorem AV (he:PE X e (tM X.K me)):PS X (.Return (some e) pos) (sM X.K (C1 me)):=(fZ he).imp fun D σ H ⟨α,ρ,h,d,h',hσ,hr,e,k⟩=>by
 obtain⟨x,h1,e1,e⟩:=A6 e
 cases e
 exact⟨α,ρ,h,x,_,hσ,hr,e1,fun α1 H1 v ev1 hr1 rv=>k α1 H1 ev1 hr1 v rv⟩
theorem DH (he:PE X e (tM X.K me)) (hs:JM e=true):PS X (.Expr e pos) (sM X.K (ET me)):=(WB he hs).imp fun D σ H ⟨α,ρ,h,d,h',hσ,hr,e,k⟩=>by
 obtain⟨x,h1,e1,e⟩:=A6 e
 cases e
 exact⟨α,ρ,h,x,_,hσ,hr,e1,fun α1 H1 v ev1 hr1 rv=>k α1 H1 ev1 hr1 σ (hσ.ev ev1)⟩
theorem BS {s1 s2:List Stmt} (hc:PT X c (bM X.K tc)) (ha:PSs X s1 (sM X.K ms)) (hb:PSs X s2 (sM X.K mr)):PS X (.If c s1 s2 pos) (sM X.K (GT tc ms mr)):=(n8 hc ha hb).imp fun D σ H ⟨α,ρ,h,d,h',hσ,hr,e,k⟩=>by
 obtain⟨z,h1,e1,e⟩:=A6 e
 refine⟨α,ρ,h,z,h1,hσ,hr,e1,fun α1 H1 ev1 hr1=> ?_⟩
 cases z with
 |true=>exact⟨α1,ρ,h1,d,h',hσ.ev ev1,hr1,e,fun α2 H2 ev2 hr2=>k α2 H2 (ev1.trans ev2) hr2⟩
 |false=>exact⟨α1,ρ,h1,d,h',hσ.ev ev1,hr1,e,fun α2 H2 ev2 hr2=>k α2 H2 (ev1.trans ev2) hr2⟩
theorem C5 {i:Nat} (h:PG X e (KI i)):PG X e (gM X.K (D0 i)):=h.imp fun v σ H Q ⟨α,ρ,h,x,ρ',h',hσ,hr,rx,e,k⟩=>by
 cases e
 exact k α H _ .refl hr (hσ.set rx)
theorem L3:PGs X [] (sI X.K KL):=UI.imp fun v σ H Q ⟨α,ρ,h,x,ρ',h',hσ,hr,rx,e,k⟩=>by
 cases x with
 |nil=>cases e;exact⟨rx,k α H _ .refl hr hσ⟩
 |cons _ _=>cases e
theorem CL (h1:PG X e (gM X.K g)) (h2:PGs X es (sI X.K gs)) (hs:(assignEach (e::es) X.env).map (·.2)=assign e X.env::(assignEach es X.env).map (·.2)):PGs X (e::es) (sI X.K (CV g gs)):=(LC h1 h2 hs).imp fun v σ H Q ⟨α,ρ,h,x,ρ',h',hσ,hr,rx,e,k⟩=>by
 cases x with
 |nil=>cases e
 |cons x r=>
  obtain⟨u,us,rfl,ru,rs⟩:=rx
  obtain⟨ρ1,h1,e1,e⟩:=A6 e
  exact⟨u,us,rfl,α,ρ,h,x,ρ1,h1,hσ,hr,ru,e1,fun α1 H1 σ1 ev1 hr1 hσ1=>⟨α1,ρ1,h1,r,ρ',h',hσ1,hr1,rs.ev ev1,e,fun α2 H2 σ2 ev2 hr2 hσ2=>k α2 H2 σ2 (ev1.trans ev2) hr2 hσ2⟩⟩
theorem OB {k:Nat} {n:Nat} (hc:X.calm=true) (h:PGs X es (sI X.K gs)) (hn:(assignEach es X.env).length=n) (hst:(assignEach es X.env).findIdx? (·.1)=none):PG X (.Tuple es k pos) (gM X.K (ZQ n gs)):=(Y9 hc h hn hst).imp fun v σ H Q ⟨α,ρ,h,x,ρ',h',hσ,hr,rx,e,k⟩=>by
 unfold ZQ at e
 split at e
 ·split at e
  ·rename_i xs hl
   obtain⟨a,vs,rfl,t,rs⟩:=rx
   exact⟨a,vs,rfl,t.sq,by rw[←rs.length];exact hl,α,ρ,h,xs,ρ',h',hσ,hr,rs,e,k⟩
  ·cases e
 ·cases e
theorem EX {tg:Expr} (he:PE X e (tM X.K me)) (hg:PG X tg (gM X.K g)) (hs:swapsWithSole [tg] e pos.line X.env=pure false) (hw:swappedStores [tg] e X.env=pure none) (h1:(assignEach [tg] X.env).map (·.2)=[assign tg X.env]):
 PS X (.Assign [tg] e pos) (sM X.K (BR me g)):=(lX he hg hs hw h1).imp fun D σ H ⟨α,ρ,h,d,h',hσ,hr,e,k⟩=>by
 obtain⟨x,h1,e1,e⟩:=A6 e
 obtain⟨ρ1,h2,e2,e⟩:=A6 e
 cases e
 exact⟨α,ρ,h,x,h1,hσ,hr,e1,fun α1 H1 v ev1 hr1 rv=>⟨α1,ρ,h1,x,ρ1,_,hσ.ev ev1,hr1,rv,e2,fun α2 H2 σ2 ev2 hr2 hσ2=>k α2 H2 (ev1.trans ev2) hr2 σ2 hσ2⟩⟩
theorem B2 {i:Nat} {x:Str} {pos':Pos} (hN:X.N.Nodup) (hi:X.N[i]? =some x) (hx:mI X.env.scope x) (he:PE X e (tM X.K me)) (hs:JM e=true) (hf:X.fn x=true):
 PS X (.Assign [.Name x pos'] e pos) (sM X.K (BR me (D0 i))):=(ZY hN hi hx he hs hf).imp fun D σ H ⟨α,ρ,h,d,h',hσ,hr,e,k⟩=>by
 obtain⟨x,h1,e1,e⟩:=A6 e
 cases e
 exact⟨α,ρ,h,x,_,hσ,hr,e1,fun α1 H1 v ev1 hr1 rv=>k α1 H1 ev1 hr1 _ ((hσ.ev ev1).set rv)⟩
theorem M2 {iter tg:Expr} {body:List Stmt} {mi:FI} (hp:PassesOwn (model X.prog X.w) X.A X.env X.xe) (hc:X.calm=true) (hi:PI X tg iter (iM X.K mi)) (hg:PG X tg (gM X.K g)) (hb:PSs X body (sM X.K ms)) (hs:∀x,foldedSetIterable iter X.env x=pure x):
 PS X (.For tg iter body [] pos) (sM X.K (RN mi g ms)):=(jV hp hc hi hg hb hs).imp fun D σ H ⟨α,ρ,h,d,h',hσ,hr,e,k⟩=>by
 obtain⟨s,h1,e1,e⟩:=A6 e
 refine⟨α,ρ,h,s,h1,hσ,hr,e1,fun α1 H1 J ev1 hr1 wk=> ?_⟩
 refine⟨fun i m σ2 H2=>m=s.1.length-i∧i≤s.1.length∧∃α2 ρ2 h2,Ev α1 α2 H1 H2∧REnv X.K α2 H2 ρ2 σ2∧Rl X.K α2 h2 H2∧GA s.1 s.2 (fun x ρ h=>bnd (g x ρ h) fun ρ' h'=>ms ρ' h') (s.1.drop i) ρ2 h2=some (d,h'),⟨_,rfl,Nat.zero_le _,α1,ρ,h1, .refl,hσ.ev ev1,hr1,e⟩,?_⟩
 rintro i m σ2 H2 ⟨rfl,hi,α2,ρ2,h2,ev2,hσ2,hr2,e⟩
 by_cases hlt:i<s.1.length
 ·right
  rw[List.drop_eq_getElem_cons hlt]at e
  unfold GA at e
  split at e
  ·rename_i ok
   obtain⟨go,yl⟩:=(wk [] (by simp) α2 h2 H2 ev2 hr2 ok i).1 s.1[i] (by simp[hlt])
   refine⟨go,fun σ' H'=>∃α3 ρ3 h3,Ev α1 α3 H1 H'∧REnv X.K α3 H' ρ3 σ'∧Rl X.K α3 h3 H'∧GA s.1 s.2 (fun x ρ h=>bnd (g x ρ h) fun ρ' h'=>ms ρ' h') (s.1.drop (i+1)) ρ3 h3=some (d,h'),fun σ' H' q=>⟨_,by omega,rfl,hlt,q⟩,fun v H3 y=> ?_⟩
   obtain⟨s3,rv⟩:=yl v H3 y
   obtain⟨o,h4,e4,e⟩:=A6 e
   obtain⟨ρ5,h5,e5,e4⟩:=A6 e4
   refine⟨α2,ρ2,h2,_,ρ5,h5,hσ2.ev (.same s3),hr2.same s3,rv,e5,fun α5 H5 σ5 ev5 hr5 hσ5=> ?_⟩
   refine⟨α5,ρ5,h5,o,h4,hσ5,hr5,e4,fun α6 H6 ev6 hr6=> ?_⟩
   have evA:Ev α1 α6 H1 H6:=((ev2.trans (.same s3)).trans ev5).trans ev6
   cases o with
   |nx ρ'=>exact fun σ' hσ'=>⟨α6,ρ',h4,evA,hσ',hr6,e⟩
   |ct ρ'=>exact fun σ' hσ'=>⟨α6,ρ',h4,evA,hσ',hr6,e⟩
   |bk ρ'=>cases e;exact fun σ' hσ'=>k α6 H6 (ev1.trans evA) hr6 σ' hσ'
   |rt x=>cases e;exact fun v rv=>k α6 H6 (ev1.trans evA) hr6 v rv
  ·cases e
 ·left
  have ei:i=s.1.length:=by omega
  subst ei
  rw[List.drop_length]at e
  unfold GA at e
  split at e
  ·rename_i ok
   cases e
   exact⟨(wk [] (by simp) α2 _ H2 ev2 hr2 ok _).2 rfl,k α2 H2 (ev1.trans ev2) hr2 σ2 hσ2⟩
  ·cases e
def CG (K:PySem.W.Frag) (ix:List (Option Nat)) (g0:TG) (g:FG):Prop:=∀(α:Pl) (h:A7) (H:Hp) (σ σ1:St) (ρ1:B4) (x:M) (v:V) (ρ':B4) (h':A7) (Q:St→Hp→Prop),RG ix σ σ1→REnv K α H ρ1 σ1→RepA K α H x v→g x ρ1 h=some (ρ',h')→
 (∀σ',RG ix σ σ'→REnv K α H ρ' σ'→h'=h→Q σ' H)→g0 v σ1 H Q
def sL (K:PySem.W.Frag) (ix:List (Option Nat)) (g0:W8) (g:W7):Prop:=∀(α:Pl) (h:A7) (H:Hp) (σ σ1:St) (ρ1:B4) (x:List M) (v:List V) (ρ':B4) (h':A7) (Q:St→Hp→Prop),RG ix σ σ1→REnv K α H ρ1 σ1→RepAs K α H x v→g x ρ1 h=some (ρ',h')→
 (∀σ',RG ix σ σ'→REnv K α H ρ' σ'→h'=h→Q σ' H)→g0 v σ1 H Q
theorem G8 {K:PySem.W.Frag} {ix:List (Option Nat)} {i:Nat} (hi:ix[i]? =some none):CG K ix (KI i) (D0 i):=by
 intro α h H σ σ1 ρ1 x v ρ' h' Q kp hσ rx e k
 cases e
 refine k _ ⟨by simp[kp.1],fun q w hq=> ?_⟩ (hσ.set rx) rfl
 by_cases z:i=q
 ·subst z
  unfold L2.tau at hq
  rw[List.getElem?_map,hi]at hq
  cases hq
 ·rw[List.getElem?_set_ne z];exact kp.2 q w hq
theorem bF {K:PySem.W.Frag} {ix:List (Option Nat)}:sL K ix nD KL:=by
 intro α h H σ σ1 ρ1 x v ρ' h' Q kp hσ rx e k
 cases x with
 |nil=>cases e;exact⟨rx,k _ kp hσ rfl⟩
 |cons _ _=>cases e
theorem R6 {K:PySem.W.Frag} {ix:List (Option Nat)} {g0:TG} {gs0:W8} {g:FG} {gs:W7} (h1:CG K ix g0 g) (h2:sL K ix gs0 gs):sL K ix (eQ g0 gs0) (CV g gs):=by
 intro α h H σ σ1 ρ1 x v ρ' h' Q kp hσ rx e k
 cases x with
 |nil=>cases e
 |cons x r=>
  obtain⟨u,us,rfl,ru,rs⟩:=rx
  obtain⟨ρ2,h3,e1,e⟩:=A6 e
  exact⟨u,us,rfl,h1 α h H σ σ1 ρ1 x u ρ2 h3 _ kp hσ ru e1 fun σ2 kp2 hσ2 eh=>h2 α h3 H σ σ2 ρ2 r us ρ' h' Q kp2 hσ2 rs e fun σ3 kp3 hσ3 eh3=>k σ3 kp3 hσ3 (eh3.trans eh)⟩
theorem gJ {K:PySem.W.Frag} {ix:List (Option Nat)} {n:Nat} {gs0:W8} {gs:W7} (h:sL K ix gs0 gs):CG K ix (nC K n gs0) (ZQ n gs):=by
 intro α h0 H σ σ1 ρ1 x v ρ' h' Q kp hσ rx e k
 unfold ZQ at e
 split at e
 ·split at e
  ·rename_i xs hl
   obtain⟨a,vs,rfl,t,rs⟩:=rx
   exact⟨a,vs,rfl,t.sq,by rw[←rs.length];exact hl,h α h0 H σ σ1 ρ1 xs vs ρ' h' Q kp hσ rs e k⟩
  ·cases e
 ·cases e
theorem PTs.imp {es:List Expr} {t t':TT} (h:PTs X es t) (i:∀σ H Q,t' σ H Q→t σ H Q):PTs X es t':=fun pins s σ H Q I q=>h pins s σ H Q I (i σ H Q q)
def GY:FT:=fun _ h=>some (true,h)
theorem IV:PTs X [] (bM X.K GY):=aB.imp fun σ H Q ⟨α,ρ,h,d,h',hσ,hr,e,k⟩=>by
 cases e
 exact k α H .refl hr
theorem ZZ (h:PT X c (bM X.K tc)):PTs X [c] (bM X.K tc):=dI h
theorem Q4 {ix:List (Option Nat)} {σ:St}:RG ix σ (tau ix σ):=⟨by simp[L2.tau],fun _ _ h=>h⟩
theorem RQ {K:PySem.W.Frag} {ix:List (Option Nat)} {mi:FI} {g0:TG} {g:FG} {tc:FT} {me:FE} (cg:CG K ix g0 g) {σ:St} {H:Hp} {Q:VK} (q:tM K (GW ix mi g tc me) σ H Q):UQ ix (iM K mi) g0 (bM K tc) (tM K me) σ H Q:=by
 obtain⟨α,ρ,h,d,h',hσ,hr,e,k⟩:=q
 obtain⟨s,h1,e1,e⟩:=A6 e
 split at e
 ·rename_i hl
  obtain⟨ys,h2,e2,e⟩:=A6 e
  cases e
  refine⟨α,ρ,h,s,h1,hσ,hr,e1,fun α1 H1 J ev1 hr1 wk D hD=> ?_⟩
  have hσ1:=(hσ.ev ev1).tau (ix:=ix)
  have hDg:D∉α1.g:=fun hm=>by
   obtain⟨o,e⟩:=hr1.hid D hm
   rw[hD]at e;cases e
  have hγ:∀b∈[D],H1 b=none:=fun b hb=>by rw[List.mem_singleton.mp hb];exact hD
  refine⟨fun i m acc H2=>m=s.1.length-i∧i≤s.1.length∧acc.length≤i∧∃a2 h2 zs rs,ys=zs++rs∧Ev (α1.hide D) (Pl.hide ⟨a2,α1.g⟩ D) H1 H2∧Rl K (Pl.hide ⟨a2,α1.g⟩ D) h2 H2∧REnv K (Pl.hide ⟨a2,α1.g⟩ D) H2 (MF ix ρ) (tau ix σ)∧RepAs K (Pl.hide ⟨a2,α1.g⟩ D) H2 zs acc∧CY s.1 s.2 g tc me (MF ix ρ) (s.1.drop i) h2=some (rs,h'),
   ⟨_,rfl,Nat.zero_le _,Nat.zero_le _,α1.a,h1,[],ys,rfl, .same (AX hD _),hr1.lay hD,(hσ1.hide hD).ev (.same (AX hD _)),rfl,e2⟩,?_⟩
  rintro i m acc H2 ⟨rfl,hi,hacc,a2,h2,zs,rs,ey,ev2,hr2,hσ2,rz,e⟩ hDa
  have hDm:D∈(Pl.hide ⟨a2,α1.g⟩ D).g:=List.mem_cons_self
  have hDn:D∉a2:=fun hm=>hr2.ap D hm hDm
  by_cases hlt:i<s.1.length
  ·right
   rw[List.drop_eq_getElem_cons hlt]at e
   unfold CY at e
   split at e
   ·rename_i ok
    obtain⟨go,yl⟩:=(wk [D] hγ _ h2 H2 ev2 hr2 ok i).1 s.1[i] (by simp[hlt])
    refine⟨go,by rw[sizeLine_eq];omega,fun v H3 y=> ?_⟩
    obtain⟨s3,rv⟩:=yl v H3 y
    obtain⟨τ',h3,e3,e⟩:=A6 e
    obtain⟨t,h4,e4,e⟩:=A6 e
    refine cg _ h2 H3 σ (tau ix σ) (MF ix ρ) _ v τ' h3 _ Q4 (hσ2.ev (.same s3)) rv e3 fun σ' kp hσ' eh=>⟨kp,?_⟩
    subst eh
    refine⟨_,τ',_,t,h4,hσ',hr2.same s3,e4,fun α4 H4 ev4 hr4=> ?_⟩
    have hD4:H4 D=some (.lst acc):=ev4.keep _ _ (s3 _ _ hDa) (.inl trivial) hDn
    have hg4:α4.g=D::α1.g:=ev4.pre.1
    have ea4:α4=Pl.hide ⟨α4.a,α1.g⟩ D:=by cases α4;cases hg4;rfl
    have evA:Ev (α1.hide D) α4 H1 H4:=(ev2.trans (.same s3)).trans ev4
    cases t with
    |false=>
     refine⟨hD4,_,?_,rfl,hlt,by omega,α4.a,h4,zs,rs,ey,?_,?_,?_,?_,e⟩
     ·omega
     ·rw[←ea4];exact evA
     ·rw[←ea4];exact hr4
     ·rw[←ea4];exact(hσ2.ev (.same s3)).ev ev4
     ·rw[←ea4];exact(rz.ev (.same s3)).ev ev4
    |true=>
     obtain⟨y,h5,e5,e⟩:=A6 e
     obtain⟨rs',h6,e6,e⟩:=A6 e
     cases e
     refine⟨α4,τ',h4,y,h5,hσ'.ev ev4,hr4,e5,fun α5 H5 w ev5 hr5 rw'=> ?_⟩
     have hD4n:D∉α4.a:=fun hm=>hr4.ap D hm (by rw[hg4];exact List.mem_cons_self)
     have hD5:H5 D=some (.lst acc):=ev5.keep _ _ hD4 (.inl trivial) hD4n
     have hg5:α5.g=D::α1.g:=ev5.pre.1.trans hg4
     have hD5m:D∈α5.g:=by rw[hg5];exact List.mem_cons_self
     have ea5:α5=Pl.hide ⟨α5.a,α1.g⟩ D:=by cases α5;cases hg5;rfl
     refine⟨hD5,_,?_,rfl,hlt,by simp;omega,α5.a,h5,zs++[y],rs',by rw[ey];simp,?_,?_,?_,?_,e6⟩
     ·omega
     ·rw[←ea5];exact(evA.trans ev5).hw hD
     ·rw[←ea5];exact hr5.hw hD5m
     ·rw[←ea5];exact(((hσ2.ev (.same s3)).ev ev4).ev ev5).hw hD5m
     ·rw[←ea5];exact((((rz.ev (.same s3)).ev ev4).ev ev5).snoc rw').hw hD5m
   ·cases e
  ·left
   have ei:i=s.1.length:=by omega
   subst ei
   rw[List.drop_length]at e
   unfold CY at e
   split at e
   ·rename_i ok
    cases e
    refine⟨(wk [D] hγ _ _ H2 ev2 hr2 ok _).2 rfl,k ⟨a2,α1.g⟩ H2 _ (ev1.trans ev2.unhide) hr2.show ⟨D,acc,rfl,⟨hDn,hDg⟩,hDa,?_⟩⟩
    rw[ey,List.append_nil];exact rz.show
   ·cases e
 ·cases e
theorem IU {elt tg iter:Expr} {ifs:List Expr} {scope:Scope} {N':List Str} {ix:List (Option Nat)} {mi:FI} {g0:TG}
 (S:CompScope X N' ix scope) (hcalm:X.calm=true) (cg:CG X.K ix g0 g) (hi:PI X tg iter (iM X.K mi))
 (hg:∀C s₀ H₀ fp,PG (X.comp scope (CP X.env.cells scope.names []) C s₀ H₀ fp N') tg g0)
 (ht:∀C s₀ H₀ fp,PTs (X.comp scope (CP X.env.cells scope.names []) C s₀ H₀ fp N') ifs (bM (X.comp scope (CP X.env.cells scope.names []) C s₀ H₀ fp N').K tc))
 (he:∀C s₀ H₀ fp,PE (X.comp scope (CP X.env.cells scope.names []) C s₀ H₀ fp N') elt (tM (X.comp scope (CP X.env.cells scope.names []) C s₀ H₀ fp N').K me))
 (hs:∀x,foldedSetIterable iter X.env x=pure x):PE X (.ListComp elt [⟨tg,iter,ifs,0⟩] scope pos) (tM X.K (GW ix mi g tc me)):=
 (dL S hcalm hi hg ht he hs).imp fun σ H Q q=>RQ cg q
end
end L2
namespace L2
open PySem PySem.Spec PyProof.Rows
section
variable {X:Cx} {a b c e o:Expr} {es:List Expr} {ma mb mc me:FE} {mas:FA} {tc:FT} {st:Stmt} {rest:List Stmt} {ms mr:FS} {g:FG} {gs:W7} {pos p:Pos}
theorem PI.imp {tg iter:Expr} {t t':TI} (h:PI X tg iter t) (i:∀σ H R,t' σ H R→t σ H R):PI X tg iter t':=fun pins s σ H R I q=>h pins s σ H R I (i σ H R q)
def iL (a:FE):FI:=fun ρ h=>bnd (a ρ h) fun x h1=>match x with
 | .lst xs=>some ((xs,none),h1)
 | .scr ns=>some ((ns.map M.int,none),h1)
 | .ref k=>(match h1[k]?with|some (.lst xs)=>some ((xs,some k),h1)|_=>none)
 |_=>none
def iT (a:FE):FI:=fun ρ h=>bnd (a ρ h) fun x h1=>match x with| .tup xs=>some ((xs,none),h1)|_=>none
def mM (a:FA):FI:=fun ρ h=>bnd (a ρ h) fun xs h1=>match xs with|[.int j]=>if-4611686018427387904≤j∧j<4611686018427387904 then some (((List.range j.toNat).map fun(i:Nat)=>M.int (i:Int),none),h1) else none|_=>none
theorem RepAs.ints {K:PySem.W.Frag} {α:Pl} {H:Hp}:∀{ns:List Int},RepAs K α H (ns.map M.int) (ns.map V.int)
 |[]=>rfl
 |n::ns=>⟨_,_,rfl,rfl,RepAs.ints⟩
theorem RepA.hides {K:PySem.W.Frag} {α:Pl} {H:Hp} {m:M} {v:V} (r:RepA K α H m v):∀{γ:List Addr},(∀b∈γ,H b=none)→RepA K ⟨α.a,γ++α.g⟩ H m v
 |[],_=>r
 |p::γ,h=>RepA.hide (α:=⟨α.a,γ++α.g⟩) (h p List.mem_cons_self) (RepA.hides r fun b hb=>h b (List.mem_cons_of_mem _ hb))
theorem O8 {K:PySem.W.Frag} {α:Pl} {H:Hp} {a:Addr} {xs:List M} {k:Option Nat} (hs:∀γ,(∀b∈γ,H b=none)→∀α1 h1 H1,Ev ⟨α.a,γ++α.g⟩ α1 H H1→Rl K α1 h1 H1→WP xs k h1→∃vs,SqL K H1 a vs∧RepAs K α1 H1 xs vs):Wk K α H xs k (u4 K a):=by
 intro γ hγ α1 h1 H1 ev hr ok i
 obtain⟨vs,sq,rs⟩:=hs γ hγ α1 h1 H1 ev hr ok
 refine⟨fun x hx=> ?_,fun hl=>⟨vs,sq,by rw[←rs.length];omega⟩⟩
 obtain⟨v,hv,rv⟩:=rs.get hx
 refine⟨⟨vs,v,sq,hv⟩,fun w H2 y=> ?_⟩
 obtain⟨e1,e2⟩:=y
 subst e1
 have:=e2 vs sq
 rw[hv]at this
 cases this
 exact⟨Same.refl _,rv⟩
theorem kF {K:PySem.W.Frag} {α:Pl} {H:Hp} {a:Addr} {xs:List M} {k:Option Nat} (hs:∀γ,(∀b∈γ,H b=none)→∀α1 h1 H1,Ev ⟨α.a,γ++α.g⟩ α1 H H1→Rl K α1 h1 H1→WP xs k h1→∃vs,GD K H1 a vs∧RepAs K α1 H1 xs vs):Wk K α H xs k (t7 K a):=by
 intro γ hγ α1 h1 H1 ev hr ok i
 obtain⟨vs,sq,rs⟩:=hs γ hγ α1 h1 H1 ev hr ok
 refine⟨fun x hx=> ?_,fun hl=>⟨vs,sq,by rw[←rs.length];omega⟩⟩
 obtain⟨v,hv,rv⟩:=rs.get hx
 refine⟨⟨vs,v,sq,hv⟩,fun w H2 y=> ?_⟩
 obtain⟨e1,e2⟩:=y
 subst e1
 have:=e2 vs sq
 rw[hv]at this
 cases this
 exact⟨Same.refl _,rv⟩
theorem TQ {l tg:Expr} {ml:FE} (hl:PE X l (tM X.K ml)):PI X tg l (iM X.K (iL ml)):=(dS hl).imp fun σ H R ⟨α,ρ,h,s,h',hσ,hr,e,k⟩=>by
 obtain⟨x,h1,e1,e⟩:=A6 e
 split at e
 ·cases e
  refine⟨α,ρ,h,_,_,hσ,hr,e1,fun α1 H1 v ev1 hr1 rv=> ?_⟩
  obtain⟨a,vs,rfl,n,ha,rs⟩:=id rv
  refine⟨a,rfl,⟨vs, .of ha⟩,k α1 H1 _ ev1 hr1 (O8 fun γ hγ α2 h2 H2 ev2 hr2 _=> ?_)⟩
  obtain⟨a',vs',ea,n',ha',rs'⟩:=(rv.hides hγ).ev ev2
  cases ea
  exact⟨vs', .of ha',rs'⟩
 ·cases e
  refine⟨α,ρ,h,_,_,hσ,hr,e1,fun α1 H1 v ev1 hr1 rv=> ?_⟩
  obtain⟨a,rfl,ha⟩:=id rv
  refine⟨a,rfl,⟨_,ha.sq⟩,k α1 H1 _ ev1 hr1 (O8 fun γ hγ α2 h2 H2 ev2 hr2 _=> ?_)⟩
  obtain⟨a',ea,ha'⟩:=(rv.hides hγ).ev ev2
  cases ea
  exact⟨_,ha'.sq,RepAs.ints⟩
 ·split at e
  ·rename_i k0 xs hk
   cases e
   refine⟨α,ρ,h,_,_,hσ,hr,e1,fun α1 H1 v ev1 hr1 rv=> ?_⟩
   obtain⟨a,ha,rfl⟩:=id rv
   obtain⟨vs,hv,rs⟩:=hr1.obj _ a _ ha hk
   refine⟨a,rfl,⟨_, .of hv⟩,k α1 H1 _ ev1 hr1 (O8 fun γ hγ α2 h2 H2 ev2 hr2 ok=> ?_)⟩
   obtain⟨vs',hv',rs'⟩:=hr2.obj _ a _ (ev2.ix ha) ok
   exact⟨_, .of hv',rs'⟩
  ·cases e
 ·cases e
theorem XS {l tg:Expr} {ml:FE} (hl:PE X l (tM X.K ml)):PI X tg l (iM X.K (iT ml)):=(fT hl).imp fun σ H R ⟨α,ρ,h,s,h',hσ,hr,e,k⟩=>by
 obtain⟨x,h1,e1,e⟩:=A6 e
 split at e
 ·cases e
  refine⟨α,ρ,h,_,_,hσ,hr,e1,fun α1 H1 v ev1 hr1 rv=> ?_⟩
  obtain⟨a,vs,rfl,ha,rs⟩:=id rv
  refine⟨a,rfl,⟨vs,ha.sq⟩,k α1 H1 _ ev1 hr1 (kF fun γ hγ α2 h2 H2 ev2 hr2 _=> ?_)⟩
  obtain⟨a',vs',ea,ha',rs'⟩:=(rv.hides hγ).ev ev2
  cases ea
  exact⟨vs',ha'.sq,rs'⟩
 ·cases e
theorem XE {K:PySem.W.Frag} {α:Pl} {H:Hp} {lo:Int} {n:Nat}:Wk K α H ((List.range n).map fun(q:Nat)=>M.int (lo+q)) none (sK lo n):=by
 intro γ hγ α2 h2 H2 ev2 hr2 _ i
 refine⟨fun x hx=> ?_,fun hl=>show n≤i by simp at hl;omega⟩
 have hi:i<n:=by simpa using(List.getElem?_eq_some_iff.mp hx).1
 rw[List.getElem?_map,List.getElem?_range hi]at hx
 cases hx
 refine⟨hi,fun w H3 y=> ?_⟩
 obtain⟨e1,ew⟩:=y
 subst e1 ew
 exact⟨Same.refl _,rfl⟩
theorem HD {a tg:Expr} (hg:Gl X "range") (hm:X.mg "range"=none) (ha:PA X [a] (aM X.K mas)) (hs:starEach [a] X.env=[(false,eval a X.env)]):PI X tg (.Call (.Name "range" p) [a] [] pos) (iM X.K (mM mas)):=(VJ hg hm ha hs).imp fun σ H R ⟨α,ρ,h,s,h',hσ,hr,e,k⟩=>by
 obtain⟨xs,h1,e1,e⟩:=A6 e
 split at e
 ·rename_i j
  split at e
  ·rename_i hj
   cases e
   refine⟨α,ρ,h,_,_,hσ,hr,e1,fun α1 H1 vs ev1 hr1 rv=> ?_⟩
   obtain⟨v,r,rfl,rv,rr⟩:=rv
   cases(show r=[] from rr)
   cases(show v= .int j from rv)
   refine⟨j,rfl,by omega,by omega,k α1 H1 _ ev1 hr1 ?_⟩
   have:=XE (K:=X.K) (α:=α1) (H:=H1) (lo:=0) (n:=j.toNat)
   simp only[Int.zero_add]at this
   exact this
  ·cases e
 ·cases e
def D3 (n k:Nat) (b:FS):FF:=fun ds h=>if ds.length=n then bnd (b (ds.map some++List.replicate k none) h) fun o h1=>match o with
 | .rt d=>some (d,h1)
 | .nx _=>some (.non,h1)
 |_=>none else none
theorem REnv.start {K:PySem.W.Frag} {α:Pl} {H:Hp}:∀{ds:List M} {vs:List V} {k:Nat},RepAs K α H ds vs→REnv K α H (ds.map some++List.replicate k none) (vs.map some++List.replicate k none)
 |[],vs,k,h=>by
  cases(show vs=[] from h)
  refine⟨by simp,fun i m hi=> ?_⟩
  simp[List.getElem?_replicate]at hi
 |d::ds,vs,k,⟨v,r,e,h1,h2⟩=>by
  subst e
  obtain⟨q1,q2⟩:=REnv.start (k:=k) h2
  refine⟨by simpa using q1,fun i m hi=> ?_⟩
  cases i with
  |zero=>simp at hi;subst hi;exact⟨v,by simp,h1⟩
  |succ i=>simpa using q2 i m (by simpa using hi)
end
section
variable {P:Program} {w:World} {K:PySem.W.Frag} {mg:Str→Option Value} {base:Heap}
theorem Fun.okM {x qual:Str} {st:Stmt} {f:Addr} {fd:FuncData} {N ps:List Str} {k n:Nat} {b:FS} (F:Fun K x qual st f fd) (S:FnScope N ps (A0 st)) (hn:N.length=ps.length+n)
 (hb:∀(cdv:Value) (A:Around) (outer:List Env) (s:Shared) (H:Hp) (E:XK),Room k (A.deeper (envOfC qual (A0 st) s.heap.objs.size f cdv))→
   PSs (QY EW P w K mg base N qual (A0 st) f cdv A outer s H E).nox (AO st) (sM (QY EW P w K mg base N qual (A0 st) f cdv A outer s H E).nox.K b)):FnOk P w K mg base EW (k+1) f fd ps (FC K (D3 ps.length n b)):=by
 refine F.ok S (fun vs H Q E q=> ?_) (fun cdv A outer s H vs Q E hr q=>⟨sM K b,hb cdv A outer s H E hr,?_⟩)
 ·obtain⟨α,h,ds,d,h',rs,hr,e,_⟩:=q
  unfold D3 at e
  split at e
  ·rename_i hl
   rw[←rs.length];exact hl
  ·cases e
 ·obtain⟨α,h,ds,d,h',rs,hr,e,k⟩:=q
  unfold D3 at e
  split at e
  ·rename_i hl
   obtain⟨o,h1,e1,e⟩:=A6 e
   have ek:N.length-vs.length=n:=by rw[←rs.length,hl,hn];omega
   refine⟨α,ds.map some++List.replicate n none,h,o,h1,?_,hr,e1,fun α' H' ev hr'=> ?_⟩
   ·unfold start
    rw[ek]
    exact REnv.start rs
   ·cases o with
    |nx ρ=>cases e;exact fun σ _=>k α' H' .non ev hr' rfl
    |rt d=>cases e;exact fun v rv=>k α' H' v ev hr' rv
    |bk ρ=>cases e
    |ct ρ=>cases e
  ·cases e
end
end L2
namespace L2
open PySem PySem.Spec PyProof.Rows
def KM (h:A7):M→Option (List M)
 | .lst xs=>some xs
 | .ref k=>(match h[k]?with|some (.lst xs)=>some xs|_=>none)
 |_=>none
theorem EK {K:PySem.W.Frag} {α:Pl} {h:A7} {H:Hp} {m:M} {v:V} {xs:List M} (hr:Rl K α h H) (rm:RepA K α H m v) (e:KM h m=some xs):∃a vs,v= .ref a∧H a=some (.lst vs)∧RepAs K α H xs vs:=by
 unfold KM at e
 split at e
 ·cases e
  obtain⟨a,vs,e1,n,ha,rs⟩:=rm
  exact⟨a,vs,e1,ha,rs⟩
 ·split at e
  ·rename_i hk
   cases e
   obtain⟨a,ha,e1⟩:=rm
   obtain⟨vs,hv,rs⟩:=hr.obj _ a _ ha hk
   exact⟨a,vs,e1,hv,rs⟩
  ·cases e
 ·cases e
def KP (h:A7):M→Option (List M)
 | .scr ns=>some (ns.map M.int)
 |m=>KM h m
theorem E1 {K:PySem.W.Frag} {α:Pl} {h:A7} {H:Hp} {m:M} {v:V} {xs:List M} (hr:Rl K α h H) (rm:RepA K α H m v) (e:KP h m=some xs):∃a vs,v= .ref a∧SqL K H a vs∧RepAs K α H xs vs:=by
 unfold KP at e
 split at e
 ·cases e
  obtain⟨a,e1,t⟩:=rm
  exact⟨a,_,e1,t.sq,RepAs.ints⟩
 ·obtain⟨a,vs,e1,ha,rs⟩:=EK hr rm e
  exact⟨a,vs,e1, .of ha,rs⟩
def ID (xs:List M) (lo hi:Option Int):List M:=(xs.drop (HT.CZ xs.length 0 lo)).take (HT.CZ xs.length xs.length hi-HT.CZ xs.length 0 lo)
theorem RepAs.cut {K:PySem.W.Frag} {α:Pl} {H:Hp} {xs:List M} {vs:List V} {lo hi:Option Int} (r:RepAs K α H xs vs):RepAs K α H (ID xs lo hi) (LF vs lo hi):=by
 unfold ID LF
 rw[←r.length]
 exact(r.drop _).take _
theorem X0 {K:PySem.W.Frag} {α:Pl} {h:A7} {H:Hp} {p:Addr} {xs:List M} {vs:List V} (hr:Rl K α h H) (hp:H p=none) (rs:RepAs K α H xs vs):RepA K α (upd H p (.lst vs)) (.lst xs) (.ref p):=
 ⟨p,vs,rfl,hr.new hp,AH,rs.ev (.same (AX hp _))⟩
theorem U7 {K:PySem.W.Frag} {α:Pl} {h:A7} {H:Hp} {p:Addr} {xs:List M} {vs:List V} (hr:Rl K α h H) (hp:H p=none) (rs:RepAs K α H xs vs):RepA K α (upd H p (.tup vs)) (.tup xs) (.ref p):=
 ⟨p,vs,rfl, .inl ⟨.inl AH,hr.new hp⟩,rs.ev (.same (AX hp _))⟩
section
variable {X:Cx} {K:PySem.W.Frag}
def fQ (K:PySem.W.Frag):R2:=fun x y H Q=>∃(a b:Addr) (xs ys:List V),x= .ref a∧y= .ref b∧GD K H a xs∧GD K H b ys∧xs.length+ys.length≤sizeLine∧
 (xs=[]→Q (.ref b) H)∧(xs≠[]→ys=[]→Q (.ref a) H)∧(xs≠[]→ys≠[]→∀p,H p=none→Q (.ref p) (upd H p (.tup (xs++ys))))
theorem aT:OpR X (binaryOp .Add) (fQ X.K):=by
 intro pins s σ H x y v u Q I rx ry h
 obtain⟨a,b,xs,ys,rfl,rfl,ha,hb,hz,q0,q1,q2⟩:=h
 by_cases hx:xs=[]
 ·subst hx
  cases rx
  cases ry
  obtain⟨its,r1,p1,_⟩:=I.tuple ha
  obtain⟨its2,r2,p2,_⟩:=I.tuple hb
  cases r1
  obtain⟨⟨cls,dd,data,sl⟩,ho,hc,n,hd⟩:=id p1
  obtain⟨⟨cls2,dd2,data2,sl2⟩,ho2,hc2,n2,hd2⟩:=id p2
  simp only at hc hd hc2 hd2
  subst hc hd hc2 hd2
  refine concat_meets ⟨_,ho,rfl⟩ ⟨_,ho2,rfl⟩ noFill_tuple_add seq_tuple_add PySem.F.slot_tuple_add PySem.F.entry_tuple_add (PySem.F.args_tuple_add_2 _ _)
   (tuple_addW0 a b _ _ n n2 dd dd2 sl sl2 (by simp)) ⟨ho,ho2,?_⟩
  exact⟨.ref b,H,I,rfl,q0 rfl⟩
 ·exact bL pins s σ H _ _ v u Q I rx ry ⟨a,b,xs,ys,rfl,rfl,ha,hb,hx,hz,fun e=>q1 hx e,fun e=>q2 hx e⟩
def C7 (x y:M) (h:A7):Option M:=match x,y with
 | .int i, .int j=>some (.int (i+j))
 | .str a, .str b=>if a.length+b.length≤16777216 then some (.str (a++b)) else none
 | .tup xs, .tup ys=>if xs.length+ys.length≤16777216 then some (.tup (xs++ys)) else none
 |x,y=>(KM h x).bind fun xs=>(KM h y).bind fun ys=>if xs.length+ys.length≤16777216 then some (.lst (xs++ys)) else none
def eR (K:PySem.W.Frag):R2:=fun x y H Q=>W6 (fun i j=> .int (i+j)) x y H Q∨(∃i j,x= .str i∧y= .str j∧i.length+j.length≤sizeLine∧Q (.str (i++j)) H)∨pS x y H Q∨fQ K x y H Q
theorem BJ:OpR X (binaryOp .Add) (eR X.K):=by
 intro pins s σ H x y v u Q I rx ry h
 rcases h with h|h|h|h
 ·exact lA pins s σ H x y v u Q I rx ry h
 ·exact SV pins s σ H x y v u Q I rx ry h
 ·exact lL pins s σ H x y v u Q I rx ry h
 ·exact aT pins s σ H x y v u Q I rx ry h
theorem BX:MR K (eR K) C7:=by
 intro α h H x y d u v Q hr rx ry e k
 unfold C7 at e
 split at e
 ·cases e
  exact .inl ⟨_,_,rx,ry,k H _ (Same.refl _) rfl⟩
 ·split at e
  ·rename_i hl
   cases e
   exact .inr (.inl ⟨_,_,rx,ry,by rw[sizeLine_eq];exact hl,k H _ (Same.refl _) rfl⟩)
  ·cases e
 ·split at e
  ·rename_i xs ys hl
   cases e
   obtain⟨a,vs,rfl,ta,rs⟩:=id rx
   obtain⟨b,ws,rfl,tb,rt⟩:=id ry
   refine .inr (.inr (.inr ⟨a,b,vs,ws,rfl,rfl,ta.sq,tb.sq,by rw[←rs.length,←rt.length,sizeLine_eq];exact hl,fun e=> ?_,fun _ e=> ?_,fun _ _ p hp=> ?_⟩))
   ·have:xs=[]:=by have:=rs.length;rw[e]at this;simpa using this
    subst this
    exact k H _ (Same.refl _) ry
   ·have:ys=[]:=by have:=rt.length;rw[e]at this;simpa using this
    subst this
    rw[List.append_nil]at k
    exact k H _ (Same.refl _) rx
   ·exact k _ _ (AX hp _) (U7 hr hp (rs.app rt))
  ·cases e
 ·obtain⟨xs,e1,e⟩:=Option.bind_eq_some_iff.mp e
  obtain⟨ys,e2,e⟩:=Option.bind_eq_some_iff.mp e
  split at e
  ·rename_i hl
   cases e
   obtain⟨a,vs,rfl,ta,rs⟩:=EK hr rx e1
   obtain⟨b,ws,rfl,tb,rt⟩:=EK hr ry e2
   exact .inr (.inr (.inl ⟨a,b,vs,ws,rfl,rfl,ta,tb,by rw[←rs.length,←rt.length,sizeLine_eq];exact hl,fun p hp=>k _ _ (AX hp _) (X0 hr hp (rs.app rt))⟩))
  ·cases e
def m8 (f:Int→Int→Option M) (x y:M) (_:A7):Option M:=match x,y with| .int i, .int j=>f i j|_,_=>none
def LJ:M→M→A7→Option M:=m8 fun i j=>some (.int (i-j))
def J5:M→M→A7→Option M:=m8 fun i j=>if 0<j then some (.int (i % j)) else none
def UL:M→M→A7→Option M:=m8 fun i j=>if 0<j∧j<1073741824 then some (.int (i/j)) else none
def M6:M→M→A7→Option M:=m8 fun i j=>if 0≤j∧j≤1000000∧i.natAbs<18446744073709551616 then some (.int (i^j.toNat)) else none
theorem KY {f:Int→Int→Option M} {x y d:M} {h:A7} (e:m8 f x y h=some d):∃i j,x= .int i∧y= .int j∧f i j=some d:=by
 unfold m8 at e
 split at e
 ·exact⟨_,_,rfl,rfl,e⟩
 ·cases e
theorem M3:MR K (W6 fun i j=> .int (i-j)) LJ:=by
 intro α h H x y d u v Q hr rx ry e k
 obtain⟨i,j,rfl,rfl,e'⟩:=KY e
 clear e
 have e:=e'
 clear e'
 cases e
 exact⟨i,j,rx,ry,k H _ (Same.refl _) rfl⟩
theorem II:MR K (rI (fun _ j=>0<j) fun i j=> .int (i % j)) J5:=by
 intro α h H x y d u v Q hr rx ry e k
 obtain⟨i,j,rfl,rfl,e'⟩:=KY e
 clear e
 have e:=e'
 clear e'
 split at e
 ·rename_i hj
  cases e
  exact⟨i,j,rx,ry,hj,k H _ (Same.refl _) rfl⟩
 ·cases e
theorem ZL:MR K (rI nQ fun i j=> .int (i/j)) UL:=by
 intro α h H x y d u v Q hr rx ry e k
 obtain⟨i,j,rfl,rfl,e'⟩:=KY e
 clear e
 have e:=e'
 clear e'
 split at e
 ·rename_i hj
  cases e
  exact⟨i,j,rx,ry,hj,k H _ (Same.refl _) rfl⟩
 ·cases e
theorem M4:MR K (rI o9 fun i j=> .int (i^j.toNat)) M6:=by
 intro α h H x y d u v Q hr rx ry e k
 obtain⟨i,j,rfl,rfl,e'⟩:=KY e
 clear e
 have e:=e'
 clear e'
 split at e
 ·rename_i hj
  cases e
  exact⟨i,j,rx,ry,⟨hj.1,hj.2.1,by have:=hj.2.2;omega⟩,k H _ (Same.refl _) rfl⟩
 ·cases e
def reps (n:Nat) (xs:List M):List M:=(List.replicate n xs).flatten
def KF (x y:M) (h:A7):Option M:=match x,y with
 | .int i, .int j=>if(-18446744073709551616<i∧i<18446744073709551616)∨(-18446744073709551616<j∧j<18446744073709551616) then some (.int (i*j)) else none
 | .str z, .int j=>if z.length≤16∧0≤j∧j≤1000 then some (.str (Txt.mul z j)) else none
 |x, .int j=>(KM h x).bind fun xs=>if-9223372036854775808≤j∧j<9223372036854775808∧xs.length*j.toNat≤16777216 then some (.lst (reps j.toNat xs)) else none
 |_,_=>none
def eW:R2:=fun x y H Q=>rI CMul (fun i j=> .int (i*j)) x y H Q∨(∃i j,x= .str i∧y= .int j∧(i.length≤16∧0≤j∧j≤1000)∧Q (.str (Txt.mul i j)) H)∨rE x y H Q
theorem JK:OpR X (binaryOp .Mult) eW:=by
 intro pins s σ H x y v u Q I rx ry h
 rcases h with h|h|h
 ·exact fS pins s σ H x y v u Q I rx ry h
 ·exact RP pins s σ H x y v u Q I rx ry h
 ·exact lG pins s σ H x y v u Q I rx ry h
theorem RepAs.reps {α:Pl} {H:Hp} {xs:List M} {vs:List V} (r:RepAs K α H xs vs):∀n:Nat,RepAs K α H (L2.reps n xs) (List.replicate n vs).flatten
 |0=>rfl
 |n+1=>by
  unfold L2.reps
  rw[List.replicate_succ,List.replicate_succ,List.flatten_cons,List.flatten_cons]
  exact r.app (RepAs.reps r n)
theorem L7:MR K eW KF:=by
 intro α h H x y d u v Q hr rx ry e k
 unfold KF at e
 split at e
 ·split at e
  ·rename_i hl
   cases e
   refine .inl ⟨_,_,rx,ry,?_,k H _ (Same.refl _) rfl⟩
   unfold CMul
   omega
  ·cases e
 ·split at e
  ·rename_i hl
   cases e
   exact .inr (.inl ⟨_,_,rx,ry,hl,k H _ (Same.refl _) rfl⟩)
  ·cases e
 ·obtain⟨xs,e1,e⟩:=Option.bind_eq_some_iff.mp e
  split at e
  ·rename_i hl
   cases e
   obtain⟨a,vs,rfl,ta,rs⟩:=EK hr rx e1
   exact .inr (.inr ⟨a,_,vs,rfl,ry,ta,by omega,by omega,by rw[←rs.length,sizeLine_eq];omega,fun p hp=>k _ _ (AX hp _) (X0 hr hp (rs.reps _))⟩)
  ·cases e
 ·cases e
def pQ (f:Int→Int→Bool) (g:List Nat→List Nat→Bool) (x y:M) (_:A7):Option M:=match x,y with
 | .int i, .int j=>some (.bl (f i j))
 | .str a, .str b=>some (.bl (g a.cps.toList b.cps.toList))
 |_,_=>none
def kC:=pQ (fun i j=>decide (i<j)) fun a b=>decide (a<b)
def Z9:=pQ (fun i j=>decide (j<i)) fun a b=>decide (b<a)
def i0:=pQ (fun i j=>decide (j≤i)) fun a b=> !decide (a<b)
theorem P0 {f:Int→Int→Bool} {g:List Nat→List Nat→Bool} {x y d:M} {h:A7} (e:pQ f g x y h=some d):(∃i j,x= .int i∧y= .int j∧d= .bl (f i j))∨∃a b,x= .str a∧y= .str b∧d= .bl (g a.cps.toList b.cps.toList):=by
 unfold pQ at e
 split at e
 ·cases e;exact .inl ⟨_,_,rfl,rfl,rfl⟩
 ·cases e;exact .inr ⟨_,_,rfl,rfl,rfl⟩
 ·cases e
theorem sB:MR K rP kC:=by
 intro α h H x y d u v Q hr rx ry e k
 rcases P0 e with⟨i,j,rfl,rfl,rfl⟩|⟨i,j,rfl,rfl,rfl⟩
 ·exact .inl ⟨i,j,rx,ry,k H _ (Same.refl _) rfl⟩
 ·exact .inr ⟨i,j,rx,ry,k H _ (Same.refl _) rfl⟩
theorem Z1:MR K pC Z9:=by
 intro α h H x y d u v Q hr rx ry e k
 rcases P0 e with⟨i,j,rfl,rfl,rfl⟩|⟨i,j,rfl,rfl,rfl⟩
 ·exact .inl ⟨i,j,rx,ry,k H _ (Same.refl _) rfl⟩
 ·exact .inr ⟨i,j,rx,ry,k H _ (Same.refl _) rfl⟩
theorem o0:MR K qQ i0:=by
 intro α h H x y d u v Q hr rx ry e k
 rcases P0 e with⟨i,j,rfl,rfl,rfl⟩|⟨i,j,rfl,rfl,rfl⟩
 ·exact .inl ⟨i,j,rx,ry,k H _ (Same.refl _) rfl⟩
 ·exact .inr ⟨i,j,rx,ry,k H _ (Same.refl _) rfl⟩
def X1:M→Bool
 | .non=>true
 |_=>false
theorem T5 {α:Pl} {H:Hp} {m:M} {v:V} (r:RepA K α H m v):decide (v= .non)=X1 m:=by
 cases m with
 |non=>cases(show v= .non from r);rfl
 |bl b=>cases(show v= .bl b from r);rfl
 |int b=>cases(show v= .int b from r);rfl
 |str b=>cases(show v= .str b from r);rfl
 |ty b=>cases(show v= .ty b from r);rfl
 |tup xs=>obtain⟨a,vs,e,_⟩:=r;subst e;rfl
 |lst xs=>obtain⟨a,vs,e,_⟩:=r;subst e;rfl
 |dct xs=>obtain⟨a,vs,e,_⟩:=r;subst e;rfl
 |ref k=>obtain⟨a,_,e⟩:=r;subst e;rfl
 |scr ns=>obtain⟨a,e,_⟩:=r;subst e;rfl
def aO (x y:M) (_:A7):Option M:=match y with
 | .non=>some (.bl (X1 x))
 | .bl j=>(match x with| .bl i=>some (.bl (i==j))|_=>none)
 |_=>none
def HB (x y:M) (_:A7):Option M:=match y with
 | .non=>some (.bl (!X1 x))
 | .bl j=>(match x with| .bl i=>some (.bl (i !=j))|_=>none)
 |_=>none
theorem nR:MR K pL aO:=by
 intro α h H x y d u v Q hr rx ry e k
 unfold aO at e
 split at e
 ·cases e
  exact .inl ⟨ry,by rw[T5 rx];exact k H _ (Same.refl _) rfl⟩
 ·split at e
  ·cases e
   exact .inr ⟨_,_,rx,ry,k H _ (Same.refl _) rfl⟩
  ·cases e
 ·cases e
theorem LU:MR K UE HB:=by
 intro α h H x y d u v Q hr rx ry e k
 unfold HB at e
 split at e
 ·cases e
  exact .inl ⟨ry,by rw[T5 rx];exact k H _ (Same.refl _) rfl⟩
 ·split at e
  ·cases e
   exact .inr ⟨_,_,rx,ry,k H _ (Same.refl _) rfl⟩
  ·cases e
 ·cases e
def QX (x:M) (_:A7):Option M:=match x with| .int i=>some (.int (-i))|_=>none
theorem WO:wG K (rU fun i=> .int (-i)) QX:=by
 intro α h H x d u Q hr rx e k
 unfold QX at e
 split at e
 ·cases e
  exact⟨_,rx,k H _ (Same.refl _) rfl⟩
 ·cases e
def E9:M→Option AI
 | .int i=>some (.inl i)
 | .str z=>some (.inr z)
 |_=>none
theorem DB {K:PySem.W.Frag} {α:Pl} {H:Hp} {m:M} {v:V} {k:AI} (e:E9 m=some k) (r:RepA K α H m v):v=kV k:=by
 cases m<;>cases e<;>exact r
def BK (h:A7):M→Option (List (AI×M))
 | .dct ks xs=>if ks.length=xs.length then some (ks.zip xs) else none
 | .ref k=>(match h[k]?with|some (.dct kvs)=>some kvs|some (.fdc kvs)=>some kvs|_=>none)
 |_=>none
theorem BL {K:PySem.W.Frag} {α:Pl} {h:A7} {H:Hp} {m:M} {v:V} {kvs:List (AI×M)} (hr:Rl K α h H) (rm:RepA K α H m v) (e:BK h m=some kvs):∃a ws,v= .ref a∧Rd H a (.dK ws)∧ws.map (·.1)=kvs.map (·.1)∧RepAs K α H (kvs.map (·.2)) (ws.map (·.2)):=by
 unfold BK at e
 split at e
 ·split at e
  ·rename_i hl
   cases e
   obtain⟨a,ws,e1,n,ha,ek,rs⟩:=rm
   exact⟨a,ws,e1,ha,by rw[ek,List.map_fst_zip (by omega)],by rw[List.map_snd_zip (by omega)];exact rs⟩
  ·cases e
 ·split at e
  ·rename_i hk
   cases e
   obtain⟨a,ha,e1⟩:=rm
   obtain⟨ws,hv,ek,rs⟩:=hr.obj _ a _ ha hk
   exact⟨a,ws,e1, .inl hv,ek,rs⟩
  ·rename_i hk
   cases e
   obtain⟨a,ha,e1⟩:=rm
   obtain⟨ob,ws,hv,ek,rs⟩:=hr.obj _ a _ ha hk
   exact⟨a,ws,e1, .inr ⟨ob,hv⟩,ek,rs⟩
  ·cases e
 ·cases e
def B6 (kvs:List (AI×M)) (k:AI):Option M:=(kvs.find? fun kv=>decide (kv.1=k)).map (·.2)
theorem EL {K:PySem.W.Frag} {α:Pl} {H:Hp} (k:AI):∀{kvs:List (AI×M)} {ws:List (AI×V)},ws.map (·.1)=kvs.map (·.1)→RepAs K α H (kvs.map (·.2)) (ws.map (·.2))→
 (DO ws k).isSome=(B6 kvs k).isSome∧∀m,B6 kvs k=some m→∃v,DO ws k=some v∧RepA K α H m v
 |[],[],_,_=>⟨rfl,fun m h=>by cases h⟩
 |[],_::_,e,_=>by cases e
 |_::_,[],e,_=>by cases e
 |kv::kvs,w::ws,e,r=>by
  obtain⟨v,q,e1,h1,h2⟩:=r
  have e1':w.2::ws.map (·.2)=v::q:=e1
  injection e1' with ev eq
  subst ev eq
  have e':w.1::ws.map (·.1)=kv.1::kvs.map (·.1):=e
  injection e' with ek es
  obtain⟨i1,i2⟩:=EL k es h2
  by_cases hk:kv.1=k
  ·have hw:w.1=k:=ek.trans hk
   have a1:B6 (kv::kvs) k=some kv.2:=by simp[B6,List.find?_cons,hk]
   have a2:DO (w::ws) k=some w.2:=GL hw
   rw[a1,a2]
   exact⟨rfl,fun m h=>by cases h;exact⟨_,rfl,h1⟩⟩
  ·have hw:¬w.1=k:=fun z=>hk (ek.symm.trans z)
   have a1:B6 (kv::kvs) k=B6 kvs k:=by simp[B6,List.find?_cons,hk]
   have a2:DO (w::ws) k=DO ws k:=GK hw
   rw[a1,a2]
   exact⟨i1,i2⟩
def B7 (x y:M) (h:A7):Option M:=match BK h x with
 |some kvs=>(E9 y).bind (B6 kvs)
 |none=>(match y with
 | .int i=>(match x with
   | .tup xs=>L1 xs i
   | .str z=>if z.length≤16777216 then(L1 z.cps.toList i).map fun c=> .str ⟨#[c]⟩ else none
   |x=>(KP h x).bind fun xs=>L1 xs i)
 |_=>none)
def p9:R2:=fun x y H Q=>∃a v,x= .ref a∧QC H a y (some v)∧Q v H
theorem dC (hu:X.A.units+1<cLine):IxR X p9:=by
 intro value slice pins s σ H x y v u Q I rx ry q hs
 obtain⟨a,z,rfl,g,q⟩:=q
 cases(show v= .ref a from rx)
 have hT:=QM I g
 unfold subscriptTail
 refine wpAny_bind ?_
 rw[getitemInPython_of_ne hT.not_modules]
 refine wpAny_bind (wpAny_specialOf hT PySem.F.slot_dict_getitem.lookup ?_)
 have fin:wpAny (model X.prog X.w) X.A (subscripted slice false (.ref a) u) (fun r s₃=>wpAny (model X.prog X.w) X.A (letTemporaryGo value (.ref a) r>>=fun _=>pure r) (EP X pins σ Q) X.xe s₃) X.xe s:=by
  rw[hs]
  exact wpAny_operating (wpAny_mono (UW hu I g ry fun w' s3 I3 rw'=>(⟨z,H,I3,rw',q⟩:EP X pins σ Q w' s3)) (fun r s₃ h₃=>wpAny_bind (wpAny_letTemporaryGo (wpAny_pure h₃))) fun _ _ x=>x)
 first
  |exact wpAny_pure (wpAny_bind fin)
  |exact wpAny_bind (wpAny_pure (wpAny_bind fin))
  |exact wpAny_bind fin
def nM (K:PySem.W.Frag):R2:=fun x y H Q=>p9 x y H Q∨wO K x y H Q
theorem AJ (hu:X.A.units+151<cLine):IxR X (nM X.K):=(dC (by omega)).or kU
theorem AC:MR K (nM K) B7:=by
 intro α h H x y d u v Q hr rx ry e k
 unfold B7 at e
 split at e
 ·rename_i kvs hk
  obtain⟨key,e1,e2⟩:=Option.bind_eq_some_iff.mp e
  obtain⟨a,ws,rfl,ha,ek,rs⟩:=BL hr rx hk
  obtain⟨w,hw,rw'⟩:=(EL key ek rs).2 d e2
  cases(DB e1 ry)
  exact .inl ⟨a,w,rfl,by rw[←hw];exact .inl ⟨_,_,ha,rfl,rfl⟩,k H _ (Same.refl _) rw'⟩
 refine .inr ?_
 split at e
 ·rename_i i
  split at e
  ·obtain⟨a,vs,rfl,t,rs⟩:=rx
   obtain⟨w,hw,rw'⟩:=rs.at e
   exact .inr (.inl ⟨a,vs,i,w,rfl,ry,t.sq,hw,k H _ (Same.refl _) rw'⟩)
  ·split at e
   ·rename_i hl
    obtain⟨c,e1,e2⟩:=Option.map_eq_some_iff.mp e
    subst e2
    exact .inr (.inr ⟨_,i,c,rx,ry,by rw[sizeLine_eq];exact hl,e1,k H _ (Same.refl _) rfl⟩)
   ·cases e
  ·obtain⟨xs,e1,e⟩:=Option.bind_eq_some_iff.mp e
   obtain⟨a,vs,rfl,t,rs⟩:=E1 hr rx e1
   obtain⟨w,hw,rw'⟩:=rs.at e
   exact .inl ⟨a,vs,i,w,rfl,ry,t,hw,k H _ (Same.refl _) rw'⟩
 ·cases e
def rQ (K:PySem.W.Frag):V→Option Int→Option Int→Hp→VK→Prop:=fun x lo hi H Q=>∃a xs,x= .ref a∧GD K H a xs∧(LF xs lo hi=xs→Q (.ref a) H)∧∀p,H p=none→Q (.ref p) (upd H p (.tup (LF xs lo hi)))
theorem cW:SlR X (rQ X.K):=by
 intro pins s σ H x v vl vu lo hi sl Q I rx hs pl pu h
 obtain⟨a,xs,rfl,hx,q1,q2⟩:=h
 by_cases hw:HT.CZ xs.length 0 lo=0∧HT.CZ xs.length xs.length hi=xs.length
 ·cases rx
  obtain⟨its,r,ht,_⟩:=I.tuple hx
  have hlen:its.toArray.size=xs.length:=by rw[List.size_toArray];exact r.length.symm
  refine⟨"tuple",_,PyProof.Rows.slot_tuple_getitem.lookup,ht.typeIs,?_⟩
  refine Q5 ht hs pl pu (by rw[hlen];exact hw) ⟨.ref a,H,I,rfl,q1 ?_⟩
  unfold LF;rw[hw.1,hw.2];simp
 ·exact gP pins s σ H _ v vl vu lo hi sl Q I rx hs pl pu ⟨a,xs,rfl,hx,hw,q2⟩
def X5 (x:M) (lo hi:Option Int) (h:A7):Option M:=match x with
 | .tup xs=>some (.tup (ID xs lo hi))
 | .str z=>if z.length≤16777216 then some (.str (Txt.slice z lo hi)) else none
 |x=>(KP h x).map fun xs=> .lst (ID xs lo hi)
def nP (K:PySem.W.Frag):V→Option Int→Option Int→Hp→VK→Prop:=fun x lo hi H Q=>mZ K x lo hi H Q∨rQ K x lo hi H Q∨qF x lo hi H Q
theorem V1:SlR X (nP X.K):=cL.or (cW.or hU)
theorem NG:wC K (nP K) X5:=by
 intro α h H x d lo hi u Q hr rx e k
 unfold X5 at e
 split at e
 ·cases e
  obtain⟨a,vs,rfl,t,rs⟩:=id rx
  refine .inr (.inl ⟨a,vs,rfl,t.sq,fun e=> ?_,fun p hp=>k _ _ (AX hp _) (U7 hr hp rs.cut)⟩)
  have rc:=rs.cut (lo:=lo) (hi:=hi)
  rw[e]at rc
  exact k H _ (Same.refl _) ⟨a,vs,rfl,t,rc⟩
 ·split at e
  ·rename_i hl
   cases e
   exact .inr (.inr ⟨_,rx,by rw[sizeLine_eq];exact hl,k H _ (Same.refl _) rfl⟩)
  ·cases e
 ·obtain⟨xs,e1,e2⟩:=Option.map_eq_some_iff.mp e
  subst e2
  obtain⟨a,vs,rfl,t,rs⟩:=E1 hr rx e1
  exact .inl ⟨a,vs,rfl,t,fun p hp=>k _ _ (AX hp _) (X0 hr hp rs.cut)⟩
end
end L2
namespace L2
open PySem PySem.Spec PyProof.Rows
mutual
def RepK (K:PySem.W.Frag) (H:Hp):D→V→Prop
 | .non,v=>v= .non
 | .bl b,v=>v= .bl b
 | .int i,v=>v= .int i
 | .str x,v=>v= .str x
 | .tup ds,v=>∃a xs,v= .ref a∧GD K H a xs∧RepKs K H ds xs
 | .lst ds,v=>∃a xs,v= .ref a∧SqL K H a xs∧RepKs K H ds xs
def RepKs (K:PySem.W.Frag) (H:Hp):List D→List V→Prop
 |[],xs=>xs=[]
 |d::ds,xs=>∃x r,xs=x::r∧RepK K H d x∧RepKs K H ds r
end
section
open PySem.SeqAt
variable {X:Cx} {pins:List (Addr×Obj)} {σ:St} {H:Hp} {s:Shared}
theorem Inv.tupK (I:Inv X pins σ H s) {a:Addr} {xs:List V} (h:GD X.K H a xs):∃its:List Value,Vals xs its∧s.heap.IsTuple a its.toArray:=by
 obtain⟨its,r,t,_⟩:=I.tuple h
 exact⟨its,r,t⟩
theorem Inv.lstK (I:Inv X pins σ H s) {a:Addr} {xs:List V} (h:SqL X.K H a xs):∃its:List Value,Vals xs its∧s.heap.IsList a its.toArray:=by
 obtain⟨its,r,t,_⟩:=I.list h
 exact⟨its,r,t.isList⟩
theorem Inv.apartK (I:Inv X pins σ H s) {a:Addr} {xs ys:List V} (h:GD X.K H a xs) (h':SqL X.K H a ys):False:=by
 obtain⟨its,r,o,e,c,_⟩:=I.tupK h
 obtain⟨its',r',o',e',c',_⟩:=I.lstK h'
 rw[e]at e'
 cases e'
 rw[c]at c'
 exact absurd c' (by decide)
mutual
theorem RepK.inj (I:Inv X pins σ H s):∀{d d':D} {v:V},RepK X.K H d v→RepK X.K H d' v→d=d'
 | .non,d',v,h,h'=>by
   cases(show v= .non from h)
   cases d'<;>simp_all[RepK]
 | .bl b,d',v,h,h'=>by
   cases(show v= .bl b from h)
   cases d'<;>simp_all[RepK]
 | .int b,d',v,h,h'=>by
   cases(show v= .int b from h)
   cases d'<;>simp_all[RepK]
 | .str b,d',v,h,h'=>by
   cases(show v= .str b from h)
   cases d'<;>simp_all[RepK]
 | .tup ds,d',v,h,h'=>by
   obtain⟨a,xs,rfl,ha,hs⟩:=h
   cases d' with
   |tup ds'=>
    obtain⟨a',xs',e,ha',hs'⟩:=h'
    cases e
    cases I.tuple_inj ha ha'
    rw[RepKs.inj I hs hs']
   |lst ds'=>
    obtain⟨a',xs',e,ha',hs'⟩:=h'
    cases e
    exact(I.apartK ha ha').elim
   |_=>cases(show V.ref a=_ from h')
 | .lst ds,d',v,h,h'=>by
   obtain⟨a,xs,rfl,ha,hs⟩:=h
   cases d' with
   |lst ds'=>
    obtain⟨a',xs',e,ha',hs'⟩:=h'
    cases e
    cases I.list_inj ha ha'
    rw[RepKs.inj I hs hs']
   |tup ds'=>
    obtain⟨a',xs',e,ha',hs'⟩:=h'
    cases e
    exact(I.apartK ha' ha).elim
   |_=>cases(show V.ref a=_ from h')
theorem RepKs.inj (I:Inv X pins σ H s):∀{ds ds':List D} {xs:List V},RepKs X.K H ds xs→RepKs X.K H ds' xs→ds=ds'
 |[],ds',xs,h,h'=>by
  cases(show xs=[] from h)
  cases ds' with
  |nil=>rfl
  |cons d r=>obtain⟨x,r',e,_⟩:=h';cases e
 |d::ds,ds',xs,h,h'=>by
  obtain⟨x,r,rfl,h1,h2⟩:=h
  cases ds' with
  |nil=>cases(show x::r=[] from h')
  |cons d2 r2=>
   obtain⟨x',r',e,h1',h2'⟩:=h'
   cases e
   rw[RepK.inj I h1 h1',RepKs.inj I h2 h2']
end
theorem RepKs.length {K:PySem.W.Frag} {H:Hp}:∀{ds:List D} {xs:List V},RepKs K H ds xs→ds.length=xs.length
 |[],xs,h=>by cases(show xs=[] from h);rfl
 |d::ds,xs,h=>by
  obtain⟨x,r,rfl,_,h2⟩:=h
  simp[RepKs.length h2]
theorem RepKs.get' {K:PySem.W.Frag} {H:Hp}:∀{ds:List D} {xs:List V} {j:Nat} {d:D},RepKs K H ds xs→ds[j]? =some d→∃x,xs[j]? =some x∧RepK K H d x
 |[],xs,j,x,h,e=>by simp at e
 |d::ds,xs,0,x,h,e=>by
  obtain⟨y,r,rfl,h1,h2⟩:=h
  simp at e;subst e
  exact⟨y,rfl,h1⟩
 |d::ds,xs,j+1,x,h,e=>by
  obtain⟨y,r,rfl,h1,h2⟩:=h
  obtain⟨d',e',h'⟩:=RepKs.get' (j:=j) h2 (by simpa using e)
  exact⟨d',by simpa using e',h'⟩
theorem G6 {A:Around} {xs ys:List V} {its its2:List Value} {ds ds':List D} (rv:Vals xs its) (rv2:Vals ys its2) (hx:RepKs X.K H ds xs) (hy:RepKs X.K H ds' ys)
 (ih:∀(j:Nat) d d' x y u v,ds[j]? =some d→ds'[j]? =some d'→RepK X.K H d x→RepK X.K H d' y→RelV x u→RelV y v→EqAt A s u v (BO d d')):
 ∀j (h1:j<its.toArray.size) (h2:j<its2.toArray.size),EqAt A s its.toArray[j] its2.toArray[j] (BO (ds.getD j .non) (ds'.getD j .non)):=by
 intro j h1 h2
 have l1:=rv.length
 have l2:=rv2.length
 have k1:=hx.length
 have k2:=hy.length
 have h1':j<its.length:=by simpa using h1
 have h2':j<its2.length:=by simpa using h2
 have j1:j<ds.length:=by omega
 have j2:j<ds'.length:=by omega
 obtain⟨x,ex,rx⟩:=hx.get' (j:=j) (d:=ds[j]) (by simp[j1])
 obtain⟨y,ey,ry⟩:=hy.get' (j:=j) (d:=ds'[j]) (by simp[j2])
 obtain⟨u,eu,ru⟩:=rv.get ex
 obtain⟨v,ev,rv'⟩:=rv2.get ey
 have e1:its.toArray[j]=u:=by
  have:its[j]? =some its[j]:=by simp[h1']
  rw[this]at eu
  simpa using Option.some.inj eu
 have e2:its2.toArray[j]=v:=by
  have:its2[j]? =some its2[j]:=by simp[h2']
  rw[this]at ev
  simpa using Option.some.inj ev
 have e3:ds.getD j .non=ds[j]:=by simp[List.getD_eq_getElem?_getD,j1]
 have e4:ds'.getD j .non=ds'[j]:=by simp[List.getD_eq_getElem?_getD,j2]
 rw[e1,e2,e3,e4]
 exact ih j _ _ x y u v (by simp[j1]) (by simp[j2]) rx ry ru rv'
theorem EH (I:Inv X pins σ H s):∀(n:Nat) (A:Around) (d d':D) (x y:V) (u v:Value),d.deep≤n→A.units+n<cLine→RepK X.K H d x→RepK X.K H d' y→RelV x u→RelV y v→
 RcAt A s u v (BO d d')∧EqAt A s u v (BO d d'):=by
 intro n
 induction n with
 |zero=>
  intro A d d' x y u v hd hu hx hy ru rv
  have hu':A.units<cLine:=by omega
  cases d with
  |tup ds=>simp[D.deep]at hd
  |lst ds=>simp[D.deep]at hd
  |non=>
   cases(show x= .non from hx);cases ru
   cases d' with
   |non=>cases(show y= .non from hy);cases rv;simp only[BO];exact⟨RcAt.none_none,EqAt.same _⟩
   |bl b=>cases(show y= .bl b from hy);cases rv;simp only[BO];exact⟨RcAt.none_bool b,EqAt.none_bool b⟩
   |int i=>cases(show y= .int i from hy);obtain⟨t,rfl⟩:=rv;simp only[BO];exact⟨RcAt.none_int i t,EqAt.none_int i t⟩
   |str i=>cases(show y= .str i from hy);obtain⟨t,rfl⟩:=rv;simp only[BO];exact⟨RcAt.none_str i t,EqAt.none_str i t⟩
   |tup ds=>obtain⟨a,xs,rfl,ha,_⟩:=hy;cases rv;obtain⟨its,r,ht⟩:=I.tupK ha;simp only[BO];exact⟨RcAt.none_tuple ht hu',EqAt.none_tuple ht hu'⟩
   |lst ds=>obtain⟨a,xs,rfl,ha,_⟩:=hy;cases rv;obtain⟨its,r,ht⟩:=I.lstK ha;simp only[BO];exact⟨RcAt.none_list ht hu',EqAt.none_list ht hu'⟩
  |bl a=>
   cases(show x= .bl a from hx);cases ru
   cases d' with
   |non=>cases(show y= .non from hy);cases rv;simp only[BO];exact⟨RcAt.bool_none a,EqAt.bool_none a⟩
   |bl b=>cases(show y= .bl b from hy);cases rv;simp only[BO];exact⟨RcAt.bool_bool a b,EqAt.bool_bool a b⟩
   |int i=>cases(show y= .int i from hy);obtain⟨t,rfl⟩:=rv;simp only[BO];exact⟨RcAt.bool_int a i t,EqAt.bool_int a i t⟩
   |str i=>cases(show y= .str i from hy);obtain⟨t,rfl⟩:=rv;simp only[BO];exact⟨RcAt.bool_str a i t,EqAt.bool_str a i t⟩
   |tup ds=>obtain⟨a',xs,rfl,ha,_⟩:=hy;cases rv;obtain⟨its,r,ht⟩:=I.tupK ha;simp only[BO];exact⟨RcAt.bool_tuple a ht hu',EqAt.bool_tuple a ht hu'⟩
   |lst ds=>obtain⟨a',xs,rfl,ha,_⟩:=hy;cases rv;obtain⟨its,r,ht⟩:=I.lstK ha;simp only[BO];exact⟨RcAt.bool_list a ht hu',EqAt.bool_list a ht hu'⟩
  |int a=>
   cases(show x= .int a from hx);obtain⟨ta,rfl⟩:=ru
   cases d' with
   |non=>cases(show y= .non from hy);cases rv;simp only[BO];exact⟨RcAt.int_none a ta,EqAt.int_none a ta⟩
   |bl b=>cases(show y= .bl b from hy);cases rv;simp only[BO];exact⟨RcAt.int_bool a ta b,EqAt.int_bool a ta b⟩
   |int i=>cases(show y= .int i from hy);obtain⟨t,rfl⟩:=rv;simp only[BO];exact⟨RcAt.int_int a ta i t,EqAt.int_int a ta i t⟩
   |str i=>cases(show y= .str i from hy);obtain⟨t,rfl⟩:=rv;simp only[BO];exact⟨RcAt.int_str a ta i t,EqAt.int_str a ta i t⟩
   |tup ds=>obtain⟨a',xs,rfl,ha,_⟩:=hy;cases rv;obtain⟨its,r,ht⟩:=I.tupK ha;simp only[BO];exact⟨RcAt.int_tuple a ta ht hu',EqAt.int_tuple a ta ht hu'⟩
   |lst ds=>obtain⟨a',xs,rfl,ha,_⟩:=hy;cases rv;obtain⟨its,r,ht⟩:=I.lstK ha;simp only[BO];exact⟨RcAt.int_list a ta ht hu',EqAt.int_list a ta ht hu'⟩
  |str a=>
   cases(show x= .str a from hx);obtain⟨ta,rfl⟩:=ru
   cases d' with
   |non=>cases(show y= .non from hy);cases rv;simp only[BO];exact⟨RcAt.str_none a ta,EqAt.str_none a ta⟩
   |bl b=>cases(show y= .bl b from hy);cases rv;simp only[BO];exact⟨RcAt.str_bool a ta b,EqAt.str_bool a ta b⟩
   |int i=>cases(show y= .int i from hy);obtain⟨t,rfl⟩:=rv;simp only[BO];exact⟨RcAt.str_int a ta i t,EqAt.str_int a ta i t⟩
   |str i=>cases(show y= .str i from hy);obtain⟨t,rfl⟩:=rv;simp only[BO];exact⟨RcAt.str_str a ta i t,EqAt.str_str a ta i t⟩
   |tup ds=>obtain⟨a',xs,rfl,ha,_⟩:=hy;cases rv;obtain⟨its,r,ht⟩:=I.tupK ha;simp only[BO];exact⟨RcAt.str_tuple a ta ht hu',EqAt.str_tuple a ta ht hu'⟩
   |lst ds=>obtain⟨a',xs,rfl,ha,_⟩:=hy;cases rv;obtain⟨its,r,ht⟩:=I.lstK ha;simp only[BO];exact⟨RcAt.str_list a ta ht hu',EqAt.str_list a ta ht hu'⟩
 |succ n ih=>
  intro A d d' x y u v hd hu hx hy ru rv
  have hu':A.units<cLine:=by omega
  have hin:A.in1.units+n<cLine:=by show A.units+1+n<cLine;omega
  by_cases h0:d.deep≤n
  ·exact ih A d d' x y u v h0 (by omega) hx hy ru rv
  cases d with
  |tup ds=>
   have hds:D.deeps ds≤n:=by simp[D.deep]at hd;exact hd
   obtain⟨a,xs,rfl,ha,hs⟩:=id hx
   cases ru
   obtain⟨its,r,ht⟩:=I.tupK ha
   cases d' with
   |non=>cases(show y= .non from hy);cases rv;simp only[BO];exact⟨RcAt.tuple_none ht hu',EqAt.tuple_none ht hu'⟩
   |bl b=>cases(show y= .bl b from hy);cases rv;simp only[BO];exact⟨RcAt.tuple_bool b ht hu',EqAt.tuple_bool b ht hu'⟩
   |int i=>cases(show y= .int i from hy);obtain⟨t,rfl⟩:=rv;simp only[BO];exact⟨RcAt.tuple_int i t ht hu',EqAt.tuple_int i t ht hu'⟩
   |str i=>cases(show y= .str i from hy);obtain⟨t,rfl⟩:=rv;simp only[BO];exact⟨RcAt.tuple_str i t ht hu',EqAt.tuple_str i t ht hu'⟩
   |lst ds'=>obtain⟨a',xs',rfl,ha',_⟩:=hy;cases rv;obtain⟨its',r',ht'⟩:=I.lstK ha';simp only[BO];exact⟨RcAt.tuple_list ht ht' hu',EqAt.tuple_list ht ht' hu'⟩
   |tup ds'=>
    obtain⟨a',xs',rfl,ha',hs'⟩:=id hy
    cases rv
    obtain⟨its',r',ht'⟩:=I.tupK ha'
    have rc:RcAt A s (.ref a) (.ref a') (BO (.tup ds) (.tup ds')):=by
     have z:=RcAt.tuples (A:=A) (s:=s) (e:=fun j=>BO (ds.getD j .non) (ds'.getD j .non)) ht ht' hu' (G6 r r' hs hs' fun j e e' x y u v h1 h2 h3 h4 h5 h6=>(ih A.in1 e e' x y u v (Nat.le_trans (GX h1) hds) hin h3 h4 h5 h6).2)
     have e1:its.toArray.size=ds.length:=by rw[List.size_toArray,←r.length,hs.length]
     have e2:its'.toArray.size=ds'.length:=by rw[List.size_toArray,←r'.length,hs'.length]
     rw[e1,e2,D9]at z
     simp only[BO]
     exact z
    refine⟨rc,?_⟩
    by_cases hne:a=a'
    ·subst hne
     have:D.tup ds=D.tup ds':=RepK.inj I hx hy
     rw[←this,GZ]
     exact EqAt.same _
    ·exact EqAt.of_refs hne rc
  |lst ds=>
   have hds:D.deeps ds≤n:=by simp[D.deep]at hd;exact hd
   obtain⟨a,xs,rfl,ha,hs⟩:=id hx
   cases ru
   obtain⟨its,r,ht⟩:=I.lstK ha
   cases d' with
   |non=>cases(show y= .non from hy);cases rv;simp only[BO];exact⟨RcAt.list_none ht hu',EqAt.list_none ht hu'⟩
   |bl b=>cases(show y= .bl b from hy);cases rv;simp only[BO];exact⟨RcAt.list_bool b ht hu',EqAt.list_bool b ht hu'⟩
   |int i=>cases(show y= .int i from hy);obtain⟨t,rfl⟩:=rv;simp only[BO];exact⟨RcAt.list_int i t ht hu',EqAt.list_int i t ht hu'⟩
   |str i=>cases(show y= .str i from hy);obtain⟨t,rfl⟩:=rv;simp only[BO];exact⟨RcAt.list_str i t ht hu',EqAt.list_str i t ht hu'⟩
   |tup ds'=>obtain⟨a',xs',rfl,ha',_⟩:=hy;cases rv;obtain⟨its',r',ht'⟩:=I.tupK ha';simp only[BO];exact⟨RcAt.list_tuple ht ht' hu',EqAt.list_tuple ht ht' hu'⟩
   |lst ds'=>
    obtain⟨a',xs',rfl,ha',hs'⟩:=id hy
    cases rv
    obtain⟨its',r',ht'⟩:=I.lstK ha'
    have e1:its.toArray.size=ds.length:=by rw[List.size_toArray,←r.length,hs.length]
    have e2:its'.toArray.size=ds'.length:=by rw[List.size_toArray,←r'.length,hs'.length]
    have rc:RcAt A s (.ref a) (.ref a') (BO (.lst ds) (.lst ds')):=by
     simp only[BO]
     by_cases hl:ds.length=ds'.length
     ·have z:=RcAt.lists (A:=A) (s:=s) (e:=fun j=>BO (ds.getD j .non) (ds'.getD j .non)) ht ht' (by rw[e1,e2];exact hl) hu' (G6 r r' hs hs' fun j e e' x y u v h1 h2 h3 h4 h5 h6=>(ih A.in1 e e' x y u v (Nat.le_trans (GX h1) hds) hin h3 h4 h5 h6).2)
      have q:=D9 (ds:=ds) (ds':=ds')
      rw[←hl,Nat.min_self,beq_self_eq_true,Bool.and_true]at q
      rw[e1,q]at z
      exact z
     ·have z:=RcAt.lists_lengths (A:=A) (s:=s) ht ht' (by rw[e1,e2];simpa using hl) hu'
      have q:=D9 (ds:=ds) (ds':=ds')
      rw[show(ds.length==ds'.length)=false from beq_eq_false_iff_ne.mpr hl,Bool.and_false]at q
      rw[←q]
      exact z
    refine⟨rc,?_⟩
    by_cases hne:a=a'
    ·subst hne
     have:D.lst ds=D.lst ds':=RepK.inj I hx hy
     rw[←this,GZ]
     exact EqAt.same _
    ·exact EqAt.of_refs hne rc
  |_=>exact absurd (by simp[D.deep]) h0
def rM (K:PySem.W.Frag):R2:=fun x y H Q=>∃d d',RepK K H d x∧RepK K H d' y∧d.deep≤150∧Q (.bl (BO d d')) H
theorem CF (hu:X.A.units+150<cLine):OpR X (compareOp .Eq) (rM X.K):=by
 intro pins s σ H x y v u Q I rx ry h
 obtain⟨d,d',h1,h2,h3,q⟩:=h
 exact(EH I 150 X.A d d' x y v u h3 hu h1 h2 rx ry).1 X.prog X.w X.xe _ ⟨.bl _,H,I,rfl,q⟩
theorem fX (I:Inv X pins σ H s) (A:Around) (d d':D) (x y:V) (u v:Value) (hd:d.deep≤150) (hu:A.units+151<cLine) (hx:RepK X.K H d x) (hy:RepK X.K H d' y) (ru:RelV x u) (rv:RelV y v):RcNeAt A s u v (!BO d d'):=by
 have hu':A.units<cLine:=by omega
 have hin:A.in1.units+150<cLine:=by show A.units+1+150<cLine;omega
 cases d with
 |non=>
  cases(show x= .non from hx);cases ru
  cases d' with
  |non=>cases(show y= .non from hy);cases rv;simp only[BO];exact RcNeAt.none_none
  |bl b2=>cases(show y= .bl b2 from hy);cases rv;simp only[BO];exact RcNeAt.none_bool b2
  |int b2=>cases(show y= .int b2 from hy);obtain⟨t2,rfl⟩:=rv;simp only[BO];exact RcNeAt.none_int b2 t2
  |str b2=>cases(show y= .str b2 from hy);obtain⟨t2,rfl⟩:=rv;simp only[BO];exact RcNeAt.none_str b2 t2
  |tup ds2=>obtain⟨a2,xs2,rfl,ha2,hs2⟩:=id hy;cases rv;obtain⟨its2,r2,ht2⟩:=I.tupK ha2;simp only[BO];exact RcNeAt.none_tuple ht2 hu'
  |lst ds2=>obtain⟨a2,xs2,rfl,ha2,hs2⟩:=id hy;cases rv;obtain⟨its2,r2,ht2⟩:=I.lstK ha2;simp only[BO];exact RcNeAt.none_list ht2 hu'
 |bl b1=>
  cases(show x= .bl b1 from hx);cases ru
  cases d' with
  |non=>cases(show y= .non from hy);cases rv;simp only[BO];exact RcNeAt.bool_none b1
  |bl b2=>cases(show y= .bl b2 from hy);cases rv;simp only[BO];exact RcNeAt.bool_bool b1 b2
  |int b2=>cases(show y= .int b2 from hy);obtain⟨t2,rfl⟩:=rv;simp only[BO];exact RcNeAt.bool_int b1 b2 t2
  |str b2=>cases(show y= .str b2 from hy);obtain⟨t2,rfl⟩:=rv;simp only[BO];exact RcNeAt.bool_str b1 b2 t2
  |tup ds2=>obtain⟨a2,xs2,rfl,ha2,hs2⟩:=id hy;cases rv;obtain⟨its2,r2,ht2⟩:=I.tupK ha2;simp only[BO];exact RcNeAt.bool_tuple b1 ht2 hu'
  |lst ds2=>obtain⟨a2,xs2,rfl,ha2,hs2⟩:=id hy;cases rv;obtain⟨its2,r2,ht2⟩:=I.lstK ha2;simp only[BO];exact RcNeAt.bool_list b1 ht2 hu'
 |int b1=>
  cases(show x= .int b1 from hx);obtain⟨t1,rfl⟩:=ru
  cases d' with
  |non=>cases(show y= .non from hy);cases rv;simp only[BO];exact RcNeAt.int_none b1 t1
  |bl b2=>cases(show y= .bl b2 from hy);cases rv;simp only[BO];exact RcNeAt.int_bool b1 t1 b2
  |int b2=>cases(show y= .int b2 from hy);obtain⟨t2,rfl⟩:=rv;simp only[BO];exact RcNeAt.int_int b1 t1 b2 t2
  |str b2=>cases(show y= .str b2 from hy);obtain⟨t2,rfl⟩:=rv;simp only[BO];exact RcNeAt.int_str b1 t1 b2 t2
  |tup ds2=>obtain⟨a2,xs2,rfl,ha2,hs2⟩:=id hy;cases rv;obtain⟨its2,r2,ht2⟩:=I.tupK ha2;simp only[BO];exact RcNeAt.int_tuple b1 t1 ht2 hu'
  |lst ds2=>obtain⟨a2,xs2,rfl,ha2,hs2⟩:=id hy;cases rv;obtain⟨its2,r2,ht2⟩:=I.lstK ha2;simp only[BO];exact RcNeAt.int_list b1 t1 ht2 hu'
 |str b1=>
  cases(show x= .str b1 from hx);obtain⟨t1,rfl⟩:=ru
  cases d' with
  |non=>cases(show y= .non from hy);cases rv;simp only[BO];exact RcNeAt.str_none b1 t1
  |bl b2=>cases(show y= .bl b2 from hy);cases rv;simp only[BO];exact RcNeAt.str_bool b1 t1 b2
  |int b2=>cases(show y= .int b2 from hy);obtain⟨t2,rfl⟩:=rv;simp only[BO];exact RcNeAt.str_int b1 t1 b2 t2
  |str b2=>cases(show y= .str b2 from hy);obtain⟨t2,rfl⟩:=rv;simp only[BO];exact RcNeAt.str_str b1 t1 b2 t2
  |tup ds2=>obtain⟨a2,xs2,rfl,ha2,hs2⟩:=id hy;cases rv;obtain⟨its2,r2,ht2⟩:=I.tupK ha2;simp only[BO];exact RcNeAt.str_tuple b1 t1 ht2 hu'
  |lst ds2=>obtain⟨a2,xs2,rfl,ha2,hs2⟩:=id hy;cases rv;obtain⟨its2,r2,ht2⟩:=I.lstK ha2;simp only[BO];exact RcNeAt.str_list b1 t1 ht2 hu'
 |tup ds1=>
  obtain⟨a1,xs1,rfl,ha1,hs1⟩:=id hx;cases ru;obtain⟨its1,r1,ht1⟩:=I.tupK ha1
  cases d' with
  |non=>cases(show y= .non from hy);cases rv;simp only[BO];exact RcNeAt.tuple_none ht1 hu'
  |bl b2=>cases(show y= .bl b2 from hy);cases rv;simp only[BO];exact RcNeAt.tuple_bool b2 ht1 hu'
  |int b2=>cases(show y= .int b2 from hy);obtain⟨t2,rfl⟩:=rv;simp only[BO];exact RcNeAt.tuple_int b2 t2 ht1 hu'
  |str b2=>cases(show y= .str b2 from hy);obtain⟨t2,rfl⟩:=rv;simp only[BO];exact RcNeAt.tuple_str b2 t2 ht1 hu'
  |tup ds2=>
   obtain⟨a2,xs2,rfl,ha2,hs2⟩:=id hy;cases rv;obtain⟨its2,r2,ht2⟩:=I.tupK ha2
   have hds:D.deeps ds1≤150:=by have:=hd;simp[D.deep]at this;omega
   have z:=RcNeAt.tuples (A:=A) (s:=s) (e:=fun j=>BO (ds1.getD j .non) (ds2.getD j .non)) ht1 ht2 hu' (G6 r1 r2 hs1 hs2 fun j e e' x y u v h1 h2 h3 h4 h5 h6=>(EH I 150 A.in1 e e' x y u v (Nat.le_trans (GX h1) hds) hin h3 h4 h5 h6).2)
   have e1:its1.toArray.size=ds1.length:=by rw[List.size_toArray,←r1.length,hs1.length]
   have e2:its2.toArray.size=ds2.length:=by rw[List.size_toArray,←r2.length,hs2.length]
   rw[e1,e2,D9]at z
   simp only[BO]
   exact z
  |lst ds2=>obtain⟨a2,xs2,rfl,ha2,hs2⟩:=id hy;cases rv;obtain⟨its2,r2,ht2⟩:=I.lstK ha2;simp only[BO];exact RcNeAt.tuple_list ht1 ht2 hu'
 |lst ds1=>
  obtain⟨a1,xs1,rfl,ha1,hs1⟩:=id hx;cases ru;obtain⟨its1,r1,ht1⟩:=I.lstK ha1
  cases d' with
  |non=>cases(show y= .non from hy);cases rv;simp only[BO];exact RcNeAt.list_none ht1 hu'
  |bl b2=>cases(show y= .bl b2 from hy);cases rv;simp only[BO];exact RcNeAt.list_bool b2 ht1 hu'
  |int b2=>cases(show y= .int b2 from hy);obtain⟨t2,rfl⟩:=rv;simp only[BO];exact RcNeAt.list_int b2 t2 ht1 hu'
  |str b2=>cases(show y= .str b2 from hy);obtain⟨t2,rfl⟩:=rv;simp only[BO];exact RcNeAt.list_str b2 t2 ht1 hu'
  |tup ds2=>obtain⟨a2,xs2,rfl,ha2,hs2⟩:=id hy;cases rv;obtain⟨its2,r2,ht2⟩:=I.tupK ha2;simp only[BO];exact RcNeAt.list_tuple ht1 ht2 hu'
  |lst ds2=>
   obtain⟨a2,xs2,rfl,ha2,hs2⟩:=id hy;cases rv;obtain⟨its2,r2,ht2⟩:=I.lstK ha2
   have hds:D.deeps ds1≤150:=by have:=hd;simp[D.deep]at this;omega
   have e1:its1.toArray.size=ds1.length:=by rw[List.size_toArray,←r1.length,hs1.length]
   have e2:its2.toArray.size=ds2.length:=by rw[List.size_toArray,←r2.length,hs2.length]
   simp only[BO]
   by_cases hl:ds1.length=ds2.length
   ·have z:=RcNeAt.lists (A:=A) (s:=s) (e:=fun j=>BO (ds1.getD j .non) (ds2.getD j .non)) ht1 ht2 (by rw[e1,e2];exact hl) hu' (G6 r1 r2 hs1 hs2 fun j e e' x y u v h1 h2 h3 h4 h5 h6=>(EH I 150 A.in1 e e' x y u v (Nat.le_trans (GX h1) hds) hin h3 h4 h5 h6).2)
    have q:=D9 (ds:=ds1) (ds':=ds2)
    rw[←hl,Nat.min_self,beq_self_eq_true,Bool.and_true]at q
    rw[e1,q]at z
    exact z
   ·have z:=RcNeAt.lists_lengths (A:=A) (s:=s) ht1 ht2 (by rw[e1,e2];simpa using hl) hu'
    have q:=D9 (ds:=ds1) (ds':=ds2)
    rw[show(ds1.length==ds2.length)=false from beq_eq_false_iff_ne.mpr hl,Bool.and_false]at q
    rw[←q]
    exact z
def pY (K:PySem.W.Frag):R2:=fun x y H Q=>∃d d',RepK K H d x∧RepK K H d' y∧d.deep≤150∧Q (.bl (!BO d d')) H
theorem O7 (hu:X.A.units+151<cLine):OpR X (compareOp .NotEq) (pY X.K):=by
 intro pins s σ H x y v u Q I rx ry h
 obtain⟨d,d',h1,h2,h3,q⟩:=h
 exact fX I X.A d d' x y v u h3 hu h1 h2 rx ry X.prog X.w X.xe _ ⟨.bl _,H,I,rfl,q⟩
noncomputable def HR (K:PySem.W.Frag) (H:Hp) (d:D) (y:Value):Bool:= @decide (∃(d':D) (v':V),RelV v' y∧RepK K H d' v'∧BO d' d=true) (Classical.propDecidable _)
theorem TD (I:Inv X pins σ H s) {d d':D} {v':V} {y:Value} (r:RelV v' y) (h:RepK X.K H d' v'):HR X.K H d y=BO d' d:=by
 unfold HR
 cases e:BO d' d with
 |true=>exact @decide_eq_true _ (Classical.propDecidable _) ⟨d',v',r,h,e⟩
 |false=>
  refine @decide_eq_false _ (Classical.propDecidable _) ?_
  rintro⟨d2,v2,r2,h2,e2⟩
  rw[r2.inj r]at h2
  rw[RepK.inj I h2 h,e]at e2
  cases e2
theorem GF (I:Inv X pins σ H s) {d:D}:∀{ds:List D} {xs:List V} {us:List Value},Vals xs us→RepKs X.K H ds xs→us.any (HR X.K H d)=ds.any fun e=>BO e d
 |[],xs,us,r,h=>by cases(show xs=[] from h);cases r;rfl
 |e::ds,xs,us,r,h=>by
  obtain⟨x,xr,rfl,h1,h2⟩:=h
  cases r with
  |cons r1 r2=>rw[List.any_cons,List.any_cons,TD I r1 h1,GF I r2 h2]
theorem GV (I:Inv X pins σ H s) {A:Around} (hu:A.units+150<cLine) {d:D} {x:V} {v:Value} (rx:RelV x v) (hx:RepK X.K H d x):∀{ds:List D} {xs:List V} {us:List Value},Vals xs us→RepKs X.K H ds xs→D.deeps ds≤150→∀u∈us,EqAt A s u v (HR X.K H d u)
 |[],xs,us,r,h,_,u,hm=>by cases(show xs=[] from h);cases r;cases hm
 |e::ds,xs,us,r,h,hd,u,hm=>by
  obtain⟨y,xr,rfl,h1,h2⟩:=h
  have hd':e.deep≤150∧D.deeps ds≤150:=by simp[D.deeps]at hd;omega
  cases r with
  |cons r1 r2=>
   rcases List.mem_cons.mp hm with rfl|hm
   ·rw[TD I r1 h1]
    exact(EH I 150 A e d y x u v hd'.1 hu h1 hx r1 rx).2
   ·exact GV I hu rx hx r2 h2 hd'.2 u hm
def dG (K:PySem.W.Frag) (neg:Bool):R2:=fun x y H Q=>∃(p:Addr) (xs:List V) (ds:List D) (d:D),y= .ref p∧(SqL K H p xs∨GD K H p xs)∧RepKs K H ds xs∧RepK K H d x∧D.deeps ds≤150∧Q (.bl (if neg then !(ds.any fun e=>BO e d) else ds.any fun e=>BO e d)) H
theorem iO (hu:X.A.units+151<cLine):OpR X (compareOp .In) (dG X.K false):=by
 intro pins s σ H x y v u Q I rx ry h
 obtain⟨p,xs,ds,d,rfl,hq,hs,hx,hd,q⟩:=h
 cases ry
 have hu':X.A.in1.units+150<cLine:=by show X.A.units+1+150<cLine;omega
 rcases hq with hq|hq
 ·obtain⟨its,r,pl⟩:=I.lstK hq
  refine SeqAt.in_listAt (HR X.K H d) pl (fun w hw=>GV I hu' rx hx r hs hd w (by simpa using hw)) ⟨.bl _,H,I,rfl,?_⟩
  rw[show its.toArray.any (HR X.K H d)=its.any (HR X.K H d) by simp,GF I r hs]
  exact q
 ·obtain⟨its,r,pl⟩:=I.tupK hq
  refine SeqAt.in_tupleAt (HR X.K H d) pl (fun w hw=>GV I hu' rx hx r hs hd w (by simpa using hw)) ⟨.bl _,H,I,rfl,?_⟩
  rw[show its.toArray.any (HR X.K H d)=its.any (HR X.K H d) by simp,GF I r hs]
  exact q
theorem VG (hu:X.A.units+151<cLine):OpR X (compareOp .NotIn) (dG X.K true):=by
 intro pins s σ H x y v u Q I rx ry h
 obtain⟨p,xs,ds,d,rfl,hq,hs,hx,hd,q⟩:=h
 cases ry
 have hu':X.A.in1.units+150<cLine:=by show X.A.units+1+150<cLine;omega
 rcases hq with hq|hq
 ·obtain⟨its,r,pl⟩:=I.lstK hq
  refine SeqAt.notIn_listAt (HR X.K H d) pl (fun w hw=>GV I hu' rx hx r hs hd w (by simpa using hw)) ⟨.bl _,H,I,rfl,?_⟩
  rw[show its.toArray.any (HR X.K H d)=its.any (HR X.K H d) by simp,GF I r hs]
  exact q
 ·obtain⟨its,r,pl⟩:=I.tupK hq
  refine SeqAt.notIn_tupleAt (HR X.K H d) pl (fun w hw=>GV I hu' rx hx r hs hd w (by simpa using hw)) ⟨.bl _,H,I,rfl,?_⟩
  rw[show its.toArray.any (HR X.K H d)=its.any (HR X.K H d) by simp,GF I r hs]
  exact q
end
end L2
namespace L2
open PySem PySem.Spec PyProof.Rows
mutual
def S0 (f:Nat→Option D):M→Option D
 | .non=>some .non
 | .bl b=>some (.bl b)
 | .int i=>some (.int i)
 | .str x=>some (.str x)
 | .tup xs=>(DN f xs).map .tup
 | .lst xs=>(DN f xs).map .lst
 | .ref k=>f k
 | .scr ns=>some (.lst (ns.map D.int))
 |_=>none
def DN (f:Nat→Option D):List M→Option (List D)
 |[]=>some []
 |x::xs=>(S0 f x).bind fun d=>(DN f xs).map (d:: ·)
end
def DL (h:A7):Nat→Nat→Option D
 |0,_=>none
 |q+1,k=>match h[k]?with|some (.lst xs)=>(DN (DL h q) xs).map .lst|_=>none
def toD (h:A7):M→Option D:=S0 (DL h 20)
def SS (h:A7):List M→Option (List D):=DN (DL h 20)
theorem RepKs.ints {K:PySem.W.Frag} {H:Hp}:∀{ns:List Int},RepKs K H (ns.map D.int) (ns.map V.int)
 |[]=>rfl
 |n::ns=>⟨_,_,rfl,rfl,RepKs.ints⟩
mutual
theorem QE {K:PySem.W.Frag} {α:Pl} {H:Hp} {f:Nat→Option D} (hf:∀k d v,f k=some d→RepA K α H (.ref k) v→RepK K H d v):∀{m:M} {d:D} {v:V},S0 f m=some d→RepA K α H m v→RepK K H d v
 | .non,_,_,e,r=>by cases e;exact r
 | .bl b,_,_,e,r=>by cases e;exact r
 | .int b,_,_,e,r=>by cases e;exact r
 | .str b,_,_,e,r=>by cases e;exact r
 | .tup xs,_,_,e,r=>by
   obtain⟨ds,e1,e2⟩:=Option.map_eq_some_iff.mp e
   subst e2
   obtain⟨a,vs,e3,t,rs⟩:=r
   exact⟨a,vs,e3,t.sq,FM hf e1 rs⟩
 | .lst xs,_,_,e,r=>by
   obtain⟨ds,e1,e2⟩:=Option.map_eq_some_iff.mp e
   subst e2
   obtain⟨a,vs,e3,n,t,rs⟩:=r
   exact⟨a,vs,e3, .of t,FM hf e1 rs⟩
 | .ref k,_,_,e,r=>hf k _ _ e r
 | .scr ns,_,_,e,r=>by
   cases e
   obtain⟨a,e3,t⟩:=r
   exact⟨a,_,e3,t.sq,RepKs.ints⟩
 | .ty _,_,_,e,_=>by cases e
 | .dct _ _,_,_,e,_=>by cases e
theorem FM {K:PySem.W.Frag} {α:Pl} {H:Hp} {f:Nat→Option D} (hf:∀k d v,f k=some d→RepA K α H (.ref k) v→RepK K H d v):∀{m:List M} {d:List D} {v:List V},DN f m=some d→RepAs K α H m v→RepKs K H d v
 |[],_,_,e,r=>by cases e;exact r
 |x::xs,_,_,e,r=>by
  obtain⟨d,e1,e2⟩:=Option.bind_eq_some_iff.mp e
  obtain⟨ds,e3,e4⟩:=Option.map_eq_some_iff.mp e2
  subst e4
  obtain⟨v,vs,rfl,h1,h2⟩:=r
  exact⟨v,vs,rfl,QE hf e1 h1,FM hf e3 h2⟩
end
theorem K3 {K:PySem.W.Frag} {α:Pl} {h:A7} {H:Hp} (hr:Rl K α h H):∀(q k:Nat) (d:D) (v:V),DL h q k=some d→RepA K α H (.ref k) v→RepK K H d v
 |0,_,_,_,e,_=>by cases e
 |q+1,k,d,v,e,⟨a,ha,e2⟩=>by
  unfold DL at e
  split at e
  ·rename_i xs hx
   obtain⟨ds,e3,e4⟩:=Option.map_eq_some_iff.mp e
   subst e4
   obtain⟨vs,hv,rs⟩:=hr.obj k a _ ha hx
   exact⟨a,vs,e2, .of hv,FM (fun k d v=>K3 hr q k d v) e3 rs⟩
  ·cases e
theorem ER {K:PySem.W.Frag} {α:Pl} {h:A7} {H:Hp} {m:M} {d:D} {v:V} (hr:Rl K α h H) (e:toD h m=some d) (r:RepA K α H m v):RepK K H d v:=QE (fun k d v=>K3 hr 20 k d v) e r
theorem GU {K:PySem.W.Frag} {α:Pl} {h:A7} {H:Hp} {m:List M} {d:List D} {v:List V} (hr:Rl K α h H) (e:SS h m=some d) (r:RepAs K α H m v):RepKs K H d v:=FM (fun k d v=>K3 hr 20 k d v) e r
def E2 (x y:M) (h:A7):Option M:=(toD h x).bind fun d=>(toD h y).bind fun d'=>if d.deep≤150 then some (.bl (BO d d')) else none
def Q0 (x y:M) (h:A7):Option M:=(toD h x).bind fun d=>(toD h y).bind fun d'=>if d.deep≤150 then some (.bl (!BO d d')) else none
section
variable {X:Cx} {K:PySem.W.Frag}
theorem DE:MR K (rM K) E2:=by
 intro α h H x y d u v Q hr rx ry e k
 obtain⟨d1,e1,e⟩:=Option.bind_eq_some_iff.mp e
 obtain⟨d2,e2,e⟩:=Option.bind_eq_some_iff.mp e
 split at e
 ·rename_i hd
  cases e
  exact⟨d1,d2,ER hr e1 rx,ER hr e2 ry,hd,k H _ (Same.refl _) rfl⟩
 ·cases e
theorem UA:MR K (pY K) Q0:=by
 intro α h H x y d u v Q hr rx ry e k
 obtain⟨d1,e1,e⟩:=Option.bind_eq_some_iff.mp e
 obtain⟨d2,e2,e⟩:=Option.bind_eq_some_iff.mp e
 split at e
 ·rename_i hd
  cases e
  exact⟨d1,d2,ER hr e1 rx,ER hr e2 ry,hd,k H _ (Same.refl _) rfl⟩
 ·cases e
def fO (i j:Str):Bool:= !(Builtin.Str.occurrences j i 0 j.length 1).isEmpty
def O3 (x:M) (xs:List M) (h:A7) (f:Bool→M):Option M:=(SS h xs).bind fun ds=>(toD h x).bind fun d=>if D.deeps ds≤150 then some (f (ds.any fun e=>BO e d)) else none
def JX (x y:M) (h:A7):Option M:=match BK h y with
 |some kvs=>(E9 x).map fun k=> .bl (B6 kvs k).isSome
 |none=>(match y with
 | .str j=>(match x with| .str i=>some (.bl (fO i j))|_=>none)
 | .tup xs=>O3 x xs h fun b=> .bl b
 |y=>(KP h y).bind fun xs=>O3 x xs h fun b=> .bl b)
def HA (x y:M) (h:A7):Option M:=match BK h y with
 |some kvs=>(E9 x).map fun k=> .bl (!(B6 kvs k).isSome)
 |none=>(match y with
 | .str j=>(match x with| .str i=>some (.bl (!fO i j))|_=>none)
 | .tup xs=>O3 x xs h fun b=> .bl (!b)
 |y=>(KP h y).bind fun xs=>O3 x xs h fun b=> .bl (!b))
def WU:R2:=fun x y H Q=>∃a o,y= .ref a∧QC H a x o∧Q (.bl o.isSome) H
def MW:R2:=fun x y H Q=>∃a o,y= .ref a∧QC H a x o∧Q (.bl (!o.isSome)) H
theorem Y2 (hu:X.A.units+1<cLine):OpR X (compareOp .In) WU:=by
 intro pins s σ H x y v u Q I rx ry q
 obtain⟨a,o,rfl,g,q⟩:=q
 cases(show u= .ref a from ry)
 exact v1 hu I g rx fun s' I'=>⟨.bl o.isSome,H,I',rfl,q⟩
theorem RD (hu:X.A.units+1<cLine):OpR X (compareOp .NotIn) MW:=by
 intro pins s σ H x y v u Q I rx ry q
 obtain⟨a,o,rfl,g,q⟩:=q
 cases(show u= .ref a from ry)
 exact cH hu I g rx fun s' I'=>⟨.bl (!o.isSome),H,I',rfl,q⟩
def rX (K:PySem.W.Frag):R2:=fun x y H Q=>WU x y H Q∨dG K false x y H Q∨∃i j,x= .str i∧y= .str j∧Q (.bl (!(Builtin.Str.occurrences j i 0 j.length 1).isEmpty)) H
def US (K:PySem.W.Frag):R2:=fun x y H Q=>MW x y H Q∨dG K true x y H Q∨∃i j,x= .str i∧y= .str j∧Q (.bl (!(!(Builtin.Str.occurrences j i 0 j.length 1).isEmpty))) H
theorem LZ (hu:X.A.units+151<cLine):OpR X (compareOp .In) (rX X.K):=(Y2 (by omega)).or ((iO hu).or VX)
theorem NB (hu:X.A.units+151<cLine):OpR X (compareOp .NotIn) (US X.K):=(RD (by omega)).or ((VG hu).or OF)
theorem JE {x:M} {xs:List M} {h:A7} {f:Bool→M} {d:M} (e:O3 x xs h f=some d):∃ds dx,SS h xs=some ds∧toD h x=some dx∧D.deeps ds≤150∧d=f (ds.any fun e=>BO e dx):=by
 obtain⟨ds,e1,e⟩:=Option.bind_eq_some_iff.mp e
 obtain⟨dx,e2,e⟩:=Option.bind_eq_some_iff.mp e
 split at e
 ·rename_i hd;cases e;exact⟨ds,dx,e1,e2,hd,rfl⟩
 ·cases e
theorem QB:MR K (rX K) JX:=by
 intro α h H x y d u v Q hr rx ry e k
 unfold JX at e
 split at e
 ·rename_i kvs hk
  obtain⟨key,e1,e2⟩:=Option.map_eq_some_iff.mp e
  subst e2
  obtain⟨a,ws,rfl,ha,ek,rs⟩:=BL hr ry hk
  cases(DB e1 rx)
  exact .inl ⟨a,_,rfl,(.inl ⟨_,_,ha,rfl,rfl⟩),by rw[(EL key ek rs).1];exact k H _ (Same.refl _) rfl⟩
 refine .inr ?_
 split at e
 ·split at e
  ·cases e
   exact .inr ⟨_,_,rx,ry,k H _ (Same.refl _) rfl⟩
  ·cases e
 ·obtain⟨ds,dx,e1,e2,hd,rfl⟩:=JE e
  obtain⟨a,vs,rfl,t,rs⟩:=ry
  exact .inl ⟨a,vs,ds,dx,rfl, .inr t.sq,GU hr e1 rs,ER hr e2 rx,hd,k H _ (Same.refl _) rfl⟩
 ·obtain⟨xs,e0,e⟩:=Option.bind_eq_some_iff.mp e
  obtain⟨ds,dx,e1,e2,hd,rfl⟩:=JE e
  obtain⟨a,vs,rfl,t,rs⟩:=E1 hr ry e0
  exact .inl ⟨a,vs,ds,dx,rfl, .inl t,GU hr e1 rs,ER hr e2 rx,hd,k H _ (Same.refl _) rfl⟩
theorem R1:MR K (US K) HA:=by
 intro α h H x y d u v Q hr rx ry e k
 unfold HA at e
 split at e
 ·rename_i kvs hk
  obtain⟨key,e1,e2⟩:=Option.map_eq_some_iff.mp e
  subst e2
  obtain⟨a,ws,rfl,ha,ek,rs⟩:=BL hr ry hk
  cases(DB e1 rx)
  exact .inl ⟨a,_,rfl,(.inl ⟨_,_,ha,rfl,rfl⟩),by rw[(EL key ek rs).1];exact k H _ (Same.refl _) rfl⟩
 refine .inr ?_
 split at e
 ·split at e
  ·cases e
   exact .inr ⟨_,_,rx,ry,k H _ (Same.refl _) rfl⟩
  ·cases e
 ·obtain⟨ds,dx,e1,e2,hd,rfl⟩:=JE e
  obtain⟨a,vs,rfl,t,rs⟩:=ry
  exact .inl ⟨a,vs,ds,dx,rfl, .inr t.sq,GU hr e1 rs,ER hr e2 rx,hd,k H _ (Same.refl _) rfl⟩
 ·obtain⟨xs,e0,e⟩:=Option.bind_eq_some_iff.mp e
  obtain⟨ds,dx,e1,e2,hd,rfl⟩:=JE e
  obtain⟨a,vs,rfl,t,rs⟩:=E1 hr ry e0
  exact .inl ⟨a,vs,ds,dx,rfl, .inl t,GU hr e1 rs,ER hr e2 rx,hd,k H _ (Same.refl _) rfl⟩
def LX (xs:List M) (h:A7):Option M:=match xs with
 |[.str z]=>if z.length≤16777216 then some (.int z.length) else none
 |[.tup ys]=>some (.int ys.length)
 |[.dct ks ys]=>some (.int ks.length)
 |[x]=>(match KP h x with
  |some ys=>some (.int ys.length)
  |none=>(BK h x).map fun kvs=> .int kvs.length)
 |_=>none
def eT (K:PySem.W.Frag):List V→Hp→VK→Prop:=fun xs H Q=>(∃z,xs=[.str z]∧z.length≤sizeLine∧Q (.int z.length) H)∨(∃p ys,xs=[.ref p]∧(SqL K H p ys∨GD K H p ys)∧Q (.int ys.length) H)∨∃a kvs,xs=[V.ref a]∧Rd H a (.dK kvs)∧Q (.int kvs.length) H
theorem DR:DA X (.builtin "len") (eT X.K):=by
 intro pins s σ H xs us Q I r h
 rcases h with h|h|h
 ·exact O9 pins s σ H _ us Q I r h
 ·exact P9 pins s σ H _ us Q I r h
 ·obtain⟨a,kvs,rfl,ha,q⟩:=h
  obtain⟨u,rfl,ru⟩:=E7 r
  cases ru
  exact sC I ha fun t s' I'=>⟨.int kvs.length,H,I',⟨t,rfl⟩,q⟩
theorem FX {α:Pl} {H:Hp} {x:M} {us:List V} (r:RepAs K α H [x] us):∃u,us=[u]∧RepA K α H x u:=by
 obtain⟨u,q,rfl,h1,h2⟩:=r
 cases(show q=[] from h2)
 exact⟨u,rfl,h1⟩
theorem SW {α:Pl} {H:Hp} {x y:M} {us:List V} (r:RepAs K α H [x,y] us):∃u v,us=[u,v]∧RepA K α H x u∧RepA K α H y v:=by
 obtain⟨u,q,rfl,h1,h2⟩:=r
 obtain⟨v,rfl,h3⟩:=FX h2
 exact⟨u,v,rfl,h1,h3⟩
theorem IR:FJ K (eT K) LX:=by
 intro α h H xs d us Q hr rs e k
 unfold LX at e
 split at e
 ·split at e
  ·rename_i hl
   cases e
   obtain⟨u,rfl,ru⟩:=FX rs
   cases(show u= .str _ from ru)
   exact .inl ⟨_,rfl,by rw[sizeLine_eq];exact hl,k H _ (Same.refl _) rfl⟩
  ·cases e
 ·cases e
  obtain⟨u,rfl,a,vs,rfl,t,rv⟩:=FX rs
  exact .inr (.inl ⟨a,vs,rfl, .inr t.sq,k H _ (Same.refl _) (by rw[rv.length];rfl)⟩)
 ·cases e
  obtain⟨u,rfl,a,ws,rfl,n,ha,ek,rv⟩:=FX rs
  exact .inr (.inr ⟨a,ws,rfl,ha,k H _ (Same.refl _) (by rw[←ek,List.length_map];rfl)⟩)
 ·obtain⟨u,rfl,ru⟩:=FX rs
  split at e
  ·rename_i ys hy
   cases e
   obtain⟨a,vs,rfl,t,rv⟩:=E1 hr ru hy
   exact .inr (.inl ⟨a,vs,rfl, .inl t,k H _ (Same.refl _) (by rw[rv.length];rfl)⟩)
  ·obtain⟨kvs,e1,e2⟩:=Option.map_eq_some_iff.mp e
   subst e2
   obtain⟨a,ws,rfl,ha,ek,rv⟩:=BL hr ru e1
   refine .inr (.inr ⟨a,ws,rfl,ha,k H _ (Same.refl _) ?_⟩)
   have:ws.length=kvs.length:=by have:=congrArg List.length ek;simpa using this
   rw[this];rfl
 ·cases e
def dQ (xs:List M) (_:A7):Option M:=match xs with|[.int i]=>some (.int (if i<0 then-i else i))|_=>none
theorem fV:FJ K (fun xs H Q=>∃i,xs=[.int i]∧Q (.int (if i<0 then-i else i)) H) dQ:=by
 intro α h H xs d us Q hr rs e k
 unfold dQ at e
 split at e
 ·cases e
  obtain⟨u,rfl,ru⟩:=FX rs
  cases(show u= .int _ from ru)
  exact⟨_,rfl,k H _ (Same.refl _) rfl⟩
 ·cases e
def YV (xs:List M) (_:A7):Option M:=match xs with|[.int i]=>some (.int i)|[.bl b]=>some (.int (if b then 1 else 0))|_=>none
theorem XA:FJ K (fun xs H Q=>(∃i,xs=[.int i]∧Q (.int i) H)∨∃k,xs=[.bl k]∧Q (.int (if k then 1 else 0)) H) YV:=by
 intro α h H xs d us Q hr rs e k
 unfold YV at e
 split at e
 ·cases e
  obtain⟨u,rfl,ru⟩:=FX rs
  cases(show u= .int _ from ru)
  exact .inl ⟨_,rfl,k H _ (Same.refl _) rfl⟩
 ·cases e
  obtain⟨u,rfl,ru⟩:=FX rs
  cases(show u= .bl _ from ru)
  exact .inr ⟨_,rfl,k H _ (Same.refl _) rfl⟩
 ·cases e
def mH:List M→Option (List Bool)
 |[]=>some []
 | .bl b::r=>(mH r).map (b:: ·)
 |_=>none
theorem TW {α:Pl} {H:Hp}:∀{xs:List M} {bs:List Bool} {vs:List V},mH xs=some bs→RepAs K α H xs vs→vs=bs.map V.bl
 |[],_,vs,e,r=>by cases e;exact r
 | .bl b::xs,_,vs,e,r=>by
   obtain⟨cs,e1,e2⟩:=Option.map_eq_some_iff.mp e
   subst e2
   obtain⟨v,q,rfl,h1,h2⟩:=r
   rw[TW e1 h2,show v= .bl b from h1]
   rfl
 | .non::_,_,_,e,_| .int _::_,_,_,e,_| .str _::_,_,_,e,_| .ty _::_,_,_,e,_| .tup _::_,_,_,e,_| .lst _::_,_,_,e,_| .dct _ _::_,_,_,e,_| .ref _::_,_,_,e,_| .scr _::_,_,_,e,_=>by cases e
def cQ (xs:List M) (h:A7):Option M:=match xs with|[x]=>(KM h x).bind fun ys=>(mH ys).map fun bs=> .bl (bs.all id)|_=>none
theorem jP:FJ K (fun xs H Q=>∃(p:Addr) (bs:List Bool),xs=[.ref p]∧H p=some (.lst (bs.map V.bl))∧Q (.bl (bs.all id)) H) cQ:=by
 intro α h H xs d us Q hr rs e k
 unfold cQ at e
 split at e
 ·obtain⟨ys,e1,e⟩:=Option.bind_eq_some_iff.mp e
  obtain⟨bs,e2,e3⟩:=Option.map_eq_some_iff.mp e
  subst e3
  obtain⟨u,rfl,ru⟩:=FX rs
  obtain⟨a,vs,rfl,ha,rv⟩:=EK hr ru e1
  rw[TW e2 rv]at ha
  exact⟨a,bs,rfl,ha,k H _ (Same.refl _) rfl⟩
 ·cases e
def OQ (xs:List M) (h:A7):Option M:=match xs with|[.tup ys]=>some (.tup ys)|[x]=>(KP h x).map .tup|_=>none
theorem R8:FJ K (fun xs H Q=>∃p ys,xs=[.ref p]∧((SqL K H p ys∧∀l,H l=none→Q (.ref l) (upd H l (.tup ys)))∨(GD K H p ys∧Q (.ref p) H))) OQ:=by
 intro α h H xs d us Q hr rs e k
 unfold OQ at e
 split at e
 ·cases e
  obtain⟨u,rfl,a,vs,rfl,t,rv⟩:=FX rs
  exact⟨a,vs,rfl, .inr ⟨t.sq,k H _ (Same.refl _) ⟨a,vs,rfl,t,rv⟩⟩⟩
 ·obtain⟨ys,e1,e2⟩:=Option.map_eq_some_iff.mp e
  subst e2
  obtain⟨u,rfl,ru⟩:=FX rs
  obtain⟨a,vs,rfl,ha,rv⟩:=E1 hr ru e1
  exact⟨a,vs,rfl, .inl ⟨ha,fun l hl=>k _ _ (AX hl _) (U7 hr hl rv)⟩⟩
 ·cases e
def kO (xs:List M) (_:A7):Option M:=match xs with|[.int i]=>if i.natAbs.log2<1920 then some (.str (toString i)) else none|_=>none
theorem j6:FJ K (fun xs H Q=>∃i,xs=[.int i]∧i.natAbs.log2<1920∧Q (.str (toString i)) H) kO:=by
 intro α h H xs d us Q hr rs e k
 unfold kO at e
 split at e
 ·split at e
  ·rename_i hl
   cases e
   obtain⟨u,rfl,ru⟩:=FX rs
   cases(show u= .int _ from ru)
   exact⟨_,rfl,hl,k H _ (Same.refl _) rfl⟩
  ·cases e
 ·cases e
def PJ (h:A7):M→String
 | .non=> "NoneType"
 | .bl _=> "bool"
 | .int _=> "int"
 | .str _=> "str"
 | .tup _=> "tuple"
 | .lst _=> "list"
 | .scr _=> "list"
 | .dct _ _=> "dict"
 | .ref k=>(match h[k]?with|some (.lst _)=> "list"|some (.dct _)=> "dict"|some (.ins _ _)=> ""|some (.fdc _)=> ""|none=> "")
 | .ty _=> ""
def iG:List M→Option (List String)
 |[]=>some []
 | .ty c::r=>(iG r).map (c:: ·)
 |_=>none
def QN (c:String):Bool:=c== "str"||c== "int"||c== "bool"||c== "tuple"||c== "list"
def CJ (xs:List M) (h:A7):Option M:=match xs with
 |[x, .ty c]=>if PJ h x≠ ""∧QN c=true then some (.bl (CC (PJ h x) c)) else none
 |[x, .tup ts]=>(iG ts).bind fun cs=>if PJ h x≠ ""∧cs.all QN=true then some (.bl (cs.any (CC (PJ h x)))) else none
 |_=>none
inductive TyK (K:PySem.W.Frag) (H:Hp):V→String→Prop where
 |non:TyK K H .non "NoneType"
 |bl (x:Bool):TyK K H (.bl x) "bool"
 |int (i:Int):TyK K H (.int i) "int"
 |str (x:Str):TyK K H (.str x) "str"
 |lst {a:Addr} {xs:List V} (e:SqL K H a xs):TyK K H (.ref a) "list"
 |tup {a:Addr} {xs:List V} (e:GD K H a xs):TyK K H (.ref a) "tuple"
 |dK {a:Addr} {kvs:List (AI×V)} (e:Rd H a (.dK kvs)):TyK K H (.ref a) "dict"
theorem UO {α:Pl} {h:A7} {H:Hp} {m:M} {v:V} (hr:Rl K α h H) (r:RepA K α H m v) (n:PJ h m≠ ""):TyK K H v (PJ h m):=by
 cases m with
 |non=>cases(show v= .non from r);exact .non
 |bl b=>cases(show v= .bl b from r);exact .bl b
 |int b=>cases(show v= .int b from r);exact .int b
 |str b=>cases(show v= .str b from r);exact .str b
 |ty b=>exact absurd rfl n
 |tup xs=>obtain⟨a,vs,rfl,t,_⟩:=r;exact .tup t.sq
 |lst xs=>obtain⟨a,vs,rfl,_,t,_⟩:=r;exact .lst (.of t)
 |scr xs=>obtain⟨a,rfl,t⟩:=r;exact .lst t.sq
 |dct ks xs=>obtain⟨a,vs,rfl,_,t,_⟩:=r;exact .dK t
 |ref k=>
  obtain⟨a,ha,rfl⟩:=r
  unfold PJ at n⊢
  dsimp only at n⊢
  cases e:h[k]?with
  |none=>rw[e]at n;exact absurd rfl n
  |some o=>
   cases o with
   |lst xs=>obtain⟨vs,hv,_⟩:=hr.obj k a _ ha e;exact .lst (.of hv)
   |dct xs=>obtain⟨vs,hv,_⟩:=hr.obj k a _ ha e;exact .dK (.inl hv)
   |ins c fs=>rw[e]at n;exact absurd rfl n
   |fdc xs=>rw[e]at n;exact absurd rfl n
theorem TyK.name {H:Hp} {x:V} {t:String} (h:TyK K H x t):t= "NoneType" ∨t= "bool" ∨t= "int" ∨t= "str" ∨t= "list" ∨t= "tuple" ∨t= "dict":=by cases h<;>simp
def W9 (K:PySem.W.Frag):List V→Hp→VK→Prop:=fun xs H Q=>(∃x t c,xs=[x, .ty c]∧TyK K H x t∧QN c=true∧Q (.bl (CC t c)) H)∨
 ∃(x:V) (t:String) (p:Addr) (cs:List String),xs=[x, .ref p]∧TyK K H x t∧GD K H p (cs.map V.ty)∧cs.all QN=true∧Q (.bl (cs.any (CC t))) H
theorem UR {c:String} (h:QN c=true):c= "str" ∨c= "int" ∨c= "bool" ∨c= "tuple" ∨c= "list":=by
 simpa[QN,or_assoc]using h
theorem C9:DA X (.builtin "isinstance") (W9 X.K):=by
 intro pins s σ H xs us Q I r h
 rcases h with⟨x,t,c,rfl,ty,hc,q⟩|⟨x,t,p,cs,rfl,ty,hp,hc,q⟩
 ·obtain⟨u,w',rfl,ru,rw'⟩:=NH r
  obtain rfl:w'=Value.type c:=rw'
  have e:=N7 X.K ty.name (UR hc)
  have fin:∀tk,EP X pins σ Q (.bool (CC t c)) {s with toks:=tk}:=fun tk=>⟨.bl _,H,I.tok _,rfl,q⟩
  cases ty with
  |non=>cases(show u=Value.none from ru);exact PySem.W.kia_one PySem.W.kitx_none I.kIn True.intro e (fun z=>nomatch z) fin
  |bl y=>cases(show u=Value.bool y from ru);exact PySem.W.kia_one PySem.W.kitx_bool I.kIn True.intro e (fun z=>nomatch z) fin
  |int i=>obtain⟨t,q⟩:=(show∃t,u=Value.int i t from ru);cases q;exact PySem.W.kia_one PySem.W.kitx_int I.kIn True.intro e (fun z=>nomatch z) fin
  |str y=>obtain⟨t,q⟩:=(show∃t,u=Value.str y t from ru);cases q;exact PySem.W.kia_one PySem.W.kitx_str I.kIn True.intro e (fun z=>nomatch z) fin
  |lst hx=>
   cases(show u=Value.ref _ from ru)
   obtain⟨its,_,o,e1,c1,_⟩:=I.lstK hx
   exact PySem.W.kia_one PySem.W.kitx_list I.kIn ⟨o,e1,c1⟩ e (fun z=>nomatch z) fin
  |tup hx=>
   cases(show u=Value.ref _ from ru)
   obtain⟨its,_,o,e1,c1,_⟩:=I.tupK hx
   exact PySem.W.kia_one PySem.W.kitx_tuple I.kIn ⟨o,e1,c1⟩ e (fun z=>nomatch z) fin
  | @dK a kvs ea=>
    cases(show u=Value.ref a from ru)
    obtain⟨_,_,vs,_,p⟩:=DK I.hok ea
    obtain⟨o,es,ep,h1,h2,_⟩:=p
    exact PySem.W.kia_one PySem.W.kitx_dict I.kIn ⟨o,h1,h2.1⟩ e (fun z=>nomatch z) fin
 ·obtain⟨u,w',rfl,ru,rw'⟩:=NH r
  obtain rfl:w'=Value.ref p:=rw'
  have e:=NP X.K ty.name (cs:=cs) fun c hm=>UR (List.all_eq_true.mp hc c hm)
  obtain⟨its,rv,ht⟩:=I.tupK hp
  have ei:=eF rv
  obtain⟨⟨cls,dd,data,sl⟩,ho,hcl,n,hd⟩:=id ht
  simp only at hcl hd
  subst hcl hd
  rw[←ei]at e
  have fin:∀tk,EP X pins σ Q (.bool (cs.any (CC t))) {s with toks:=tk}:=fun tk=>⟨.bl _,H,I.tok _,rfl,q⟩
  cases ty with
  |non=>cases(show u=Value.none from ru);exact PySem.W.kia_tup PySem.W.kitx_none I.kIn True.intro ho e (fun z=>nomatch z) fin
  |bl y=>cases(show u=Value.bool y from ru);exact PySem.W.kia_tup PySem.W.kitx_bool I.kIn True.intro ho e (fun z=>nomatch z) fin
  |int i=>obtain⟨t,q⟩:=(show∃t,u=Value.int i t from ru);cases q;exact PySem.W.kia_tup PySem.W.kitx_int I.kIn True.intro ho e (fun z=>nomatch z) fin
  |str y=>obtain⟨t,q⟩:=(show∃t,u=Value.str y t from ru);cases q;exact PySem.W.kia_tup PySem.W.kitx_str I.kIn True.intro ho e (fun z=>nomatch z) fin
  |lst hx=>
   cases(show u=Value.ref _ from ru)
   obtain⟨its,_,o,e1,c1,_⟩:=I.lstK hx
   exact PySem.W.kia_tup PySem.W.kitx_list I.kIn ⟨o,e1,c1⟩ ho e (fun z=>nomatch z) fin
  |tup hx=>
   cases(show u=Value.ref _ from ru)
   obtain⟨its,_,o,e1,c1,_⟩:=I.tupK hx
   exact PySem.W.kia_tup PySem.W.kitx_tuple I.kIn ⟨o,e1,c1⟩ ho e (fun z=>nomatch z) fin
  | @dK a kvs ea=>
    cases(show u=Value.ref a from ru)
    obtain⟨_,_,vs,_,p⟩:=DK I.hok ea
    obtain⟨o,es,ep,h1,h2,_⟩:=p
    exact PySem.W.kia_tup PySem.W.kitx_dict I.kIn ⟨o,h1,h2.1⟩ ho e (fun z=>nomatch z) fin
theorem RC {α:Pl} {H:Hp}:∀{xs:List M} {cs:List String} {vs:List V},iG xs=some cs→RepAs K α H xs vs→vs=cs.map V.ty
 |[],_,vs,e,r=>by cases e;exact r
 | .ty b::xs,_,vs,e,r=>by
   obtain⟨cs,e1,e2⟩:=Option.map_eq_some_iff.mp e
   subst e2
   obtain⟨v,q,rfl,h1,h2⟩:=r
   rw[RC e1 h2,show v= .ty b from h1]
   rfl
 | .non::_,_,_,e,_| .int _::_,_,_,e,_| .str _::_,_,_,e,_| .bl _::_,_,_,e,_| .tup _::_,_,_,e,_| .lst _::_,_,_,e,_| .dct _ _::_,_,_,e,_| .ref _::_,_,_,e,_| .scr _::_,_,_,e,_=>by cases e
theorem DW:FJ K (W9 K) CJ:=by
 intro α h H xs d us Q hr rs e k
 unfold CJ at e
 split at e
 ·split at e
  ·rename_i hc
   cases e
   obtain⟨u,v,rfl,ru,rv⟩:=SW rs
   cases(show v= .ty _ from rv)
   exact .inl ⟨u,_,_,rfl,UO hr ru hc.1,hc.2,k H _ (Same.refl _) rfl⟩
  ·cases e
 ·obtain⟨cs,e1,e⟩:=Option.bind_eq_some_iff.mp e
  split at e
  ·rename_i hc
   cases e
   obtain⟨u,v,rfl,ru,a,vs,rfl,t,rv⟩:=SW rs
   rw[RC e1 rv]at t
   exact .inr ⟨u,_,a,cs,rfl,UO hr ru hc.1,t.sq,hc.2,k H _ (Same.refl _) rfl⟩
  ·cases e
 ·cases e
end
end L2
namespace L2
open PySem PySem.Spec PyProof.Rows
section
variable {X:Cx} {K:PySem.W.Frag}
def sY (x:M) (h:A7):Bool:=(KM h x).isSome
theorem lE {α:Pl} {h:A7} {H:Hp} {x:M} {v:V} (hr:Rl K α h H) (r:RepA K α H x v) (e:sY x h=true):lN K "list" v H:=by
 obtain⟨xs,e1⟩:=Option.isSome_iff_exists.mp e
 obtain⟨a,vs,rfl,ha,_⟩:=EK hr r e1
 exact .inl ⟨rfl,vs, .of ha⟩
def w6 (x:M) (_:A7):Bool:=match x with| .str _=>true|_=>false
theorem iR {α:Pl} {h:A7} {H:Hp} {x:M} {v:V} (hr:Rl K α h H) (r:RepA K α H x v) (e:w6 x h=true):lN K "str" v H:=by
 cases x with
 |str z=>cases(show v= .str z from r);exact rfl
 |_=>cases e
def mD (f:List M→Option (M×List M)) (x:M) (h:A7):Option (M×A7):=match x with
 | .ref k=>(match h[k]?with|some (.lst xs)=>(f xs).map fun(d,ys)=>(d,h.set k (.lst ys))|_=>none)
 |_=>none
theorem UF {f:List M→Option (M×List M)} {x:M} {h:A7} {d:M} {h':A7} (e:mD f x h=some (d,h')):∃k xs ys,x= .ref k∧h[k]? =some (.lst xs)∧f xs=some (d,ys)∧h'=h.set k (.lst ys):=by
 unfold mD at e
 split at e
 ·split at e
  ·rename_i hk
   obtain⟨⟨d1,ys⟩,e1,e2⟩:=Option.map_eq_some_iff.mp e
   cases e2
   exact⟨_,_,ys,rfl,hk,e1,rfl⟩
  ·cases e
 ·cases e
theorem gH {α:Pl} {h:A7} {H:Hp} {k:Nat} {a:Addr} {ys:List M} {ws:List V} {d:M} {w:V} {Q:VK} {os:List V} (hos:H a=some (.lst os)) (hr:Rl K α h H) (ha:α.a[k]? =some a) (rs:RepAs K α H ys ws) (rd:RepA K α H d w)
 (q:∀α' H' w,Ev α α' H H'→Rl K α' (h.set k (.lst ys)) H'→RepA K α' H' d w→Q w H'):Q w (upd H a (.lst ws)):=by
 have ev:Ev α α H (upd H a (.lst ws)):=Ev.write hr (List.mem_of_getElem? ha) (sR hos)
 exact q α _ w ev (hr.write ha ⟨ws,AH,rs.ev ev⟩ (sR hos)) (rd.ev ev)
def JI (x:M) (xs:List M) (h:A7):Option (M×A7):=match xs with|[y]=>mD (fun ys=>if ys.length<16777216 then some (.non,ys++[y]) else none) x h|_=>none
theorem V8:mL K TK JI:=by
 intro α h h' H x xs d u us Q hr rx rs e k
 unfold JI at e
 split at e
 ·obtain⟨q,xs,ys,rfl,hq,e1,rfl⟩:=UF e
  split at e1
  ·rename_i hl
   cases e1
   obtain⟨a,ha,rfl⟩:=rx
   obtain⟨v,rfl,rv⟩:=FX rs
   obtain⟨vs,hv,rvs⟩:=hr.obj q a _ ha hq
   exact⟨a,vs,v,rfl,rfl,hv,by rw[←rvs.length,sizeLine_eq];exact hl,gH hv hr ha (rvs.snoc rv) (d:= .non) (w:= .non) rfl k⟩
  ·cases e1
 ·cases e
def NO:List M→Option (List Str)
 |[]=>some []
 | .str z::r=>(NO r).map (z:: ·)
 |_=>none
theorem N2 {α:Pl} {H:Hp}:∀{xs:List M} {cs:List Str} {vs:List V},NO xs=some cs→RepAs K α H xs vs→vs=cs.map V.str
 |[],_,vs,e,r=>by cases e;exact r
 | .str b::xs,_,vs,e,r=>by
   obtain⟨cs,e1,e2⟩:=Option.map_eq_some_iff.mp e
   subst e2
   obtain⟨v,q,rfl,h1,h2⟩:=r
   rw[N2 e1 h2,show v= .str b from h1]
   rfl
 | .non::_,_,_,e,_| .int _::_,_,_,e,_| .ty _::_,_,_,e,_| .bl _::_,_,_,e,_| .tup _::_,_,_,e,_| .lst _::_,_,_,e,_| .dct _ _::_,_,_,e,_| .ref _::_,_,_,e,_| .scr _::_,_,_,e,_=>by cases e
def UN (x:M) (xs:List M) (h:A7):Option (M×A7):=match x,xs with
 | .str z,[y]=>(KM h y).bind fun ys=>(NO ys).bind fun cs=>if(cs.map (·.length)).sum+cs.length*z.length≤16777216 then some (.str (Txt.join z cs),h) else none
 |_,_=>none
theorem dB:mL K (fun x xs H Q=>∃(z:Str) (p:Addr) (ys:List Str),x= .str z∧xs=[.ref p]∧H p=some (.lst (ys.map V.str))∧(ys.map (·.length)).sum+ys.length*z.length≤16777216∧Q (.str (Txt.join z ys)) H) UN:=by
 intro α h h' H x xs d u us Q hr rx rs e k
 unfold UN at e
 split at e
 ·obtain⟨ys,e0,e⟩:=Option.bind_eq_some_iff.mp e
  obtain⟨cs,e1,e⟩:=Option.bind_eq_some_iff.mp e
  split at e
  ·rename_i hl
   cases e
   obtain⟨v,rfl,rv⟩:=FX rs
   obtain⟨b,ws,rfl,hb,rw'⟩:=EK hr rv e0
   rw[N2 e1 rw']at hb
   exact⟨_,b,cs,rx,rfl,hb,hl,k α H _ .refl hr rfl⟩
  ·cases e
 ·cases e
def J3 (o i:FE):FG:=fun x ρ h=>bnd (o ρ h) fun oo h1=>bnd (i ρ h1) fun ii h2=>match ii with
 | .int j=>bnd (mD (fun ys=>(W5 ys.length j).map fun q=>(.non,ys.set q x)) oo h2) fun _ h3=>some (ρ,h3)
 |_=>none
theorem K2 {o i:Expr} {mo mi:FE} {pos:Pos} (ho:PE X o (tM X.K mo)) (hi:PE X i (tM X.K mi))
 (ha:∀v,assign (.Subscript o i pos) X.env v=(do
   let ov←holding [v] (eval o X.env)
   let iv←holding [v,ov] (eval i X.env)
   standAt pos
   holding [v,ov,iv] (setItem ov iv v)
   release [v,ov,iv] [])):PG X (.Subscript o i pos) (gM X.K (J3 mo mi)):=(iJ ho hi XH ha).imp fun v σ H Q ⟨α,ρ,h,x,ρ',h',hσ,hr,rx,e,k⟩=>by
 obtain⟨oo,h1,e1,e⟩:=A6 e
 obtain⟨ii,h2,e2,e⟩:=A6 e
 split at e
 ·obtain⟨_,h3,e3,e⟩:=A6 e
  cases e
  obtain⟨q,xs,ys,rfl,hq,e4,rfl⟩:=UF e3
  obtain⟨j,e5,e6⟩:=Option.map_eq_some_iff.mp e4
  cases e6
  refine⟨α,ρ,h,_,h1,hσ,hr,e1,fun α1 H1 u ev1 hr1 ru=>⟨α1,ρ,h1,_,h2,hσ.ev ev1,hr1,e2,fun α2 H2 w ev2 hr2 rw'=> ?_⟩⟩
  obtain⟨a,ha,rfl⟩:=ru
  have ha2:=ev2.ix ha
  obtain⟨vs,hv,rvs⟩:=hr2.obj q a _ ha2 hq
  refine⟨a,vs,_,j,rfl,rw',hv,by rw[←rvs.length];exact e5,?_⟩
  have ev:Ev α2 α2 H2 (upd H2 a (.lst (vs.set j v))):=Ev.write hr2 (List.mem_of_getElem? ha2) (sR hv)
  have evA:=(ev1.trans ev2).trans ev
  exact k α2 _ σ evA (hr2.write ha2 ⟨_,AH,(rvs.set ((rx.ev ev1).ev ev2) j).ev ev⟩ (sR hv)) (hσ.ev evA)
 ·cases e
end
end L2
namespace L2
open PySem PySem.Spec PyProof.Rows
section
variable {X:Cx} {a b c e o e':Expr} {es:List Expr} {ma mb mc me:FE} {mas:FA} {tc:FT} {ms mr:FS} {g:FG} {pos p:Pos}
def hV (i j:Nat) (a:FA):FS:=fun ρ h=>bnd (a ρ h) fun xs h1=>match xs with|[x,y]=>some (.nx ((ρ.set i (some x)).set j (some y)),h1)|_=>none
theorem jI {i j:Nat} {x y:Str} {px py pt:Pos} {kt k2 pt2} (hc:X.calm=true) (hN:X.N.Nodup) (hi:X.N[i]? =some x) (hj:X.N[j]? =some y) (hij:i≠j)
 (hx:X.env.scope.names.lookup x=some .local) (hy:X.env.scope.names.lookup y=some .local) (ha:PA X [a,b] (aM X.K mas))
 (hw:swappedStores [.Tuple [.Name x px, .Name y py] kt pt] (.Tuple [a,b] k2 pt2) X.env=pure (some [x,y]))
 (hs:swapsWithSole [.Tuple [.Name x px, .Name y py] kt pt] (.Tuple [a,b] k2 pt2) pos.line X.env=pure false):
 PS X (.Assign [.Tuple [.Name x px, .Name y py] kt pt] (.Tuple [a,b] k2 pt2) pos) (sM X.K (hV i j mas)):=(jD hc hN hi hj hij hx hy ha hw hs).imp fun D σ H ⟨α,ρ,h,d,h',hσ,hr,e,k⟩=>by
 obtain⟨xs,h1,e1,e⟩:=A6 e
 split at e
 ·cases e
  refine⟨α,ρ,h,_,_,hσ,hr,e1,fun α1 H1 vs ev1 hr1 rs=> ?_⟩
  obtain⟨u,v,rfl,ru,rv⟩:=SW rs
  exact⟨u,v,rfl,k α1 H1 ev1 hr1 _ (((hσ.ev ev1).set ru).set rv)⟩
 ·cases e
end
section
variable {P:Program} {w:World} {K:PySem.W.Frag} {mg:Str→Option Value} {base:Heap}
theorem FnOk.empty {CX:PM} {k:Nat} {f:Addr} {fd:FuncData} {ps:List Str}:FnOk P w K mg base CX k f fd ps (FC K fun _ _=>none):=
 ⟨fun vs H Q E ⟨_,_,_,_,_,_,_,e,_⟩=>(nomatch e),fun A outer s H args us vs Q E _ _ _ _ ⟨_,_,_,_,_,_,_,e,_⟩=>(nomatch e)⟩
end
def TF (K:PySem.W.Frag):Sp:=fun vs H Q _=>∃(a:Addr) (ns:List Int),vs=[.ref a]∧SqL K H a (ns.map V.int)∧ns.length≤63∧∀H',Q (.bl true) H'
theorem WJ {K:PySem.W.Frag} {H:Hp} {a:Addr} {ns:List Int} (hl:ns.length≤63) (hS:SqL K H a (ns.map V.int)):TF K [.ref a] H (fun v _=>v= .bl true) fun _ _ _=>False:=⟨a,ns,rfl,hS,hl,fun _=>rfl⟩
theorem VC {K:PySem.W.Frag} {m:FF} (hm:∀ns:List Int,ns.length≤63→∃h',m [.scr ns] []=some (.bl true,h')) {vs:List V} {H:Hp} {Q:VK} {E:XK} (q:TF K vs H Q E):FC K m vs H Q E:=by
 obtain⟨a,ns,rfl,hS,hl,k⟩:=q
 obtain⟨h',e⟩:=hm ns hl
 refine⟨⟨[],[]⟩,[],[.scr ns], .bl true,h',⟨_,_,rfl,⟨a,rfl,?_⟩,rfl⟩,⟨rfl,by simp,by simp,by simp,fun k a o hk=>by simp at hk⟩,e,fun α' H' v _ _ rv=> ?_⟩
 ·rcases hS with hS|hS
  ·exact .inl ⟨hS,by simp,by simp⟩
  ·exact .inr hS
 ·cases(show v= .bl true from rv);exact k H'
end L2
namespace L2
open PySem PySem.Spec PyProof.Rows
section
variable {X:Cx} {K:PySem.W.Frag} {mas:FA} {p pos:Pos}
def eL:M→Option (List M)
 | .str z=>some (z.cps.toList.map fun c=>M.str ⟨#[c]⟩)
 | .lst xs=>some xs
 | .tup xs=>some xs
 | .scr ns=>some (ns.map M.int)
 |_=>none
def iK (a:FA):FI:=fun ρ h=>bnd (a ρ h) fun xs h1=>match xs with
 |[x,y]=>(eL x).bind fun us=>(eL y).bind fun vs=>some ((List.zipWith (fun u v=>M.tup [u,v]) us vs,none),h1)
 |_=>none
def xZ:M→V→ZSrc
 | .str z,_=> .str z
 | .tup _, .ref a=> .tup a
 |_, .ref a=> .lst a
 |_,_=> .lst 0
theorem KQ {α:Pl} {H:Hp} {m:M} {v:V} {us:List M} (e:eL m=some us) (r:RepA K α H m v):∃a:ZSrc,v=a.val∧a=xZ m v∧MV K H a us.length∧∀i u x,us[i]? =some u→sU K H a i x→RepA K α H u x:=by
 unfold eL at e
 split at e
 ·rename_i z
  cases e
  refine⟨.str z,r,by rw[show v=V.str z from r];rfl,by simp[MV],fun i u x hu hx=> ?_⟩
  obtain⟨c,hc,rfl⟩:=hx
  rw[List.getElem?_map]at hu
  have:z.cps.toList[i]? =some c:=by simpa using hc
  rw[this]at hu
  cases hu
  exact rfl
 ·cases e
  obtain⟨a,vs,rfl,n,ha,rs⟩:=r
  refine⟨.lst a,rfl,rfl,⟨vs, .of ha,rs.length⟩,fun i u x hu hx=> ?_⟩
  obtain⟨w,hw,rw'⟩:=rs.get hu
  have:=hx vs (.of ha)
  rw[hw]at this
  cases this
  exact rw'
 ·cases e
  obtain⟨a,vs,rfl,ha,rs⟩:=r
  refine⟨.tup a,rfl,rfl,⟨vs,ha.sq,rs.length⟩,fun i u x hu hx=> ?_⟩
  obtain⟨w,hw,rw'⟩:=rs.get hu
  have:=hx vs ha.sq
  rw[hw]at this
  cases this
  exact rw'
 ·rename_i ns
  cases e
  obtain⟨a,rfl,t⟩:=r
  refine⟨.lst a,rfl,rfl,⟨_,t.sq,by simp⟩,fun i u x hu hx=> ?_⟩
  have rs:RepAs K α H (ns.map M.int) (ns.map V.int):=RepAs.ints
  obtain⟨w,hw,rw'⟩:=rs.get hu
  have:=hx _ t.sq
  rw[hw]at this
  cases this
  exact rw'
 ·cases e
theorem lQ {x y:Expr} {elts:List Expr} {k0:Nat} {tp:Pos} (q:NmOk X.env.scope "zip" .globalImplicit) (hm:X.mg "zip"=none) (ha:PA X [x,y] (aM X.K mas)) (hs:starEach [x,y] X.env=[(false,eval x X.env),(false,eval y X.env)]) (hs2:starEach [y] X.env=[(false,eval y X.env)]):
 PI X (.Tuple elts k0 tp) (.Call (.Name "zip" p) [x,y] [] pos) (iM X.K (iK mas)):=(g8 q.lk hm ha hs hs2).imp fun σ H R ⟨α,ρ,h,s,h',hσ,hr,e,k⟩=>by
 obtain⟨xs,h1,e1,e⟩:=A6 e
 split at e
 ·obtain⟨us,e2,e⟩:=Option.bind_eq_some_iff.mp e
  obtain⟨vs,e3,e⟩:=Option.bind_eq_some_iff.mp e
  cases e
  refine⟨α,ρ,h,_,_,hσ,hr,e1,fun α1 H1 ws ev1 hr1 rs=> ?_⟩
  obtain⟨u,v,rfl,ru,rv⟩:=SW rs
  obtain⟨a,rfl,ka,la,_⟩:=KQ e2 ru
  obtain⟨b,rfl,kb,lb,_⟩:=KQ e3 rv
  refine⟨a,b,rfl,⟨_,la⟩,⟨_,lb⟩,k α1 H1 _ ev1 hr1 fun γ hγ α2 h2 H2 ev2 hr2 _ i=> ?_⟩
  obtain⟨a',ea,ka',la2,pa⟩:=KQ e2 ((ru.hides hγ).ev ev2)
  obtain⟨b',eb,kb',lb2,pb⟩:=KQ e3 ((rv.hides hγ).ev ev2)
  have va:a'=a:=ka'.trans ka.symm
  have vb:b'=b:=kb'.trans kb.symm
  subst va vb
  refine⟨fun z hz=> ?_,fun hl=> ?_⟩
  ·rw[List.getElem?_zipWith]at hz
   cases qu:us[i]?with
   |none=>rw[qu]at hz;cases hz
   |some u=>
    cases qv:vs[i]?with
    |none=>rw[qu,qv]at hz;cases hz
    |some v=>
     rw[qu,qv]at hz
     cases hz
     refine⟨⟨_,_,la2,lb2,(List.getElem?_eq_some_iff.mp qu).1,(List.getElem?_eq_some_iff.mp qv).1⟩,fun w H3 y=> ?_⟩
     obtain⟨x,y,p,ax,ay,hp,rfl,rfl⟩:=y
     exact⟨AX hp _,U7 hr2 hp ⟨x,_,rfl,pa i u x qu ax,y,_,rfl,pb i v y qv ay,rfl⟩⟩
  ·have hl':i=min us.length vs.length:=by simpa using hl
   exact⟨_,_,la2,lb2,by omega,by omega,by omega⟩
 ·cases e
def XY (a b:Int):Bool:=decide (a≤b)
def KG (a b:Str):Bool:= !decide (b.cps.toList<a.cps.toList)
theorem HI {α:Type} {le:α→α→Bool} (as:∀a b,le a b=true→le b a=true→a=b):∀{xs ys:List α},xs.Perm ys→xs.Pairwise (fun a b=>le a b=true)→ys.Pairwise (fun a b=>le a b=true)→xs=ys
 |[],ys,p,_,_=>by rw[List.Perm.eq_nil p.symm]
 |x::xs,[],p,_,_=>by have:=p.eq_nil;cases this
 |x::xs,y::ys,p,hx,hy=>by
  have hxy:x=y:=by
   have m1:x∈y::ys:=p.mem_iff.mp List.mem_cons_self
   have m2:y∈x::xs:=p.mem_iff.mpr List.mem_cons_self
   rcases List.mem_cons.mp m1 with e|e
   ·exact e
   ·rcases List.mem_cons.mp m2 with e'|e'
    ·exact e'.symm
    ·exact as x y (List.rel_of_pairwise_cons hx e') (List.rel_of_pairwise_cons hy e)
  subst hxy
  rw[HI as ((List.perm_cons x).mp p) (List.Pairwise.of_cons hx) (List.Pairwise.of_cons hy)]
theorem WA (a b:Int) (h:XY a b=true) (h':XY b a=true):a=b:=by simp[XY]at h h';omega
theorem JA (a b:Str) (h:KG a b=true) (h':KG b a=true):a=b:=by
 simp only[KG,Bool.not_eq_true',decide_eq_false_iff_not]at h h'
 have e:a.cps.toList=b.cps.toList:=List.le_antisymm h h'
 cases a;cases b
 simp at e
 rw[e]
theorem VI (a b:Str):(KG a b||KG b a)=true:=by
 simp only[KG,Bool.or_eq_true,Bool.not_eq_true',decide_eq_false_iff_not]
 rcases List.le_total (l₁:=a.cps.toList) (l₂:=b.cps.toList) with h|h
 ·exact .inl h
 ·exact .inr h
theorem N8 (a b c:Str) (h:KG a b=true) (h':KG b c=true):KG a c=true:=by
 simp only[KG,Bool.not_eq_true',decide_eq_false_iff_not]at h h'⊢
 exact List.le_trans (l₁:=a.cps.toList) (l₂:=b.cps.toList) (l₃:=c.cps.toList) h h'
def KK (ns:List Int):List Int:=ns.mergeSort XY
def CI (ns:List Str):List Str:=ns.mergeSort KG
theorem YW (ns:List Int):(KK ns).Pairwise (fun a b=>XY a b=true):=List.pairwise_mergeSort (fun a b c h h'=>by simp[XY]at*;omega) (fun a b=>by simp[XY];omega) ns
theorem FL (ns:List Str):(CI ns).Pairwise (fun a b=>KG a b=true):=List.pairwise_mergeSort N8 VI ns
theorem NT:∀{p:Str} {l:List Str},risingS p l=true→(p::l).Pairwise (fun a b=>KG a b=true)
 |p,[],_=>by simp
 |p,x::r,h=>by
  have h':(!ltCps x.cps.toList p.cps.toList&&risingS x r)=true:=h
  rw[Bool.and_eq_true,ltCps_eq]at h'
  have ih:=NT h'.2
  refine List.pairwise_cons.mpr ⟨fun y hy=> ?_,ih⟩
  rcases List.mem_cons.mp hy with rfl|hy
  ·exact h'.1
  ·exact N8 _ _ _ h'.1 (List.rel_of_pairwise_cons ih hy)
theorem RJ:∀{l:List Str},sortedS l=true→l.Pairwise (fun a b=>KG a b=true)
 |[],_=> .nil
 |x::r,h=>NT h
theorem MQ:∀{us:List Value} {ys:List Str},StrsAre us ys→Vals (ys.map V.str) us
 |_,_, .nil=> .nil
 |_,_, .cons n t h=> .cons ⟨t,rfl⟩ (MQ h)
theorem RepAs.strs {α:Pl} {H:Hp}:∀{ns:List Str},RepAs K α H (ns.map M.str) (ns.map V.str)
 |[]=>rfl
 |n::ns=>⟨_,_,rfl,rfl,RepAs.strs⟩
end
end L2
namespace L2
open PySem
def Ens {a:Type} (x:Option (a×A7)) (Q:a→A7→Prop):Prop:=∃y h,x=some (y,h)∧Q y h
def Enp {a:Type} (x:Option a) (Q:a→Prop):Prop:=∃y,x=some y∧Q y
def EB (x:M) (R:Bool→Prop):Prop:=∃b,x= .bl b∧R b
def SQ (b:FS) (Q:Out→A7→Prop):Out→A7→Prop
 | .nx ρ,h=>Ens (b ρ h) Q
 |o,h=>Q o h
def FQ (Q:M→A7→Prop):Out→A7→Prop
 | .rt d,h=>Q d h
 | .nx _,h=>Q .non h
 |_,_=>False
section
variable {a b:Type} {Q:a→A7→Prop} {R:M→A7→Prop} {S:Out→A7→Prop} {T:Bool→A7→Prop} {U:List M→A7→Prop} {ρ:B4} {h:A7} {m ma mb mc:FE} {mas:FA} {ta tb:FT} {sa sb:FS} {d x y:M}
theorem Ens.mono {x:Option (a×A7)} {Q Q':a→A7→Prop} (e:Ens x Q) (i:∀y h,Q y h→Q' y h):Ens x Q':=by obtain⟨y,h,e,q⟩:=e;exact⟨y,h,e,i y h q⟩
theorem Ens.ret {y:a} (q:Q y h):Ens (some (y,h)) Q:=⟨y,h,rfl,q⟩
theorem Ens.bnd {x:Option (a×A7)} {f:a→A7→Option (b×A7)} {Q:b→A7→Prop} (e:Ens x fun y h=>Ens (f y h) Q):Ens (L2.bnd x f) Q:=by
 obtain⟨y,h,rfl,e⟩:=e;exact e
theorem Enp.map {x:Option a} (e:Enp x fun y=>Q y h):Ens (x.map (·,h)) Q:=by obtain⟨y,rfl,q⟩:=e;exact⟨y,h,rfl,q⟩
theorem vV {x:Option a} {y:a} {Q:a→Prop} (e:x=some y) (q:Q y):Enp x Q:=⟨y,e,q⟩
theorem xY (q:R d h):Ens (mC d ρ h) R:= .ret q
theorem N0 {i:Nat} {v:M} (e:ρ[i]? =some (some v)) (q:R v h):Ens (A3 i ρ h) R:=⟨v,h,by unfold A3;rw[e],q⟩
theorem pB (q:U [] h):Ens (AB ρ h) U:= .ret q
theorem jF (q:Ens (ma ρ h) fun x h1=>Ens (mas ρ h1) fun xs h2=>U (x::xs) h2):Ens (A2 ma mas ρ h) U:= .bnd (q.mono fun x h1 q=> .bnd (q.mono fun xs h2 q=> .ret q))
theorem eV (q:Ens (mas ρ h) fun xs h1=>xs.length≤16777216∧R (.tup xs) h1):Ens (EA mas ρ h) R:= .bnd (q.mono fun xs h1 q=>by rw[if_pos q.1];exact .ret q.2)
theorem nK (q:Ens (mas ρ h) fun xs h1=>xs.length≤16777216∧R (.lst xs) h1):Ens (J4 mas ρ h) R:= .bnd (q.mono fun xs h1 q=>by rw[if_pos q.1];exact .ret q.2)
theorem iI (q:Ens (mas ρ h) fun xs h1=>xs.length≤16777216∧R (.ref h1.length) (h1++[.lst xs])):Ens (UC mas ρ h) R:= .bnd (q.mono fun xs h1 q=>by rw[if_pos q.1];exact .ret q.2)
theorem uP {f:M→M→A7→Option M} (q:Ens (ma ρ h) fun x h1=>Ens (mb ρ h1) fun y h2=>Enp (f x y h2) fun d=>R d h2):Ens (AM f ma mb ρ h) R:= .bnd (q.mono fun x h1 q=> .bnd (q.mono fun y h2 q=>q.map))
theorem uO {f:M→A7→Option M} (q:Ens (ma ρ h) fun x h1=>Enp (f x h1) fun d=>R d h1):Ens (mK f ma ρ h) R:= .bnd (q.mono fun x h1 q=>q.map)
theorem u5 {f:List M→A7→Option M} (q:Ens (mas ρ h) fun xs h1=>Enp (f xs h1) fun d=>R d h1):Ens (HK f mas ρ h) R:= .bnd (q.mono fun x h1 q=>q.map)
theorem gK {f:FF} (q:Ens (mas ρ h) fun xs h1=>Ens (f xs h1) R):Ens (AR f mas ρ h) R:= .bnd q
theorem WX {ok:M→A7→Bool} {f:M→List M→A7→Option (M×A7)} (q:Ens (ma ρ h) fun x h1=>ok x h1=true∧Ens (mas ρ h1) fun xs h2=>Ens (f x xs h2) R):Ens (ZR ok f ma mas ρ h) R:= .bnd (q.mono fun x h1 q=>by rw[if_pos q.1];exact .bnd q.2)
theorem Y5 {f:Bool→Option (a×A7)} (q:EB x fun c=>Ens (f c) Q):Ens (mO x f) Q:=by obtain⟨c,rfl,q⟩:=q;exact q
theorem uQ {c:Bool} {R:Bool→Prop} (q:R c):EB (.bl c) R:=⟨c,rfl,q⟩
theorem rZ (q:Ens (ma ρ h) fun x h1=>EB x fun c=>if c=true then Ens (mb ρ h1) R else R (.bl false) h1):Ens (RW ma mb ρ h) R:= .bnd (q.mono fun x h1 q=>Y5 (by
 obtain⟨c,rfl,q⟩:=q
 refine⟨c,rfl,?_⟩
 cases c
 ·exact .ret q
 ·exact q))
theorem qE (q:Ens (ma ρ h) fun x h1=>EB x fun c=>R (.bl (!c)) h1):Ens (jB ma ρ h) R:= .bnd (q.mono fun x h1 q=>Y5 (by
 obtain⟨c,rfl,q⟩:=q
 exact⟨c,rfl, .ret q⟩))
theorem mT (q:Ens (ta ρ h) fun c h1=>if c=true then Ens (ma ρ h1) R else Ens (mb ρ h1) R):Ens (uN ta ma mb ρ h) R:= .bnd (q.mono fun c h1 q=>by cases c<;>exact q)
theorem uE (q:Ens (ma ρ h) fun x h1=>EB x fun c=>T c h1):Ens (tV ma ρ h) T:= .bnd (q.mono fun x h1 q=>Y5 (by obtain⟨c,rfl,q⟩:=q;exact⟨c,rfl, .ret q⟩))
theorem gI (q:Ens (ta ρ h) fun c h1=>if c=true then Ens (tb ρ h1) T else T false h1):Ens (YY ta tb ρ h) T:= .bnd (q.mono fun c h1 q=>by cases c;exact .ret q;exact q)
theorem mY (q:Ens (ta ρ h) fun c h1=>if c=true then T true h1 else Ens (tb ρ h1) T):Ens (PR ta tb ρ h) T:= .bnd (q.mono fun c h1 q=>by cases c;exact q;exact .ret q)
theorem iU (q:Ens (ta ρ h) fun c h1=>T (!c) h1):Ens (J9 ta ρ h) T:= .bnd (q.mono fun c h1 q=> .ret q)
theorem cT (q:T true h):Ens (GY ρ h) T:= .ret q
theorem p4 {O:Option Int→A7→Prop} (q:O none h):Ens (qT ρ h) O:= .ret q
theorem dZ {O:Option Int→A7→Prop} (q:Ens (ma ρ h) fun x h1=>∃i,x= .int i∧O (some i) h1):Ens (GB ma ρ h) O:= .bnd (q.mono fun x h1 q=>by obtain⟨i,rfl,q⟩:=q;exact .ret q)
theorem u6 {f:M→Option Int→Option Int→A7→Option M} {lo hi:FO} (q:Ens (ma ρ h) fun x h1=>Ens (lo ρ h1) fun l h2=>Ens (hi ρ h2) fun u h3=>Enp (f x l u h3) fun d=>R d h3):Ens (fJ f ma lo hi ρ h) R:=
 .bnd (q.mono fun x h1 q=> .bnd (q.mono fun l h2 q=> .bnd (q.mono fun u h3 q=>q.map)))
theorem iN (q:S (.nx ρ) h):Ens (BV ρ h) S:= .ret q
theorem qO (q:Ens (ma ρ h) fun x h1=>S (.rt x) h1):Ens (C1 ma ρ h) S:= .bnd (q.mono fun x h1 q=> .ret q)
theorem lK (q:Ens (ma ρ h) fun _ h1=>S (.nx ρ) h1):Ens (ET ma ρ h) S:= .bnd (q.mono fun x h1 q=> .ret q)
theorem fN (q:Ens (sa ρ h) (SQ sb S)):Ens (AS sa sb ρ h) S:= .bnd (q.mono fun o h1 q=>by
 cases o with
 |nx ρ'=>exact q
 |bk ρ'=>exact .ret q
 |ct ρ'=>exact .ret q
 |rt d=>exact .ret q)
theorem rW (q:Ens (sb ρ h) S):SQ sb S (.nx ρ) h:=q
theorem mP (q:S (.rt d) h):SQ sb S (.rt d) h:=q
theorem nA (q:R d h):FQ R (.rt d) h:=q
theorem mV (q:R .non h):FQ R (.nx ρ) h:=q
theorem rN (q:Ens (ta ρ h) fun c h1=>if c=true then Ens (sa ρ h1) S else Ens (sb ρ h1) S):Ens (GT ta sa sb ρ h) S:= .bnd (q.mono fun c h1 q=>by cases c<;>exact q)
theorem oQ {g:FG} (q:Ens (ma ρ h) fun x h1=>Ens (g x ρ h1) fun ρ' h2=>S (.nx ρ') h2):Ens (BR ma g ρ h) S:= .bnd (q.mono fun x h1 q=> .bnd (q.mono fun ρ' h2 q=> .ret q))
theorem pN {i:Nat} {G:B4→A7→Prop} (q:G (ρ.set i (some x)) h):Ens (D0 i x ρ h) G:= .ret q
theorem lP {G:B4→A7→Prop} (q:G ρ h):Ens (KL [] ρ h) G:= .ret q
theorem ZV {g:FG} {gs:W7} {xs:List M} {G:B4→A7→Prop} (q:Ens (g x ρ h) fun ρ' h'=>Ens (gs xs ρ' h') G):Ens (CV g gs (x::xs) ρ h) G:= .bnd q
theorem pW {n:Nat} {gs:W7} {xs:List M} {G:B4→A7→Prop} (e:xs.length=n) (q:Ens (gs xs ρ h) G):Ens (ZQ n gs (.tup xs) ρ h) G:=by show Ens (if xs.length=n then _ else _) G;rw[if_pos e];exact q
theorem qH {i j:Nat} (q:Ens (mas ρ h) fun xs h1=>∃x y,xs=[x,y]∧S (.nx ((ρ.set i (some x)).set j (some y))) h1):Ens (hV i j mas ρ h) S:= .bnd (q.mono fun xs h1 q=>by obtain⟨x,y,rfl,q⟩:=q;exact .ret q)
theorem S8 {o i:FE} {G:B4→A7→Prop} (q:Ens (o ρ h) fun oo h1=>Ens (i ρ h1) fun ii h2=>∃k j xs q,oo= .ref k∧ii= .int j∧h2[k]? =some (.lst xs)∧W5 xs.length j=some q∧G ρ (h2.set k (.lst (xs.set q x)))):Ens (J3 o i x ρ h) G:=
 .bnd (q.mono fun oo h1 q=> .bnd (q.mono fun ii h2 q=>by
   obtain⟨k,j,xs,q,rfl,rfl,e1,e2,q'⟩:=q
   exact⟨ρ,_,by unfold mD;dsimp only;rw[e1];dsimp only;rw[e2];rfl,q'⟩))
theorem BI {n k:Nat} {ds:List M} (e:ds.length=n) (q:Ens (sa (ds.map some++List.replicate k none) h) (FQ R)):Ens (D3 n k sa ds h) R:=by
 unfold D3
 rw[if_pos e]
 refine .bnd (q.mono fun o h1 q=> ?_)
 cases o with
 |nx ρ'=>exact .ret q
 |bk ρ'=>exact q.elim
 |ct ρ'=>exact q.elim
 |rt d=>exact .ret q
def LQ (I:B4→A7→Prop) (S:Out→A7→Prop):Out→A7→Prop
 | .nx ρ,h=>I ρ h
 | .ct ρ,h=>I ρ h
 | .bk ρ,h=>S (.nx ρ) h
 | .rt d,h=>S (.rt d) h
theorem S3 {xs:List M} {bd:M→FS} (I:Nat→B4→A7→Prop):∀{l:List M} {i:Nat} {ρ:B4} {h:A7},l=xs.drop i→i≤xs.length→I i ρ h→
 (∀i x ρ h,xs[i]? =some x→I i ρ h→Ens (bd x ρ h) (LQ (I (i+1)) S))→(∀ρ h,I xs.length ρ h→S (.nx ρ) h)→Ens (GA xs none bd l ρ h) S
 |[],i,ρ,h,e,hi,hI,_,hd=>by
  have:i=xs.length:=by
   have:=congrArg List.length e
   simp at this;omega
  subst this
  unfold GA
  rw[if_pos (show WP xs none h from trivial)]
  exact .ret (hd ρ h hI)
 |x::r,i,ρ,h,e,hi,hI,hs,hd=>by
  have hx:xs[i]? =some x:=by
   have:=congrArg (fun l:List M=>l[0]?) e
   simpa using this.symm
  have hr:r=xs.drop (i+1):=by
   have:=congrArg List.tail e
   simpa using this
  have hlt:i<xs.length:=(List.getElem?_eq_some_iff.mp hx).1
  unfold GA
  rw[if_pos (show WP xs none h from trivial)]
  refine .bnd ((hs i x ρ h hx hI).mono fun o h1 q=> ?_)
  cases o with
  |nx ρ'=>exact S3 I hr hlt q hs hd
  |ct ρ'=>exact S3 I hr hlt q hs hd
  |bk ρ'=>exact .ret q
  |rt d=>exact .ret q
theorem oT {i:FI} {g:FG} (q:Ens (i ρ h) fun s h1=>Ens (GA s.1 s.2 (fun x ρ h=>L2.bnd (g x ρ h) fun ρ' h'=>sa ρ' h') s.1 ρ h1) S):Ens (RN i g sa ρ h) S:= .bnd q
theorem Z4 {g:FG} (q:Ens (g x ρ h) fun ρ' h'=>Ens (sa ρ' h') S):Ens (L2.bnd (g x ρ h) fun ρ' h'=>sa ρ' h') S:= .bnd q
theorem LA {xs:List M} {bd:M→FS} (I:Nat→B4→A7→Prop) (h0:I 0 ρ h) (hs:∀i x ρ h,xs[i]? =some x→I i ρ h→Ens (bd x ρ h) (LQ (I (i+1)) S)) (hd:∀ρ h,I xs.length ρ h→S (.nx ρ) h):Ens (GA xs none bd xs ρ h) S:=
 S3 I (i:=0) (by simp) (Nat.zero_le _) h0 hs hd
abbrev SI:=(List M×Option Nat)→A7→Prop
theorem r9 {s:SI} (q:Ens (ma ρ h) fun x h1=>∃xs,x= .lst xs∧s (xs,none) h1):Ens (iL ma ρ h) s:= .bnd (q.mono fun x h1 q=>by obtain⟨xs,rfl,q⟩:=q;exact .ret q)
theorem kK {s:SI} (q:Ens (ma ρ h) fun x h1=>∃xs,x= .tup xs∧s (xs,none) h1):Ens (iT ma ρ h) s:= .bnd (q.mono fun x h1 q=>by obtain⟨xs,rfl,q⟩:=q;exact .ret q)
theorem TN {s:SI} (q:Ens (mas ρ h) fun xs h1=>∃j:Int,xs=[.int j]∧(-4611686018427387904≤j∧j<4611686018427387904)∧s ((List.range j.toNat).map fun(i:Nat)=>M.int (i:Int),none) h1):Ens (mM mas ρ h) s:= .bnd (q.mono fun x h1 q=>by
 obtain⟨j,rfl,hj,q⟩:=q
 show Ens (if _ then _ else _) s
 rw[if_pos hj];exact .ret q)
theorem kX {s:SI} (q:Ens (mas ρ h) fun xs h1=>∃x y us vs,xs=[x,y]∧eL x=some us∧eL y=some vs∧s (List.zipWith (fun u v=>M.tup [u,v]) us vs,none) h1):Ens (iK mas ρ h) s:= .bnd (q.mono fun x h1 q=>by
 obtain⟨x,y,us,vs,rfl,e1,e2,q⟩:=q
 exact⟨_,h1,by show(eL x).bind _=_;rw[e1];show(eL y).bind _=_;rw[e2];rfl,q⟩)
theorem OR {xs:List M} {g:FG} {c:FT} {e:FE} {τ:B4} {V:List M→A7→Prop} (J:Nat→List M→A7→Prop):∀{l:List M} {i:Nat} {acc:List M} {h:A7},l=xs.drop i→i≤xs.length→J i acc h→
 (∀i x acc h,xs[i]? =some x→J i acc h→Ens (g x τ h) fun τ' h1=>Ens (c τ' h1) fun t h2=>if t=true then Ens (e τ' h2) fun y h3=>J (i+1) (acc++[y]) h3 else J (i+1) acc h2)→
 (∀acc h,J xs.length acc h→V acc h)→Ens (CY xs none g c e τ l h) fun ys h'=>V (acc++ys) h'
 |[],i,acc,h,e,hi,hJ,_,hd=>by
  have:i=xs.length:=by
   have:=congrArg List.length e
   simp at this;omega
  subst this
  unfold CY
  rw[if_pos (show WP xs none h from trivial)]
  refine .ret ?_
  rw[List.append_nil]
  exact hd acc h hJ
 |x::r,i,acc,h,e,hi,hJ,hs,hd=>by
  have hx:xs[i]? =some x:=by
   have:=congrArg (fun l:List M=>l[0]?) e
   simpa using this.symm
  have hr:r=xs.drop (i+1):=by
   have:=congrArg List.tail e
   simpa using this
  have hlt:i<xs.length:=(List.getElem?_eq_some_iff.mp hx).1
  unfold CY
  rw[if_pos (show WP xs none h from trivial)]
  refine .bnd ((hs i x acc h hx hJ).mono fun τ' h1 q=> .bnd (q.mono fun t h2 q=> ?_))
  cases t with
  |false=>exact OR J hr hlt q hs hd
  |true=>
   refine .bnd (q.mono fun y h3 q=> .bnd ((OR J hr hlt q hs hd).mono fun ys h4 q=> .ret ?_))
   simpa using q
theorem lH {ix:List (Option Nat)} {i:FI} {g:FG} {c:FT} {e:FE} (q:Ens (i ρ h) fun s h1=>s.1.length≤16777216∧Ens (CY s.1 s.2 g c e (MF ix ρ) s.1 h1) fun ys h2=>R (.lst ys) h2):Ens (GW ix i g c e ρ h) R:=
 .bnd (q.mono fun s h1 q=>by rw[if_pos q.1];exact .bnd (q.2.mono fun ys h2 q=> .ret q))
theorem PB {xs:List M} {g:FG} {c:FT} {e:FE} {τ:B4} {V:List M→A7→Prop} (J:Nat→List M→A7→Prop) (h0:J 0 [] h)
 (hs:∀i x acc h,xs[i]? =some x→J i acc h→Ens (g x τ h) fun τ' h1=>Ens (c τ' h1) fun t h2=>if t=true then Ens (e τ' h2) fun y h3=>J (i+1) (acc++[y]) h3 else J (i+1) acc h2)
 (hd:∀acc h,J xs.length acc h→V acc h):Ens (CY xs none g c e τ xs h) V:=(OR (V:=V) J (i:=0) (acc:=[]) (by simp) (Nat.zero_le _) h0 hs hd).mono fun ys h q=>by simpa using q
end
section
variable {R:M→Prop} {h:A7}
theorem fW {i j:Int} (q:R (.int (i+j))):Enp (C7 (.int i) (.int j) h) R:=⟨_,rfl,q⟩
theorem gV {i j:Int} (q:R (.int (i-j))):Enp (LJ (.int i) (.int j) h) R:=⟨_,rfl,q⟩
theorem jM {i j:Int} (e:(-18446744073709551616<i∧i<18446744073709551616)∨(-18446744073709551616<j∧j<18446744073709551616)) (q:R (.int (i*j))):Enp (KF (.int i) (.int j) h) R:=⟨_,if_pos e,q⟩
theorem fC {i j:Int} (e:0<j) (q:R (.int (i % j))):Enp (J5 (.int i) (.int j) h) R:=⟨_,if_pos e,q⟩
theorem qK {i j:Int} (e:0<j∧j<1073741824) (q:R (.int (i/j))):Enp (UL (.int i) (.int j) h) R:=⟨_,if_pos e,q⟩
theorem mW {i j:Int} (e:0≤j∧j≤1000000∧i.natAbs<18446744073709551616) (q:R (.int (i^j.toNat))):Enp (M6 (.int i) (.int j) h) R:=⟨_,if_pos e,q⟩
theorem pA {i j:Int} (q:R (.bl (decide (i<j)))):Enp (kC (.int i) (.int j) h) R:=⟨_,rfl,q⟩
theorem nW {i j:Int} (q:R (.bl (decide (j<i)))):Enp (Z9 (.int i) (.int j) h) R:=⟨_,rfl,q⟩
theorem oO {i j:Int} (q:R (.bl (decide (j≤i)))):Enp (i0 (.int i) (.int j) h) R:=⟨_,rfl,q⟩
theorem pK {i j:Int} (q:R (.bl (i==j))):Enp (E2 (.int i) (.int j) h) R:=⟨_,rfl,q⟩
theorem qD {i j:Str} (q:R (.bl (i==j))):Enp (E2 (.str i) (.str j) h) R:=⟨_,rfl,q⟩
theorem oZ {i j:Str} (q:R (.bl (!(i==j)))):Enp (Q0 (.str i) (.str j) h) R:=⟨_,rfl,q⟩
theorem nJ {x:M} (q:R (.bl (X1 x))):Enp (aO x .non h) R:=⟨_,rfl,q⟩
theorem YF {x:M} (q:R (.bl (!X1 x))):Enp (HB x .non h) R:=⟨_,rfl,q⟩
theorem mN {i:Int} (q:R (.int (-i))):Enp (QX (.int i) h) R:=⟨_,rfl,q⟩
theorem nV {i:Int} (q:R (.int (if i<0 then-i else i))):Enp (dQ [.int i] h) R:=⟨_,rfl,q⟩
theorem jY {i:Bool} (q:R (.int (if i then 1 else 0))):Enp (YV [.bl i] h) R:=⟨_,rfl,q⟩
theorem lR {xs:List M} (q:R (.int xs.length)):Enp (LX [.lst xs] h) R:=⟨_,rfl,q⟩
theorem lJ {xs:List M} (q:R (.int xs.length)):Enp (LX [.tup xs] h) R:=⟨_,rfl,q⟩
theorem YH {xs:List M} {i:Int} {d:M} (e:L1 xs i=some d) (q:R d):Enp (B7 (.lst xs) (.int i) h) R:=⟨d,e,q⟩
theorem D4 {xs:List M} {k:Nat} {i:Int} {d:M} (e0:h[k]? =some (.lst xs)) (e:L1 xs i=some d) (q:R d):Enp (B7 (.ref k) (.int i) h) R:=⟨d,by
 unfold B7
 rw[show BK h (.ref k)=none by show(match h[k]?with|some (.dct kvs)=>some kvs|some (.fdc kvs)=>some kvs|_=>none)=none;rw[e0]]
 show(KP h (.ref k)).bind _=_;rw[show KP h (.ref k)=some xs by show(match h[k]?with|some (.lst xs)=>some xs|_=>none)=some xs;rw[e0]];exact e,q⟩
theorem p6 {z:Str} {i:Int} {c:Nat} (e0:z.length≤16777216) (e:L1 z.cps.toList i=some c) (q:R (.str ⟨#[c]⟩)):Enp (B7 (.str z) (.int i) h) R:=⟨_,by show(if _ then _ else _)=_;rw[if_pos e0,e];rfl,q⟩
theorem gA {xs ys:List M} (e:xs.length+ys.length≤16777216) (q:R (.lst (xs++ys))):Enp (C7 (.lst xs) (.lst ys) h) R:=⟨_,by show(if _ then _ else _)=_;rw[if_pos e],q⟩
theorem SR {xs ys:List M} (e:xs.length+ys.length≤16777216) (q:R (.tup (xs++ys))):Enp (C7 (.tup xs) (.tup ys) h) R:=⟨_,by show(if _ then _ else _)=_;rw[if_pos e],q⟩
theorem nS {ns:List Int} {lo hi:Option Int} (q:R (.lst (ID (ns.map M.int) lo hi))):Enp (X5 (.scr ns) lo hi h) R:=⟨_,rfl,q⟩
theorem pF {xs:List M} {lo hi:Option Int} (q:R (.tup (ID xs lo hi))):Enp (X5 (.tup xs) lo hi h) R:=⟨_,rfl,q⟩
theorem IS {x:M} {c:String} (e:PJ h x≠ "") (e2:QN c=true) (q:R (.bl (CC (PJ h x) c))):Enp (CJ [x, .ty c] h) R:=⟨_,if_pos ⟨e,e2⟩,q⟩
end
theorem EJ {A B:Prop} {c:Bool} (h1:c=true→A) (h2:c=false→B):if c=true then A else B:=by cases c;exact h2 rfl;exact h1 rfl
theorem nE {A B:Prop} (h:A):if(true=true) then A else B:=h
theorem pO {A B:Prop} (h:B):if(false=true) then A else B:=h
end L2
namespace L2
open PySem
section
variable {R:M→Prop} {h:A7}
theorem T1 (q:R (.bl false)):Enp (CJ [.non, .ty "str"] h) R:=IS (by show "NoneType" ≠ "";decide) (by decide) (by rw[show CC (PJ h .non) "str"=false from(by show CC "NoneType" "str"=_;decide)];exact q)
theorem SO {x:Int} (q:R (.bl false)):Enp (CJ [(.int x), .ty "str"] h) R:=IS (by show "int" ≠ "";decide) (by decide) (by rw[show CC (PJ h (.int x)) "str"=false from(by show CC "int" "str"=_;decide)];exact q)
theorem SZ {x:Int} (q:R (.bl true)):Enp (CJ [(.int x), .ty "int"] h) R:=IS (by show "int" ≠ "";decide) (by decide) (by rw[show CC (PJ h (.int x)) "int"=true from(by show CC "int" "int"=_;decide)];exact q)
theorem Q3 {x:Int} (q:R (.bl false)):Enp (CJ [(.int x), .ty "bool"] h) R:=IS (by show "int" ≠ "";decide) (by decide) (by rw[show CC (PJ h (.int x)) "bool"=false from(by show CC "int" "bool"=_;decide)];exact q)
theorem RZ {x:Str} (q:R (.bl true)):Enp (CJ [(.str x), .ty "str"] h) R:=IS (by show "str" ≠ "";decide) (by decide) (by rw[show CC (PJ h (.str x)) "str"=true from(by show CC "str" "str"=_;decide)];exact q)
theorem OC {x:List M} (q:R (.bl true)):Enp (CJ [(.tup x), .ty "tuple"] h) R:=IS (by show "tuple" ≠ "";decide) (by decide) (by rw[show CC (PJ h (.tup x)) "tuple"=true from(by show CC "tuple" "tuple"=_;decide)];exact q)
theorem QU {x:List M} (q:R (.bl false)):Enp (CJ [(.tup x), .ty "list"] h) R:=IS (by show "tuple" ≠ "";decide) (by decide) (by rw[show CC (PJ h (.tup x)) "list"=false from(by show CC "tuple" "list"=_;decide)];exact q)
theorem gR {A B:Prop} (h:B):if(!true)=true then A else B:=h
theorem g6 (q:R (.bl true)):Enp (E2 (.bl true) (.bl true) h) R:=⟨_,rfl,q⟩
theorem iQ (q:R (.bl false)):Enp (Q0 (.bl true) (.bl true) h) R:=⟨_,rfl,q⟩
theorem iB {A B:Prop} (h:A):if(!false)=true then A else B:=h
theorem lF (q:R (.bl true)):Enp (E2 (.bl false) (.bl false) h) R:=⟨_,rfl,q⟩
theorem j3 (q:R (.bl false)):Enp (Q0 (.bl false) (.bl false) h) R:=⟨_,rfl,q⟩
theorem rB {I:B4→A7→Prop} {S:Out→A7→Prop} {ρ:B4} (q:I ρ h):LQ I S (.nx ρ) h:=q
end
end L2
namespace L2
open PySem PySem.Spec PyProof.Rows
structure Cal (P:Program) (w:World) (K:PySem.W.Frag) (mg:Str→Option Value) (base:Heap) (n:Nat) (x:Str) (m:FF):Prop where
 ex:∃f fd ps,FnOk P w K mg base EW n f fd ps (FC K m)∧mg x=some (.ref f)∧PySem.W.keepIn K (.ref f)=true∧Binds K fd ps []
theorem Cal.of {P:Program} {w:World} {K:PySem.W.Frag} {mg:Str→Option Value} {base:Heap} {n:Nat} {x:Str} {m:FF} {f:Addr} {fd:FuncData} {ps:List Str} (F:FnOk P w K mg base EW n f fd ps (FC K m)) (h1:mg x=some (.ref f)) (h2:PySem.W.keepIn K (.ref f)=true) (h3:Binds K fd ps []):Cal P w K mg base n x m:=⟨f,fd,ps,F,h1,h2,h3⟩
section
variable {X:Cx} {e:Expr} {es:List Expr} {mas:FA} {pos p:Pos} {n:Nat} {x:Str} {m:FF}
theorem AG (C:Cal X.prog X.w X.K X.mg X.base n x m) (hr:Room n X.A) (q:NmOk X.env.scope x .globalImplicit) (ha:PA X (e::es) (aM X.K mas)) (he:B5 e=true) (hpl:(backTo pos (starEach es X.env)).any (·.1)=false):PE X (.Call (.Name x p) (e::es) [] pos) (tM X.K (AR m mas)):=by
 obtain⟨f,fd,ps,F,h1,h2,h3⟩:=C.ex
 exact cV F hr q h1 h2 h3 fP ha he hpl
end
end L2
namespace L2
open PySem
def Kp (p:Nat) (h h':A7):Prop:=h'.length=h.length∧∀q,q≠p→h'[q]? =h[q]?
theorem Kp.trans {p:Nat} {h h1 h2:A7} (a:Kp p h h1) (b:Kp p h1 h2):Kp p h h2:=⟨b.1.trans a.1,fun q hq=>(b.2 q hq).trans (a.2 q hq)⟩
theorem Kp.set {p:Nat} {h:A7} {o:MO}:Kp p h (h.set p o):=⟨by simp,fun q hq=>List.getElem?_set_ne (Ne.symm hq)⟩
theorem kI {p:Nat} {h:A7} {o o':MO} (e:h[p]? =some o):(h.set p o')[p]? =some o':=List.getElem?_set_self (List.getElem?_eq_some_iff.mp e).1
theorem U8 {o i:FE} {x:M} {ρ:B4} {h:A7} {G:B4→A7→Prop} {k:Nat} {j:Int} {xs:List M} {n:Nat} (ho:o ρ h=some (.ref k,h)) (hi:i ρ h=some (.int j,h)) (e1:h[k]? =some (.lst xs)) (e2:W5 xs.length j=some n)
 (q:∀h',h'[k]? =some (.lst (xs.set n x))→Kp k h h'→G ρ h'):Ens (J3 o i x ρ h) G:=
 S8 ⟨_,_,ho,_,_,hi,k,j,xs,n,rfl,rfl,e1,e2,q _ (kI e1) Kp.set⟩
theorem join {x:Option (Out×A7)} {S:Out→A7→Prop} (J:Out→A7→Prop) (h1:Ens x J) (h2:∀o h,J o h→S o h):Ens x S:=h1.mono h2
theorem ML {α:Type} {l:List α} {i:Nat} {x:α} (h:l[i]? =some x):l.take (i+1)=l.take i++[x]:=by rw[List.take_add_one,h];rfl
theorem tH {xs:List M} {k:Nat} (hk:k≤xs.length):ID xs none (some (k:Int))=xs.take k:=by
 unfold ID;rw[HT.R7,HT.UT,Nat.min_eq_left hk];simp
def N4:Nat→M→Bool
 |_, .non=>true
 |_, .bl _=>true
 |_, .int _=>true
 |_, .str z=>decide (z.length≤100)
 |k+1, .tup xs=>decide (xs.length≤1000)&&xs.all (N4 k)
 |k+1, .lst xs=>decide (xs.length≤1000)&&xs.all (N4 k)
 |_,_=>false
def Pu (k:Nat) (x:M):Prop:=N4 k x=true
theorem Pu.lst {k:Nat} {xs:List M} (hl:xs.length≤1000) (h:∀y∈xs,Pu k y):Pu (k+1) (.lst xs):=by
 show(decide (xs.length≤1000)&&xs.all (N4 k))=true
 rw[Bool.and_eq_true,List.all_eq_true];exact⟨decide_eq_true hl,h⟩
theorem Pu.un {k:Nat} {xs:List M} (h:Pu (k+1) (.tup xs)):∀y∈xs,Pu k y:=by
 have:(decide (xs.length≤1000)&&xs.all (N4 k))=true:=h
 rw[Bool.and_eq_true,List.all_eq_true]at this;exact this.2
theorem Pu.unL {k:Nat} {xs:List M} (h:Pu (k+1) (.lst xs)):∀y∈xs,Pu k y:=by
 have:(decide (xs.length≤1000)&&xs.all (N4 k))=true:=h
 rw[Bool.and_eq_true,List.all_eq_true]at this;exact this.2
theorem Pu.str {k:Nat} {z:Str} (h:z.length≤100):Pu k (.str z):=by cases k<;>exact decide_eq_true h
theorem Pu.int {k:Nat} {i:Int}:Pu k (.int i):=by cases k<;>rfl
theorem Pu.toD:∀{k:Nat} {x:M} (h:A7),Pu k x→∃d,L2.toD h x=some d∧d.deep≤k∧match x with| .str z=>d= .str z| .int i=>d= .int i| .bl b=>d= .bl b| .non=>d= .non| .tup xs=>∃ds,d= .tup ds| .lst xs=>∃ds,d= .lst ds|_=>False
 |k, .non,h,_=>⟨_,rfl,Nat.zero_le _,rfl⟩
 |k, .bl _,h,_=>⟨_,rfl,Nat.zero_le _,rfl⟩
 |k, .int _,h,_=>⟨_,rfl,Nat.zero_le _,rfl⟩
 |k, .str _,h,_=>⟨_,rfl,Nat.zero_le _,rfl⟩
 |0, .tup _,h,p=>by cases p
 |0, .lst _,h,p=>by cases p
 |k+1, .tup xs,h,p=>by
  have hs:∀ys:List M,(∀y∈ys,Pu k y)→∃ds,DN (DL h 20) ys=some ds∧D.deeps ds≤k:=by
   intro ys
   induction ys with
   |nil=>exact fun _=>⟨[],rfl,Nat.zero_le _⟩
   |cons y ys ih=>
    intro hy
    obtain⟨d,e,dd,_⟩:=Pu.toD (k:=k) (x:=y) h (hy y List.mem_cons_self)
    obtain⟨ds,es,dds⟩:=ih fun z hz=>hy z (List.mem_cons_of_mem _ hz)
    refine⟨d::ds,?_,Nat.max_le.mpr ⟨dd,dds⟩⟩
    unfold DN
    rw[show S0 (DL h 20) y=some d from e,Option.bind_some,es];rfl
  obtain⟨ds,e,dd⟩:=hs xs p.un
  refine⟨.tup ds,?_,Nat.succ_le_succ dd,ds,rfl⟩
  show(DN (DL h 20) xs).map D.tup=_
  rw[e];rfl
 |k+1, .lst xs,h,p=>by
  have hs:∀ys:List M,(∀y∈ys,Pu k y)→∃ds,DN (DL h 20) ys=some ds∧D.deeps ds≤k:=by
   intro ys
   induction ys with
   |nil=>exact fun _=>⟨[],rfl,Nat.zero_le _⟩
   |cons y ys ih=>
    intro hy
    obtain⟨d,e,dd,_⟩:=Pu.toD (k:=k) (x:=y) h (hy y List.mem_cons_self)
    obtain⟨ds,es,dds⟩:=ih fun z hz=>hy z (List.mem_cons_of_mem _ hz)
    refine⟨d::ds,?_,Nat.max_le.mpr ⟨dd,dds⟩⟩
    unfold DN
    rw[show S0 (DL h 20) y=some d from e,Option.bind_some,es];rfl
  obtain⟨ds,e,dd⟩:=hs xs p.unL
  refine⟨.lst ds,?_,Nat.succ_le_succ dd,ds,rfl⟩
  show(DN (DL h 20) xs).map D.lst=_
  rw[e];rfl
 |0, .dct _ _,h,p=>by cases p
 |0, .ref _,h,p=>by cases p
 |0, .scr _,h,p=>by cases p
 |0, .ty _,h,p=>by cases p
 |k+1, .dct _ _,h,p=>by cases p
 |k+1, .ref _,h,p=>by cases p
 |k+1, .scr _,h,p=>by cases p
 |k+1, .ty _,h,p=>by cases p
def cR (ss:List Str):M→Bool
 | .str z=>ss.any (· ==z)
 |_=>false
section
variable {R:M→Prop} {h:A7} {k:Nat} {x:M}
theorem eU {d:D}:∀{ss:List Str},(match x with| .str z=>d= .str z| .int i=>d= .int i| .bl b=>d= .bl b| .non=>d= .non| .tup xs=>∃ds,d= .tup ds| .lst xs=>∃ds,d= .lst ds|_=>False)→((ss.map D.str).any fun e=>BO e d)=cR ss x
 |[],sh=>by
  cases x<;>first|rfl|exact sh.elim
 |s::ss,sh=>by
  rw[List.map_cons,List.any_cons,eU (ss:=ss) sh]
  cases x with
  |non=>cases(show d=_ from sh);rfl
  |bl _=>cases(show d=_ from sh);rfl
  |int _=>cases(show d=_ from sh);rfl
  |str _=>cases(show d=_ from sh);rfl
  |tup _=>obtain⟨ds,rfl⟩:=sh;rfl
  |lst _=>obtain⟨ds,rfl⟩:=sh;rfl
  |_=>exact sh.elim
theorem MY:∀(ss:List Str),SS h (ss.map M.str)=some (ss.map D.str)
 |[]=>rfl
 |s::ss=>by
  show(S0 (DL h 20) (M.str s)).bind (fun d=>(DN (DL h 20) (ss.map M.str)).map (d:: ·))=_
  rw[show DN (DL h 20) (ss.map M.str)=some (ss.map D.str) from MY ss];rfl
theorem MN:∀(ss:List Str),D.deeps (ss.map D.str)=0
 |[]=>rfl
 |s::ss=>by rw[List.map_cons,D.deeps,MN ss];rfl
theorem dE {ss:List Str} {f:Bool→M} (hx:Pu k x):O3 x (ss.map M.str) h f=some (f (cR ss x)):=by
 obtain⟨d,e,dd,sh⟩:=hx.toD h
 unfold O3
 rw[MY,Option.bind_some,e,Option.bind_some,if_pos (by rw[MN];omega),eU sh]
theorem nN {ss:List Str} (hx:Pu k x) (q:R (.bl (cR ss x))):Enp (JX x (.tup (ss.map M.str)) h) R:=⟨_,dE hx,q⟩
theorem p3 {bs:List Bool} (q:R (.bl (bs.all id))):Enp (cQ [.lst (bs.map M.bl)] h) R:=by
 refine⟨_,?_,q⟩
 show(mH (bs.map M.bl)).map _=_
 have:∀bs:List Bool,mH (bs.map M.bl)=some bs:=by
  intro bs
  induction bs with
  |nil=>rfl
  |cons b bs ih=>show(mH (bs.map M.bl)).map (b:: ·)=_;rw[ih];rfl
 rw[this];rfl
end
end L2
namespace L2
open PySem PySem.Spec PyProof.Rows
section
variable {X:Cx} {K:PySem.W.Frag} {mas:FA} {p pos:Pos}
def OD {α:Type}:List α→List (α×α)
 |k::v::r=>(k,v)::OD r
 |_=>[]
def U6:List M→Option (List (AI×M))
 |[]=>some []
 |[_]=>none
 |k::v::r=>(E9 k).bind fun k'=>(U6 r).map ((k',v):: ·)
def FY (kvs:List (AI×M)) (k:AI) (v:M):List (AI×M):=if(kvs.any fun kv=>decide (kv.1=k)) then kvs.map fun kv=>if kv.1=k then(kv.1,v) else kv else kvs++[(k,v)]
def DG (kvs more:List (AI×M)):List (AI×M):=more.foldl (fun acc kv=>FY acc kv.1 kv.2) kvs
def RepD (K:PySem.W.Frag) (α:Pl) (H:Hp) (kvs:List (AI×M)) (ws:List (AI×V)):Prop:=ws.map (·.1)=kvs.map (·.1)∧RepAs K α H (kvs.map (·.2)) (ws.map (·.2))
theorem RepD.inv {α:Pl} {H:Hp} {kv:AI×M} {kvs:List (AI×M)} {ws:List (AI×V)} (r:RepD K α H (kv::kvs) ws):∃w ws',ws=w::ws'∧w.1=kv.1∧RepA K α H kv.2 w.2∧RepD K α H kvs ws':=by
 obtain⟨e,r⟩:=r
 cases ws with
 |nil=>cases e
 |cons w ws=>
  obtain⟨v,q,e1,h1,h2⟩:=r
  have e1':w.2::ws.map (·.2)=v::q:=e1
  injection e1' with ev eq
  subst ev eq
  have e':w.1::ws.map (·.1)=kv.1::kvs.map (·.1):=e
  injection e' with ek es
  exact⟨w,ws,rfl,ek,h1,es,h2⟩
theorem RepD.nil {α:Pl} {H:Hp}:RepD K α H [] []:=⟨rfl,rfl⟩
theorem RepD.nil_inv {α:Pl} {H:Hp} {ws:List (AI×V)} (r:RepD K α H [] ws):ws=[]:=by
 have:=r.1
 cases ws with
 |nil=>rfl
 |cons _ _=>cases this
theorem RepD.cons {α:Pl} {H:Hp} {kv:AI×M} {kvs:List (AI×M)} {w:AI×V} {ws:List (AI×V)} (e:w.1=kv.1) (h:RepA K α H kv.2 w.2) (r:RepD K α H kvs ws):RepD K α H (kv::kvs) (w::ws):=
 ⟨by rw[List.map_cons,List.map_cons,e,r.1],⟨_,_,rfl,h,r.2⟩⟩
theorem RepD.ev {α α':Pl} {H H':Hp} (e:Ev α α' H H') {kvs:List (AI×M)} {ws:List (AI×V)} (r:RepD K α H kvs ws):RepD K α' H' kvs ws:=⟨r.1,r.2.ev e⟩
theorem RepD.put {α:Pl} {H:Hp} {k:AI} {m:M} {v:V} (hm:RepA K α H m v) {kvs:List (AI×M)} {ws:List (AI×V)} (r:RepD K α H kvs ws):RepD K α H (FY kvs k m) (G3 ws k v):=by
 have ha:∀{kvs:List (AI×M)} {ws:List (AI×V)},RepD K α H kvs ws→(kvs.any fun kv=>decide (kv.1=k))=ws.any fun kv=>decide (kv.1=k):=by
  intro kvs
  induction kvs with
  |nil=>intro ws r;cases r.nil_inv;rfl
  |cons kv kvs ih=>
   intro ws r
   obtain⟨w,ws',rfl,e,_,r'⟩:=r.inv
   rw[List.any_cons,List.any_cons,ih r',e]
 unfold FY G3
 rw[ha r]
 split
 ·rename_i hc
  clear hc
  induction kvs generalizing ws with
  |nil=>cases r.nil_inv;exact .nil
  |cons kv kvs ih=>
   obtain⟨w,ws',rfl,e,h1,r'⟩:=r.inv
   rw[List.map_cons,List.map_cons]
   refine RepD.cons ?_ ?_ (ih r')
   ·by_cases hk:kv.1=k
    ·rw[if_pos hk,if_pos (e.trans hk)];exact e
    ·rw[if_neg hk,if_neg (fun z=>hk (e.symm.trans z))];exact e
   ·by_cases hk:kv.1=k
    ·rw[if_pos hk,if_pos (e.trans hk)];exact hm
    ·rw[if_neg hk,if_neg (fun z=>hk (e.symm.trans z))];exact h1
 ·refine⟨?_,?_⟩
  ·rw[List.map_append,List.map_append,r.1];rfl
  ·rw[List.map_append,List.map_append];exact r.2.snoc hm
theorem RepD.merge {α:Pl} {H:Hp}:∀{more:List (AI×M)} {mw:List (AI×V)} {kvs:List (AI×M)} {ws:List (AI×V)},RepD K α H more mw→RepD K α H kvs ws→RepD K α H (DG kvs more) (DS ws mw)
 |[],mw,kvs,ws,h,r=>by cases h.nil_inv;exact r
 |kv::more,mw,kvs,ws,h,r=>by
  obtain⟨w,mw',rfl,e,h1,h'⟩:=h.inv
  show RepD K α H (DG (FY kvs kv.1 kv.2) more) (DS (G3 ws w.1 w.2) mw')
  rw[e]
  exact RepD.merge h' (r.put h1)
def i6 (a:FA):FE:=fun ρ h=>bnd (a ρ h) fun xs h1=>(U6 xs).bind fun kvs=>if kvs.length≤15 then some (.dct ((DG [] kvs).map (·.1)) ((DG [] kvs).map (·.2)),h1) else none
abbrev sQ:=St→Hp→(List (V×V)→Hp→Prop)→Prop
def nY (X:Cx) (pos:Pos) (keys:List (Option Expr)) (values:List Expr) (t:sQ):Prop:=
 ∀(pins:List (Addr×Obj)) (s:Shared) (σ:St) (H:Hp) (Q:List (V×V)→Hp→Prop),Inv X pins σ H s→t σ H Q→
  wpAny (model X.prog X.w) X.A (evalPairs (pairTrees keys values X.env pos)) (fun vs s'=>∃ps H',Inv X pins σ H' s'∧VV ps vs∧Q ps H') X.xe s
def pM (K:PySem.W.Frag) (m:FA):sQ:=fun σ H Q=>∃α ρ h d h',REnv K α H ρ σ∧Rl K α h H∧m ρ h=some (d,h')∧∀α' H' vs,Ev α α' H H'→Rl K α' h' H'→RepAs K α' H' d vs→Q (OD vs) H'
theorem iV:nY X pos [] [] (pM X.K AB):=fun pins s σ H Q I ⟨α,ρ,h,d,h',hσ,hr,e,k⟩=>by
 cases e
 exact pairTrees_nil_walk ⟨[],H,I, .nil,k α H [] .refl hr rfl⟩
theorem OW {k v:Expr} {ks:List (Option Expr)} {vs:List Expr} {mk mv:FE} (hk:PE X k (tM X.K mk)) (hv:PE X v (tM X.K mv)) (hr:nY X pos ks vs (pM X.K mas)):
 nY X pos (some k::ks) (v::vs) (pM X.K (A2 mk (A2 mv mas))):=fun pins s σ H Q I ⟨α,ρ,h,d,h',hσ,hR,e,kk⟩=>by
 obtain⟨x,h1,e1,e⟩:=A6 e
 obtain⟨xs,h2,e2,e⟩:=A6 e
 cases e
 obtain⟨y,h3,e3,e2⟩:=A6 e2
 obtain⟨ys,h4,e4,e2⟩:=A6 e2
 cases e2
 refine pairTrees_cons_walk (CK (hk pins s σ H (fun u H1=>tM X.K mv σ H1 fun u2 H2=>pM X.K mas σ H2 fun ps H3=>Q ((u,u2)::ps) H3) I ⟨α,ρ,h,x,h1,hσ,hR,e1,fun α1 H1 u ev1 hr1 ru=>⟨α1,ρ,h1,y,h3,hσ.ev ev1,hr1,e3,fun α2 H2 u2 ev2 hr2 ru2=>⟨α2,ρ,h3,ys,_,(hσ.ev ev1).ev ev2,hr2,e4,fun α3 H3 us ev3 hr3 rus=> ?_⟩⟩⟩) fun w1 s1 ⟨u,H1,I1,rx,q1⟩=>CK (hv pins s1 σ H1 _ I1 q1) fun w2 s2 ⟨u2,H2,I2,ry,q2⟩=>
  CK (hr pins s2 σ H2 _ I2 q2) fun ws s3 ⟨ps,H3,I3,rel,q3⟩=>⟨(u,u2)::ps,H3,I3, .cons ⟨rx,ry⟩ rel,q3⟩)
 exact kk α3 H3 (u::u2::us) ((ev1.trans ev2).trans ev3) hr3 ⟨u,_,rfl,(ru.ev ev2).ev ev3,u2,_,rfl,ru2.ev ev3,rus⟩
def kD (t:sQ):TE:=fun σ H Q=>∀p,H p=none→t σ (upd H p (.dK [])) fun ps H2=>H2 p=some (.dK [])∧∃kvs:List (AI×V),ps=kvs.map (fun kv=>(kV kv.1,kv.2))∧kvs.length≤15∧Q (.ref p) (upd H2 p (.dK (DS [] kvs)))
theorem X9 {keys:List (Option Expr)} {values:List Expr} {t:sQ} (h:nY X pos keys values t) (hall:keys.all (·.isSome)=true) (hl:keys.length=values.length) (h0:keys≠[])
 (h15:keys.length≤15):PE X (.Dict keys values pos) (kD t):=by
 intro pins s σ H Q I q
 have hn:=I.hok.fresh (Nat.le_refl s.heap.objs.size)
 have I1:=I.laid (a:=s.heap.objs.size) (o:= .dK []) (h':=s.heap.push {cls:= .type "dict",data:= .dict #[]}) (t':=s.toks) (fun _ _ q=>Heap.get?_push_of_some _ q) (Nat.le_refl _) (R4 s.heap I.big)
 refine wpAny_Dict_walk (knd:=AW X.prog X.w) hall hl h0 h15 (CK (h pins _ σ _ _ I1 (q _ hn)) fun ws s2 ⟨ps,H2,I2,rel,e,kvs,ep,lk,q2⟩=> ?_)
 subst ep
 obtain⟨rs,c,rk⟩:=M0 (P:=X.prog) (w:=X.w) rel
 obtain⟨z,hd,vs0,r0,dd⟩:=TC I2.hok e
 cases r0
 refine⟨rs,c,dd,fun h' dd' hs=>⟨.ref s.heap.objs.size,_,?_,rfl,q2⟩⟩
 have hz:(DS [] kvs).length≤sizeLine:=by
  have h1:=EY kvs []
  rw[List.length_nil]at h1
  rw[sizeLine_eq];omega
 have he:∃q,h'.get? s.heap.objs.size=some q:=let⟨q,_,_,hq,_⟩:=dd';⟨q,hq⟩
 exact KU I2 (by rw[e];exact True.intro) hs he (MK hz hd (rk.merge .nil) dd')
theorem NA {α:Pl} {H:Hp}:∀{xs:List M} {kvs:List (AI×M)} {vs:List V},U6 xs=some kvs→RepAs K α H xs vs→∃ws:List (AI×V),OD vs=ws.map (fun kv=>(kV kv.1,kv.2))∧ws.length=kvs.length∧RepD K α H kvs ws
 |[],kvs,vs,e,r=>by
  cases e
  cases(show vs=[] from r)
  exact⟨[],rfl,rfl, .nil⟩
 |[_],_,_,e,_=>by cases e
 |k::v::xs,kvs,vs,e,r=>by
  obtain⟨k',e1,e⟩:=Option.bind_eq_some_iff.mp e
  obtain⟨kvs',e2,rfl⟩:=Option.map_eq_some_iff.mp e
  obtain⟨u,q,rfl,ru,u2,q2,rfl,ru2,rq⟩:=r
  obtain⟨ws,h1,h2,h3⟩:=NA e2 rq
  refine⟨(k',u2)::ws,?_,by simp[h2], .cons rfl ru2 h3⟩
  show(u,u2)::OD q2=_
  rw[h1,DB e1 ru];rfl
theorem gD {keys:List (Option Expr)} {values:List Expr} (h:nY X pos keys values (pM X.K mas)) (hall:keys.all (·.isSome)=true) (hl:keys.length=values.length) (h0:keys≠[])
 (h15:keys.length≤15):PE X (.Dict keys values pos) (tM X.K (i6 mas)):=(X9 h hall hl h0 h15).imp fun σ H Q ⟨α,ρ,h,d,h',hσ,hr,e,k⟩=>by
 obtain⟨xs,h1,e1,e⟩:=A6 e
 obtain⟨kvs,e2,e⟩:=Option.bind_eq_some_iff.mp e
 split at e
 ·rename_i h15
  cases e
  intro p hp
  refine⟨α.hide p,ρ,h,xs,_,(hσ.hide hp).ev (.same (AX hp _)),hr.lay hp,e1,fun α2 H2 vs ev2 hr2 rvs=> ?_⟩
  have hg:α2.g=p::α.g:=ev2.pre.1
  have ea:α2=Pl.hide ⟨α2.a,α.g⟩ p:=by cases α2;cases hg;rfl
  have hpm:p∈α2.g:=by rw[hg];exact List.mem_cons_self
  have hpn:p∉α2.a:=fun hm=>hr2.ap p hm hpm
  have hpa:p∉(α.hide p).a:=hr.newA hp
  have hp2:H2 p=some (.dK []):=ev2.keep _ _ AH (.inr List.mem_cons_self) hpa
  obtain⟨ws,w1,w2,w3⟩:=NA e2 rvs
  refine⟨hp2,ws,w1,by omega,?_⟩
  have hr3:=hr2.hw (u:= .dK (DS [] ws)) hpm
  have r3:RepD X.K α2 (upd H2 p (.dK (DS [] ws))) (DG [] kvs) (DS [] ws):=by
   have:=RepD.merge w3 (RepD.nil (K:=X.K) (α:=α2) (H:=H2))
   exact⟨this.1,this.2.hw hpm⟩
  rw[ea]at hr3 r3
  refine k ⟨α2.a,α.g⟩ _ _ ?_ hr3.show ⟨p,_,rfl,⟨hpn,(hr.new hp).2⟩, .inl AH,r3.1,r3.2.show⟩
  have ev3:Ev (α.hide p) α2 (upd H p (.dK [])) H2:=ev2
  rw[ea]at ev3
  have ev4:Ev α ⟨α2.a,α.g⟩ (upd H p (.dK [])) H2:=ev3.unhide
  refine⟨⟨rfl,?_⟩,fun b o hb q n=> ?_,fun b ws hb n=> ?_,fun b hb=> ?_,fun b ob u' hb=>by
   have z:b≠p:=by intro z;subst z;rw[hp]at hb;cases hb
   rw[AF z];exact ev4.keepF b ob u' (by rw[AF z];exact hb)⟩
  ·obtain⟨_,β,e1,e2⟩:=ev4.pre
   refine⟨β,e1,fun b hb=> ?_⟩
   have:=e2 b hb
   by_cases z:b=p
   ·subst z;exact hp
   ·rw[AF z]at this;exact this
  ·have z:b≠p:=by intro z;subst z;rw[hp]at hb;cases hb
   rw[AF z];exact ev4.keep b o (by rw[AF z];exact hb) q n
  ·have z:b≠p:=by intro z;subst z;rw[hp]at hb;cases hb
   rcases ev4.keepD b ws (by rw[AF z];exact hb) n with r|⟨o,r⟩
   ·exact .inl (by rw[AF z];exact r)
   ·exact .inr ⟨o,by rw[AF z];exact r⟩
  ·by_cases z:b=p
   ·subst z;rw[AH]at hb;cases hb
   ·rw[AF z]at hb
    have:=ev4.dom b hb
    rw[AF z]at this;exact this
 ·cases e
end
section
variable {R:M→A7→Prop} {ρ:B4} {h:A7} {mas:FA}
theorem oG (q:Ens (mas ρ h) fun xs h1=>∃kvs,U6 xs=some kvs∧kvs.length≤15∧R (.dct ((DG [] kvs).map (·.1)) ((DG [] kvs).map (·.2))) h1):Ens (i6 mas ρ h) R:= .bnd (q.mono fun xs h1 q=>by
 obtain⟨kvs,e1,e2,q⟩:=q
 exact⟨_,h1,by rw[e1,Option.bind_some,if_pos e2],q⟩)
end
end L2
namespace L2
open PySem PySem.Spec PyProof.Rows
section
variable {X:Cx} {a b c d:Expr} {es:List Expr} {ma mb mc md:FE} {mas:FA}
theorem BE (ha:PE X a (tM X.K ma)) (h1:B5 a=true):PA X [a] (aM X.K (A2 ma AB)):=G4 ha WS h1
theorem AZ (ha:PE X a (tM X.K ma)) (hb:PE X b (tM X.K mb)) (h1:B5 a=true) (h2:B5 b=true):PA X [a,b] (aM X.K (A2 ma (A2 mb AB))):=G4 ha (BE hb h2) h1
theorem MB (ha:PE X a (tM X.K ma)) (hb:PE X b (tM X.K mb)) (hc:PE X c (tM X.K mc)) (h1:B5 a=true) (h2:B5 b=true) (h3:B5 c=true):PA X [a,b,c] (aM X.K (A2 ma (A2 mb (A2 mc AB)))):=G4 ha (AZ hb hc h2 h3) h1
theorem KA (ha:PE X a (tM X.K ma)) (hb:PE X b (tM X.K mb)) (hc:PE X c (tM X.K mc)) (hd:PE X d (tM X.K md)) (hr:PA X es (aM X.K mas)) (h1:B5 a=true) (h2:B5 b=true) (h3:B5 c=true) (h4:B5 d=true):PA X (a::b::c::d::es) (aM X.K (A2 ma (A2 mb (A2 mc (A2 md mas))))):=G4 ha (G4 hb (G4 hc (G4 hd hr h4) h3) h2) h1
theorem PQ (ha:PE X a (tM X.K ma)) (hb:PE X b (tM X.K mb)) (hc:PE X c (tM X.K mc)) (hd:PE X d (tM X.K md)) (h1:B5 a=true) (h2:B5 b=true) (h3:B5 c=true) (h4:B5 d=true):PA X [a,b,c,d] (aM X.K (A2 ma (A2 mb (A2 mc (A2 md AB))))):=KA ha hb hc hd WS h1 h2 h3 h4
end
end L2
set_option maxHeartbeats 1000000
set_option maxHeartbeats 1000000
set_option maxHeartbeats 1000000
namespace ZT
open PySem PyProof.Rows
theorem LN:typeLookup (.type "list") "keys"=pure none:=am_miss_of_fast (by decide+kernel)
theorem KO:typeLookup (.type "tuple") "keys"=pure none:=am_miss_of_fast (by decide+kernel)
theorem LH:(["__module__","__name__","__qualname__","__doc__","__annotations__"]:List Str).contains "keys"=false:=by decide+kernel
section
variable {prog:Program} {w:World} {A:Around} {E:Value→Shared→Prop} {s:Shared}
theorem OJ {a:Addr} {o:Obj} {xs:Array Value} {k:Nat} {Q:Option Value→Shared→Prop} (hx:s.heap.get? a=some o) (hc:o.cls= .type "list") (hdat:o.data= .seq xs k) (hd:o.dict=none) (hA:A.handled=none)
 (h:∀h' tk,(∀b o,s.heap.get? b=some o→h'.get? b=some o)→Q none {s with heap:=h',toks:=tk}):wpAny (model prog w) A (getAttr? (.ref a) "keys") Q E s:=by
 obtain⟨c,dct,dat,sl⟩:=o
 simp only at hc hdat hd
 subst hc hdat hd
 obtain⟨hp,g,d,tk,os⟩:=s
 have hT:∀tk',(⟨hp,g,d,tk',os⟩:Shared).TypeIs (.ref a) "list":=fun _=>⟨_,hx,rfl⟩
 have f1:=sub_AttributeError
 have f3:=F.slot_list_getattribute.lookup
 have f4:=F.slot_list_getattribute.bind (.ref a)
 have f5:=am_list_getattr_none
 unfold getAttr? getAttrBy? getAttrBy
 repeat (any_goals (first|assumption|exact hT _|((with_reducible show wpAny _ _ (call (Value.builtin "list.__getattribute__") _ _) _ _ _);refine call_meets F.slot_list_getattribute (hT _) am_entry_list_getattribute (F.args_list_getattribute_2 _ _) (meets_getattribute_miss_list a xs k sl "keys" _ LN LH) ⟨hx,hA,fun h' tk' e hx'=> ?_⟩)|wp_step))
 obtain⟨t',u',he⟩:=hx'.there
 show wpAny _ _ (getattributeRaised _ _ _ _ _ _ _) _ _ _
 unfold getattributeRaised
 repeat (any_goals (first|assumption|wp_step))
 exact h _ _ hx'.keeps
theorem MU {a:Addr} {o:Obj} {xs:Array Value} {k:Nat} {Q:Option Value→Shared→Prop} (hx:s.heap.get? a=some o) (hc:o.cls= .type "tuple") (hdat:o.data= .seq xs k) (hd:o.dict=none) (hA:A.handled=none)
 (h:∀h' tk,(∀b o,s.heap.get? b=some o→h'.get? b=some o)→Q none {s with heap:=h',toks:=tk}):wpAny (model prog w) A (getAttr? (.ref a) "keys") Q E s:=by
 obtain⟨c,dct,dat,sl⟩:=o
 simp only at hc hdat hd
 subst hc hdat hd
 obtain⟨hp,g,d,tk,os⟩:=s
 have hT:∀tk',(⟨hp,g,d,tk',os⟩:Shared).TypeIs (.ref a) "tuple":=fun _=>⟨_,hx,rfl⟩
 have f1:=sub_AttributeError
 have f3:=F.slot_tuple_getattribute.lookup
 have f4:=F.slot_tuple_getattribute.bind (.ref a)
 have f5:=am_tuple_getattr_none
 unfold getAttr? getAttrBy? getAttrBy
 repeat (any_goals (first|assumption|exact hT _|((with_reducible show wpAny _ _ (call (Value.builtin "tuple.__getattribute__") _ _) _ _ _);refine call_meets F.slot_tuple_getattribute (hT _) am_entry_tuple_getattribute (F.args_tuple_getattribute_2 _ _) (meets_getattribute_miss_tuple a xs k sl "keys" _ KO LH) ⟨hx,hA,fun h' tk' e hx'=> ?_⟩)|wp_step))
 obtain⟨t',u',he⟩:=hx'.there
 show wpAny _ _ (getattributeRaised _ _ _ _ _ _ _) _ _ _
 unfold getattributeRaised
 repeat (any_goals (first|assumption|wp_step))
 exact h _ _ hx'.keeps
end
theorem EQ:entryFor table "dict.update.loop"=some Builtin.«dict.update.loop»:=entryFor_of_tree (by kernel_rfl)
theorem CO:plainId "dict.update.loop"=true:=by decide+kernel
section
variable {prog:Program} {w:World} {K:Type} [DecidableEq K] {knd:KeyKind prog w K} {A:Around} {R:Result→Shared→Prop} {I:Addr} {fp wr:List Addr} {n:Nat} {P:Nat→Value→Prop} {St:Nat→Heap→Prop} {kvs:List (K×Value)}
theorem Q6 (W:Walks prog w A.in1 I fp wr n P St) (D:Addr) (hDf:D∉fp) (Pair:Addr→Value→Value→Prop) (hPr:∀i v,P i v→∃a key x k,v= .ref a∧kvs[i]? =some (k,x)∧knd.is k key=true∧Pair a key x)
 (hne:∀a key x,Pair a key x→a≠D∧a∉wr) (hn:kvs.length=n) (hsz:n≤sizeLine) (res:Value):
 ∀(m i:Nat) (s:Shared) (t:Tok),n-i=m→i≤n→St i s.heap→(∀a key x,Pair a key x→∃o c,s.heap.get? a=some o∧o.cls= .type "tuple"∧o.data= .seq #[key,x] c)→s.heap.DictOf knd D (merged [] (kvs.take i))→
  (∀h' tk,(∀b o,b≠D→b∉wr→s.heap.get? b=some o→h'.get? b=some o)→h'.DictOf knd D (merged [] kvs)→R (.ok (.ret res)) {s with heap:=h',toks:=tk})→
  codeAny (model prog w) A (.builtin "dict.update.loop" ⟨[.ref D, .ref I, .int (i:Int) t,res],[]⟩) R s:=by
 have hDw:D∉wr:=fun h=>hDf (W.sub _ h)
 intro m
 induction m with
 |zero=>
  intro i s t hk hi hst hp hD hR
  have hin:i=n:=by omega
  subst hin
  refine codeAny_builtin EQ ?_
  rw[Around.under_plainId CO _]
  show wpAny _ A.in1 (pyNext (.ref I)>>=_) _ _ s
  refine wpAny_bind (W.done s _ _ hst fun h' tk hk'=> ?_)
  show wpAny _ A.in1 (Builtin.Dict.addKeywords D []>>=fun _=>ret res) _ _ _
  refine wpAny_bind (wpAny_pure (wpAny_pure (hR h' tk (fun b o _ hb e=>hk' b o hb e) ?_)))
  rw[←hn,List.take_length]at hD
  obtain⟨o,es,ep,ho,rest⟩:=hD
  exact⟨o,es,ep,hk' D _ hDw ho,rest⟩
 |succ m ih=>
  intro i s t hk hi hst hp hD hR
  have hlt:i<n:=by omega
  refine codeAny_builtin EQ ?_
  rw[Around.under_plainId CO _]
  show wpAny _ A.in1 (pyNext (.ref I)>>=_) _ _ s
  refine wpAny_bind (W.item i s _ _ hlt hst fun v h' tk hP st' hk'=> ?_)
  obtain⟨a,key,x,k,rfl,hkv,hkey,hpair⟩:=hPr i v hP
  obtain⟨o,c,ho,hoc,hod⟩:=hp a key x hpair
  have ho':h'.get? a=some o:=hk' a o (hne a key x hpair).2 ho
  have hD':h'.DictOf knd D (merged [] (kvs.take i)):=by
   obtain⟨o,es,ep,ho,rest⟩:=hD
   exact⟨o,es,ep,hk' D _ hDw ho,rest⟩
  have hT:(({s with heap:=h',toks:=tk}:Shared)).TypeIs (.ref a) "tuple":=⟨o,ho',hoc⟩
  refine wpAny_bind (wpAny_holding ?_)
  refine wpAny_bind (wpAny_tryCatch ?_)
  unfold Builtin.Dict.pairItems
  refine wpAny_bind (wpAny_typeOf hT ?_)
  rw[if_pos (by decide)]
  refine wpAny_bind (wpAny_seqItems ho' hod ?_)
  refine wpAny_pure ?_
  show wpAny _ A.in1 (holding [key,x] (dictSet D key x)) _ _ _
  have hz:(merged [] (kvs.take i)).length≤sizeLine:=by
   have:=merged_length_le ([]:List (K×Value)) (kvs.take i)
   rw[List.length_nil,List.length_take]at this
   omega
  refine wpAny_holding (wpAny_dictSet_pairs (hsz:=hz) hkey hD' fun h2 hD2 hs2=> ?_)
  have keep:∀b o,b≠D→b∉wr→s.heap.get? b=some o→h2.get? b=some o:=fun b o h1 h3 e=>(hs2.2 b h1).trans (hk' b o h3 e)
  rw[←merged_take_succ _ _ i _ hkv]at hD2
  refine wpAny_pure ⟨plainId_quiet CO _,?_⟩
  show codeAny _ A (.builtin "dict.update.loop" ⟨[.ref D, .ref I, .int (((i:Nat):Int)+1) 0,res],[]⟩) R _
  rw[show((i:Int)+1)=((i+1:Nat):Int) from by omega]
  refine ih (i+1) _ 0 (by omega) hlt (W.frame _ _ _ st' fun b hb o e=>(hs2.2 b (fun z=>hDf (z▸hb))).trans e) (fun a' key' x' hp'=> ?_) hD2 fun h3 tk3 hk3 hD3=> ?_
  ·obtain⟨o',c',e1,e2⟩:=hp a' key' x' hp'
   exact⟨o',c',keep a' o' (hne _ _ _ hp').1 (hne _ _ _ hp').2 e1,e2⟩
  ·exact hR h3 tk3 (fun b o h1 h2' e=>hk3 b o h1 h2' (keep b o h1 h2' e)) hD3
theorem M1 {E:Value→Shared→Prop} {s:Shared} {l:Addr} {its:Array Value} {T:String} {Q:Value→Shared→Prop} (hh:A.handled=none) (hT:s.TypeIs (.ref l) T) (hTn:T≠ "dict")
 (hnk:∀(s':Shared) (Q':Option Value→Shared→Prop) (E':Value→Shared→Prop),(∀b o,s.heap.get? b=some o→s'.heap.get? b=some o)→(∀h' tk,(∀b o,s'.heap.get? b=some o→h'.get? b=some o)→Q' none {s' with heap:=h',toks:=tk})→wpAny (model prog w) A.in1.in1 (getAttr? (.ref l) "keys") Q' E' s')
 (hit:∀(s':Shared) (Q':Value→Shared→Prop) (E':Value→Shared→Prop),(∀b o,s.heap.get? b=some o→s'.heap.get? b=some o)→(∀(I:Addr) (h':Heap) (St:Nat→Heap→Prop),s'.heap.get? I=none→(∀b o,s'.heap.get? b=some o→h'.get? b=some o)→Walks prog w A.in1.in1 I [I,l] [I] its.size (fun i v=>its[i]? =some v) St→St 0 h'→Q' (.ref I) {s' with heap:=h'})→wpAny (model prog w) A.in1.in1 (pyIter (.ref l)) Q' E' s')
 (hl:l<s.heap.objs.size) (hps:∀(i:Nat) (v:Value),its[i]? =some v→∃a key x k o c,v= .ref a∧kvs[i]? =some (k,x)∧knd.is k key=true∧s.heap.get? a=some o∧o.cls= .type "tuple"∧o.data= .seq #[key,x] c) (hn:kvs.length=its.size) (hsz:kvs.length≤sizeLine)
 (hQ:∀h' tk,(∀b o,s.heap.get? b=some o→h'.get? b=some o)→h'.DictOf knd s.heap.objs.size (merged [] kvs)→Q (.ref s.heap.objs.size) {s with heap:=h',toks:=tk}):
 wpAny (model prog w) A (call (.type "dict") [.ref l]) Q E s:=by
 refine callType_codes (Q₁:=fun obj s₁=>obj= .ref s.heap.objs.size∧s₁={s with heap:=s.heap.push {cls:= .type "dict",data:= .dict #[]}}) F.kt_called_dict (F.kt_typeCall_dict_1 _) F.entry_dict_init (kt_code_dict_new _ ⟨rfl,rfl⟩) ?_
 rintro obj s₁ ⟨rfl,rfl⟩
 have hnew:(s.heap.push {cls:= .type "dict",data:= .dict #[]}).DictOf knd s.heap.objs.size []:=Heap.DictOf.new s.heap
 have hk0:∀b o,s.heap.get? b=some o→(s.heap.push {cls:= .type "dict",data:= .dict #[]}).get? b=some o:=fun b o e=>Heap.get?_push_of_some _ e
 have hT1:(({s with heap:=s.heap.push {cls:= .type "dict",data:= .dict #[]}}:Shared)).TypeIs (.ref l) T:=by
  obtain⟨o,ho,hc⟩:=hT
  exact⟨o,hk0 _ _ ho,hc⟩
 refine⟨hnew.typeIs,F.args_dict_init_2 _ _,?_⟩
 unfold Builtin.«dict.__init__»
 refine wpAny_bind ?_
 unfold Builtin.Dict.selfAndRest
 refine wpAny_bind (wpAny_notOrdered_dict hnew.typeIs ?_)
 show wpAny _ _ (pure (s.heap.objs.size,[Value.ref l])) _ _ _
 refine wpAny_pure ?_
 show wpAny _ _ (Builtin.Dict.updateFrom "dict.__init__" s.heap.objs.size (.ref l) [] .none) _ _ _
 unfold Builtin.Dict.updateFrom
 refine wpAny_bind (wpAny_typeOf hT1 ?_)
 have hb:(Value.type T !=Value.type "dict")=true:=by simpa[bne_iff_ne]using hTn
 rw[if_pos hb]
 refine wpAny_bind (hnk _ _ _ hk0 fun h1 tk1 hk1=> ?_)
 simp only[Option.isNone_none,if_true]
 refine wpAny_bind (wpAny_rule ?_)
 refine wpAny_bind (hit {s with heap:=h1,toks:=tk1} _ _ (fun b o e=>hk1 b o (hk0 b o e)) fun I h2 St hI hk2 W hSt=> ?_)
 have hD2:h2.DictOf knd s.heap.objs.size []:=by
  obtain⟨o,es,ep,ho,rest⟩:=hnew
  exact⟨o,es,ep,hk2 _ _ (hk1 _ _ ho),rest⟩
 have hkeep:∀b o,s.heap.get? b=some o→h2.get? b=some o:=fun b o e=>hk2 b o (hk1 b o (hk0 b o e))
 have hDI:s.heap.objs.size≠I:=fun z=>by
  obtain⟨o,es,ep,ho,_⟩:=hnew
  have:h1.get? I=some o:=by rw[←z];exact hk1 _ _ ho
  rw[show h1.get? I=none from hI]at this;cases this
 have hII:∀b o,s.heap.get? b=some o→b≠I:=fun b o e z=>by
  have:h1.get? I=some o:=by rw[←z];exact hk1 _ _ (hk0 _ _ e)
  rw[show h1.get? I=none from hI]at this;cases this
 refine wpAny_pure ⟨plainId_quiet CO _,?_⟩
 refine Q6 (A:=A.in1) (knd:=knd) (kvs:=kvs) W s.heap.objs.size (by simp[hDI,Nat.ne_of_gt hl]) (fun a key x=>∃o c,s.heap.get? a=some o∧o.cls= .type "tuple"∧o.data= .seq #[key,x] c) (fun i v hv=> ?_) (fun a key x hp=> ?_) hn (by rw[←hn];exact hsz) .none its.size 0 _ 0 (Nat.sub_zero _) (Nat.zero_le _) hSt (fun a key x hp=> ?_) hD2 fun h3 tk3 hk3 hD3=> ?_
 ·obtain⟨a,key,x,k,o,c,h4,h5,h6,h7⟩:=hps i v hv
  exact⟨a,key,x,k,h4,h5,h6,o,c,h7⟩
 ·obtain⟨o,c,ho,_⟩:=hp
  exact⟨Nat.ne_of_lt (Heap.lt_size ho),by simpa using hII a o ho⟩
 ·obtain⟨o,c,ho,h8⟩:=hp
  exact⟨o,c,hkeep a o ho,h8⟩
 ·exact⟨rfl,hQ h3 tk3 (fun b o e=>hk3 b o (Nat.ne_of_lt (Heap.lt_size e)) (by simpa using hII b o e) (hkeep b o e)) hD3⟩
end
end ZT
set_option maxHeartbeats 1000000
namespace ZT
open PySem PySem.W PyProof.Rows
structure LtOk (n:Nat) (lt:Nat→Nat→Bool):Prop where
 tot:∀i j,i<n→j<n→i≠j→lt i j=false→lt j i=true
 tr:∀i j k,lt i j=true→lt j k=true→lt i k=true
def PermN (n:Nat) (p:Array Nat):Prop:=p.Perm (List.toArray (List.range n))
theorem PermN.size {n:Nat} {p:Array Nat} (h:PermN n p):p.size=n:=by
 have:=h.size_eq
 simpa using this
theorem PermN.list {n:Nat} {p:Array Nat} (h:PermN n p):p.toList.Perm (List.range n):=by
 have:=Array.perm_iff_toList_perm.mp h
 simpa using this
theorem IW {p:Array Nat} {k:Nat} (h:k<p.size):p.getD k 0=p[k]:=by simp[Array.getD,h]
theorem EI {p:Array Nat} {k:Nat}:p.getD k 0=(p[k]?).getD 0:=by
 by_cases h:k<p.size
 ·simp[Array.getD,h]
 ·simp[Array.getD,h]
theorem PermN.lt {n:Nat} {p:Array Nat} (h:PermN n p) {k:Nat} (hk:k<n):p.getD k 0<n:=by
 have hk':k<p.size:=by rw[h.size];exact hk
 rw[IW hk']
 have:p[k]∈p.toList:=by simp
 exact List.mem_range.mp (h.list.mem_iff.mp this)
theorem PermN.inj {n:Nat} {p:Array Nat} (h:PermN n p) {i j:Nat} (hi:i<n) (hj:j<n) (e:i≠j):p.getD i 0≠p.getD j 0:=by
 have hi':i<p.size:=by rw[h.size];exact hi
 have hj':j<p.size:=by rw[h.size];exact hj
 have nd:p.toList.Nodup:=h.list.nodup_iff.mpr List.nodup_range
 rw[IW hi',IW hj']
 intro z
 apply e
 have:p.toList[i]'(by simpa using hi')=p.toList[j]'(by simpa using hj'):=by simpa using z
 exact(List.getElem_inj nd).mp this
def srt (lt:Nat→Nat→Bool) (p:Array Nat) (k:Nat):Prop:=∀i j,i<j→j<k→lt (p.getD i 0) (p.getD j 0)=true
def dsr (lt:Nat→Nat→Bool) (p:Array Nat) (k:Nat):Prop:=∀i j,i<j→j<k→lt (p.getD j 0) (p.getD i 0)=true
section
variable {n:Nat} {lt:Nat→Nat→Bool} {s:Shared} {cmp:Nat→Nat→(Bool→Shared→Prop)→Shared→Prop}
theorem srt.succ (L:LtOk n lt) {p:Array Nat} {m:Nat} (h:srt lt p m) (h1:1≤m) (e:lt (p.getD (m-1) 0) (p.getD m 0)=true):srt lt p (m+1):=fun i j hij hj=>by
 by_cases hm:j<m
 ·exact h i j hij hm
 ·have:j=m:=by omega
  subst this
  by_cases hi:i=j-1
  ·rw[hi];exact e
  ·exact L.tr _ _ _ (h i (j-1) (by omega) (by omega)) e
theorem dsr.succ (L:LtOk n lt) {p:Array Nat} {m:Nat} (h:dsr lt p m) (h1:1≤m) (e:lt (p.getD m 0) (p.getD (m-1) 0)=true):dsr lt p (m+1):=fun i j hij hj=>by
 by_cases hm:j<m
 ·exact h i j hij hm
 ·have:j=m:=by omega
  subst this
  by_cases hi:i=j-1
  ·rw[hi];exact e
  ·exact L.tr _ _ _ e (h i (j-1) (by omega) (by omega))
theorem SH (L:LtOk n lt) (hc:∀i j (C:Bool→Shared→Prop),i<n→j<n→i≠j→C (lt i j) s→cmp i j C s) {p:Array Nat} (hp:PermN n p) {Q:Nat→Shared→Prop}:
 ∀(f m:Nat),1≤m→m+f≤n→srt lt p m→(∀m',m≤m'→m'≤m+f→srt lt p m'→(m'=m+f∨lt (p.getD m' 0) (p.getD (m'-1) 0)=true)→Q m' s)→(kas_asc p f m).kasWp cmp Q s
 |0,m,_,_,hs,h=>h m (Nat.le_refl _) (Nat.le_refl _) hs (.inl rfl)
 |f+1,m,h1,hn,hs,h=>by
  refine hc _ _ _ (hp.lt (by omega)) (hp.lt (by omega)) (hp.inj (by omega) (by omega) (by omega)) ?_
  cases e:lt (p.getD m 0) (p.getD (m-1) 0) with
  |true=>exact h m (Nat.le_refl _) (by omega) hs (.inr e)
  |false=>
   refine SH L hc hp f (m+1) (by omega) (by omega) (hs.succ L h1 (L.tot _ _ (hp.lt (by omega)) (hp.lt (by omega)) (hp.inj (by omega) (by omega) (by omega)) e)) fun m' a b c d=>h m' (by omega) (by omega) c ?_
   rcases d with d|d
   ·exact .inl (by omega)
   ·exact .inr d
theorem U2 (L:LtOk n lt) (hc:∀i j (C:Bool→Shared→Prop),i<n→j<n→i≠j→C (lt i j) s→cmp i j C s) {p:Array Nat} (hp:PermN n p) {Q:Array Nat×Nat×Nat→Shared→Prop}:
 ∀(f m:Nat),1≤m→m+f≤n→dsr lt p m→(∀m',m≤m'→m'≤m+f→dsr lt p m'→Q (p,m',0) s)→(kas_desc f p m 0).kasWp cmp Q s
 |0,m,_,_,hs,h=>h m (Nat.le_refl _) (Nat.le_refl _) hs
 |f+1,m,h1,hn,hs,h=>by
  refine hc _ _ _ (hp.lt (by omega)) (hp.lt (by omega)) (hp.inj (by omega) (by omega) (by omega)) ?_
  cases e:lt (p.getD m 0) (p.getD (m-1) 0) with
  |true=>
   simp only[if_true]
   rw[if_neg (by omega)]
   exact U2 L hc hp f (m+1) (by omega) (by omega) (hs.succ L h1 e) fun m' a b c=>h m' (by omega) (by omega) c
  |false=>
   refine hc _ _ _ (hp.lt (by omega)) (hp.lt (by omega)) (hp.inj (by omega) (by omega) (by omega)) ?_
   rw[L.tot _ _ (hp.lt (by omega)) (hp.lt (by omega)) (hp.inj (by omega) (by omega) (by omega)) e]
   exact h m (Nat.le_refl _) (by omega) hs
theorem UD {p:Array Nat} {m k:Nat} (hm:m≤p.size):(kas_rev p 0 m).getD k 0=if k<m then p.getD (m-1-k) 0 else p.getD k 0:=by
 rw[EI]
 unfold kas_rev
 rw[getElem?_mirror_all hm]
 by_cases h:k<m
 ·rw[if_pos ⟨Nat.zero_le _,h⟩,if_pos h,EI,Nat.zero_add]
 ·rw[if_neg (fun z=>h z.2),if_neg h,EI]
theorem PermN.rev {p:Array Nat} {i j:Nat} (h:PermN n p):PermN n (kas_rev p i j):=(mirror_perm _ _ _ _).trans h
theorem dsr.rev {p:Array Nat} {m:Nat} (hm:m≤p.size) (h:dsr lt p m):srt lt (kas_rev p 0 m) m:=fun i j hij hj=>by
 rw[UD hm,UD hm,if_pos (by omega),if_pos hj]
 exact h _ _ (by omega) (by omega)
theorem ZM (L:LtOk n lt) (hc:∀i j (C:Bool→Shared→Prop),i<n→j<n→i≠j→C (lt i j) s→cmp i j C s) {p:Array Nat} (hp:PermN n p) (hn:2≤n) {Q:Nat×Array Nat→Shared→Prop}
 (h:∀m p',1≤m→m≤n→PermN n p'→srt lt p' m→Q (m,p') s):(kas_count n p).kasWp cmp Q s:=by
 unfold kas_count
 rw[KasT.kasWp_bind]
 refine SH L hc hp (n-1) 1 (Nat.le_refl _) (by omega) (fun i j h1 h2=>by omega) fun m h1 h2 hs hd=> ?_
 by_cases e:m=n
 ·subst e
  rw[if_pos (by simp)]
  exact h m p h1 (Nat.le_refl _) hp hs
 ·rw[if_neg (by simpa using e)]
  have hlt:lt (p.getD m 0) (p.getD (m-1) 0)=true:=by
   rcases hd with hd|hd
   ·omega
   ·exact hd
  by_cases e1:m>1
  ·rw[if_pos e1]
   refine hc _ _ _ (hp.lt (by omega)) (hp.lt (by omega)) (hp.inj (by omega) (by omega) (by omega)) ?_
   rw[hs 0 (m-1) (by omega) (by omega)]
   exact h m p h1 (by omega) hp hs
  ·rw[if_neg e1]
   have em:m=1:=by omega
   subst em
   unfold kas_descPart
   rw[KasT.kasWp_bind]
   refine U2 L hc hp _ 2 (by omega) (by omega) (fun i j h3 h4=>by
    have:i=0:=by omega
    have:j=1:=by omega
    subst i j
    exact hlt) fun m' a b c=> ?_
   dsimp only
   rw[if_neg (by omega)]
   unfold kas_tail3
   rw[KasT.kasWp_bind]
   have hm':m'≤p.size:=by rw[hp.size];omega
   exact SH L hc hp.rev _ m' (by omega) (by omega) (c.rev hm') fun m2 h3 h4 h5 _=>h m2 _ (by omega) (by omega) hp.rev h5
theorem LG (L:LtOk n lt) (hc:∀i j (C:Bool→Shared→Prop),i<n→j<n→i≠j→C (lt i j) s→cmp i j C s) {p:Array Nat} (hp:PermN n p) {k:Nat} (hk:k<n) (hs:srt lt p k) {Q:Nat→Shared→Prop}
 (h:∀l',l'≤k→(∀i,i<l'→lt (p.getD i 0) (p.getD k 0)=true)→(∀i,l'≤i→i<k→lt (p.getD k 0) (p.getD i 0)=true)→Q l' s):
 ∀(f l r:Nat),l≤r→r≤k→r-l≤f→(∀i,i<l→lt (p.getD i 0) (p.getD k 0)=true)→(∀i,r≤i→i<k→lt (p.getD k 0) (p.getD i 0)=true)→(kas_place p k f l r).kasWp cmp Q s
 |0,l,r,h1,h2,h3,a,b=>h l (by omega) a fun i h4 h5=>b i (by omega) h5
 |f+1,l,r,h1,h2,h3,a,b=>by
  unfold kas_place
  by_cases e:l≥r
  ·rw[if_pos e]
   exact h l (by omega) a fun i h4 h5=>b i (by omega) h5
  ·rw[if_neg e]
   refine hc _ _ _ (hp.lt hk) (hp.lt (by omega)) (hp.inj hk (by omega) (by omega)) ?_
   cases q:lt (p.getD k 0) (p.getD ((l+r)/2) 0) with
   |true=>
    refine LG L hc hp hk hs h f l ((l+r)/2) (by omega) (by omega) (by omega) a fun i h4 h5=> ?_
    by_cases z:i=(l+r)/2
    ·rw[z];exact q
    ·exact L.tr _ _ _ q (hs _ _ (by omega) h5)
   |false=>
    have q':=L.tot _ _ (hp.lt hk) (hp.lt (by omega)) (hp.inj hk (by omega) (by omega)) q
    refine LG L hc hp hk hs h f ((l+r)/2+1) r (by omega) (by omega) (by omega) (fun i h4=> ?_) b
    by_cases z:i=(l+r)/2
    ·rw[z];exact q'
    ·exact L.tr _ _ _ (hs _ _ (by omega) (by omega)) q'
theorem U9 {p:Array Nat} {k l i:Nat} (hk:k<p.size) (hl:l≤k):(bubble p k (k-l)).getD i 0=if i=l then p.getD k 0 else if l<i∧i≤k then p.getD (i-1) 0 else p.getD i 0:=by
 rw[EI,getElem?_bubble hk _ (by omega),show k-(k-l)=l by omega]
 by_cases h1:i=l
 ·rw[if_pos h1,if_pos h1,EI]
 ·rw[if_neg h1,if_neg h1]
  by_cases h2:l<i∧i≤k
  ·rw[if_pos h2,if_pos h2,EI]
  ·rw[if_neg h2,if_neg h2,EI]
theorem YM (L:LtOk n lt) (hc:∀i j (C:Bool→Shared→Prop),i<n→j<n→i≠j→C (lt i j) s→cmp i j C s) {Q:Array Nat→Shared→Prop} (h:∀p',PermN n p'→srt lt p' n→Q p' s):
 ∀(f:Nat) (p:Array Nat) (k:Nat),PermN n p→k+f=n→srt lt p k→(kas_bin f p k).kasWp cmp Q s
 |0,p,k,hp,e,hs=>h p hp (by rw[←e];exact hs)
 |f+1,p,k,hp,e,hs=>by
  unfold kas_bin
  rw[KasT.kasWp_bind]
  refine LG L hc hp (by omega) hs (fun l hl a b=> ?_) k 0 k (Nat.zero_le _) (Nat.le_refl _) (by omega) (fun i z=>by omega) fun i z z'=>by omega
  have hk:k<p.size:=by rw[hp.size];omega
  refine YM L hc h f _ (k+1) ((bubble_perm _ _ _).trans hp) (by omega) fun i j hij hj=> ?_
  rw[U9 hk hl,U9 hk hl]
  by_cases i1:i=l
  ·rw[if_pos i1,if_neg (by omega),if_pos (by omega)]
   exact b _ (by omega) (by omega)
  ·rw[if_neg i1]
   by_cases j1:j=l
   ·rw[if_pos j1,if_neg (by omega)]
    exact a _ (by omega)
   ·rw[if_neg j1]
    by_cases i2:l<i∧i≤k
    ·rw[if_pos i2,if_pos (by omega)]
     exact hs _ _ (by omega) (by omega)
    ·rw[if_neg i2]
     by_cases j2:l<j∧j≤k
     ·rw[if_pos j2]
      exact hs _ _ (by omega) (by omega)
     ·rw[if_neg j2]
      exact hs _ _ (by omega) (by omega)
theorem bC (L:LtOk n lt) (hc:∀i j (C:Bool→Shared→Prop),i<n→j<n→i≠j→C (lt i j) s→cmp i j C s) (hn:2≤n) {Q:Array Nat→Shared→Prop} (h:∀p',PermN n p'→srt lt p' n→Q p' s):
 (kas_sort n).kasWp cmp Q s:=by
 unfold kas_sort
 rw[KasT.kasWp_bind]
 refine ZM L hc (.refl _) hn fun m p' h1 h2 h3 h4=> ?_
 dsimp only
 by_cases e:m<n
 ·rw[if_pos e]
  refine YM L hc h _ _ _ h3 (by omega) ?_
  rw[show max m 1=m by omega];exact h4
 ·rw[if_neg e]
  have:m=n:=by omega
  subst this
  exact h _ h3 h4
end
end ZT
set_option maxHeartbeats 1000000
namespace ZT
open PySem PySem.W PyProof.Rows
def XF (names:List Str) (i j:Nat):Bool:=decide ((names.getD i ⟨#[]⟩).cps.toList<(names.getD j ⟨#[]⟩).cps.toList)
theorem jR {names:List Str} (hn:names.Nodup):LtOk names.length (XF names) where
 tot i j hi hj e h:=by
  unfold XF at h⊢
  simp only[decide_eq_false_iff_not,decide_eq_true_eq]at h⊢
  have h1:=List.not_lt.mp h
  rcases List.le_iff_lt_or_eq.mp h1 with h2|h2
  ·exact h2
  ·exfalso
   apply e
   have e1:names.getD i ⟨#[]⟩=names[i]:=by simp[hi]
   have e2:names.getD j ⟨#[]⟩=names[j]:=by simp[hj]
   rw[e1,e2]at h2
   have h3:names[j]=names[i]:=by
    have:names[j].cps=names[i].cps:=Array.toList_inj.mp h2
    cases q1:names[j];cases q2:names[i];rw[q1,q2]at this;congr
   exact((List.getElem_inj hn).mp h3).symm
 tr i j k h1 h2:=by
  unfold XF at*
  simp only[decide_eq_true_eq]at*
  exact List.lt_trans h1 h2
section
variable {prog:Program} {w:World} {A:Around} {E:Value→Shared→Prop} {s:Shared}
def Prs (h:Heap) (as:List Addr) (names:List Str):Prop:=as.length=names.length∧∀(i:Nat) (x:Addr),as[i]? =some x→∃t y o c,h.get? x=some o∧o.cls= .type "tuple"∧o.data= .seq #[.str (names.getD i ⟨#[]⟩) t,y] c
theorem Prs.keeps {h h':Heap} {as:List Addr} {names:List Str} (p:Prs h as names) (k:∀b o,b∈as→h.get? b=some o→h'.get? b=some o):Prs h' as names:=⟨p.1,fun i x hx=>by
 obtain⟨t,y,o,c,e,r⟩:=p.2 i x hx
 exact⟨t,y,o,c,k x o (List.mem_of_getElem? hx) e,r⟩⟩
theorem MZ {h:Heap}:∀(as:List Addr),(∀x∈as,∃z t y o c,h.get? x=some o∧o.cls= .type "tuple"∧o.data= .seq #[.str z t,y] c)→∃fs:List Value,KatTups h (as.map Value.ref) fs∧fs.length=as.length∧∀f∈fs,∃z t,f=Value.str z t
 |[],_=>⟨[],trivial,rfl,fun _ h=>nomatch h⟩
 |a::as,h=>by
  obtain⟨fs,h1,h2,h3⟩:=MZ as fun x hx=>h x (List.mem_cons_of_mem _ hx)
  obtain⟨z,t,y,o,c,e1,e2,e3⟩:=h a List.mem_cons_self
  refine⟨.str z t::fs,⟨⟨a,o,_,c,rfl,e1,e2,e3,rfl⟩,h1⟩,by simp[h2],fun f hf=> ?_⟩
  rcases List.mem_cons.mp hf with rfl|hf
  ·exact⟨z,t,rfl⟩
  ·exact h3 f hf
theorem Y3 {as:List Addr} {names:List Str} {Q:SortKind→Shared→Prop} (p:Prs s.heap as names) (h2:2≤names.length) (h:Q (tuples' true) s):wpAny (model prog w) A (keyKind' (as.map Value.ref).toArray) Q E s:=by
 obtain⟨fs,h1,hl,h3⟩:=MZ as fun x hx=>by
  obtain⟨i,hi⟩:=List.getElem?_of_mem hx
  obtain⟨t,y,o,c,r⟩:=p.2 i x hi
  exact⟨_,t,y,o,c,r⟩
 have:=kat_kind (M:=model prog w) (A:=A) (E:=E) (s:=s) (T:= .type "str") (Q:=Q) h1 (by rw[hl,p.1];omega) (fun v hv=>by
  obtain⟨z,t,rfl⟩:=h3 v hv
  exact Looks.of_pure rfl) (by decide) h
 exact this
theorem iP {as:List Addr} {names:List Str} (hn:names.Nodup) (p:Prs s.heap as names) (i j:Nat) (C:Bool→Shared→Prop) (hi:i<names.length) (hj:j<names.length) (hne:i≠j) (h:C (XF names i j) s):
 kas_ask prog w A (tuples' true) (as.map Value.ref) i j C s:=by
 have hi':i<as.length:=by rw[p.1];exact hi
 have hj':j<as.length:=by rw[p.1];exact hj
 obtain⟨t,y,o,c,e1,e2,e3⟩:=p.2 i as[i] (List.getElem?_eq_getElem hi')
 obtain⟨t',y',o',c',f1,f2,f3⟩:=p.2 j as[j] (List.getElem?_eq_getElem hj')
 unfold kas_ask
 rw[show(as.map Value.ref).getD i Value.none= .ref as[i] by simp[hi'],show(as.map Value.ref).getD j Value.none= .ref as[j] by simp[hj']]
 refine kat_lt e1 e3 f1 f3 ?_
 have hd:(names.getD i ⟨#[]⟩)≠(names.getD j ⟨#[]⟩):=by
  rw[show names.getD i ⟨#[]⟩=names[i] by simp[hi],show names.getD j ⟨#[]⟩=names[j] by simp[hj]]
  exact fun z=>hne ((List.getElem_inj hn).mp z)
 refine kat_cons (wpAny_eqBool_str ?_)
 rw[decide_eq_false hd]
 exact kat_no (oneLt_str h)
theorem VP (vs:List Value):(List.range vs.length).map (fun i=>vs.getD i Value.none)=vs:=by
 apply List.ext_getElem (by simp)
 intro i h1 h2
 simp[h2]
theorem ZK {a:Addr} {as:List Addr} {names:List Str} {n:Nat} {P:PySem.Fin→Shared→Prop} (ho:s.heap.get? a=some (seqObj "list" (as.map Value.ref).toArray n)) (hp:Prs s.heap as names) (hn:names.Nodup) (h64:names.length<64) (hax:a∉as)
 (h:∀p:Array Nat,PermN names.length p→srt (XF names) p names.length→P (.done (.ret .none)) {s with heap:=sortedHeap s.heap a (as.map Value.ref) (List.toArray (p.toList.map fun i=>(as.map Value.ref).getD i Value.none))}):
 wpAny (model prog w) A (Builtin.«list.sort» ⟨[.ref a],[]⟩) P E s:=by
 have hlv:(as.map Value.ref).length=names.length:=by rw[List.length_map,hp.1]
 rw[list_sort_plain]
 have ha:a<s.heap.objs.size:=Heap.lt_size ho
 refine wpAny_bind (listItems_at ho rfl ?_)
 refine wpAny_bind (listUpdate_at ho rfl ?_ (by rw[List.size_toArray,hlv,sizeLine_eq];omega) (Nat.zero_le _))
 obtain⟨e1,ho1⟩:∃e1,(s.heap.update a (Obj.mapSeq fun _=> #[])).get? a=some (seqObj "list" #[] e1):=⟨_,get?_update_seq ho (fun _=> #[])⟩
 refine wpAny_bind (seqEpoch_at ho1 rfl ?_)
 refine wpAny_bind (wpAny_newTuple ?_ (by show(as.map Value.ref).length≤_;rw[hlv,sizeLine_eq];omega))
 refine wpAny_bind (wpAny_newList ?_ (Nat.zero_le _))
 refine wpAny_holding ?_
 have ho6:(((s.heap.update a (Obj.mapSeq fun _=> #[])).push (seqObj "tuple" (as.map Value.ref).toArray 0)).push (seqObj "list" #[] 0)).get? a=some (seqObj "list" #[] e1):=by
  rw[Heap.get?_push_ne _ _ _ (by rw[size_push',Heap.size_update];exact Nat.ne_of_lt (Nat.lt_succ_of_lt ha)),Heap.get?_push_ne _ _ _ (by rw[Heap.size_update];exact Nat.ne_of_lt ha)]
  exact ho1
 have hp6:Prs (((s.heap.update a (Obj.mapSeq fun _=> #[])).push (seqObj "tuple" (as.map Value.ref).toArray 0)).push (seqObj "list" #[] 0)) as names:=hp.keeps fun b o hb e=>by
  have hba:b≠a:=fun z=>hax (z▸hb)
  exact Heap.get?_push_of_some _ (Heap.get?_push_of_some _ ((Heap.get?_update_other _ _ (Ne.symm hba)).trans e))
 show wpAny (model prog w) A _ P E {s with heap:=((s.heap.update a (Obj.mapSeq fun _=> #[])).push (seqObj "tuple" (as.map Value.ref).toArray 0)).push (seqObj "list" #[] 0)}
 dsimp only
 by_cases h2:(as.map Value.ref).toArray.size<2
 ·rw[if_pos h2,if_pos h2]
  refine wpAny_bind (wpAny_pure ?_)
  rw[StateT.run_pure]
  refine wpAny_bind (wpAny_pure ?_)
  dsimp only
  refine wpAny_bind (seqEpoch_at ho6 rfl ?_)
  have hq:(arrOf (SortSt.mk' general' ((as.map Value.ref).toArray.zip (as.map Value.ref).toArray) #[] 7 none)).map (·.2)=List.toArray ((List.toArray (List.range names.length)).toList.map fun i=>(as.map Value.ref).getD i Value.none):=by
   rw[←hlv]
   show((as.map Value.ref).toArray.zip (as.map Value.ref).toArray).map (·.2)=List.toArray ((List.range (as.map Value.ref).length).map fun i=>(as.map Value.ref).getD i Value.none)
   rw[VP]
   apply Array.toList_inj.mp
   simp[List.map_snd_zip]
  rw[hq]
  refine wpAny_bind (listUpdate_at ho6 rfl ?_ (hsz2:=by rw[List.size_toArray,List.length_map];simp only[List.length_range];rw[sizeLine_eq];omega))
  simp only[bne_self_eq_false,Bool.false_eq_true,if_false]
  refine wpAny_pure (h _ (.refl _) fun i j hij hj=> ?_)
  rw[List.size_toArray,hlv]at h2
  omega
 ·rw[if_neg h2,if_neg h2]
  rw[List.size_toArray,hlv]at h2
  refine wpAny_bind (Y3 hp6 (by omega) ?_)
  refine wpAny_bind (wpAny_mono (kat_run (κ:=tuples' true) (ks:=as.map Value.ref) (vs:=as.map Value.ref) (Q:=fun st' s'=>s'={s with heap:=((s.heap.update a (Obj.mapSeq fun _=> #[])).push (seqObj "tuple" (as.map Value.ref).toArray 0)).push (seqObj "list" #[] 0)}∧∃p:Array Nat,PermN names.length p∧srt (XF names) p names.length∧arrOf st'=p.map (kas_item ((as.map Value.ref).toArray.zip (as.map Value.ref).toArray))∧failedOf st'=none)
   (G:=fun p s'=>s'={s with heap:=((s.heap.update a (Obj.mapSeq fun _=> #[])).push (seqObj "tuple" (as.map Value.ref).toArray 0)).push (seqObj "list" #[] 0)}∧PermN names.length p∧srt (XF names) p names.length)
   rfl (by rw[hlv];omega) (by rw[hlv];exact h64) (fun p st' s' _ b c g=>⟨g.1,p,g.2.1,g.2.2,b,c⟩) ?_) ?_ fun _ _ e=>e)
  ·rw[hlv]
   exact bC (jR hn) (fun i j C hi hj hne hC=>iP hn hp6 i j C hi hj hne hC) (by omega) fun p' a1 a2=>⟨rfl,a1,a2⟩
  ·rintro⟨⟨⟩,st'⟩ s' ⟨rfl,p,hP,hS,har,hf⟩
   dsimp only
   rw[kat_snds rfl har]
   refine wpAny_bind (seqEpoch_at ho6 rfl ?_)
   refine wpAny_bind (listUpdate_at ho6 rfl ?_ (hsz2:=by rw[List.size_toArray,List.length_map,Array.length_toList,hP.size,sizeLine_eq];omega))
   rw[hf]
   simp only[bne_self_eq_false,Bool.false_eq_true,if_false]
   exact wpAny_pure (h p hP hS)
open L2 in
theorem QR {r d:Addr} {kvs:List (AI×Value)} {ep:Nat} {names:List Str} {Q:Value→Shared→Prop} (hh:A.handled=none) (hv:s.heap.IsItemsView r d) (hm:s.heap.DictAt (AW prog w) d kvs ep) (hk:kvs.map (·.1)=names.map Sum.inr) (h64:kvs.length<64)
 (h:∀(h':Heap) (tk:Nat) (D:Addr) (as:List Addr) (p:Array Nat) (c:Nat),(∀b o,s.heap.get? b=some o→h'.get? b=some o)→s.heap.get? D=none→as.length=kvs.length→KdxG (AW prog w) kvs s.heap.objs.size h' as→D∉as→PermN kvs.length p→srt (XF names) p kvs.length→
   h'.get? D=some (seqObj "list" (List.toArray (p.toList.map fun i=>(as.map Value.ref).getD i Value.none)) c)→Q (.ref D) {s with heap:=h',toks:=tk}):
 wpAny (model prog w) A (call (.builtin "sorted") [.ref r]) Q E s:=by
 have hln:kvs.length=names.length:=by simpa using congrArg List.length hk
 have hnd:names.Nodup:=by
  have:=hm.nodup
  rw[hk]at this
  exact(List.Pairwise.of_map (f:=Sum.inr) (fun a b h z=>h (by rw[z])) this)
 refine Calls.call_function_entry kind_sorted plain_sorted entry_sorted (args_sorted1 _) ?_
 unfold Builtin.«sorted»
 refine wpAny_bind (m:=checkCount "sorted" 1 1 _) (wpAny_pure ?_)
 refine wpAny_bind (kdx_collect (knd:=AW prog w) (kvs:=kvs) (ep:=ep) hh hv hm (by rw[sizeLine_eq];omega) fun h1 tk as hk1 hl hG=> ?_)
 refine wpAny_bind (wpAny_newList ?_ (by rw[List.length_map,hl,sizeLine_eq];omega))
 have hoL:(h1.push (seqObj "list" (as.map Value.ref).toArray 0)).get? h1.objs.size=some (seqObj "list" (as.map Value.ref).toArray 0):=Heap.get?_push_size _ rfl
 have hlow:∀b∈as,b<h1.objs.size:=fun b hb=>hG.there hb
 have hDas:h1.objs.size∉as:=fun z=>Nat.lt_irrefl _ (hlow _ z)
 have hPrs:Prs (h1.push (seqObj "list" (as.map Value.ref).toArray 0)) as names:=⟨by rw[hl,hln],fun i x hx=>by
  obtain⟨key,k,y,e1,e2,e3⟩:=hG.pairs i x hx
  have hi:i<names.length:=by rw[←hln];exact(List.getElem?_eq_some_iff.mp e1).1
  have ek:k=Sum.inr (names.getD i ⟨#[]⟩):=by
   have:=congrArg (fun l=>l[i]?) hk
   simp only[List.getElem?_map,e1,Option.map_some]at this
   rw[List.getElem?_eq_getElem hi]at this
   have e4:k=Sum.inr names[i]:=by simpa using this
   rw[e4];simp[hi]
  subst ek
  rcases B9 (k:=Sum.inr (names.getD i ⟨#[]⟩)) (v:=key) e2 with⟨j,t,e,_⟩|⟨z,t,e,rfl⟩
  ·cases e
  ·cases e
   exact⟨t,y,_,_,Heap.get?_push_of_some _ e3,rfl,rfl⟩⟩
 have hDn:s.heap.get? h1.objs.size=none:=by
  cases q:s.heap.get? h1.objs.size with
  |none=>rfl
  |some o=>exact absurd (Heap.lt_size (hk1 _ _ q)) (Nat.lt_irrefl _)
 refine wpAny_bind (wpAny_holding (wpAny_call_entry slot_list_sort ⟨_,hoL,rfl⟩ entry_list_sort (ZK hoL hPrs hnd (by rw[←hln];exact h64) hDas fun p hp hs=>⟨_,rfl,?_⟩) (args_list_sort _)))
 refine wpAny_pure ⟨_,rfl,?_⟩
 have hst:∀b o,b≠h1.objs.size→h1.get? b=some o→(sortedHeap (h1.push (seqObj "list" (as.map Value.ref).toArray 0)) h1.objs.size (as.map Value.ref) (List.toArray (p.toList.map fun i=>(as.map Value.ref).getD i Value.none))).get? b=some o:=fun b o hb e=>by
  unfold sortedHeap
  refine(Heap.get?_update_other _ _ (Ne.symm hb)).trans (Heap.get?_push_of_some _ (Heap.get?_push_of_some _ ((Heap.get?_update_other _ _ (Ne.symm hb)).trans (Heap.get?_push_of_some _ e))))
 obtain⟨e1,ho1⟩:∃e1,((h1.push (seqObj "list" (as.map Value.ref).toArray 0)).update h1.objs.size (Obj.mapSeq fun _=> #[])).get? h1.objs.size=some (seqObj "list" #[] e1):=⟨_,get?_update_seq hoL (fun _=> #[])⟩
 have ho6:((((h1.push (seqObj "list" (as.map Value.ref).toArray 0)).update h1.objs.size (Obj.mapSeq fun _=> #[])).push (seqObj "tuple" (as.map Value.ref).toArray 0)).push (seqObj "list" #[] 0)).get? h1.objs.size=some (seqObj "list" #[] e1):=Heap.get?_push_of_some _ (Heap.get?_push_of_some _ ho1)
 rw[←hln]at hp hs
 exact h _ tk h1.objs.size as p _ (fun b o e=>hst b o (Nat.ne_of_lt (Heap.lt_size (hk1 b o e))) (hk1 b o e)) hDn hl ⟨hG.rise,hG.above,fun j a hj=>by
  obtain⟨key,k,x,e1,e2,e3⟩:=hG.pairs j a hj
  exact⟨key,k,x,e1,e2,hst a _ (Nat.ne_of_lt (Heap.lt_size e3)) e3⟩⟩ hDas hp hs (get?_update_seq ho6 _)
end
end ZT
set_option maxHeartbeats 1000000
namespace ZT
open PySem PySem.W PyProof.Rows
section
variable {prog:Program} {w:World} {A:Around} {E:Value→Shared→Prop} {s:Shared}
theorem KD {T:String} {r d:Addr} {n:Nat} {P:Nat→Value→Prop} {OK:Heap→Prop} {R:List Value→Shared→Prop} (K:KdlSrc prog w T r d n P OK) (hh:A.handled=none) (hok:OK s.heap) (hn:n≤sizeLine)
 (h:∀(h':Heap) (tk:Nat) (acc:Array Value),(∀b o,s.heap.get? b=some o→h'.get? b=some o)→ItemsOf P acc n→R acc.toList {s with heap:=h',toks:=tk}):
 wpAny (model prog w) A (collect (.ref r)) R E s:=by
 have hlt:=K.there _ hok
 unfold collect
 refine wpAny_bind (wpAny_runValue (codeAny_builtin entry_proto_collect' ?_))
 rw[Around.under_plainId PySem.F.plain_proto_collect _]
 show wpAny _ A.in1 (newList []>>=fun l=>again (.builtin "list.__iadd__" ⟨[l, .ref r],[]⟩)) _ _ s
 refine wpAny_bind (wpAny_newObj_type ?_)
 refine wpAny_pure ⟨plainId_quiet PySem.F.plain_list_iadd _,codeAny_builtin entry_list_iadd' ?_⟩
 rw[Around.under_plainId PySem.F.plain_list_iadd _]
 have hS₁:(s.heap.push {cls:= .type "list",data:= .seq ([]:List Value).toArray}).get? s.heap.objs.size=some {cls:= .type "list",data:= .seq #[]}:=Heap.get?_push_size _ rfl
 show wpAny _ A.in1 (Builtin.List.listExtendWith (.ref s.heap.objs.size) (.ref r) (.ref s.heap.objs.size)) _ _ _
 have key:=kdl_extend (A:=A) (s:={s with heap:=s.heap.push {cls:= .type "list",data:= .seq ([]:List Value).toArray}}) K
  (R:=fun(q:Result) (s':Shared)=>∃(h':Heap) (tk:Nat) (acc':Array Value) (c':Nat),q= .ok (.ret (.ref s.heap.objs.size))∧s'={s with heap:=h',toks:=tk}∧
    (∀b o,s.heap.get? b=some o→h'.get? b=some o)∧h'.get? s.heap.objs.size=some {cls:= .type "list",dict:=none,data:= .seq acc' c',slots:= #[]}∧ItemsOf P acc' n)
  hh (K.keep _ _ hok fun b _ o e=>Heap.get?_push_of_some _ e) s.heap.objs.size (Nat.ne_of_gt hlt.1) (Nat.ne_of_gt hlt.2) (.ref s.heap.objs.size) 0 hS₁
  (fun h' tk acc' c' hk hS' hacc=>⟨h',tk,acc',c',rfl,rfl,fun b o e=>hk b o (Nat.ne_of_lt (Heap.lt_size e)) (Heap.get?_push_of_some _ e),hS',hacc⟩) hn
 refine wpAny_mono key (fun fin s' x=> ?_) fun e s' x=> ?_
 ·cases fin with
  |done f=>
   obtain⟨h',tk,acc',c',e,rfl,hk,hS',hacc⟩:=x
   cases e
   show wpAny _ A (load s.heap.objs.size>>=_) _ _ _
   refine wpAny_bind (wpAny_load hS' ?_)
   exact wpAny_pure (h h' tk acc' hk hacc)
  |again c₁=>
   refine⟨x.1,codeAny_mono x.2 fun q s₂ y=> ?_⟩
   obtain⟨h',tk,acc',c',rfl,rfl,hk,hS',hacc⟩:=y
   show wpAny _ A (load s.heap.objs.size>>=_) _ _ _
   refine wpAny_bind (wpAny_load hS' ?_)
   exact wpAny_pure (h h' tk acc' hk hacc)
 ·obtain⟨_,_,_,_,e',_⟩:=x
  cases e'
open L2 in
theorem QJ {d:Addr} {kvs:List (AI×Value)} {ep:Nat} {names:List Str} {Q:Value→Shared→Prop} (hh:A.handled=none) (lo:(d==sysModules)=false) (hm:s.heap.DictAt (AW prog w) d kvs ep) (hk:kvs.map (·.1)=names.map Sum.inr) (h64:kvs.length<64)
 (h:∀(h':Heap) (tk:Nat) (D:Addr) (out:Array Value) (ss':List Str) (c:Nat),(∀b o,s.heap.get? b=some o→h'.get? b=some o)→s.heap.get? D=none→StrsAre out.toList ss'→ss'.Perm names→sortedS ss'=true→h'.get? D=some (seqObj "list" out c)→Q (.ref D) {s with heap:=h',toks:=tk}):
 wpAny (model prog w) A (call (.builtin "sorted") [.ref d]) Q E s:=by
 have hln:kvs.length=names.length:=by simpa using congrArg List.length hk
 refine Calls.call_function_entry kind_sorted plain_sorted entry_sorted (args_sorted1 _) ?_
 unfold Builtin.«sorted»
 refine wpAny_bind (m:=checkCount "sorted" 1 1 _) (wpAny_pure ?_)
 refine wpAny_bind (KD (kdl_dict (knd:=AW prog w) (kvs:=kvs) (ep:=ep) lo) hh hm (by rw[sizeLine_eq];omega) fun h1 tk acc hk1 hacc=> ?_)
 have hS:StrsAre acc.toList names:=by
  have hl:acc.toList.length=names.length:=by rw[Array.length_toList,hacc.1,hln]
  have hi:∀(i:Nat) (v:Value),acc.toList[i]? =some v→∃t,v= .str (names.getD i ⟨#[]⟩) t:=fun i v e=>by
   obtain⟨k,x,e1,e2⟩:=hacc.2 i v (by rw[←Array.getElem?_toList];exact e)
   have hi:i<names.length:=by rw[←hln];exact(List.getElem?_eq_some_iff.mp e1).1
   have ek:k=Sum.inr (names.getD i ⟨#[]⟩):=by
    have:=congrArg (fun l=>l[i]?) hk
    simp only[List.getElem?_map,e1,Option.map_some]at this
    rw[List.getElem?_eq_getElem hi]at this
    have e4:k=Sum.inr names[i]:=by simpa using this
    rw[e4];simp[hi]
   subst ek
   rcases B9 (k:=Sum.inr (names.getD i ⟨#[]⟩)) (v:=v) e2 with⟨j,t,e',_⟩|⟨z,t,e',e3⟩
   ·cases e'
   ·cases e';exact⟨t,e3⟩
  clear hacc hk hln h
  generalize acc.toList=vs at hl hi
  induction vs generalizing names with
  |nil=>
   cases names with
   |nil=>exact .nil
   |cons _ _=>simp at hl
  |cons v vs ih=>
   cases names with
   |nil=>simp at hl
   |cons z names=>
    obtain⟨t,rfl⟩:=hi 0 v rfl
    exact .cons _ t (ih (by simpa using hl) fun i v e=>by simpa using hi (i+1) v (by simpa using e))
 have hlv:acc.toList.length=names.length:=by rw[Array.length_toList,hacc.1,hln]
 refine wpAny_bind (wpAny_newList ?_ (by rw[hlv,sizeLine_eq];omega))
 have hoL:(h1.push (seqObj "list" acc.toList.toArray 0)).get? h1.objs.size=some (seqObj "list" acc.toList.toArray 0):=Heap.get?_push_size _ rfl
 have hDn:s.heap.get? h1.objs.size=none:=by
  cases q:s.heap.get? h1.objs.size with
  |none=>rfl
  |some o=>exact absurd (Heap.lt_size (hk1 _ _ q)) (Nat.lt_irrefl _)
 refine wpAny_bind (wpAny_holding (wpAny_call_entry slot_list_sort ⟨_,hoL,rfl⟩ entry_list_sort (list_sort_treeK strKind_oneLt hoL hS.keysOf (fun v₁ v₂ rest e=>keyKind_strs (by rw[←e];exact hS)) (by rw[hlv,←hln];exact h64) fun st' hp hs=>⟨_,rfl,?_⟩) (args_list_sort _)))
 refine wpAny_pure ⟨_,rfl,?_⟩
 obtain⟨ss',h2,h3,h4⟩:=sorted_out_str hS hp hs
 obtain⟨e1,ho1⟩:∃e1,((h1.push (seqObj "list" acc.toList.toArray 0)).update h1.objs.size (Obj.mapSeq fun _=> #[])).get? h1.objs.size=some (seqObj "list" #[] e1):=⟨_,get?_update_seq hoL (fun _=> #[])⟩
 have ho6:((((h1.push (seqObj "list" acc.toList.toArray 0)).update h1.objs.size (Obj.mapSeq fun _=> #[])).push (seqObj "tuple" acc.toList.toArray 0)).push (seqObj "list" #[] 0)).get? h1.objs.size=some (seqObj "list" #[] e1):=Heap.get?_push_of_some _ (Heap.get?_push_of_some _ ho1)
 refine h _ tk h1.objs.size _ ss' _ (fun b o e=> ?_) hDn h2 h3 h4 (get?_update_seq ho6 _)
 have hb:b≠h1.objs.size:=Nat.ne_of_lt (Heap.lt_size (hk1 b o e))
 unfold sortedHeap
 exact(Heap.get?_update_other _ _ (Ne.symm hb)).trans (Heap.get?_push_of_some _ (Heap.get?_push_of_some _ ((Heap.get?_update_other _ _ (Ne.symm hb)).trans (Heap.get?_push_of_some _ (hk1 b o e)))))
end
end ZT
namespace L2
open PySem PySem.Spec PyProof.Rows
theorem ObjOk.is {P:Program} {w:World} {H:Hp} {h:Heap} {a:Addr} {o:HO} (x:ObjOk P w H h a o):∃ob,h.get? a=some ob:=by
 cases o with
 |lst xs=>obtain⟨_,_,_,_,e⟩:=x;exact⟨_,e⟩
 |tup xs=>obtain⟨_,_,_,ob,e,_⟩:=x;exact⟨_,e⟩
 |dK kvs=>obtain⟨_,_,_,_,o,_,_,e,_⟩:=x;exact⟨_,e⟩
 |dT kvs=>obtain⟨_,_,_,_,o,_,_,e,_⟩:=x;exact⟨_,e⟩
 |set S n=>obtain⟨o,_,_,_,e,_⟩:=x;exact⟨_,e⟩
 |ins C dx fs=>obtain⟨_,_,_,e,_⟩:=x;exact⟨_,e⟩
 |own y=>exact x
 |xd fs=>obtain⟨_,⟨_,_,_,e,_⟩,_⟩:=x;exact⟨_,e⟩
 |rng lo hi=>obtain⟨_,_,_,e⟩:=x;exact⟨_,e⟩
 |frz ob u=>obtain⟨e,_⟩:=x;exact⟨_,e⟩
 |tbl ps=>exact⟨_,(show h.get? a=some _ from x)⟩
 |met f y=>exact⟨_,(show h.get? a=some _ from x)⟩
 |ext φ=>obtain⟨_,e,_⟩:=x;exact e
section
variable {X:Cx} {pins:List (Addr×Obj)} {σ:St} {H H':Hp} {s:Shared} {h':Heap}
theorem Inv.none_at (I:Inv X pins σ H s) {b:Addr} (e:s.heap.get? b=none):H b=none:=by
 cases q:H b with
 |none=>rfl
 |some u=>
  obtain⟨ob,h1⟩:=(I.hok b u q).is
  rw[e]at h1;cases h1
theorem Inv.laids {t':Nat} (I:Inv X pins σ H s) (k:∀b o,s.heap.get? b=some o→h'.get? b=some o) (sm:Same H H') (nw:∀b u,H' b=some u→H b=some u∨(s.heap.get? b=none∧ObjOk X.prog X.w H' h' b u)):
 Inv X pins σ H' {s with heap:=h',toks:=t'}:=by
 refine I.call (g':=s.gens) (d':=s.drawn) (ch:=[]) ⟨fun b o e _ _ _=>k b o e,fun b o e _ _ _=>⟨o.slots,k b o e⟩,fun b o e n _=> ?_,fun b o e _=>⟨o,k b o e⟩,fun b ys q=>sm _ _ q,fun b u ys q=>sm _ _ q,fun b ps q=>⟨#[],by rw[sm _ _ q];simp⟩⟩ (fun b u e=> ?_) I.bare fun b hb=>by cases hb
 ·cases q:H' b with
  |none=>rfl
  |some u=>
   rcases nw b u q with z|⟨z,_⟩
   ·rw[n]at z;cases z
   ·rw[e]at z;cases z
 ·rcases nw b u e with z|z
  ·exact(I.hok b u z).stay (fun c v _ q=>k c v q) (fun c q=>sm _ _ q) fun c ys q=>sm _ _ q
  ·exact z.2
end
section
variable {X:Cx} {K:PySem.W.Frag} {pos:Pos}
theorem Y4 {α:Pl} {h:A7} {H:Hp} {p:Addr} {kvs:List (AI×M)} {ws:List (AI×V)} (hr:Rl K α h H) (hp:H p=none) (rs:RepD K α H kvs ws):RepA K α (upd H p (.dK ws)) (.dct (kvs.map (·.1)) (kvs.map (·.2))) (.ref p):=
 ⟨p,ws,rfl,hr.new hp, .inl AH,rs.1,rs.2.ev (.same (AX hp _))⟩
theorem SL {α:Pl} {h:A7} {H:Hp} {l:Addr} {kvs:List (AI×M)} {ws:List (AI×V)} {Q:VK} (hr:Rl K α h H) (hl:H l=none) (rs:RepD K α H kvs ws) (k:∀α' H' w,Ev α α' H H'→Rl K α' (h++[.dct kvs]) H'→RepA K α' H' (.ref h.length) w→Q w H'):Q (.ref l) (upd H l (.dK ws)):=by
 have ea:Ev α (α.add l) H (upd H l (.dK ws)):= .alloc hl
 exact k (α.add l) _ _ ea (hr.alloc hl ⟨ws,AH,rs.1,rs.2.ev ea⟩) ⟨l,by rw[←hr.len];simp[Pl.add],rfl⟩
def X3:FE:=fun _ h=>some (.dct [] [],h)
def IT:FE:=fun _ h=>some (.ref h.length,h++[.dct []])
theorem e8:PE X (.Dict [] [] pos) (tM X.K X3):=QV.imp fun σ H Q ⟨α,ρ,h,d,h',hσ,hr,e,k⟩=>by
 cases e
 intro p hp
 exact k α _ _ (.same (AX hp _)) (hr.same (AX hp _)) (Y4 hr hp .nil)
theorem GJ:PE X (.Dict [] [] pos) (tM X.K IT):=QV.imp fun σ H Q ⟨α,ρ,h,d,h',hσ,hr,e,k⟩=>by
 cases e
 intro p hp
 exact SL hr hp .nil k
def eJ (x y v:M) (h:A7):Option A7:=match x,E9 y with
 | .ref k,some key=>(match h[k]?with|some (.dct kvs)=>if kvs.length<16777216 then some (h.set k (.dct (FY kvs key v))) else none|_=>none)
 |_,_=>none
theorem WY {x y v:M} {h h':A7} (e:eJ x y v h=some h'):∃k key kvs,x= .ref k∧E9 y=some key∧h[k]? =some (.dct kvs)∧kvs.length<16777216∧h'=h.set k (.dct (FY kvs key v)):=by
 unfold eJ at e
 split at e
 ·rename_i k key hk
  split at e
  ·rename_i kvs hkv
   split at e
   ·rename_i hl
    cases e
    exact⟨k,key,kvs,rfl,hk,hkv,hl,rfl⟩
   ·cases e
  ·cases e
 ·cases e
def GC (md mi mv:FE):FS:=fun ρ h=>bnd (mv ρ h) fun v h1=>bnd (md ρ h1) fun x h2=>bnd (mi ρ h2) fun y h3=>(eJ x y v h3).map fun h4=>(.nx ρ,h4)
theorem ED {o i value:Expr} {mo mi mv:FE} {pos':Pos} (hu:X.A.units+1<cLine) (ho:PE X o (tM X.K mo)) (hi:PE X i (tM X.K mi)) (hv:PE X value (tM X.K mv)) (hs:swapsWith value (some (.Subscript o i pos')) pos.line X.env=pure false):
 PS X (.Assign [.Subscript o i pos'] value pos) (sM X.K (GC mo mi mv)):=(dM hu ho hi hv hs).imp fun D σ H ⟨α,ρ,h,d,h',hσ,hr,e,k⟩=>by
 obtain⟨v,h1,e1,e⟩:=A6 e
 obtain⟨x,h2,e2,e⟩:=A6 e
 obtain⟨y,h3,e3,e⟩:=A6 e
 obtain⟨h4,e4,e5⟩:=Option.map_eq_some_iff.mp e
 cases e5
 refine⟨α,ρ,h,v,h1,hσ,hr,e1,fun α1 H1 uv ev1 hr1 rv=>⟨α1,ρ,h1,x,h2,hσ.ev ev1,hr1,e2,fun α2 H2 ux ev2 hr2 rx=>⟨α2,ρ,h2,y,h3,(hσ.ev ev1).ev ev2,hr2,e3,fun α3 H3 uy ev3 hr3 ry=> ?_⟩⟩⟩
 obtain⟨q,key,kvs,rfl,e6,e7,hl,rfl⟩:=WY e4
 obtain⟨a,ha,rfl⟩:=rx.ev ev3
 obtain⟨ws,hw,r1,r2⟩:=hr3.obj q a _ ha e7
 cases(DB e6 ry)
 have hlw:ws.length<sizeLine:=by
  have:=congrArg List.length r1
  simp only[List.length_map]at this
  rw[this,sizeLine_eq];exact hl
 have rD:RepD X.K α3 H3 kvs ws:=⟨r1,r2⟩
 have ev4:Ev α3 α3 H3 (upd H3 a (.dK (G3 ws key uv))):=Ev.write hr3 (List.mem_of_getElem? ha) (m7 hw)
 have rD':=(rD.put (k:=key) ((rv.ev ev2).ev ev3)).ev ev4
 exact⟨a,_,rfl,DPut.k hw hlw,k α3 _ (((ev1.trans ev2).trans ev3).trans ev4) (hr3.write ha ⟨_,AH,rD'.1,rD'.2⟩ (m7 hw)) σ (((hσ.ev ev1).ev ev2).ev ev3|>.ev ev4)⟩
end
section
variable {X:Cx} {K:PySem.W.Frag}
def S5 (K:PySem.W.Frag) (H:Hp) (ps:List V) (ws:List (AI×V)):Prop:=ps.length=ws.length∧∀(i:Nat) (v:V),ps[i]? =some v→∃b w,v= .ref b∧ws[i]? =some w∧GD K H b [kV w.1,w.2]
theorem LT {pins:List (Addr×Obj)} {σ:St} {H:Hp} {s:Shared} (I:Inv X pins σ H s):∀{ps:List V} {ws:List (AI×V)} {its:List Value},S5 X.K H ps ws→Vals ps its→∃kvs:List (AI×Value),KV ws kvs∧kvs.length=its.length∧
 ∀(i:Nat) (v:Value),its[i]? =some v→∃a key x k o c,v= .ref a∧kvs[i]? =some (k,x)∧(AW X.prog X.w).is k key=true∧s.heap.get? a=some o∧o.cls= .type "tuple"∧o.data= .seq #[key,x] c:=by
 intro ps
 induction ps with
 |nil=>
  intro ws its h r
  cases r
  have:ws=[]:=List.length_eq_zero_iff.mp h.1.symm
  subst this
  exact⟨[], .nil,rfl,fun i v e=>by simp at e⟩
 |cons p ps ih=>
  intro ws its h r
  cases r with
  |cons r0 rr=>
   rename_i u its
   cases ws with
   |nil=>exact absurd h.1 (by simp)
   |cons w ws=>
    obtain⟨b,w',rfl,e1,sq⟩:=h.2 0 p rfl
    cases(show w=w' by simpa using e1)
    obtain⟨kvs,h1,h2,h3⟩:=ih (ws:=ws) (its:=its) ⟨by simpa using h.1,fun i v e=>by simpa using h.2 (i+1) v (by simpa using e)⟩ rr
    obtain⟨ys,rv,ht,hz⟩:=I.tuple sq
    obtain⟨key,x,rfl,rk,rx⟩:=NH rv
    obtain⟨o,ho,hc,n,hd⟩:=ht
    refine⟨(w.1,x)::kvs, .cons ⟨rfl,rx⟩ h1,by simp[h2],fun i v e=> ?_⟩
    cases i with
    |zero=>
     have e':u=v:=by simpa using e
     subst e'
     exact⟨b,key,x,w.1,o,n,r0,rfl,HY rk,ho,hc,by simpa using hd⟩
    |succ i=>
     obtain⟨a',key',x',k',o',c',q⟩:=h3 i v (by simpa using e)
     exact⟨a',key',x',k',o',c',q.1,by simpa using q.2.1,q.2.2⟩
def fB (K:PySem.W.Frag):List V→Hp→VK→Prop:=fun xs H Q=>(∃a ws,xs=[.ref a]∧Rd H a (.dK ws)∧∀p,H p=none→Q (.ref p) (upd H p (.dK ws)))∨
 ∃a ps ws,xs=[.ref a]∧(SqL K H a ps∨GD K H a ps)∧S5 K H ps ws∧ws.length≤sizeLine∧∀p,H p=none→Q (.ref p) (upd H p (.dK (DS [] ws)))
theorem IA (hc:X.calm=true):DA X (.type "dict") (fB X.K):=by
 intro pins s σ H xs us Q I r h
 rcases h with⟨a,ws,rfl,ha,q⟩|⟨a,ps,ws,rfl,ha,hp,hz,q⟩
 ·obtain⟨u,rfl,ru⟩:=E7 r
  obtain rfl:u=Value.ref a:=ru
  exact WI I ha fun p s' hn I'=>⟨.ref p,_,I',rfl,q p hn⟩
 ·obtain⟨u,rfl,ru⟩:=E7 r
  obtain rfl:u=Value.ref a:=ru
  have hh:X.A.handled=none:=I.ok.hd hc
  have fin:∀{its:List Value} (kvs:List (AI×Value)),KV ws kvs→∀h' tk,(∀b o,s.heap.get? b=some o→h'.get? b=some o)→h'.DictOf (AW X.prog X.w) s.heap.objs.size (merged [] kvs)→EP X pins σ Q (.ref s.heap.objs.size) {s with heap:=h',toks:=tk}:=by
   intro its kvs rk h' tk hk hD
   have hl:(DS [] ws).length≤sizeLine:=by
    have:=EY ws []
    rw[List.length_nil]at this
    omega
   exact⟨.ref _,_,I.laid (a:=s.heap.objs.size) (o:= .dK (DS [] ws)) (t':=tk) hk (Nat.le_refl _) (MK hl (beq_eq_false_iff_ne.mpr (Ne.symm (Nat.ne_of_lt I.big))) (KV.merge rk .nil) hD),rfl,q _ (I.hok.fresh (Nat.le_refl _))⟩
  rcases ha with ha|ha
  ·obtain⟨its,rv,pl,hz'⟩:=I.list ha
   obtain⟨kvs,rk,hlen,hit⟩:=LT I hp rv
   obtain⟨o,n,ho,hcl,hd,hda⟩:=id pl
   refine ZT.M1 (knd:=AW X.prog X.w) (kvs:=kvs) (its:=its.toArray) (T:= "list") hh pl.isList.typeIs (by decide) (fun s' Q' E' hk hq=>ZT.OJ (hk _ _ ho) hcl hda hd hh hq) (fun s' Q' E' hk hq=> ?_) (Heap.lt_size ho) (fun i v e=>hit i v (by simpa using e)) (by simpa using hlen) (by rw[←KV.length rk];exact hz) (fin (its:=its) kvs rk)
   have hl':s'.heap.IsList a its.toArray:=⟨o,hk _ _ ho,hcl,n,hda⟩
   have hne:a≠s'.heap.objs.size:=Nat.ne_of_lt (Heap.lt_size (hk _ _ ho))
   refine wpAny_pyIter_list hl' (hq s'.heap.objs.size _ _ (Heap.get?_none_of_le (Nat.le_refl _)) (fun b o e=>Heap.get?_push_of_some _ e) (Walks.list (A:=X.A.in1.in1) hh s'.heap.objs.size a hne its.toArray) ⟨⟨_,Heap.get?_push_size _ rfl,rfl,rfl⟩,?_⟩)
   exact⟨o,Heap.get?_push_of_some _ (hk _ _ ho),hcl,n,hda⟩
  ·obtain⟨its,rv,pl,hz'⟩:=I.tupleX ha
   obtain⟨kvs,rk,hlen,hit⟩:=LT I hp rv
   obtain⟨o,ho,hcl,n,hda⟩:=id pl
   refine ZT.M1 (knd:=AW X.prog X.w) (kvs:=kvs) (its:=its.toArray) (T:= "tuple") hh pl.tup.typeIs (by decide) (fun s' Q' E' hk hq=>ZT.MU (hk _ _ ho) hcl.1 hda hcl.2 hh hq) (fun s' Q' E' hk hq=> ?_) (Heap.lt_size ho) (fun i v e=>hit i v (by simpa using e)) (by simpa using hlen) (by rw[←KV.length rk];exact hz) (fin (its:=its) kvs rk)
   have hl':s'.heap.IsTuple a its.toArray:=⟨o,hk _ _ ho,hcl.1,n,hda⟩
   have hne:a≠s'.heap.objs.size:=Nat.ne_of_lt (Heap.lt_size (hk _ _ ho))
   refine wpAny_pyIter_tuple hl' (hq s'.heap.objs.size _ _ (Heap.get?_none_of_le (Nat.le_refl _)) (fun b o e=>Heap.get?_push_of_some _ e) (Walks.tuple (A:=X.A.in1.in1) hh s'.heap.objs.size a hne its.toArray) ⟨⟨_,Heap.get?_push_size _ rfl,rfl,rfl⟩,?_⟩)
   exact⟨o,Heap.get?_push_of_some _ (hk _ _ ho),hcl.1,n,hda⟩
def GE:List M→Option (List (AI×M))
 |[]=>some []
 | .tup [k,v]::r=>(E9 k).bind fun k'=>(GE r).map ((k',v):: ·)
 |_::_=>none
def UZ (h:A7):M→Option (List M)
 | .tup xs=>some xs
 |x=>KP h x
def HS (kvs:List (AI×M)):M:= .dct (kvs.map (·.1)) (kvs.map (·.2))
def FN (xs:List M) (h:A7):Option M:=match xs with
 |[x]=>(match BK h x with
  |some kvs=>some (HS kvs)
  |none=>(UZ h x).bind fun ys=>(GE ys).bind fun kvs=>if kvs.length≤16777216 then some (HS (DG [] kvs)) else none)
 |_=>none
theorem LD {α:Pl} {H:Hp}:∀{ys:List M} {kvs:List (AI×M)} {vs:List V},GE ys=some kvs→RepAs K α H ys vs→∃ws,S5 K H vs ws∧RepD K α H kvs ws:=by
 intro ys
 induction ys with
 |nil=>
  intro kvs vs e r
  cases e
  cases(show vs=[] from r)
  exact⟨[],⟨rfl,fun i v e=>by simp at e⟩, .nil⟩
 |cons y ys ih=>
  intro kvs vs e r
  obtain⟨u,q,rfl,ru,rq⟩:=r
  unfold GE at e
  split at e
  ·rename_i heq;cases heq
  ·rename_i k v r' heq
   cases heq
   obtain⟨k',e1,e⟩:=Option.bind_eq_some_iff.mp e
   obtain⟨kvs',e2,rfl⟩:=Option.map_eq_some_iff.mp e
   obtain⟨ws,h1,h2⟩:=ih e2 rq
   obtain⟨a,us,rfl,t,rs⟩:=ru
   obtain⟨u1,u2,rfl,r1,r2⟩:=SW rs
   refine⟨(k',u2)::ws,⟨by simp[h1.1],fun i v e=> ?_⟩, .cons rfl r2 h2⟩
   cases i with
   |zero=>
    have:V.ref a=v:=by simpa using e
    subst this
    refine⟨a,(k',u2),rfl,rfl,?_⟩
    rw[←DB e1 r1];exact t.sq
   |succ i=>
    obtain⟨b,w,q1,q2,q3⟩:=h1.2 i v (by simpa using e)
    exact⟨b,w,q1,by simpa using q2,q3⟩
  ·cases e
theorem RepD.len {α:Pl} {H:Hp} {kvs:List (AI×M)} {ws:List (AI×V)} (r:RepD K α H kvs ws):ws.length=kvs.length:=by
 have:=congrArg List.length r.1
 simpa using this
theorem T4:FJ K (fB K) FN:=by
 intro α h H xs d us Q hr rs e k
 unfold FN at e
 split at e
 ·obtain⟨u,rfl,ru⟩:=FX rs
  split at e
  ·rename_i kvs hk
   cases e
   obtain⟨a,ws,rfl,ha,r1,r2⟩:=BL hr ru hk
   exact .inl ⟨a,ws,rfl,ha,fun p hp=>k _ _ (AX hp _) (Y4 hr hp ⟨r1,r2⟩)⟩
  ·obtain⟨ys,e1,e⟩:=Option.bind_eq_some_iff.mp e
   obtain⟨kvs,e2,e⟩:=Option.bind_eq_some_iff.mp e
   split at e
   ·rename_i hl
    cases e
    have hsq:∃a vs,u= .ref a∧(SqL K H a vs∨GD K H a vs)∧RepAs K α H ys vs:=by
     unfold UZ at e1
     split at e1
     ·cases e1
      obtain⟨a,vs,rfl,t,r⟩:=ru
      exact⟨a,vs,rfl, .inr t.sq,r⟩
     ·obtain⟨a,vs,rfl,t,r⟩:=E1 hr ru e1
      exact⟨a,vs,rfl, .inl t,r⟩
    obtain⟨a,vs,rfl,t,r⟩:=hsq
    obtain⟨ws,h1,h2⟩:=LD e2 r
    exact .inr ⟨a,vs,ws,rfl,t,h1,by rw[h2.len,sizeLine_eq];exact hl,fun p hp=>k _ _ (AX hp _) (Y4 hr hp (h2.merge .nil))⟩
   ·cases e
 ·cases e
end
end L2
namespace L2
open PySem PySem.Spec PyProof.Rows
section
variable {X:Cx} {K:PySem.W.Frag}
theorem Rd.sm {H H':Hp} {a:Addr} {u:HO} (r:Rd H a u) (s:Same H H'):Rd H' a u:=r.elim (fun e=> .inl (s _ _ e)) fun⟨o,e⟩=> .inr ⟨o,s _ _ e⟩
def LW (r a:Addr):Heap→Prop:=fun h=>h.IsItemsView r a
def sA:V→List V→Hp→VK→Prop:=fun x xs H Q=>∃a ws,x= .ref a∧xs=[]∧Rd H a (.dK ws)∧∀r,H r=none→Q (.ref r) (upd H r (.ext (LW r a)))
theorem ZE:eX X "dict.items" sA:=by
 intro pins s σ H x xs v us Q I rx rs h
 obtain⟨a,ws,rfl,rfl,ha,q⟩:=h
 cases rs
 obtain rfl:v=Value.ref a:=rx
 obtain⟨z,hd,vs,rel,dd⟩:=DK I.hok ha
 refine call_meetsIn PySem.F.slot_dict_items dd.typeIs PySem.F.entry_dict_items (PySem.F.args_dict_items_1 _) (meets_dict_items (AW X.prog X.w) a hd) ⟨⟨vs,dd⟩,?_⟩
 have hg:(s.heap.push {cls:= .type "dict_items",data:= .fields #[.ref a]}).get? s.heap.objs.size=some {cls:= .type "dict_items",data:= .fields #[.ref a]}:=Heap.get?_push_size _ rfl
 refine⟨.ref _,_,I.laid (a:=s.heap.objs.size) (o:= .ext (LW s.heap.objs.size a)) (t':=s.toks) (fun b o e=>Heap.get?_push_of_some _ e) (Nat.le_refl _) ⟨⟨_,hg,rfl,rfl⟩,⟨_,hg⟩,fun h1 h2 ⟨o,e,r⟩ hk=>⟨o,hk o e,r⟩⟩,rfl,q _ (I.hok.fresh (Nat.le_refl _))⟩
theorem PY:∀{as:List Addr} {i:Nat},as.Nodup→∀hi:i<as.length,as.idxOf as[i]=i
 |[],_,_,hi=>by simp at hi
 |a::as,0,_,_=>by simp
 |a::as,i+1,hn,hi=>by
  rw[List.nodup_cons]at hn
  have hi':i<as.length:=by simpa using hi
  have hne:a≠as[i]:=fun z=>hn.1 (by rw[z];exact List.getElem_mem hi')
  rw[List.getElem_cons_succ,List.idxOf_cons]
  rw[show(a==as[i])=false from by simpa using hne]
  simp only[cond_false]
  rw[PY hn.2 hi']
def YI (H:Hp) (ws:List (AI×V)) (ix:List Nat) (Q:VK):Prop:=∀(D:Addr) (as:List Addr) (H':Hp),Same H H'→H' D=some (.lst (ix.map fun i=>V.ref (as.getD i 0)))→H D=none→
 (∀(i:Nat) (w:AI×V),ws[i]? =some w→∃b,as[i]? =some b∧H b=none∧H' b=some (.tup [kV w.1,w.2]))→Q (.ref D) H'
theorem V0 {pins:List (Addr×Obj)} {σ:St} {H:Hp} {s:Shared} {Q:VK} {ws:List (AI×V)} {kvs:List (AI×Value)} {h':Heap} {tk:Nat} {D lo:Addr} {as:List Addr} {ix:List Nat} {c:Nat} (I:Inv X pins σ H s) (rel:KV ws kvs) (q:YI H ws ix Q)
 (hk:∀b o,s.heap.get? b=some o→h'.get? b=some o) (hD:s.heap.get? D=none) (hl:as.length=kvs.length) (hG:PySem.W.KdxG (AW X.prog X.w) kvs lo h' as) (hlo:s.heap.objs.size≤lo) (hDa:D∉as) (hix:∀i∈ix,i<kvs.length) (hil:ix.length≤sizeLine)
 (hg:h'.get? D=some (seqObj "list" (List.toArray (ix.map fun i=>(as.map Value.ref).getD i Value.none)) c)):EP X pins σ Q (.ref D) {s with heap:=h',toks:=tk}:=by
 have hlw:ws.length=kvs.length:=KV.length rel
 have hnd:as.Nodup:=hG.rise.imp fun{a b} h=>Nat.ne_of_lt h
 have hnew:∀b∈as,s.heap.get? b=none:=fun b hb=>Heap.get?_none_of_le (Nat.le_trans hlo (Nat.le_of_lt (hG.above b hb)))
 classical
 let H':Hp:=fun b=>if b=D then some (.lst (ix.map fun i=>V.ref (as.getD i 0))) else if b∈as then(ws[as.idxOf b]?).map (fun(w:AI×V)=>HO.tup [kV w.1,w.2]) else H b
 have eD:H' D=some (.lst (ix.map fun i=>V.ref (as.getD i 0))):=if_pos rfl
 have eA:∀(i:Nat) (b:Addr),as[i]? =some b→H' b=(ws[i]?).map (fun(w:AI×V)=>HO.tup [kV w.1,w.2]):=fun i b e=>by
  have hb:b∈as:=List.mem_of_getElem? e
  have hbD:b≠D:=fun z=>hDa (z▸hb)
  have hi:as.idxOf b=i:=by
   obtain⟨hi,e'⟩:=List.getElem?_eq_some_iff.mp e
   rw[←e'];exact PY hnd hi
  show(if b=D then _ else if b∈as then _ else _)=_
  rw[if_neg hbD,if_pos hb,hi]
 have sm:Same H H':=fun b o e=>by
  have h1:b≠D:=fun z=>by rw[z,I.none_at hD]at e;cases e
  have h2:b∉as:=fun z=>by rw[I.none_at (hnew b z)]at e;cases e
  show(if b=D then _ else if b∈as then _ else _)=_
  rw[if_neg h1,if_neg h2];exact e
 have valOf:∀(i:Nat) (w:AI×V),ws[i]? =some w→∃x,kvs[i]? =some (w.1,x)∧RelV w.2 x:=by
  clear q hk hD hl hG hDa hix hil hg hnd hnew H' eD eA sm hlw
  induction rel with
  |nil=>intro i w e;simp at e
  |cons r t ih=>
   rename_i a b l1 l2
   intro i w e
   cases i with
   |zero=>
    have:a=w:=by simpa using e
    subst this
    exact⟨b.2,by simp[r.1],r.2⟩
   |succ i=>simpa using ih i w (by simpa using e)
 have I':Inv X pins σ H' {s with heap:=h',toks:=tk}:=I.laids hk sm fun b u e=>by
  by_cases h1:b=D
  ·subst h1
   rw[eD]at e
   cases e
   refine .inr ⟨hD,⟨by rw[List.length_map];exact hil,_,c,?_,hg⟩⟩
   clear hg eD hil q sm eA H'
   induction ix with
   |nil=>exact .nil
   |cons i ix ih=>
    have hi:i<as.length:=by rw[hl];exact hix i List.mem_cons_self
    refine .cons ?_ (ih (fun i hi=>hix i (List.mem_cons_of_mem _ hi)))
    show _=Value.ref (as.getD i 0)
    simp[hi]
  ·by_cases h2:b∈as
   ·obtain⟨i,hi⟩:=List.getElem?_of_mem h2
    rw[eA i b hi]at e
    obtain⟨w,ew,rfl⟩:=Option.map_eq_some_iff.mp e
    obtain⟨key,k,x,e1,e2,e3⟩:=hG.pairs i b hi
    obtain⟨x',e4,rx⟩:=valOf i w ew
    rw[e1]at e4
    cases e4
    refine .inr ⟨hnew b h2,⟨by show 2≤sizeLine;rw[sizeLine_eq];decide,[key,x], .cons ?_ (.cons rx .nil),⟨_,e3,⟨rfl,rfl⟩,_,rfl⟩⟩⟩
    rcases B9 (k:=w.1) (v:=key) e2 with⟨j,t,e5,rfl⟩|⟨z,t,e5,rfl⟩
    ·rw[e5];exact⟨t,rfl⟩
    ·rw[e5];exact⟨t,rfl⟩
   ·have e':(if b=D then _ else if b∈as then _ else H b)=some u:=e
    rw[if_neg h1,if_neg h2]at e'
    exact .inl e'
 refine⟨.ref D,H',I',rfl,q D as H' sm eD (I.none_at hD) fun i w ew=> ?_⟩
 have hi:i<as.length:=by rw[hl,←hlw];exact(List.getElem?_eq_some_iff.mp ew).1
 exact⟨as[i],List.getElem?_eq_getElem hi,I.none_at (hnew _ (List.getElem_mem hi)),by rw[eA i _ (List.getElem?_eq_getElem hi),ew];rfl⟩
def UX:List V→Hp→VK→Prop:=fun xs H Q=>∃r a ws names,xs=[.ref r]∧H r=some (.ext (LW r a))∧Rd H a (.dK ws)∧ws.map (·.1)=names.map Sum.inr∧ws.length<64∧
 ∀p:Array Nat,ZT.PermN ws.length p→ZT.srt (ZT.XF names) p ws.length→names.Nodup→YI H ws p.toList Q
theorem MS (hc:X.calm=true):DA X (.builtin "sorted") UX:=by
 intro pins s σ H xs us Q I r h
 obtain⟨v,a,ws,names,rfl,hv,ha,hn,h64,q⟩:=h
 obtain⟨u,rfl,ru⟩:=E7 r
 obtain rfl:u=Value.ref v:=ru
 obtain⟨z,hd,vs,rel,dd⟩:=DK I.hok ha
 obtain⟨ep,da⟩:=dd.dictAt
 have vw:s.heap.IsItemsView v a:=(show ObjOk X.prog X.w H s.heap v (.ext (LW v a)) from I.hok _ _ hv).1
 have hlw:ws.length=vs.length:=KV.length rel
 have hkn:vs.map (·.1)=names.map Sum.inr:=by rw[←KV.keys rel];exact hn
 have hnd:names.Nodup:=by
  have:=da.nodup
  rw[hkn]at this
  exact(List.Pairwise.of_map (f:=Sum.inr) (fun a b h z=>h (by rw[z])) this)
 refine ZT.QR (kvs:=vs) (ep:=ep) (names:=names) (I.ok.hd hc) vw da hkn (by rw[←hlw];exact h64) fun h' tk D as p c hk hD hl hG hDa hp hs hg=> ?_
 rw[←hlw]at hp hs
 refine V0 I rel (q p hp hs hnd) hk hD hl hG (Nat.le_refl _) hDa (fun i hi=> ?_) (by rw[Array.length_toList,hp.size];exact z) hg
 rw[←hlw]
 exact List.mem_range.mp (hp.list.mem_iff.mp hi)
def kM:AI→M
 | .inl i=> .int i
 | .inr z=> .str z
def PP (kv:AI×M):M:= .tup [kM kv.1,kv.2]
theorem NU {α:Pl} {h:A7} {H H':Hp} {kvs:List (AI×M)} {ws:List (AI×V)} {as:List Addr} (hr:Rl K α h H) (sm:Same H H') (rD:RepD K α H kvs ws) (ha:∀(i:Nat) (w:AI×V),ws[i]? =some w→∃b,as[i]? =some b∧H b=none∧H' b=some (.tup [kV w.1,w.2])):
 ∀ix:List Nat,(∀i∈ix,i<kvs.length)→RepAs K α H' (ix.map fun i=>PP (kvs.getD i (.inl 0, .non))) (ix.map fun i=>V.ref (as.getD i 0))
 |[],_=>rfl
 |i::ix,hi=>by
  refine⟨_,_,rfl,?_,NU hr sm rD ha ix fun i h=>hi i (List.mem_cons_of_mem _ h)⟩
  have h1:i<kvs.length:=hi i List.mem_cons_self
  have h2:i<ws.length:=by rw[rD.len];exact h1
  obtain⟨b,e1,e2,e3⟩:=ha i ws[i] (List.getElem?_eq_getElem h2)
  have ek:ws[i].1=kvs[i].1:=by
   have:=congrArg (fun l=>l[i]?) rD.1
   simp only[List.getElem?_map,List.getElem?_eq_getElem h1,List.getElem?_eq_getElem h2,Option.map_some]at this
   simpa using this
  have ev:RepA K α H kvs[i].2 ws[i].2:=by
   obtain⟨v,hv,rv⟩:=rD.2.get (i:=i) (m:=kvs[i].2) (by simp[h1])
   have:v=ws[i].2:=by simpa[h2]using hv.symm
   rw[←this];exact rv
  show RepA K α H' (PP (kvs.getD i (.inl 0, .non))) (V.ref (as.getD i 0))
  rw[show as.getD i 0=b by simp[List.getD,e1],show kvs.getD i (.inl 0, .non)=kvs[i] by simp[h1]]
  refine⟨b,_,rfl, .inl ⟨.inl e3,hr.new e2⟩,?_⟩
  rw[ek]
  refine⟨_,_,rfl,?_,_,_,rfl,ev.ev (.same sm),rfl⟩
  cases kvs[i].1<;>rfl
theorem P4 {α:Pl} {h:A7} {H H':Hp} {D:Addr} {ys:List M} {vs:List V} (hr:Rl K α h H) (hn:H D=none) (hD:H' D=some (.lst vs)) (rs:RepAs K α H' ys vs):RepA K α H' (.lst ys) (.ref D):=⟨D,vs,rfl,hr.new hn,hD,rs⟩
variable {a:Expr} {ma:FE} {p1 pos1 pos2 ap:Pos}
def GQ:List (AI×M)→Option (List Str)
 |[]=>some []
 |(.inr z,_)::r=>(GQ r).map (z:: ·)
 |_::_=>none
theorem HL:∀{kvs:List (AI×M)} {names:List Str},GQ kvs=some names→kvs.map (·.1)=names.map Sum.inr
 |[],_,e=>by cases e;rfl
 |(.inr z,m)::r,names,e=>by
  obtain⟨ns,e1,rfl⟩:=Option.map_eq_some_iff.mp e
  rw[List.map_cons,List.map_cons,HL e1]
 |(.inl _,_)::_,_,e=>by cases e
def NW (kvs:List (AI×M)) (names:List Str):List M:=(CI names).map fun z=> .tup [.str z,(B6 kvs (.inr z)).getD .non]
def EU (x:M) (h:A7):Option M:=(BK h x).bind fun kvs=>(GQ kvs).bind fun names=>if kvs.length<64 then some (.lst (NW kvs names)) else none
theorem bA {kvs:List (AI×M)} (hn:(kvs.map (·.1)).Nodup) {i:Nat} (hi:i<kvs.length):B6 kvs kvs[i].1=some kvs[i].2:=by
 induction kvs generalizing i with
 |nil=>simp at hi
 |cons kv kvs ih=>
  rw[List.map_cons,List.nodup_cons]at hn
  cases i with
  |zero=>simp[B6]
  |succ i=>
   have hi':i<kvs.length:=by simpa using hi
   have hne:kv.1≠kvs[i].1:=fun z=>hn.1 (by rw[z];exact List.mem_map_of_mem (List.getElem_mem hi'))
   have:=ih hn.2 hi'
   unfold B6 at this⊢
   rw[List.find?_cons]
   simp only[List.getElem_cons_succ,hne,decide_false]
   exact this
theorem VE {kvs:List (AI×M)} {names:List Str} {p:Array Nat} (hk:kvs.map (·.1)=names.map Sum.inr) (hn:names.Nodup) (hp:ZT.PermN kvs.length p) (hs:ZT.srt (ZT.XF names) p kvs.length):
 (p.toList.map fun i=>PP (kvs.getD i (.inl 0, .non)))=NW kvs names:=by
 have hln:kvs.length=names.length:=by simpa using congrArg List.length hk
 have hin:∀i∈p.toList,i<kvs.length:=fun i hi=>List.mem_range.mp (hp.list.mem_iff.mp hi)
 have e1:(p.toList.map fun i=>names.getD i ⟨#[]⟩)=CI names:=by
  refine HI JA ?_ ?_ (FL names)
  ·refine List.Perm.trans ?_ (List.mergeSort_perm names KG).symm
   have h1:=hp.list.map fun i=>names.getD i ⟨#[]⟩
   have h2:((List.range kvs.length).map fun i=>names.getD i ⟨#[]⟩)=names:=by
    rw[hln]
    apply List.ext_getElem (by simp)
    intro i h3 h4
    simp[h4]
   rw[h2]at h1
   exact h1
  ·rw[List.pairwise_map,List.pairwise_iff_getElem]
   intro i j hi hj hij
   have hi':i<p.size:=by simpa using hi
   have hj':j<p.size:=by simpa using hj
   have:=hs i j hij (by rw[←hp.size];exact hj')
   rw[ZT.IW hi',ZT.IW hj']at this
   unfold ZT.XF at this
   simp only[decide_eq_true_eq]at this
   simp only[Array.getElem_toList]
   unfold KG
   simp only[Bool.not_eq_true',decide_eq_false_iff_not]
   first
    |exact fun z=>List.lt_irrefl _ (List.lt_trans this z)
    |(rw[ltCps_eq];simp only[decide_eq_false_iff_not];exact fun z=>List.lt_irrefl _ (List.lt_trans this z))
 unfold NW
 rw[←e1,List.map_map]
 refine List.map_congr_left fun i hi=> ?_
 have h1:=hin i hi
 have h2:i<names.length:=by rw[←hln];exact h1
 have ek:kvs[i].1=Sum.inr names[i]:=by
  have:=congrArg (fun l=>l[i]?) hk
  simp only[List.getElem?_map,List.getElem?_eq_getElem h1,List.getElem?_eq_getElem h2,Option.map_some]at this
  simpa using this
 have hv:=bA (kvs:=kvs) (by rw[hk];exact hn.map Sum.inr (fun a b h z=>h (Sum.inr.inj z))) h1
 rw[ek]at hv
 show PP (kvs.getD i (.inl 0, .non))=M.tup [.str (names.getD i ⟨#[]⟩),(B6 kvs (.inr (names.getD i ⟨#[]⟩))).getD .non]
 rw[show names.getD i ⟨#[]⟩=names[i] by simp[h2],show kvs.getD i (.inl 0, .non)=kvs[i] by simp[h1],hv]
 unfold PP
 rw[ek];rfl
theorem ON (hc:X.calm=true) (q1:NmOk X.env.scope "sorted" .globalImplicit) (m1:X.mg "sorted"=none) (ha:PE X a (tM X.K ma)) (hbase:attributeBase a "items" X.env (eval a X.env)=eval a X.env) (hline:(ap.endLine==pos2.line)=true):
 PE X (.Call (.Name "sorted" p1) [.Call (.Attribute a "items" ap) [] [] pos2] [] pos1) (tM X.K (mK EU ma)):=
 (NK (MS hc) q1 m1 PyProof.Rows.boot_sorted (qS (iE PySem.F.plainAttrs_dict PySem.F.slot_dict_items PySem.F.type_dict_items ZE ha hbase hline) X6 (by rfl)) (by rfl) (by rfl)).imp fun σ H Q ⟨α,ρ,h,d,h',hσ,hr,e,k⟩=>by
 obtain⟨x,h1,e1,e⟩:=A6 e
 obtain⟨e3,e4⟩:=DV e
 dsimp only at e3 e4
 subst e4
 obtain⟨kvs,e5,e3⟩:=Option.bind_eq_some_iff.mp e3
 obtain⟨names,e6,e3⟩:=Option.bind_eq_some_iff.mp e3
 split at e3
 ·rename_i h64
  cases e3
  refine⟨α,ρ,h,x,_,hσ,hr,e1,fun α1 H1 v ev1 hr1 rv=> ?_⟩
  obtain⟨b,ws,rfl,hb,r1,r2⟩:=BL hr1 rv e5
  have rD:RepD X.K α1 H1 kvs ws:=⟨r1,r2⟩
  refine⟨.inr (.inr (.inl ⟨rfl, .inl ⟨ws,hb⟩⟩)),b,ws,rfl,rfl,hb,fun r hn=> ?_⟩
  have s1:Same H1 (upd H1 r (.ext (LW r b))):=AX hn _
  have hr2:=hr1.same s1
  refine⟨r,b,ws,names,rfl,AH,hb.sm s1,by rw[r1];exact HL e6,by rw[rD.len];exact h64,fun p hp hs hnd D as H2 sm eD hD has=> ?_⟩
  rw[rD.len]at hp hs
  have rep:=NU (as:=as) hr2 sm (rD.ev (.same s1)) has p.toList (fun i hi=>List.mem_range.mp (hp.list.mem_iff.mp hi))
  rw[VE (HL e6) hnd hp hs]at rep
  exact k α1 H2 _ (ev1.trans (.same (s1.trans sm))) (hr2.same sm) (P4 hr2 hD eD rep)
 ·cases e3
def XO:List V→Hp→VK→Prop:=fun xs H Q=>∃a ws names,xs=[.ref a]∧Rd H a (.dK ws)∧ws.map (·.1)=names.map Sum.inr∧ws.length<64∧∀l H',Same H H'→H l=none→H' l=some (.lst ((CI names).map V.str))→Q (.ref l) H'
theorem IF (hc:X.calm=true):DA X (.builtin "sorted") XO:=by
 intro pins s σ H xs us Q I r h
 obtain⟨a,ws,names,rfl,ha,hn,h64,q⟩:=h
 obtain⟨u,rfl,ru⟩:=E7 r
 obtain rfl:u=Value.ref a:=ru
 obtain⟨z,hd,vs,rel,dd⟩:=DK I.hok ha
 obtain⟨ep,da⟩:=dd.dictAt
 have hlw:ws.length=vs.length:=KV.length rel
 have hkn:vs.map (·.1)=names.map Sum.inr:=by rw[←KV.keys rel];exact hn
 have hln:ws.length=names.length:=by simpa using congrArg List.length hn
 refine ZT.QJ (kvs:=vs) (ep:=ep) (names:=names) (I.ok.hd hc) hd da hkn (by rw[←hlw];exact h64) fun h' tk D out ss' c hk hD h2 h3 h4 hg=> ?_
 have ens:ss'=CI names:=HI JA (h3.trans (List.mergeSort_perm names KG).symm) (RJ h4) (FL names)
 subst ens
 have hDn:=I.none_at hD
 refine⟨.ref D,upd H D (.lst ((CI names).map V.str)),I.laids hk (AX hDn _) fun b u e=> ?_,rfl,q D _ (AX hDn _) hDn AH⟩
 by_cases hb:b=D
 ·subst hb
  rw[AH]at e
  cases e
  refine .inr ⟨hD,⟨?_,out.toList,c,MQ h2,by simpa using hg⟩⟩
  rw[List.length_map,sizeLine_eq]
  have:=(List.mergeSort_perm names KG).length_eq
  show(names.mergeSort KG).length≤_
  omega
 ·rw[AF hb]at e;exact .inl e
def IE (xs:List M) (h:A7):Option M:=match xs with
 |[x]=>(BK h x).bind fun kvs=>(GQ kvs).bind fun names=>if kvs.length<64 then some (.lst ((CI names).map .str)) else none
 |_=>none
theorem M7:FJ K XO IE:=by
 intro α h H xs d us Q hr rs e k
 unfold IE at e
 split at e
 ·obtain⟨u,rfl,ru⟩:=FX rs
  obtain⟨kvs,e1,e⟩:=Option.bind_eq_some_iff.mp e
  obtain⟨names,e2,e⟩:=Option.bind_eq_some_iff.mp e
  split at e
  ·rename_i h64
   cases e
   obtain⟨a,ws,rfl,ha,r1,r2⟩:=BL hr ru e1
   refine⟨a,ws,names,rfl,ha,by rw[r1];exact HL e2,by rw[RepD.len (K:=K) ⟨r1,r2⟩];exact h64,fun l H' sm hl hD=>k H' _ sm ?_⟩
   exact P4 hr hl hD RepAs.strs
  ·cases e
 ·cases e
end
end L2
namespace L2
open PySem PySem.Spec PyProof.Rows
theorem RelV.key {P:Program} {w:World} {k:AI} {u:Value} (h:(AW P w).is k u=true):RelV (kV k) u:=by
 rcases B9 (k:=k) (v:=u) h with⟨i,t,rfl,rfl⟩|⟨z,t,rfl,rfl⟩
 ·exact⟨t,rfl⟩
 ·exact⟨t,rfl⟩
def T7 (H H':Hp) (a:Addr) (ob:Obj) (ws:List (AI×V)):Prop:=H' a=some (.frz ob (.dK ws))∧(∀b,b≠a→H' b=H b)∧(H a=some (.dK ws)∨H a=some (.frz ob (.dK ws)))
theorem Inv.freeze {X:Cx} {pins:List (Addr×Obj)} {σ:St} {H:Hp} {s:Shared} {a:Addr} {ws:List (AI×V)} (I:Inv X pins σ H s) (e:Rd H a (.dK ws)):∃ob H',T7 H H' a ob ws∧Inv X pins σ H' s∧∃es ep,ob.data= .dict es ep:=by
 rcases e with e|⟨ob,e⟩
 ·have ok:=I.hok a _ e
  obtain⟨z,hd,vs,rel,o,es,ep,ho,ex,hdat,r⟩:=id ok
  have hne:∀b,b≠a→(upd H a (.frz o (.dK ws))) b=H b:=fun b hb=>AF hb
  refine⟨o,upd H a (.frz o (.dK ws)),⟨AH,hne, .inl e⟩,?_,es,ep,hdat⟩
  have nd:∀b u,H b=some u→u≠ .dK ws→b≠a:=fun b u q n z=>by subst z;rw[e]at q;exact n (Option.some.inj q).symm
  refine I.un (h':=s.heap) (t':=s.toks) ⟨fun b u q _ _ _=>q,fun b u q _ _ _=>⟨u.slots,q⟩,fun b u q n _=> ?_,fun b u q _=>⟨u,q⟩,fun b xs q=> ?_,fun b u xs q=> ?_,fun b ps q=>⟨#[],?_⟩⟩ fun b u q=> ?_
  ·rw[hne b (fun z=>by subst z;rw[e]at n;cases n)];exact n
  ·rw[hne b (nd b _ q (fun z=>by cases z))];exact q
  ·rw[hne b (nd b _ q (fun z=>by cases z))];exact q
  ·rw[hne b (nd b _ q (fun z=>by cases z)),q];simp
  ·by_cases hb:b=a
   ·subst hb
    rw[AH]at q
    cases q
    exact⟨ho,z,hd,vs,rel,o,es,ep,ho,ex,hdat,r⟩
   ·rw[hne b hb]at q
    exact(I.hok b u q).stay (fun c v _ x=>x) (fun c x=>by rw[hne c (nd c _ x (fun z=>by cases z))];exact x) fun c xs x=>by rw[hne c (nd c _ x (fun z=>by cases z))];exact x
 ·obtain⟨ho,ok⟩:=(show ObjOk X.prog X.w H s.heap a (.frz ob (.dK ws)) from I.hok a _ e)
  obtain⟨z,hd,vs,rel,o,es,ep,ho',ex,hdat,r⟩:=id ok
  rw[ho]at ho';cases ho'
  exact⟨ob,H,⟨e,fun _ _=>rfl, .inr e⟩,I,es,ep,hdat⟩
def wB (ob:Obj) (a:Addr) (ws:List (AI×V)):It:=
 ⟨fun i H=>H a=some (.frz ob (.dK ws))∧i<ws.length,fun i H v H'=>H'=H∧∃w,ws[i]? =some w∧v=kV w.1,fun i H=>H a=some (.frz ob (.dK ws))∧i=ws.length⟩
theorem RY {X:Cx} {pins:List (Addr×Obj)} {σ:St} {H:Hp} {s:Shared} {a:Addr} {ob:Obj} {ws:List (AI×V)} {es:Array DictEntry} {ep:Nat} (I:Inv X pins σ H s) (e:H a=some (.frz ob (.dK ws))) (hd:ob.data= .dict es ep):
 ∃vs,KV ws vs∧s.heap.DictAt (AW X.prog X.w) a vs ep:=by
 obtain⟨ho,z,_,vs,rel,o,es',ep',ho',ex,hdat,r⟩:=(show ObjOk X.prog X.w H s.heap a (.frz ob (.dK ws)) from I.hok a _ e)
 rw[ho]at ho';cases ho'
 rw[hd]at hdat
 injection hdat with h1 h2
 subst h1 h2
 exact⟨vs,rel,ob,es,ho,ex,hd,r⟩
theorem V3 {P:Program} {w:World} {K:PySem.W.Frag} {tg:Expr} {a it:Addr} {ob:Obj} {ws:List (AI×V)} {es:Array DictEntry} {ep:Nat} (hd:ob.data= .dict es ep):Turn P w K tg (wB ob a ws) [it] it (fun i h=>h.IsKeyIter it a i ws.length ep) where
 mem:=by simp
 obj:=fun i h st b hb=>by
  have e:b=it:=by simpa using hb
  subst e
  obtain⟨o,e,c,d⟩:=st
  exact⟨o,e,fun v z=>by rw[d]at z;cases z⟩
 keep:=fun i h h' st k=>by obtain⟨o,e,r⟩:=st;exact⟨o,k it (by simp) o e,r⟩
 item:=by
  intro X hP hw hK hc i pins s σ H E I hf st hg
  subst hP hw hK
  obtain⟨e,hi⟩:=hg
  obtain⟨vs,rel,da⟩:=RY I e hd
  have hl:ws.length=vs.length:=KV.length rel
  obtain⟨f0,f1,f2,f3,f4,f5⟩:=hf it (by simp)
  have hi':i<vs.length:=by omega
  rw[hl]at st
  refine wpAny_pyNext_dict_item (k:=vs[i].1) (v:=vs[i].2) st da (by simp[hi']) fun key h' hk st' sb=> ?_
  have I1:Inv X pins σ H {s with heap:=h'}:=I.turned (t':=s.toks) (fun b o hb e=>(sb.2 b hb).trans e) f0 f1 f3 f4 f5
  obtain⟨o,e1,c,d⟩:=id st'
  have ek:ws[i].1=vs[i].1:=by
   have:=KV.keys rel
   have:=congrArg (fun l=>l[i]?) this
   simp only[List.getElem?_map,List.getElem?_eq_getElem hi,List.getElem?_eq_getElem hi',Option.map_some]at this
   simpa using this
  refine⟨key,rfl,TM (s:={s with heap:=h'}) e1 c d (by decide) ⟨kV ws[i].1,H,I1,by rw[ek];exact RelV.key hk,⟨rfl,ws[i],by simp[hi],rfl⟩,?_,fun b hb=>(hf b hb).1⟩⟩
  rw[hl];exact st'
 done:=by
  intro X hP hw hK hc i pins s σ H E I hf st hg
  subst hP hw hK
  obtain⟨e,hi⟩:=hg
  obtain⟨vs,rel,da⟩:=RY I e hd
  have hl:ws.length=vs.length:=KV.length rel
  obtain⟨f0,f1,f2,f3,f4,f5⟩:=hf it (by simp)
  rw[hl]at st
  exact wpAny_pyNext_dict_end (I.ok.hd hc) st da (List.getElem?_eq_none (by omega)) fun h' eb=>⟨rfl,I.turned (t':=s.toks) (fun b o hb e=>eb b o hb e) f0 f1 f3 f4 f5⟩
 self:=fun A i s Q E st h=>by
  have hT:=st.typeIs
  exact wpAny_pyIter_keyiter st h
def uL (tl:TE):TI:=fun σ H R=>tl σ H fun x H1=>∃a ws,x= .ref a∧Rd H1 a (.dK ws)∧∀ob H2,T7 H1 H2 a ob ws→R (wB ob a ws) H2
theorem ZX {X:Cx} {l tg:Expr} {tl:TE} (hl:PE X l tl):PI X tg l (uL tl):=by
 intro pins s σ H R I h
 refine CK (hl pins s σ H _ I h) fun v s1 ⟨x,H1,I1,r1,q1⟩=> ?_
 obtain⟨a,ws,rfl,e,q⟩:=q1
 cases r1
 obtain⟨ob,H2,fz,I2,es,ep,hd⟩:=I1.freeze e
 obtain⟨vs,rel,da⟩:=RY I2 fz.1 hd
 obtain⟨_,hsys,_⟩:=DK I2.hok (.inr ⟨ob,fz.1⟩)
 have hlw:ws.length=vs.length:=KV.length rel
 refine wpAny_pyIter_dict hsys da ?_
 have hit:(s1.heap.push {cls:= .type "dict_keyiterator",data:= .fields #[.ref a, .int 0 0, .int vs.length 0, .int ep 0]}).IsKeyIter s1.heap.objs.size a 0 ws.length ep:=⟨_,Heap.get?_push_size _ rfl,rfl,by rw[hlw];rfl⟩
 refine⟨s1.heap.objs.size,[s1.heap.objs.size],_,_,H2,rfl,I2.kept (t':=s1.toks) fun b o e=>Heap.get?_push_of_some _ e,V3 hd,hit,fun b hb=> ?_,q ob H2 fz⟩
 have eb:b=s1.heap.objs.size:=by simpa using hb
 subst eb
 exact I2.fpOk (Nat.le_refl _) (I2.hok.fresh (Nat.le_refl _))
section
variable {X:Cx} {K:PySem.W.Frag}
theorem aU {α:Pl} {H:Hp} {k:AI}:RepA K α H (kM k) (kV k):=by cases k<;>exact rfl
def aP (x:M) (h:A7):Bool:=(BK h x).isSome
theorem LE {α:Pl} {h:A7} {H:Hp} {x:M} {v:V} (hr:Rl K α h H) (r:RepA K α H x v) (e:aP x h=true):lN K "dict" v H:=by
 obtain⟨kvs,e1⟩:=Option.isSome_iff_exists.mp e
 obtain⟨a,ws,rfl,ha,_⟩:=BL hr r e1
 exact .inr (.inr (.inl ⟨rfl, .inl ⟨ws,ha⟩⟩))
def fK:V→List V→Hp→VK→Prop:=fun x xs H Q=>∃a ws k v,x= .ref a∧xs=[kV k]∧H a=some (.dK ws)∧DO ws k=some v∧Q v (upd H a (.dK (HW ws k)))
theorem O1:eX X "dict.pop" fK:=by
 intro pins s σ H x xs v us Q I rx rs h
 obtain⟨a,ws,k,y,rfl,rfl,ha,hv,q⟩:=h
 obtain⟨u,rfl,ru⟩:=E7 rs
 obtain rfl:v=Value.ref a:=rx
 exact fH I ha ru hv (.inl rfl) fun w' s' I' rw'=>⟨y,_,I',rw',q⟩
def LO (kvs:List (AI×M)) (k:AI):List (AI×M):=kvs.filter fun kv=>decide (kv.1≠k)
theorem RepD.drop {α:Pl} {H:Hp} {k:AI}:∀{kvs:List (AI×M)} {ws:List (AI×V)},RepD K α H kvs ws→RepD K α H (LO kvs k) (HW ws k)
 |[],ws,r=>by cases r.nil_inv;exact .nil
 |kv::kvs,ws,r=>by
  obtain⟨w,ws',rfl,e,h1,r'⟩:=r.inv
  unfold LO HW
  rw[List.filter_cons,List.filter_cons,e]
  by_cases hk:kv.1=k
  ·simp only[hk,ne_eq,not_true_eq_false,decide_false,Bool.false_eq_true,if_false]
   exact r'.drop
  ·simp only[ne_eq,hk,not_false_eq_true,decide_true,if_true]
   exact .cons e h1 r'.drop
def MM (x:M) (xs:List M) (h:A7):Option (M×A7):=match x,xs with
 | .ref q,[y]=>(E9 y).bind fun k=>(match h[q]?with|some (.dct kvs)=>(B6 kvs k).map fun v=>(v,h.set q (.dct (LO kvs k)))|_=>none)
 |_,_=>none
theorem OA:mL K fK MM:=by
 intro α h h' H x xs d u us Q hr rx rs e k
 unfold MM at e
 split at e
 ·rename_i q y
  obtain⟨key,e1,e⟩:=Option.bind_eq_some_iff.mp e
  split at e
  ·rename_i kvs hq
   obtain⟨v,e2,e3⟩:=Option.map_eq_some_iff.mp e
   cases e3
   obtain⟨a,ha,rfl⟩:=rx
   obtain⟨v',rfl,rv⟩:=FX rs
   cases(DB e1 rv)
   obtain⟨ws,hw,r1,r2⟩:=hr.obj q a _ ha hq
   obtain⟨x,hx,rx⟩:=(EL key r1 r2).2 _ e2
   have ev:Ev α α H (upd H a (.dK (HW ws key))):=Ev.write hr (List.mem_of_getElem? ha) (m7 hw)
   have rD:=(RepD.drop (k:=key) ⟨r1,r2⟩).ev ev
   exact⟨a,ws,key,x,rfl,rfl,hw,hx,k α _ x ev (hr.write ha ⟨_,AH,rD.1,rD.2⟩ (m7 hw)) (rx.ev ev)⟩
  ·cases e
 ·cases e
def fI:V→List V→Hp→VK→Prop:=fun x xs H Q=>∃a ws k y,x= .ref a∧xs=[kV k,y]∧Rd H a (.dK ws)∧Q ((DO ws k).getD y) H
theorem cK (hu:X.A.units+1<cLine):eX X "dict.get" fI:=by
 intro pins s σ H x xs v us Q I rx rs h
 obtain⟨a,ws,k,y,rfl,rfl,ha,q⟩:=h
 obtain⟨u,w,rfl,ru,rw'⟩:=NH rs
 obtain rfl:v=Value.ref a:=rx
 exact iW hu I (.inl ⟨ws,k,ha,rfl,rfl⟩) ru rw' fun w' s' I' rw'=>⟨_,H,I',rw',q⟩
def U1 (x:M) (xs:List M) (h:A7):Option (M×A7):=match xs with
 |[y,z]=>(E9 y).bind fun k=>(BK h x).map fun kvs=>((B6 kvs k).getD z,h)
 |_=>none
theorem dA:mL K fI U1:=by
 intro α h h' H x xs d u us Q hr rx rs e k
 unfold U1 at e
 split at e
 ·obtain⟨key,e1,e⟩:=Option.bind_eq_some_iff.mp e
  obtain⟨kvs,e2,e3⟩:=Option.map_eq_some_iff.mp e
  cases e3
  obtain⟨v,w,rfl,rv,rw'⟩:=SW rs
  obtain⟨a,ws,rfl,ha,r1,r2⟩:=BL hr rx e2
  cases(DB e1 rv)
  refine⟨a,ws,key,w,rfl,rfl,ha,k α H _ .refl hr ?_⟩
  have q:=EL key r1 r2
  cases em:B6 kvs key with
  |none=>
   have:DO ws key=none:=by
    have:=q.1
    rw[em]at this
    cases ev:DO ws key with
    |none=>rfl
    |some _=>rw[ev]at this;cases this
   rw[this];exact rw'
  |some m=>
   obtain⟨v,hv,rv⟩:=q.2 m em
   rw[hv];exact rv
 ·cases e
def R5 (x:M) (h:A7):Option (List (AI×M)):=match BK h x with
 |some kvs=>some kvs
 |none=>(UZ h x).bind fun ys=>(GE ys).bind fun kvs=>if kvs.length≤16777216 then some (DG [] kvs) else none
def OS (a:FA):FE:=fun ρ h=>bnd (a ρ h) fun xs h1=>match xs with
 |[x]=>(R5 x h1).map fun kvs=>(.ref h1.length,h1++[.dct kvs])
 |_=>none
theorem Q7 {e:Expr} {es:List Expr} {mas:FA} {pos p:Pos} {x:Str} (hc:X.calm=true) (q:NmOk X.env.scope x .globalImplicit) (hm:X.mg x=none) (hv:bootBuiltins x=some (.type "dict")) (ha:PA X (e::es) (aM X.K mas)) (he:B5 e=true) (hpl:(backTo pos (starEach es X.env)).any (·.1)=false):
 PE X (.Call (.Name x p) (e::es) [] pos) (tM X.K (OS mas)):=(MA (IA hc) q hm hv ha he hpl).imp fun σ H Q ⟨α,ρ,h,d,h',hσ,hr,e,k⟩=>by
 obtain⟨xs,h0,e0,e⟩:=A6 e
 split at e
 ·obtain⟨kvs,e1,e2⟩:=Option.map_eq_some_iff.mp e
  cases e2
  refine⟨α,ρ,h,_,_,hσ,hr,e0,fun α1 H1 us ev1 hr1 rs=> ?_⟩
  obtain⟨u,rfl,ru⟩:=FX rs
  unfold R5 at e1
  split at e1
  ·rename_i kvs' hk
   cases e1
   obtain⟨a,ws,rfl,ha,r1,r2⟩:=BL hr1 ru hk
   exact .inl ⟨a,ws,rfl,ha,fun p hp=>SL hr1 hp ⟨r1,r2⟩ fun α' H' w ev hr' rw=>k α' H' w (ev1.trans ev) hr' rw⟩
  ·obtain⟨ys,e2,e1⟩:=Option.bind_eq_some_iff.mp e1
   obtain⟨kvs',e3,e1⟩:=Option.bind_eq_some_iff.mp e1
   split at e1
   ·rename_i hl
    cases e1
    have hsq:∃a vs,u= .ref a∧(SqL X.K H1 a vs∨GD X.K H1 a vs)∧RepAs X.K α1 H1 ys vs:=by
     unfold UZ at e2
     split at e2
     ·cases e2
      obtain⟨a,vs,rfl,t,r⟩:=ru
      exact⟨a,vs,rfl, .inr t.sq,r⟩
     ·obtain⟨a,vs,rfl,t,r⟩:=E1 hr1 ru e2
      exact⟨a,vs,rfl, .inl t,r⟩
    obtain⟨a,vs,rfl,t,r⟩:=hsq
    obtain⟨ws,h1,h2⟩:=LD e3 r
    exact .inr ⟨a,vs,ws,rfl,t,h1,by rw[h2.len,sizeLine_eq];exact hl,fun p hp=>SL hr1 hp (h2.merge .nil) fun α' H' w ev hr' rw=>k α' H' w (ev1.trans ev) hr' rw⟩
   ·cases e1
 ·cases e
end
end L2
namespace L2
open PySem PySem.Spec PyProof.Rows
theorem WN {A:Around} {k:Nat} (hr:Room k A):A.units+1<cLine:=Nat.lt_of_le_of_lt (Nat.add_le_add_left (by decide) _) (A8 hr)
end L2
namespace L2
open PySem
theorem SN {i:Int} {ρ:B4} {h:A7} {O:Option Int→A7→Prop} (q:O (some i) h):Ens (GB (mC (.int i)) ρ h) O:=⟨_,_,rfl,q⟩
theorem RK {xs:List M} {P:Prop} (h:xs.length≤16777216) (q:P):xs.length≤16777216∧P:=⟨h,q⟩
theorem YE {R:M→Prop} {h:A7} {xs:List M} {j:Nat} {x:M} (e:xs[j]? =some x) (q:R x):Enp (B7 (.tup xs) (.int (j:Int)) h) R:=⟨x,by show L1 xs (j:Int)=_;rw[HH e],q⟩
theorem mU {R:M→Prop} {h:A7} {a:M} {ps:List M} (q:R a):Enp (B7 (.tup (a::ps)) (.int 0) h) R:=YE (j:=0) rfl q
theorem tF {R:M→Prop} {h:A7} {a b:M} {ps:List M} (q:R b):Enp (B7 (.tup (a::b::ps)) (.int 1) h) R:=YE (j:=1) rfl q
theorem tS {R:M→Prop} {h:A7} {a b c:M} {ps:List M} (q:R c):Enp (B7 (.tup (a::b::c::ps)) (.int 2) h) R:=YE (j:=2) rfl q
theorem uS {R:M→Prop} {h:A7} {a b c d:M} {ps:List M} (q:R d):Enp (B7 (.tup (a::b::c::d::ps)) (.int 3) h) R:=YE (j:=3) rfl q
theorem qG {R:M→Prop} {h:A7} {xs:List M} {j:Nat} {x:M} (e:xs[j]? =some x) (q:R x):Enp (B7 (.lst xs) (.int (j:Int)) h) R:=⟨x,by show L1 xs (j:Int)=_;rw[HH e],q⟩
theorem gB {R:M→Prop} {h:A7} {a:M} {ps:List M} (q:R a):Enp (B7 (.lst (a::ps)) (.int 0) h) R:=qG (j:=0) rfl q
theorem lO {R:M→Prop} {h:A7} {a b:M} {ps:List M} (q:R b):Enp (B7 (.lst (a::b::ps)) (.int 1) h) R:=qG (j:=1) rfl q
theorem GR {R:M→Prop} {h:A7} {xs:List M} {r:Int} (h0:0≤r) (h1:r<xs.length) (q:∀x∈xs,R x):Enp (B7 (.lst xs) (.int r) h) R:=by
 obtain⟨j,rfl⟩:=Int.eq_ofNat_of_zero_le h0
 have hj:j<xs.length:=by omega
 refine⟨xs[j],?_,q _ (List.getElem_mem hj)⟩
 show L1 xs (j:Int)=_
 rw[HH (List.getElem?_eq_getElem hj)]
theorem hX {R:M→Prop} {h:A7} {z:Str} {r:Int} (hl:z.length≤16777216) (h0:0≤r) (h1:r<(z.cps.toList.length:Int)) (q:∀c∈z.cps.toList,R (.str ⟨#[c]⟩)):Enp (B7 (.str z) (.int r) h) R:=by
 obtain⟨j,rfl⟩:=Int.eq_ofNat_of_zero_le h0
 have hj:j<z.cps.toList.length:=by omega
 exact p6 hl (HH (List.getElem?_eq_getElem hj)) (q _ (List.getElem_mem hj))
theorem sV {g:A7} {o:MO} {k:Nat} (e:k=g.length):(g++[o])[k]? =some o:=by subst e;simp
theorem mX {g:A7} {o o':MO} {k:Nat} (e:k=g.length):(g++[o]).set k o'=g++[o']:=by subst e;simp
theorem Y7 {k:Nat} {h:A7} {xs:List M} {y:M} {R:M→A7→Prop} (e:h[k]? =some (.lst xs)) (hl:xs.length<16777216) (q:R .non (h.set k (.lst (xs++[y])))):Ens (JI (.ref k) [y] h) R:=⟨.non,_,by unfold JI mD;simp only[e];rw[if_pos hl];rfl,q⟩
theorem lD {k:Nat} {h:A7} {xs:List M} (e:h[k]? =some (.lst xs)):sY (.ref k) h=true:=by unfold sY KM;simp only[e];rfl
theorem cN {k:Nat} {h:A7} {xs:List M} (e:h[k]? =some (.lst xs)):KM h (.ref k)=some xs:=by unfold KM;simp only[e]
theorem BA {k:Nat} {h:A7} {kvs:List (AI×M)} (e:h[k]? =some (.dct kvs)):BK h (.ref k)=some kvs:=by unfold BK;simp only[e]
theorem DU {h:A7} {kvs:List (AI×M)}:BK h (HS kvs)=some kvs:=by
 show(if(kvs.map (·.1)).length=(kvs.map (·.2)).length then some ((kvs.map (·.1)).zip (kvs.map (·.2))) else none)=_
 rw[if_pos (by simp)]
 congr 1
 induction kvs with
 |nil=>rfl
 |cons kv kvs ih=>rw[List.map_cons,List.map_cons,List.zip_cons_cons,ih]
theorem O4 {k:Nat} {h:A7} {kvs:List (AI×M)} (e:h[k]? =some (.dct kvs)):aP (.ref k) h=true:=by unfold aP;rw[BA e];rfl
theorem OY {xs:List M} {g:FG} {c:FT} {e:FE} {τ:B4} {h:A7} {V:List M→A7→Prop} (p:M→Bool) (f:M→M)
 (hs:∀x∈xs,Ens (g x τ h) fun τ' h1=>h1=h∧Ens (c τ' h1) fun t h2=>h2=h∧t=p x∧(t=true→Ens (e τ' h2) fun y h3=>h3=h∧y=f x)) (q:V ((xs.filter p).map f) h):Ens (CY xs none g c e τ xs h) V:=by
 refine PB (fun i acc h'=>h'=h∧acc=((xs.take i).filter p).map f) ⟨rfl,by simp⟩ ?_ ?_
 ·rintro i x acc h' hx ⟨rfl,rfl⟩
  have ht:xs.take (i+1)=xs.take i++[x]:=ML hx
  refine(hs x (List.mem_of_getElem? hx)).mono ?_
  rintro τ' h1 ⟨rfl,z⟩
  refine z.mono ?_
  rintro t h2 ⟨rfl,rfl,z⟩
  refine EJ (fun hp=> ?_) (fun hp=> ?_)
  ·refine(z hp).mono ?_
   rintro y h3 ⟨rfl,rfl⟩
   exact⟨rfl,by rw[ht,List.filter_append,List.map_append];simp[hp]⟩
  ·exact⟨rfl,by rw[ht,List.filter_append];simp[hp]⟩
 ·rintro acc h' ⟨rfl,rfl⟩
  rw[List.take_length];exact q
theorem J6 {ρ:B4} {h:A7} {R:M→A7→Prop} (q:R (.ref h.length) (h++[.dct []])):Ens (IT ρ h) R:=⟨_,_,rfl,q⟩
theorem i9 {ρ:B4} {h:A7} {R:M→A7→Prop} (q:R (HS []) h):Ens (X3 ρ h) R:=⟨_,_,rfl,q⟩
theorem G7 {md mi mv:FE} {ρ:B4} {h:A7} {S:Out→A7→Prop} (q:Ens (mv ρ h) fun v h1=>Ens (md ρ h1) fun x h2=>Ens (mi ρ h2) fun y h3=>∃k key kvs,x= .ref k∧E9 y=some key∧h3[k]? =some (.dct kvs)∧kvs.length<16777216∧S (.nx ρ) (h3.set k (.dct (FY kvs key v)))):
 Ens (GC md mi mv ρ h) S:= .bnd (q.mono fun v h1 q=> .bnd (q.mono fun x h2 q=> .bnd (q.mono fun y h3 q=>by
 obtain⟨k,key,kvs,rfl,e1,e2,hl,q⟩:=q
 refine⟨.nx ρ,_,?_,q⟩
 unfold eJ
 simp only[e1,e2]
 rw[if_pos hl];rfl)))
theorem TR {mas:FA} {ρ:B4} {h:A7} {R:M→A7→Prop} (q:Ens (mas ρ h) fun xs h1=>∃x kvs,xs=[x]∧R5 x h1=some kvs∧R (.ref h1.length) (h1++[.dct kvs])):Ens (OS mas ρ h) R:= .bnd (q.mono fun xs h1 q=>by
 obtain⟨x,kvs,rfl,e,q⟩:=q
 exact⟨_,_,by dsimp only;rw[e];rfl,q⟩)
theorem kB {k:Nat} {h:A7} {kvs:List (AI×M)} {y v:M} {key:AI} {R:M→A7→Prop} (e1:E9 y=some key) (e2:h[k]? =some (.dct kvs)) (e3:B6 kvs key=some v) (q:R v (h.set k (.dct (LO kvs key)))):Ens (MM (.ref k) [y] h) R:=⟨v,_,by
 show(E9 y).bind _=_
 rw[e1,Option.bind_some]
 simp only[e2,e3]
 rfl,q⟩
theorem kH {x y z:M} {h:A7} {kvs:List (AI×M)} {key:AI} {R:M→A7→Prop} (e1:E9 y=some key) (e2:BK h x=some kvs) (q:R ((B6 kvs key).getD z) h):Ens (U1 x [y,z] h) R:=⟨_,_,by
 show(E9 y).bind _=_
 rw[e1,Option.bind_some,e2]
 rfl,q⟩
theorem GM {x y v:M} {h:A7} {kvs:List (AI×M)} {key:AI} {R:M→Prop} (e1:E9 y=some key) (e2:BK h x=some kvs) (e3:B6 kvs key=some v) (q:R v):Enp (B7 x y h) R:=⟨v,by
 unfold B7
 rw[e2]
 show(E9 y).bind _=_
 rw[e1];exact e3,q⟩
theorem fD {x y:M} {h:A7} {kvs:List (AI×M)} {key:AI} {R:M→Prop} (e1:E9 x=some key) (e2:BK h y=some kvs) (q:R (.bl (B6 kvs key).isSome)):Enp (JX x y h) R:=⟨_,by
 unfold JX
 rw[e2]
 show(E9 x).map _=_
 rw[e1];rfl,q⟩
theorem Q9 {x y:M} {h:A7} {kvs:List (AI×M)} {key:AI} {R:M→Prop} (e1:E9 x=some key) (e2:BK h y=some kvs) (q:R (.bl (!(B6 kvs key).isSome))):Enp (HA x y h) R:=⟨_,by
 unfold HA
 rw[e2]
 show(E9 x).map _=_
 rw[e1];rfl,q⟩
theorem R9 {x:M} {h:A7} {kvs:List (AI×M)} {names:List Str} {R:M→Prop} (e:BK h x=some kvs) (e2:GQ kvs=some names) (hl:kvs.length<64) (q:R (.lst (NW kvs names))):Enp (EU x h) R:=⟨_,by
 unfold EU
 rw[e,Option.bind_some,e2,Option.bind_some,if_pos hl],q⟩
theorem PD {x:M} {h:A7} {kvs:List (AI×M)} {names:List Str} {R:M→Prop} (e:BK h x=some kvs) (e2:GQ kvs=some names) (hl:kvs.length<64) (q:R (.lst ((CI names).map .str))):Enp (IE [x] h) R:=⟨_,by
 show(BK h x).bind _=_
 rw[e,Option.bind_some,e2,Option.bind_some,if_pos hl],q⟩
theorem qP {R:M→Prop} {h:A7} {k:Nat} {x:M} (hx:Pu k x) (hk:k≤150) (q:R (.bl true)):Enp (E2 x x h) R:=by
 obtain⟨d,e,dd,_⟩:=hx.toD h
 refine⟨.bl true,?_,q⟩
 unfold E2
 rw[e,Option.bind_some]
 show(if d.deep≤150 then some (M.bl (BO d d)) else none)=_
 rw[if_pos (by omega),GZ]
theorem N5:∀cs:List Str,NO (cs.map M.str)=some cs
 |[]=>rfl
 |c::cs=>by show(NO (cs.map M.str)).map (c:: ·)=_;rw[N5 cs];rfl
theorem kN {z:Str} {cs:List Str} {h:A7} {R:M→A7→Prop} (e:(cs.map (·.length)).sum+cs.length*z.length≤16777216) (q:R (.str (Txt.join z cs)) h):Ens (UN (.str z) [.lst (cs.map M.str)] h) R:=⟨_,_,by
 show(NO (cs.map M.str)).bind _=_
 rw[N5,Option.bind_some,if_pos e],q⟩
theorem WL {z:Str} (hz:z.cps= #[]) (cs:List Str):(Txt.join z cs).cps.toList=(cs.map fun c=>c.cps.toList).flatten:=by
 have key:∀(ps:List Str) (acc:Array Nat),(ps.foldl (fun acc p=>acc++z.cps++p.cps) acc).toList=acc.toList++(ps.map fun c=>c.cps.toList).flatten:=by
  intro ps
  induction ps with
  |nil=>intro acc;simp
  |cons p ps ih=>intro acc;rw[List.foldl_cons,ih,hz];simp
 cases cs with
 |nil=>rfl
 |cons c cs=>
  show(cs.foldl (fun acc p=>acc++z.cps++p.cps) c.cps).toList=_
  rw[key];rfl
end L2
namespace L2
open PySem PySem.Spec PyProof.Rows
section
variable {X:Cx} {K:PySem.W.Frag} {pins:List (Addr×Obj)} {σ:St} {H:Hp} {s:Shared}
def nO:R2:=fun x y H Q=>∃a b ws,x= .ref a∧y= .ref b∧Rd H a (.dK ws)∧Rd H b (.dK [])∧Q (.bl (!(ws.length==0))) H
theorem kP (hu:X.A.units+1<cLine):OpR X (compareOp .NotEq) nO:=by
 intro pins s σ H x y v u Q I rx ry h
 obtain⟨a,b,ws,rfl,rfl,ha,hb,q⟩:=h
 obtain rfl:v=Value.ref a:=rx
 obtain rfl:u=Value.ref b:=ry
 obtain⟨z,hd,vs,rel,dd⟩:=DK I.hok ha
 obtain⟨z2,hd2,vs2,rel2,dd2⟩:=DK I.hok hb
 have hl:ws.length=vs.length:=KV.length rel
 have e2:vs2=[]:=by have:=KV.length rel2;exact List.length_eq_zero_iff.mp this.symm
 subst e2
 refine PySem.W.keq_ne (r:=true) hd hd2 dd dd2 (by omega) (fun e=> ?_) ⟨.bl _,H,I,rfl,?_⟩
 ·have:vs=[]:=List.length_eq_zero_iff.mp e
  subst this
  exact .nil
 ·rw[←hl];simpa using q
def TH (x y:M) (h:A7):Option M:=(BK h x).bind fun kvs=>(BK h y).bind fun kvs'=>if kvs'.length=0 then some (.bl (!(kvs.length==0))) else none
theorem iA:MR K nO TH:=by
 intro α h H x y d u v Q hr rx ry e k
 obtain⟨kvs,e1,e⟩:=Option.bind_eq_some_iff.mp e
 obtain⟨kvs',e2,e⟩:=Option.bind_eq_some_iff.mp e
 split at e
 ·rename_i h0
  cases e
  obtain⟨a,ws,rfl,ha,r1,r2⟩:=BL hr rx e1
  obtain⟨b,us,rfl,hb,r3,r4⟩:=BL hr ry e2
  have l1:ws.length=kvs.length:=RepD.len (K:=K) (α:=α) (H:=H) ⟨r1,r2⟩
  have l2:us.length=kvs'.length:=RepD.len (K:=K) (α:=α) (H:=H) ⟨r3,r4⟩
  have:us=[]:=List.length_eq_zero_iff.mp (by omega)
  subst this
  exact⟨a,b,ws,rfl,rfl,ha,hb,k H _ (Same.refl _) (by rw[l1];rfl)⟩
 ·cases e
end
section
variable {R:M→Prop} {Q:M→A7→Prop} {h:A7}
theorem qM {x:M} {kvs:List (AI×M)} (e:BK h x=some kvs) (q:R (.bl (!(kvs.length==0)))):Enp (TH x (HS []) h) R:=⟨_,by
 unfold TH
 rw[e,Option.bind_some,DU,Option.bind_some];rfl,q⟩
theorem RX {a b:Str} (e:a.length+b.length≤16777216) (q:R (.str (a++b))):Enp (C7 (.str a) (.str b) h) R:=⟨_,by show(if _ then _ else _)=_;rw[if_pos e],q⟩
theorem oH {z:Str} {lo hi:Option Int} (e:z.length≤16777216) (q:R (.str (Txt.slice z lo hi))):Enp (X5 (.str z) lo hi h) R:=⟨_,by show(if _ then _ else _)=_;rw[if_pos e],q⟩
theorem slice_le {z:Str} {lo hi:Option Int} {n:Nat} (e:z.length≤n):(Txt.slice z lo hi).length≤n:=Nat.le_trans (Txt.slice_le z lo hi) e
theorem TX {b:Bool}:∀(bs:List Bool),(bs.map D.bl).any (fun e=>BO e (.bl b))=bs.any (· ==b)
 |[]=>rfl
 |c::bs=>by rw[List.map_cons,List.any_cons,List.any_cons,TX bs];simp[BO]
theorem NR:∀(bs:List Bool),SS h (bs.map M.bl)=some (bs.map D.bl)
 |[]=>rfl
 |b::bs=>by
  show(S0 (DL h 20) (M.bl b)).bind (fun d=>(DN (DL h 20) (bs.map M.bl)).map (d:: ·))=_
  rw[show DN (DL h 20) (bs.map M.bl)=some (bs.map D.bl) from NR bs];rfl
theorem MP:∀(bs:List Bool),D.deeps (bs.map D.bl)=0
 |[]=>rfl
 |b::bs=>by rw[List.map_cons,D.deeps,MP bs];rfl
theorem YB {b:Bool} {bs:List Bool} {f:Bool→M}:O3 (.bl b) (bs.map M.bl) h f=some (f (bs.any (· ==b))):=by
 unfold O3
 rw[NR,Option.bind_some]
 show(some (D.bl b)).bind _=_
 rw[Option.bind_some,if_pos (by rw[MP];decide),TX]
theorem WH {b:Bool} {bs:List Bool} (q:R (.bl (bs.any (· ==b)))):Enp (JX (.bl b) (.lst (bs.map M.bl)) h) R:=⟨_,YB (f:=fun b=> .bl b),q⟩
end
end L2
set_option maxHeartbeats 1000000
set_option maxHeartbeats 1000000
set_option maxHeartbeats 1000000
set_option maxHeartbeats 1000000
set_option maxHeartbeats 1000000
set_option maxHeartbeats 1000000
set_option maxHeartbeats 1000000
set_option maxHeartbeats 1000000
namespace L2
open PySem PySem.Spec PyProof.Rows
def OH (f:Str) (y:M):List (Str×M)→List (Str×M)
 |[]=>[(f,y)]
 |(g,x)::r=>if g=f then(g,y)::r else(g,x)::OH f y r
def KB (h:A7) (c:Str):M→Option (Nat×List (Str×M))
 | .ref k=>(match h[k]?with|some (.ins c' fs)=>if c'=c then some (k,fs) else none|_=>none)
 |_=>none
theorem JQ {h:A7} {c:Str} {x:M} {k:Nat} {fs:List (Str×M)} (e:KB h c x=some (k,fs)):x= .ref k∧h[k]? =some (.ins c fs):=by
 unfold KB at e
 split at e
 ·split at e
  ·rename_i c' fs' hk
   split at e
   ·rename_i hc
    cases e
    exact⟨rfl,by rw[←hc];exact hk⟩
   ·cases e
  ·cases e
 ·cases e
def JV (c f:Str) (mo:FE):FE:=fun ρ h=>bnd (mo ρ h) fun x h1=>(KB h1 c x).bind fun p=>(p.2.lookup f).map (·,h1)
def KH (c f:Str) (mo mv:FE):FS:=fun ρ h=>bnd (mv ρ h) fun y h1=>bnd (mo ρ h1) fun x h2=>(KB h2 c x).bind fun p=>if p.2.length<1000 then some (.nx ρ,h2.set p.1 (.ins c (OH f y p.2))) else none
def TJ (c:Str) (f:FF) (as:FA):FE:=fun ρ h=>bnd (as ρ h) fun xs h1=>bnd (f (.ref h1.length::xs) (h1++[.ins c []])) fun d h2=>match d with| .non=>some (.ref h1.length,h2)|_=>none
def DM (c m:Str) (f:FF) (mo:FE) (as:FA):FE:=fun ρ h=>bnd (mo ρ h) fun x h1=>(KB h1 c x).bind fun p=>if(p.2.lookup m).isNone=true then bnd (as ρ h1) fun xs h2=>f (x::xs) h2 else none
theorem MC {K:PySem.W.Frag} {α:Pl} {H:Hp} {f:Str}:∀{fs:List (Str×M)} {ws:List (Str×V)},ws.map (·.1)=fs.map (·.1)→RepAs K α H (fs.map (·.2)) (ws.map (·.2))→
 (fs.lookup f=none→ws.lookup f=none)∧∀m,fs.lookup f=some m→∃v,ws.lookup f=some v∧RepA K α H m v
 |[],[],_,_=>⟨fun _=>rfl,fun m e=>by cases e⟩
 |[],_::_,e,_=>by cases e
 |_::_,[],e,_=>by cases e
 |(g,x)::fs,(g',v)::ws,e,r=>by
  have e':g'::ws.map (·.1)=g::fs.map (·.1):=e
  injection e' with e1 e2
  subst e1
  obtain⟨u,q,e3,r1,r2⟩:=r
  have e3':v::ws.map (·.2)=u::q:=e3
  injection e3' with e4 e5
  subst e4 e5
  have ih:=MC (f:=f) e2 r2
  simp only[List.lookup_cons]
  by_cases h:(f==g')=true
  ·rw[h]
   exact⟨fun z=>(by cases z),fun m z=>(by cases z;exact⟨v,rfl,r1⟩)⟩
  ·rw[Bool.not_eq_true]at h
   rw[h]
   exact ih
theorem UM {K:PySem.W.Frag} {α:Pl} {H:Hp} {f:Str} {y:M} {u:V} (ry:RepA K α H y u):∀{fs:List (Str×M)} {ws:List (Str×V)},ws.map (·.1)=fs.map (·.1)→RepAs K α H (fs.map (·.2)) (ws.map (·.2))→
 (FH f u ws).map (·.1)=(OH f y fs).map (·.1)∧RepAs K α H ((OH f y fs).map (·.2)) ((FH f u ws).map (·.2))
 |[],[],_,_=>⟨rfl,u,[],rfl,ry,rfl⟩
 |[],_::_,e,_=>by cases e
 |_::_,[],e,_=>by cases e
 |(g,x)::fs,(g',v)::ws,e,r=>by
  have e':g'::ws.map (·.1)=g::fs.map (·.1):=e
  injection e' with e1 e2
  subst e1
  obtain⟨w,q,e3,r1,r2⟩:=r
  have e3':v::ws.map (·.2)=w::q:=e3
  injection e3' with e4 e5
  subst e4 e5
  have ih:=UM (f:=f) ry e2 r2
  unfold FH OH
  by_cases h:g'=f
  ·rw[if_pos h,if_pos h]
   exact⟨by rw[List.map_cons,List.map_cons,e2],u,_,rfl,ry,r2⟩
  ·rw[if_neg h,if_neg h]
   exact⟨by rw[List.map_cons,List.map_cons,ih.1],v,_,rfl,r1,ih.2⟩
section
variable {X:Cx} {o value e:Expr} {es:List Expr} {mo mv:FE} {mas:FA} {c f m x:Str} {C:Addr} {pos pos' apos p:Pos} {CX:PM} {n:Nat} {g:Addr} {fd:FuncData} {ps:List Str} {mf:FF} {E:XK}
theorem FB (hc:DI X.K c=some C) (cl:Cls X.K C) (na:NoAttr X.K C f) (ho:PE X o (tM X.K mo)) (hb:attributeBase o f X.env (eval o X.env)=eval o X.env):PE X (.Attribute o f pos) (tM X.K (JV c f mo)):=
 (lC ho hb).imp fun σ H Q ⟨α,ρ,h,d,h',hσ,hr,e,k⟩=>by
 obtain⟨x,h1,e1,e⟩:=A6 e
 obtain⟨p,e2,e⟩:=Option.bind_eq_some_iff.mp e
 obtain⟨e3,e4⟩:=DV e
 dsimp only at e3 e4
 subst e4
 refine⟨α,ρ,h,x,_,hσ,hr,e1,fun α1 H1 v ev1 hr1 rv=> ?_⟩
 obtain⟨rfl,hk⟩:=JQ e2
 obtain⟨a,ha,rfl⟩:=rv
 obtain⟨C',dx,ws,h0,h2,h3,h4⟩:=hr1.obj p.1 a _ ha hk
 rw[hc]at h0
 cases h0
 obtain⟨u,hu,ru⟩:=(MC (f:=f) h3 h4).2 _ e3
 exact⟨a,_,dx,ws,u,rfl,h2,cl,na,hu,k α1 H1 u ev1 hr1 ru⟩
theorem JP (hc:DI X.K c=some C) (cl:Cls X.K C) (na:NoAttr X.K C f) (ho:PE X o (tM X.K mo)) (hv:PE X value (tM X.K mv)) (hs:swapsWith value (some (.Attribute o f pos')) pos.line X.env=pure false):
 PS X (.Assign [.Attribute o f pos'] value pos) (sM X.K (KH c f mo mv)):=(m6 ho hv hs).imp fun D σ H ⟨α,ρ,h,d,h',hσ,hr,e,k⟩=>by
 obtain⟨y,h1,e1,e⟩:=A6 e
 obtain⟨x,h2,e2,e⟩:=A6 e
 obtain⟨p,e3,e⟩:=Option.bind_eq_some_iff.mp e
 split at e
 ·rename_i hl
  cases e
  refine⟨α,ρ,h,y,h1,hσ,hr,e1,fun α1 H1 u ev1 hr1 ru=>⟨α1,ρ,h1,x,h2,hσ.ev ev1,hr1,e2,fun α2 H2 v ev2 hr2 rv=> ?_⟩⟩
  obtain⟨rfl,hk⟩:=JQ e3
  obtain⟨a,ha,rfl⟩:=rv
  obtain⟨C',dx,ws,h0,h5,h3,h4⟩:=hr2.obj p.1 a _ ha hk
  have hz:=hc
  rw[h0]at hz
  cases hz
  have hlen:ws.length=p.2.length:=by have:=congrArg List.length h3;simpa using this
  have ev:Ev α2 α2 H2 (upd H2 a (.ins C dx (FH f u ws))):=Ev.write hr2 (List.mem_of_getElem? ha) (vR h5)
  have q:=UM (f:=f) ((ru.ev ev2).ev ev) (ws:=ws) (fs:=p.2) h3 (h4.ev ev)
  refine⟨a,C,dx,ws,rfl,h5,cl,na,by rw[hlen];exact hl,?_⟩
  exact k α2 _ ((ev1.trans ev2).trans ev) (hr2.write ha ⟨C,dx,_,h0,AH,q.1,q.2⟩ (vR h5)) σ (((hσ.ev ev1).ev ev2).ev ev)
 ·cases e
theorem aJ {K:PySem.W.Frag} {α:Pl} {h:A7} {H:Hp} {a dx:Addr} (hc:DI K c=some C) (hr:Rl K α h H) (ha:H a=none) (hd:H dx=none) (hne:dx≠a):
 Ev α (α.add a) H (upd (upd H dx (.own a)) a (.ins C dx []))∧Rl K (α.add a) (h++[.ins c []]) (upd (upd H dx (.own a)) a (.ins C dx [])):=by
 have s1:Same H (upd H dx (.own a)):=AX hd _
 have ha2:(upd H dx (.own a)) a=none:=by rw[AF (Ne.symm hne)];exact ha
 exact⟨(Ev.same s1).trans (.alloc ha2),(hr.same s1).alloc ha2 ⟨C,dx,[],hc,AH,rfl,rfl⟩⟩
theorem oE {K:PySem.W.Frag} {α1:Pl} {h1 h':A7} {H1:Hp} {xs:List M} {vs:List V} {d:M} {Q:VK} (hc:DI K c=some C) (hr1:Rl K α1 h1 H1) (rs:RepAs K α1 H1 xs vs) (e:(bnd (mf (.ref h1.length::xs) (h1++[.ins c []])) fun d h2=>match d with| .non=>some (M.ref h1.length,h2)|_=>none)=some (d,h'))
 (k:∀α2 H2 w,Ev α1 α2 H1 H2→Rl K α2 h' H2→RepA K α2 H2 d w→Q w H2):∀a dx,H1 a=none→H1 dx=none→dx≠a→FC K mf (.ref a::(vs++[])) (upd (upd H1 dx (.own a)) a (.ins C dx [])) (fun v H2=>v= .non∧Q (.ref a) H2) E:=fun a dx ha hd hne=>by
 obtain⟨ev,hr2⟩:=aJ (c:=c) hc hr1 ha hd hne
 obtain⟨y,h2,e2,e⟩:=A6 e
 have hi:(α1.add a).a[h1.length]? =some a:=by rw[←hr1.len];simp[Pl.add]
 split at e
 ·cases e
  refine⟨α1.add a,h1++[.ins c []], .ref h1.length::xs, .non,h',⟨.ref a,vs++[],rfl,⟨a,hi,rfl⟩,by rw[List.append_nil];exact rs.ev ev⟩,hr2,e2,fun α3 H3 w ev3 hr3 rw'=> ?_⟩
  cases(show w= .non from rw')
  exact⟨rfl,k α3 H3 (.ref a) (ev.trans ev3) hr3 ⟨a,ev3.ix hi,rfl⟩⟩
 ·cases e
theorem YO (hc:DI X.K c=some C) (Mk':Mk X.K C g) (F:FnOk X.prog X.w X.K X.mg X.base CX n g fd ps (FC X.K mf)) (hr:Room (n+1) X.A) (q:NmOk X.env.scope x .globalImplicit) (hm:X.mg x=some (.ref C)) (hb:Binds X.K fd ps []) (hx:E3 CX X E):
 PE X (.Call (.Name x p) [] [] pos) (tM X.K (TJ c mf AB)):=
 (XB Mk' F hr q.lk hm hb .nil hx q.db).imp fun σ H Q ⟨α,ρ,h,d,h',hσ,hr,e,k⟩=>by
 obtain⟨xs,h1,e1,e⟩:=A6 e
 cases e1
 exact oE (xs:=[]) (vs:=[]) hc hr rfl e k
theorem bK {pl:Sem Bool} (hc:DI X.K c=some C) (cl:Cls X.K C) (hm:Meth X.K C m g) (F:FnOk X.prog X.w X.K X.mg X.base CX n g fd ps (FC X.K mf)) (hr:Room n X.A) (hb:Binds X.K fd ps []) (hx:E3 CX X E) (ho:PE X o (tM X.K mo)) (ha:PA X (e::es) (aM X.K mas))
 (he:B5 e=true) (hpl:(backTo pos (starEach es X.env)).any (·.1)=false)
 (ht:eval (.Call (.Attribute o m apos) (e::es) [] pos) X.env=(do
   let ov←eval o X.env
   standAt apos.atName
   let(f,first)←holding [ov] (getMethod ov m pl)
   callWith pos f first (backTo pos (starEach (e::es) X.env)) (backToKw pos (keywordEach [] X.env)))):
 PE X (.Call (.Attribute o m apos) (e::es) [] pos) (tM X.K (DM c m mf mo mas)):=
 (cB ho cl hm F hr hb .nil hx ha (FV he) hpl ht).imp fun σ H Q ⟨α,ρ,h,d,h',hσ,hr,e,k⟩=>by
 obtain⟨x,h1,e1,e⟩:=A6 e
 obtain⟨p,e2,e⟩:=Option.bind_eq_some_iff.mp e
 split at e
 ·rename_i hn
  obtain⟨xs,h2,e3,e⟩:=A6 e
  refine⟨α,ρ,h,x,h1,hσ,hr,e1,fun α1 H1 v ev1 hr1 rv=> ?_⟩
  obtain⟨rfl,hk⟩:=JQ e2
  have rv0:=rv
  obtain⟨a,ha,rfl⟩:=rv
  obtain⟨C',dx,ws,h0,h5,h3,h4⟩:=hr1.obj p.1 a _ ha hk
  have hz:=hc
  rw[h0]at hz
  cases hz
  refine⟨a,dx,ws,rfl,h5,(MC (f:=m) h3 h4).1 (Option.isNone_iff_eq_none.mp hn),α1,ρ,h1,xs,h2,hσ.ev ev1,hr1,e3,fun α2 H2 vs ev2 hr2 rs=> ?_⟩
  exact⟨α2,h2, .ref p.1::xs,d,h',⟨.ref a,vs++[],rfl,rv0.ev ev2,by rw[List.append_nil];exact rs⟩,hr2,e,fun α3 H3 w ev3 hr3 rw'=>k α3 H3 w ((ev1.trans ev2).trans ev3) hr3 rw'⟩
 ·cases e
end
section
variable {R:M→A7→Prop} {S:Out→A7→Prop} {ρ:B4} {h:A7} {mo mv:FE} {mas:FA} {c f m:Str} {mf:FF}
theorem SG {k:Nat} {fs:List (Str×M)} (e:h[k]? =some (.ins c fs)):KB h c (.ref k)=some (k,fs):=by unfold KB;simp only[e,if_true]
theorem qA (q:Ens (mo ρ h) fun x h1=>∃k fs y,x= .ref k∧h1[k]? =some (.ins c fs)∧fs.lookup f=some y∧R y h1):Ens (JV c f mo ρ h) R:= .bnd (q.mono fun x h1 q=>by
 obtain⟨k,fs,y,rfl,e1,e2,q⟩:=q
 exact⟨y,h1,by rw[SG e1,Option.bind_some];show(List.lookup f fs).map _=_;rw[e2];rfl,q⟩)
theorem JT (q:Ens (mv ρ h) fun y h1=>Ens (mo ρ h1) fun x h2=>∃k fs,x= .ref k∧h2[k]? =some (.ins c fs)∧fs.length<1000∧S (.nx ρ) (h2.set k (.ins c (OH f y fs)))):Ens (KH c f mo mv ρ h) S:= .bnd (q.mono fun y h1 q=> .bnd (q.mono fun x h2 q=>by
 obtain⟨k,fs,rfl,e1,e2,q⟩:=q
 exact⟨_,_,by rw[SG e1,Option.bind_some];exact if_pos e2,q⟩))
theorem lB (q:Ens (mas ρ h) fun xs h1=>Ens (mf (.ref h1.length::xs) (h1++[.ins c []])) fun d h2=>d= .non∧R (.ref h1.length) h2):Ens (TJ c mf mas ρ h) R:= .bnd (q.mono fun xs h1 q=> .bnd (q.mono fun d h2 q=>by
 obtain⟨rfl,q⟩:=q
 exact⟨_,_,rfl,q⟩))
theorem iH (q:Ens (mo ρ h) fun x h1=>∃k fs,x= .ref k∧h1[k]? =some (.ins c fs)∧fs.lookup m=none∧Ens (mas ρ h1) fun xs h2=>Ens (mf (.ref k::xs) h2) R):Ens (DM c m mf mo mas ρ h) R:= .bnd (q.mono fun x h1 q=>by
 obtain⟨k,fs,rfl,e1,e2,q⟩:=q
 show Ens ((KB h1 c (.ref k)).bind _) R
 rw[SG e1,Option.bind_some]
 dsimp only
 rw[if_pos (by rw[e2];rfl)]
 exact .bnd q)
end
end L2
namespace L2
open PySem PySem.Spec PyProof.Rows
def RT:FS:=fun _ _=>none
section
variable {X:Cx}
theorem QP {st:Stmt}:PS X st (sM X.K RT):=fun pins s σ H D I ⟨_,_,_,_,_,_,_,e,_⟩=>nomatch e
theorem gY {body:List Stmt} {h₀:ExceptHandler} {hs:List ExceptHandler} {pos:Pos} {mb:FS} (hx:X.xe=fun _ _=>False) (hb:PSs X body (sM X.K mb)):PS X (.Try body (h₀::hs) [] [] pos) (sM X.K mb):=
 fun pins s σ H D I q=>wpAny_Try_except (wpAny_mono (hb pins s σ H D I q) (fun f s₁ h=>by
  cases f<;>first|exact h|exact wpAny_pure h) (fun e s₁ h=>by rw[hx]at h;exact h.elim))
end
end L2
namespace L2
open PySem PySem.Spec PyProof.Rows
section
variable {X:Cx} {o e:Expr} {es:List Expr} {mo:FE} {mas:FA} {c m x:Str} {C:Addr} {pos apos p:Pos} {n:Nat} {g:Addr} {fd:FuncData} {ps:List Str} {mf:FF}
theorem TV:E3 EW X E0:=fun _ _ _ _ _ _ _ h=>h.elim
theorem V4 (hc:DI X.K c=some C) (Mk':Mk X.K C g) (F:FnOk X.prog X.w X.K X.mg X.base EW n g fd ps (FC X.K mf)) (hr:Room (n+1) X.A) (q:NmOk X.env.scope x .globalImplicit) (hm:X.mg x=some (.ref C)) (hb:Binds X.K fd ps []):
 PE X (.Call (.Name x p) [] [] pos) (tM X.K (TJ c mf AB)):=YO hc Mk' F hr q hm hb TV
theorem C6 {pl:Sem Bool} (hc:DI X.K c=some C) (cl:Cls X.K C) (hm:Meth X.K C m g) (F:FnOk X.prog X.w X.K X.mg X.base EW n g fd ps (FC X.K mf)) (hr:Room n X.A) (hb:Binds X.K fd ps []) (ho:PE X o (tM X.K mo)) (ha:PA X (e::es) (aM X.K mas))
 (he:B5 e=true) (hpl:(backTo pos (starEach es X.env)).any (·.1)=false)
 (ht:eval (.Call (.Attribute o m apos) (e::es) [] pos) X.env=(do
   let ov←eval o X.env
   standAt apos.atName
   let(f,first)←holding [ov] (getMethod ov m pl)
   callWith pos f first (backTo pos (starEach (e::es) X.env)) (backToKw pos (keywordEach [] X.env)))):
 PE X (.Call (.Attribute o m apos) (e::es) [] pos) (tM X.K (DM c m mf mo mas)):=bK hc cl hm F hr hb TV ho ha he hpl ht
theorem bJ {m:FF} (C:Cal X.prog X.w X.K X.mg X.base n x m) (hr:Room n X.A) (q:NmOk X.env.scope x .globalImplicit):PE X (.Call (.Name x p) [] [] pos) (tM X.K (AR m AB)):=by
 obtain⟨f,fd,ps,F,h1,h2,h3⟩:=C.ex
 exact(YU F hr q.lk h1 h2 h3 .nil fP q.db).imp fun σ H Q ⟨α,ρ,h,d,h',hσ,hr,e,k⟩=>by
  obtain⟨xs,h0,e0,e⟩:=A6 e
  cases e0
  exact⟨α,h,[],d,h',rfl,hr,e,k⟩
end
end L2
namespace L2
open PySem PySem.Spec PyProof.Rows
section
variable {X:Cx} {K:PySem.W.Frag}
def XX:V→List V→Hp→VK→Prop:=fun x xs H Q=>∃a ws k y,x= .ref a∧xs=[kV k,y]∧H a=some (.dK ws)∧
 ((∃v,DO ws k=some v∧Q v (upd H a (.dK (HW ws k))))∨(DO ws k=none∧Q y H))
theorem Z6:eX X "dict.pop" XX:=by
 intro pins s σ H x xs v us Q I rx rs h
 obtain⟨a,ws,k,y,rfl,rfl,ha,q⟩:=h
 obtain⟨u,w,rfl,ru,rw'⟩:=NH rs
 obtain rfl:v=Value.ref a:=rx
 rcases q with⟨z,hz,q⟩|⟨hz,q⟩
 ·exact fH I ha ru hz (.inr ⟨_,rfl⟩) fun w' s' I' rw''=>⟨z,_,I',rw'',q⟩
 ·exact jG I ha ru hz fun s' I'=>⟨y,_,I',rw',q⟩
def JZ (x:M) (xs:List M) (h:A7):Option (M×A7):=match x,xs with
 | .ref q,[y,z]=>(E9 y).bind fun k=>(match h[q]?with|some (.dct kvs)=>(match B6 kvs k with|some v=>some (v,h.set q (.dct (LO kvs k)))|none=>some (z,h))|_=>none)
 |_,_=>none
theorem ZI:mL K XX JZ:=by
 intro α h h' H x xs d u us Q hr rx rs e k
 unfold JZ at e
 split at e
 ·rename_i q y z
  obtain⟨key,e1,e⟩:=Option.bind_eq_some_iff.mp e
  split at e
  ·rename_i kvs hq
   obtain⟨a,ha,rfl⟩:=rx
   obtain⟨v',w',rfl,rv,rw'⟩:=SW rs
   cases(DB e1 rv)
   obtain⟨ws,hw,r1,r2⟩:=hr.obj q a _ ha hq
   have vr:=EL (K:=K) (α:=α) (H:=H) key r1 r2
   split at e
   ·rename_i v e2
    cases e
    obtain⟨x,hx,rx⟩:=vr.2 _ e2
    have ev:Ev α α H (upd H a (.dK (HW ws key))):=Ev.write hr (List.mem_of_getElem? ha) (m7 hw)
    have rD:=(RepD.drop (k:=key) ⟨r1,r2⟩).ev ev
    exact⟨a,ws,key,w',rfl,rfl,hw, .inl ⟨x,hx,k α _ x ev (hr.write ha ⟨_,AH,rD.1,rD.2⟩ (m7 hw)) (rx.ev ev)⟩⟩
   ·rename_i e2
    cases e
    have hn:DO ws key=none:=by
     have:=vr.1
     rw[e2]at this
     cases hv:DO ws key with
     |none=>rfl
     |some _=>rw[hv]at this;cases this
    exact⟨a,ws,key,w',rfl,rfl,hw, .inr ⟨hn,k α H w' .refl hr rw'⟩⟩
  ·cases e
 ·cases e
def fR:List V→Hp→VK→Prop:=fun xs H Q=>(∃i,xs=[.int i]∧i.natAbs.log2<1920∧Q (.str (toString i)) H)∨∃z,xs=[.str z]∧Q (.str z) H
theorem V6:DA X (.type "str") fR:=by
 intro pins s σ H xs us Q I r h
 rcases h with h|⟨z,rfl,q⟩
 ·exact PC pins s σ H xs us Q I r h
 ·obtain⟨u,rfl,t,rfl⟩:=E7 r
  exact PySem.P.str_of_str ⟨.str _,H,I,⟨_,rfl⟩,q⟩
def UJ (xs:List M) (h:A7):Option M:=match xs with|[.str z]=>some (.str z)|_=>kO xs h
theorem dJ:FJ K fR UJ:=by
 intro α h H xs d us Q hr rs e k
 unfold UJ at e
 split at e
 ·cases e
  obtain⟨u,rfl,ru⟩:=FX rs
  cases ru
  exact .inr ⟨_,rfl,k H _ (Same.refl _) rfl⟩
 ·exact .inl (j6 α h H xs d us Q hr rs e k)
end
end L2
set_option maxHeartbeats 1000000
namespace ZT
open PySem PySem.W PyProof.Rows
section
variable {prog:Program} {w:World} {A:Around} {E:Value→Shared→Prop} {s:Shared}
open L2 in
theorem P3 {d:Addr} {kvs:List (AI×Value)} {ep:Nat} {names:List Int} {Q:Value→Shared→Prop} (hh:A.handled=none) (lo:(d==sysModules)=false) (hm:s.heap.DictAt (AW prog w) d kvs ep) (hk:kvs.map (·.1)=names.map Sum.inl) (h64:kvs.length<64)
 (h:∀(h':Heap) (tk:Nat) (D:Addr) (out:Array Value) (ns':List Int) (c:Nat),(∀b o,s.heap.get? b=some o→h'.get? b=some o)→s.heap.get? D=none→IntsAre out.toList ns'→ns'.Perm names→ns'.Pairwise (· ≤ ·)→h'.get? D=some (seqObj "list" out c)→Q (.ref D) {s with heap:=h',toks:=tk}):
 wpAny (model prog w) A (call (.builtin "sorted") [.ref d]) Q E s:=by
 have hln:kvs.length=names.length:=by simpa using congrArg List.length hk
 refine Calls.call_function_entry kind_sorted plain_sorted entry_sorted (args_sorted1 _) ?_
 unfold Builtin.«sorted»
 refine wpAny_bind (m:=checkCount "sorted" 1 1 _) (wpAny_pure ?_)
 refine wpAny_bind (KD (kdl_dict (knd:=AW prog w) (kvs:=kvs) (ep:=ep) lo) hh hm (by rw[sizeLine_eq];omega) fun h1 tk acc hk1 hacc=> ?_)
 have hS:IntsAre acc.toList names:=by
  have hl:acc.toList.length=names.length:=by rw[Array.length_toList,hacc.1,hln]
  have hi:∀(i:Nat) (v:Value),acc.toList[i]? =some v→∃t,v= .int (names.getD i 0) t:=fun i v e=>by
   obtain⟨k,x,e1,e2⟩:=hacc.2 i v (by rw[←Array.getElem?_toList];exact e)
   have hi:i<names.length:=by rw[←hln];exact(List.getElem?_eq_some_iff.mp e1).1
   have ek:k=Sum.inl (names.getD i 0):=by
    have:=congrArg (fun l=>l[i]?) hk
    simp only[List.getElem?_map,e1,Option.map_some]at this
    rw[List.getElem?_eq_getElem hi]at this
    have e4:k=Sum.inl names[i]:=by simpa using this
    rw[e4];simp[hi]
   subst ek
   rcases B9 (k:=Sum.inl (names.getD i 0)) (v:=v) e2 with⟨j,t,e',e3⟩|⟨z,t,e',_⟩
   ·cases e';exact⟨t,e3⟩
   ·cases e'
  clear hacc hk hln h
  generalize acc.toList=vs at hl hi
  induction vs generalizing names with
  |nil=>
   cases names with
   |nil=>exact .nil
   |cons _ _=>simp at hl
  |cons v vs ih=>
   cases names with
   |nil=>simp at hl
   |cons z names=>
    obtain⟨t,rfl⟩:=hi 0 v rfl
    exact .cons _ t (ih (by simpa using hl) fun i v e=>by simpa using hi (i+1) v (by simpa using e))
 have hlv:acc.toList.length=names.length:=by rw[Array.length_toList,hacc.1,hln]
 refine wpAny_bind (wpAny_newList ?_ (by rw[hlv,sizeLine_eq];omega))
 have hoL:(h1.push (seqObj "list" acc.toList.toArray 0)).get? h1.objs.size=some (seqObj "list" acc.toList.toArray 0):=Heap.get?_push_size _ rfl
 have hDn:s.heap.get? h1.objs.size=none:=by
  cases q:s.heap.get? h1.objs.size with
  |none=>rfl
  |some o=>exact absurd (Heap.lt_size (hk1 _ _ q)) (Nat.lt_irrefl _)
 refine wpAny_bind (wpAny_holding (wpAny_call_entry slot_list_sort ⟨_,hoL,rfl⟩ entry_list_sort (list_sort_tree hoL hS (by rw[hlv,←hln];exact h64) fun out ns' a1 a2 a3=>⟨_,rfl,?_⟩) (args_list_sort _)))
 refine wpAny_pure ⟨_,rfl,?_⟩
 obtain⟨e1,ho1⟩:∃e1,((h1.push (seqObj "list" acc.toList.toArray 0)).update h1.objs.size (Obj.mapSeq fun _=> #[])).get? h1.objs.size=some (seqObj "list" #[] e1):=⟨_,get?_update_seq hoL (fun _=> #[])⟩
 have ho6:((((h1.push (seqObj "list" acc.toList.toArray 0)).update h1.objs.size (Obj.mapSeq fun _=> #[])).push (seqObj "tuple" acc.toList.toArray 0)).push (seqObj "list" #[] 0)).get? h1.objs.size=some (seqObj "list" #[] e1):=Heap.get?_push_of_some _ (Heap.get?_push_of_some _ ho1)
 refine h _ tk h1.objs.size _ ns' _ (fun b o e=> ?_) hDn a1 a2 a3 (get?_update_seq ho6 _)
 have hb:b≠h1.objs.size:=Nat.ne_of_lt (Heap.lt_size (hk1 b o e))
 unfold sortedHeap
 exact(Heap.get?_update_other _ _ (Ne.symm hb)).trans (Heap.get?_push_of_some _ (Heap.get?_push_of_some _ ((Heap.get?_update_other _ _ (Ne.symm hb)).trans (Heap.get?_push_of_some _ (hk1 b o e)))))
end
end ZT
namespace L2
open PySem PySem.Spec PyProof.Rows
section
variable {X:Cx} {K:PySem.W.Frag}
def T9:List V→Hp→VK→Prop:=fun xs H Q=>∃a ws names,xs=[.ref a]∧Rd H a (.dK ws)∧ws.map (·.1)=names.map Sum.inl∧ws.length<64∧∀l H',Same H H'→H l=none→H' l=some (.lst ((KK names).map V.int))→Q (.ref l) H'
theorem QZ (hc:X.calm=true):DA X (.builtin "sorted") T9:=by
 intro pins s σ H xs us Q I r h
 obtain⟨a,ws,names,rfl,ha,hn,h64,q⟩:=h
 obtain⟨u,rfl,ru⟩:=E7 r
 obtain rfl:u=Value.ref a:=ru
 obtain⟨z,hd,vs,rel,dd⟩:=DK I.hok ha
 obtain⟨ep,da⟩:=dd.dictAt
 have hlw:ws.length=vs.length:=KV.length rel
 have hkn:vs.map (·.1)=names.map Sum.inl:=by rw[←KV.keys rel];exact hn
 have hln:ws.length=names.length:=by simpa using congrArg List.length hn
 refine ZT.P3 (kvs:=vs) (ep:=ep) (names:=names) (I.ok.hd hc) hd da hkn (by rw[←hlw];exact h64) fun h' tk D out ns' c hk hD h2 h3 h4 hg=> ?_
 have ens:ns'=KK names:=HI WA (h3.trans (List.mergeSort_perm names XY).symm) (h4.imp fun h=>by simpa[XY]using h) (YW names)
 subst ens
 have hDn:=I.none_at hD
 refine⟨.ref D,upd H D (.lst ((KK names).map V.int)),I.laids hk (AX hDn _) fun b u e=> ?_,rfl,q D _ (AX hDn _) hDn AH⟩
 by_cases hb:b=D
 ·subst hb
  rw[AH]at e
  cases e
  refine .inr ⟨hD,⟨?_,out.toList,c,K1 h2,by simpa using hg⟩⟩
  rw[List.length_map,sizeLine_eq]
  have:=(List.mergeSort_perm names XY).length_eq
  show(names.mergeSort XY).length≤_
  omega
 ·rw[AF hb]at e;exact .inl e
def QA:List (AI×M)→Option (List Int)
 |[]=>some []
 |(.inl z,_)::r=>(QA r).map (z:: ·)
 |_::_=>none
theorem QL:∀{kvs:List (AI×M)} {names:List Int},QA kvs=some names→kvs.map (·.1)=names.map Sum.inl
 |[],_,e=>by cases e;rfl
 |(.inl z,m)::r,names,e=>by
  obtain⟨ns,e1,rfl⟩:=Option.map_eq_some_iff.mp e
  rw[List.map_cons,List.map_cons,QL e1]
 |(.inr _,_)::_,_,e=>by cases e
def KZ (xs:List M) (h:A7):Option M:=match xs with
 |[x]=>(BK h x).bind fun kvs=>(QA kvs).bind fun names=>if kvs.length<64 then some (.lst ((KK names).map .int)) else none
 |_=>none
theorem V2:FJ K T9 KZ:=by
 intro α h H xs d us Q hr rs e k
 unfold KZ at e
 split at e
 ·obtain⟨u,rfl,ru⟩:=FX rs
  obtain⟨kvs,e1,e⟩:=Option.bind_eq_some_iff.mp e
  obtain⟨names,e2,e⟩:=Option.bind_eq_some_iff.mp e
  split at e
  ·rename_i h64
   cases e
   obtain⟨a,ws,rfl,ha,r1,r2⟩:=BL hr ru e1
   refine⟨a,ws,names,rfl,ha,by rw[r1];exact QL e2,by rw[RepD.len (K:=K) ⟨r1,r2⟩];exact h64,fun l H' sm hl hD=>k H' _ sm ?_⟩
   exact P4 hr hl hD RepAs.ints
  ·cases e
 ·cases e
end
end L2
namespace L2
open PySem PySem.Spec PyProof.Rows
def dW (a:FE):FE:=fun ρ h=>bnd (a ρ h) fun x h1=>match x with| .lst xs=>some (.ref h1.length,h1++[.lst xs])|_=>none
theorem PK {α:Pl} {p a:Addr} (n:(α.hide p).no a):(α.add p).no a:=⟨fun hm=>by
 rcases List.mem_append.mp hm with z|z
 ·exact n.1 z
 ·exact n.2 (by rw[List.mem_singleton.mp z];exact List.mem_cons_self),fun hm=>n.2 (List.mem_cons_of_mem _ hm)⟩
mutual
theorem RepA.opn {K:PySem.W.Frag} {α:Pl} {H:Hp} {p:Addr}:∀{m:M} {v:V},RepA K (α.hide p) H m v→RepA K (α.add p) H m v
 | .non,_,h=>h
 | .bl _,_,h=>h
 | .int _,_,h=>h
 | .str _,_,h=>h
 | .ty _,_,h=>h
 | .tup xs,_,⟨a,vs,e1,t,r⟩=>⟨a,vs,e1,t.elim (fun⟨q,n⟩=> .inl ⟨q,PK n⟩) .inr,RepAs.opn r⟩
 | .scr ns,_,⟨a,e1,t⟩=>⟨a,e1,t.elim (fun⟨q,n⟩=> .inl ⟨q,PK n⟩) .inr⟩
 | .lst xs,_,⟨a,vs,e1,n,t,r⟩=>⟨a,vs,e1,PK n,t,RepAs.opn r⟩
 | .dct ks xs,_,⟨a,ws,e1,n,t,e2,r⟩=>⟨a,ws,e1,PK n,t,e2,RepAs.opn r⟩
 | .ref k,_,⟨a,e1,e2⟩=>⟨a,by
     have e1':α.a[k]? =some a:=e1
     show(α.a++[p])[k]? =some a
     rw[List.getElem?_append_left (List.getElem?_eq_some_iff.mp e1').1];exact e1',e2⟩
theorem RepAs.opn {K:PySem.W.Frag} {α:Pl} {H:Hp} {p:Addr}:∀{xs:List M} {vs:List V},RepAs K (α.hide p) H xs vs→RepAs K (α.add p) H xs vs
 |[],_,h=>h
 |x::xs,_,⟨v,r,e,h1,h2⟩=>⟨v,r,e,RepA.opn h1,RepAs.opn h2⟩
end
theorem Rl.opn {K:PySem.W.Frag} {α:Pl} {h:A7} {H:Hp} {p:Addr} {zs:List M} {acc:List V} (r:Rl K (α.hide p) h H) (n:p∉α.a) (ng:p∉α.g) (e:H p=some (.lst acc)) (q:RepAs K (α.hide p) H zs acc):Rl K (α.add p) (h++[.lst zs]) H:=by
 refine⟨?_,?_,fun b hb hm=> ?_,fun b hb=>r.hid b (List.mem_cons_of_mem _ hb),fun k a o hk ho=> ?_⟩
 ·show(α.a++[p]).length=_
  have:=r.len
  simp only[List.length_append,List.length_singleton]
  exact congrArg (· +1) this
 ·show(α.a++[p]).Nodup
  rw[List.nodup_append]
  refine⟨r.nd,by simp,fun x hx y hy=> ?_⟩
  rw[List.mem_singleton.mp hy]
  exact fun z=>n (z▸hx)
 ·rcases List.mem_append.mp (show b∈α.a++[p] from hb) with hb|hb
  ·exact r.ap b hb (List.mem_cons_of_mem _ hm)
  ·rw[List.mem_singleton.mp hb]at hm;exact ng hm
 ·have hk':(α.a++[p])[k]? =some a:=hk
  have hl:α.a.length=h.length:=r.len
  rcases Nat.lt_or_ge k α.a.length with g|g
  ·rw[List.getElem?_append_left g]at hk'
   rw[List.getElem?_append_left (by rw[←hl];exact g)]at ho
   have w:=r.obj k a o hk' ho
   cases o with
   |lst xs=>obtain⟨vs,h1,h2⟩:=w;exact⟨vs,h1,h2.opn⟩
   |dct kvs=>obtain⟨ws,h1,h2,h3⟩:=w;exact⟨ws,h1,h2,h3.opn⟩
   |ins c fs=>obtain⟨C,dx,ws,h0,h1,h2,h3⟩:=w;exact⟨C,dx,ws,h0,h1,h2,h3.opn⟩
   |fdc kvs=>obtain⟨ob,ws,h1,h2,h3⟩:=w;exact⟨ob,ws,h1,h2,h3.opn⟩
  ·rw[List.getElem?_append_right g]at hk'
   rw[List.getElem?_append_right (by rw[←hl];exact g),←hl]at ho
   cases hz:k-α.a.length with
   |zero=>
    rw[hz]at hk' ho
    cases hk'
    cases ho
    exact⟨acc,e,q.opn⟩
   |succ m=>rw[hz]at hk';simp at hk'
theorem Ev.opn {α α':Pl} {H H':Hp} {p:Addr} (e:Ev (α.hide p) (α'.hide p) H H') (hp:H p=none):Ev α (α'.add p) H H':=by
 have u:=e.unhide
 obtain⟨g,β,e1,f⟩:=u.pre
 refine⟨⟨g,β++[p],?_,fun b hb=> ?_⟩,u.keep,u.keepD,u.dom,u.keepF⟩
 ·show α'.a++[p]=_
  rw[e1,List.append_assoc]
 ·rcases List.mem_append.mp hb with z|z
  ·exact f b z
  ·rw[List.mem_singleton.mp z];exact hp
theorem QH {K:PySem.W.Frag} {ix:List (Option Nat)} {mi:FI} {g0:TG} {g:FG} {tc:FT} {me:FE} (cg:CG K ix g0 g) {σ:St} {H:Hp} {Q:VK} (q:tM K (dW (GW ix mi g tc me)) σ H Q):UQ ix (iM K mi) g0 (bM K tc) (tM K me) σ H Q:=by
 obtain⟨α,ρ,h,d,h9,hσ,hr,e,k⟩:=q
 obtain⟨yL,h',e,e9⟩:=A6 e
 obtain⟨s,h1,e1,e⟩:=A6 e
 split at e
 ·rename_i hl
  obtain⟨ys,h2,e2,e⟩:=A6 e
  cases e
  cases e9
  refine⟨α,ρ,h,s,h1,hσ,hr,e1,fun α1 H1 J ev1 hr1 wk D hD=> ?_⟩
  have hσ1:=(hσ.ev ev1).tau (ix:=ix)
  have hDg:D∉α1.g:=fun hm=>by
   obtain⟨o,e⟩:=hr1.hid D hm
   rw[hD]at e;cases e
  have hγ:∀b∈[D],H1 b=none:=fun b hb=>by rw[List.mem_singleton.mp hb];exact hD
  refine⟨fun i m acc H2=>m=s.1.length-i∧i≤s.1.length∧acc.length≤i∧∃a2 h2 zs rs,ys=zs++rs∧Ev (α1.hide D) (Pl.hide ⟨a2,α1.g⟩ D) H1 H2∧Rl K (Pl.hide ⟨a2,α1.g⟩ D) h2 H2∧REnv K (Pl.hide ⟨a2,α1.g⟩ D) H2 (MF ix ρ) (tau ix σ)∧RepAs K (Pl.hide ⟨a2,α1.g⟩ D) H2 zs acc∧CY s.1 s.2 g tc me (MF ix ρ) (s.1.drop i) h2=some (rs,h'),
   ⟨_,rfl,Nat.zero_le _,Nat.zero_le _,α1.a,h1,[],ys,rfl, .same (AX hD _),hr1.lay hD,(hσ1.hide hD).ev (.same (AX hD _)),rfl,e2⟩,?_⟩
  rintro i m acc H2 ⟨rfl,hi,hacc,a2,h2,zs,rs,ey,ev2,hr2,hσ2,rz,e⟩ hDa
  have hDm:D∈(Pl.hide ⟨a2,α1.g⟩ D).g:=List.mem_cons_self
  have hDn:D∉a2:=fun hm=>hr2.ap D hm hDm
  by_cases hlt:i<s.1.length
  ·right
   rw[List.drop_eq_getElem_cons hlt]at e
   unfold CY at e
   split at e
   ·rename_i ok
    obtain⟨go,yl⟩:=(wk [D] hγ _ h2 H2 ev2 hr2 ok i).1 s.1[i] (by simp[hlt])
    refine⟨go,by rw[sizeLine_eq];omega,fun v H3 y=> ?_⟩
    obtain⟨s3,rv⟩:=yl v H3 y
    obtain⟨τ',h3,e3,e⟩:=A6 e
    obtain⟨t,h4,e4,e⟩:=A6 e
    refine cg _ h2 H3 σ (tau ix σ) (MF ix ρ) _ v τ' h3 _ Q4 (hσ2.ev (.same s3)) rv e3 fun σ' kp hσ' eh=>⟨kp,?_⟩
    subst eh
    refine⟨_,τ',_,t,h4,hσ',hr2.same s3,e4,fun α4 H4 ev4 hr4=> ?_⟩
    have hD4:H4 D=some (.lst acc):=ev4.keep _ _ (s3 _ _ hDa) (.inl trivial) hDn
    have hg4:α4.g=D::α1.g:=ev4.pre.1
    have ea4:α4=Pl.hide ⟨α4.a,α1.g⟩ D:=by cases α4;cases hg4;rfl
    have evA:Ev (α1.hide D) α4 H1 H4:=(ev2.trans (.same s3)).trans ev4
    cases t with
    |false=>
     refine⟨hD4,_,?_,rfl,hlt,by omega,α4.a,h4,zs,rs,ey,?_,?_,?_,?_,e⟩
     ·omega
     ·rw[←ea4];exact evA
     ·rw[←ea4];exact hr4
     ·rw[←ea4];exact(hσ2.ev (.same s3)).ev ev4
     ·rw[←ea4];exact(rz.ev (.same s3)).ev ev4
    |true=>
     obtain⟨y,h5,e5,e⟩:=A6 e
     obtain⟨rs',h6,e6,e⟩:=A6 e
     cases e
     refine⟨α4,τ',h4,y,h5,hσ'.ev ev4,hr4,e5,fun α5 H5 w ev5 hr5 rw'=> ?_⟩
     have hD4n:D∉α4.a:=fun hm=>hr4.ap D hm (by rw[hg4];exact List.mem_cons_self)
     have hD5:H5 D=some (.lst acc):=ev5.keep _ _ hD4 (.inl trivial) hD4n
     have hg5:α5.g=D::α1.g:=ev5.pre.1.trans hg4
     have hD5m:D∈α5.g:=by rw[hg5];exact List.mem_cons_self
     have ea5:α5=Pl.hide ⟨α5.a,α1.g⟩ D:=by cases α5;cases hg5;rfl
     refine⟨hD5,_,?_,rfl,hlt,by simp;omega,α5.a,h5,zs++[y],rs',by rw[ey];simp,?_,?_,?_,?_,e6⟩
     ·omega
     ·rw[←ea5];exact(evA.trans ev5).hw hD
     ·rw[←ea5];exact hr5.hw hD5m
     ·rw[←ea5];exact(((hσ2.ev (.same s3)).ev ev4).ev ev5).hw hD5m
     ·rw[←ea5];exact((((rz.ev (.same s3)).ev ev4).ev ev5).snoc rw').hw hD5m
   ·cases e
  ·left
   have ei:i=s.1.length:=by omega
   subst ei
   rw[List.drop_length]at e
   unfold CY at e
   split at e
   ·rename_i ok
    cases e
    refine⟨(wk [D] hγ _ _ H2 ev2 hr2 ok _).2 rfl,k ((⟨a2,α1.g⟩:Pl).add D) H2 _ (ev1.trans (Ev.opn ev2 hD)) (Rl.opn hr2 hDn hDg hDa (by rw[ey,List.append_nil];exact rz)) ⟨D,?_,rfl⟩⟩
    show(a2++[D])[_]? =some D
    rw[←hr2.len]
    show(a2++[D])[a2.length]? =some D
    simp
   ·cases e
 ·cases e
section
variable {X:Cx} {g:FG} {tc:FT} {me elt_:FE} {pos:Pos}
theorem YC {elt tg iter:Expr} {ifs:List Expr} {scope:Scope} {pos' spos:Pos} {N':List Str} {ix:List (Option Nat)} {mi:FI} {g0:TG} {k:Nat} {x:Str}
 (hN:X.N.Nodup) (hk:X.N[k]? =some x) (hx:X.env.scope.names.lookup x=some .local)
 (S:CompScope X N' ix scope) (hcalm:X.calm=true) (cg:CG X.K ix g0 g) (hi:PI X tg iter (iM X.K mi))
 (hg:∀C s₀ H₀ fp,PG (X.comp scope (CP X.env.cells scope.names []) C s₀ H₀ fp N') tg g0)
 (ht:∀C s₀ H₀ fp,PTs (X.comp scope (CP X.env.cells scope.names []) C s₀ H₀ fp N') ifs (bM (X.comp scope (CP X.env.cells scope.names []) C s₀ H₀ fp N').K tc))
 (he:∀C s₀ H₀ fp,PE (X.comp scope (CP X.env.cells scope.names []) C s₀ H₀ fp N') elt (tM (X.comp scope (CP X.env.cells scope.names []) C s₀ H₀ fp N').K me))
 (hsw:swapsWith (.ListComp elt [⟨tg,iter,ifs,0⟩] scope pos) (some (.Name x pos')) spos.line X.env=pure true)
 (hs:∀x,foldedSetIterable iter X.env x=pure x):
 PS X (.Assign [.Name x pos'] (.ListComp elt [⟨tg,iter,ifs,0⟩] scope pos) spos) (sM X.K (BR (dW (GW ix mi g tc me)) (D0 k))):=
 (bR hN hk hx S hcalm hi hg ht he hsw hs).imp fun D σ H ⟨α,ρ,h,d,h',hσ,hr,e,kk⟩=>by
   obtain⟨x,h1,e1,e⟩:=A6 e
   cases e
   exact QH cg ⟨α,ρ,h,x,_,hσ,hr,e1,fun α1 H1 v ev1 hr1 rv=>kk α1 H1 ev1 hr1 _ ((hσ.ev ev1).set rv)⟩
end
end L2
namespace L2
open PySem PySem.Spec PyProof.Rows
theorem Inv.thaw {X:Cx} {pins:List (Addr×Obj)} {σ:St} {H:Hp} {s:Shared} {a:Addr} {ob:Obj} {ws:List (AI×V)} (I:Inv X pins σ H s) (e:H a=some (.frz ob (.dK ws))) (nf:∀o u,X.H₀ a≠some (.frz o u)):Inv X pins σ (upd H a (.dK ws)) s:=by
 have hne:∀b,b≠a→(upd H a (.dK ws)) b=H b:=fun b hb=>AF hb
 have nn:∀b,H b=none→(upd H a (.dK ws)) b=none:=fun b hb=>by rw[hne b (fun z=>by subst z;rw[e]at hb;cases hb)];exact hb
 have nd:∀b u,H b=some u→(∀o u',u≠ .frz o u')→b≠a:=fun b u q n z=>by subst z;rw[e]at q;exact n _ _ (Option.some.inj q).symm
 refine⟨I.ok,I.os,I.bare,⟨I.base.keep,I.base.slot,fun b o q n hx=>nn b (I.base.free b o q n hx),I.base.there,fun b xs q=> ?_,fun b o u q=> ?_,fun b ps q=> ?_⟩,I.loc,I.cell,nn _ I.free,fun x c q=>nn c (I.freeC x c q),fun p hp=> ?_,fun b u q=> ?_,I.len⟩
 ·have:=I.base.tups b xs q
  rw[hne b (nd b _ this (fun _ _ z=>by cases z))];exact this
 ·have:=I.base.frzs b o u q
  rw[hne b (fun z=>by subst z;exact nf _ _ q)];exact this
 ·obtain⟨m,this⟩:=I.base.tbls b ps q
  exact⟨m,by rw[hne b (nd b _ this (fun _ _ z=>by cases z))];exact this⟩
 ·obtain⟨h1,h2,h3⟩:=I.pin p hp
  exact⟨h1,nn _ h2,h3⟩
 ·by_cases hb:b=a
  ·subst hb
   rw[AH]at q
   cases q
   obtain⟨ho,z,hd,vs,rel,r⟩:=(show ObjOk X.prog X.w H s.heap b (.frz ob (.dK ws)) from I.hok b _ e)
   exact⟨z,hd,vs,rel,r⟩
  ·rw[hne b hb]at q
   exact(I.hok b u q).stay (fun c v _ x=>x) (fun c x=>by rw[hne c (nd c _ x (fun _ _ z=>by cases z))];exact x) fun c xs x=>by rw[hne c (nd c _ x (fun _ _ z=>by cases z))];exact x
section
variable {K:PySem.W.Frag} {α:Pl} {H H':Hp}
theorem Rd.off (f:∀b,b∉α.a→H' b=H b) {a:Addr} {u:HO} (n:a∉α.a) (r:Rd H a u):Rd H' a u:=by
 rcases r with r|⟨o,r⟩
 ·exact .inl (by rw[f a n];exact r)
 ·exact .inr ⟨o,by rw[f a n];exact r⟩
mutual
theorem RepA.off (f:∀b,b∉α.a→H' b=H b):∀{m:M} {v:V},RepA K α H m v→RepA K α H' m v
 | .non,_,h=>h
 | .bl _,_,h=>h
 | .int _,_,h=>h
 | .str _,_,h=>h
 | .ty _,_,h=>h
 | .tup xs,_,⟨a,vs,e1,t,r⟩=>⟨a,vs,e1,t.elim (fun⟨q,n⟩=> .inl ⟨q.off f n.1,n⟩) .inr,RepAs.off f r⟩
 | .scr ns,_,⟨a,e1,t⟩=>⟨a,e1,t.elim (fun⟨q,n⟩=> .inl ⟨q.off f n.1,n⟩) .inr⟩
 | .lst xs,_,⟨a,vs,e1,n,t,r⟩=>⟨a,vs,e1,n,by rw[f a n.1];exact t,RepAs.off f r⟩
 | .dct ks xs,_,⟨a,ws,e1,n,t,ek,r⟩=>⟨a,ws,e1,n,t.off f n.1,ek,RepAs.off f r⟩
 | .ref k,_,h=>h
theorem RepAs.off (f:∀b,b∉α.a→H' b=H b):∀{xs:List M} {vs:List V},RepAs K α H xs vs→RepAs K α H' xs vs
 |[],_,h=>h
 |x::xs,_,⟨v,r,e1,h1,h2⟩=>⟨v,r,e1,RepA.off f h1,RepAs.off f h2⟩
end
theorem REnv.off (f:∀b,b∉α.a→H' b=H b) {ρ:B4} {σ:St} (r:REnv K α H ρ σ):REnv K α H' ρ σ:=
 ⟨r.1,fun i m h=>by obtain⟨v,h1,h2⟩:=r.2 i m h;exact⟨v,h1,h2.off f⟩⟩
theorem Rl.retell {h:A7} (r:Rl K α h H) {k:Nat} {a:Addr} (ha:α.a[k]? =some a) (f:∀b,b≠a→H' b=H b) (hs:∃u,H' a=some u) {o:MO} (ho:bZ K α H' o a):Rl K α (h.set k o) H':=by
 have f':∀b,b∉α.a→H' b=H b:=fun b n=>f b fun z=>n (z▸List.mem_of_getElem? ha)
 refine⟨by simp[r.len],r.nd,r.ap,fun b hb=>by
  obtain⟨o,e⟩:=r.hid b hb
  by_cases z:b=a
  ·subst z;exact hs
  ·exact⟨o,by rw[f b z];exact e⟩,fun j b o' hj ho'=> ?_⟩
 by_cases hjk:j=k
 ·subst hjk
  rw[ha]at hj;cases hj
  have hl:j<h.length:=by rw[←r.len];exact(List.getElem?_eq_some_iff.mp ha).1
  rw[List.getElem?_set_self hl]at ho';cases ho'
  exact ho
 ·rw[List.getElem?_set_ne (fun z=>hjk z.symm)]at ho'
  have hba:b≠a:=fun z=>by
   subst z
   have hjl:=(List.getElem?_eq_some_iff.mp hj)
   have hkl:=(List.getElem?_eq_some_iff.mp ha)
   exact hjk ((List.getElem_inj r.nd).mp (hjl.2.trans hkl.2.symm))
  have q:=r.obj j b o' hj ho'
  cases o' with
  |lst xs=>obtain⟨vs,h1,h2⟩:=q;exact⟨vs,by rw[f b hba];exact h1,h2.off f'⟩
  |dct kvs=>obtain⟨ws,h1,h2,h3⟩:=q;exact⟨ws,by rw[f b hba];exact h1,h2,h3.off f'⟩
  |ins c fs=>obtain⟨C,dx,ws,h0,h1,h2,h3⟩:=q;exact⟨C,dx,ws,h0,by rw[f b hba];exact h1,h2,h3.off f'⟩
  |fdc kvs=>obtain⟨ob,ws,h1,h2,h3⟩:=q;exact⟨ob,ws,by rw[f b hba];exact h1,h2,h3.off f'⟩
end
def WF {a:Type} (k:Nat) (r:Option (a×A7)):Option (a×A7):=bnd r fun o h'=>match h'[k]?with
 |some (.fdc kvs)=>some (o,h'.set k (.dct kvs))
 |_=>none
def SX {a:Type} (pick:B4→A7→Option Nat) (S:B4→A7→Option (a×A7)):B4→A7→Option (a×A7):=fun ρ h=>match pick ρ h with
 |some k=>(match h[k]?with
  |some (.dct kvs)=>WF k (S ρ (h.set k (.fdc kvs)))
  |_=>S ρ h)
 |none=>S ρ h
def NZ (ml:FE):B4→A7→Option Nat:=fun ρ h=>match ml ρ h with
 |some (.ref k,_)=>some k
 |_=>none
theorem VH {a:Type} {k:Nat} {r:Option (a×A7)} {y:a×A7} (e:WF k r=some y):∃h' kvs,r=some (y.1,h')∧h'[k]? =some (.fdc kvs)∧y.2=h'.set k (.dct kvs):=by
 obtain⟨o,h',e1,e⟩:=A6 e
 split at e
 ·rename_i kvs hk
  cases e
  exact⟨h',kvs,e1,hk,rfl⟩
 ·cases e
theorem T2 {a:Type} {pick:B4→A7→Option Nat} {S:B4→A7→Option (a×A7)} {ρ:B4} {h:A7} {y:a×A7} (e:SX pick S ρ h=some y):
 S ρ h=some y∨∃k kvs h' kvs',h[k]? =some (.dct kvs)∧S ρ (h.set k (.fdc kvs))=some (y.1,h')∧h'[k]? =some (.fdc kvs')∧y.2=h'.set k (.dct kvs'):=by
 unfold SX at e
 split at e
 ·split at e
  ·rename_i k _ kvs hk
   obtain⟨h',kvs',e1,e2,e3⟩:=VH e
   exact .inr ⟨_,kvs,h',kvs',hk,e1,e2,e3⟩
  ·exact .inl e
 ·exact .inl e
section
variable {X:Cx} {K:PySem.W.Frag} {α:Pl} {H:Hp}
theorem jW {pins:List (Addr×Obj)} {σ:St} {s:Shared} {h:A7} {k:Nat} {kvs:List (AI×M)} (I:Inv X pins σ H s) (hr:Rl X.K α h H) (hk:h[k]? =some (.dct kvs)):
 ∃a ob ws H2,α.a[k]? =some a∧H a=some (.dK ws)∧T7 H H2 a ob ws∧Inv X pins σ H2 s∧Rl X.K α (h.set k (.fdc kvs)) H2∧(∀b,b∉α.a→H2 b=H b)∧(∀o u,X.H₀ a≠some (.frz o u)):=by
 have hl:k<α.a.length:=by rw[hr.len];exact(List.getElem?_eq_some_iff.mp hk).1
 have ha:α.a[k]? =some α.a[k]:=List.getElem?_eq_getElem hl
 obtain⟨ws,hw,r1,r2⟩:=hr.obj k _ _ ha hk
 obtain⟨ob,H2,fz,I2,_⟩:=I.freeze (.inl hw)
 have f':∀b,b∉α.a→H2 b=H b:=fun b n=>fz.2.1 b fun z=>n (z▸List.mem_of_getElem? ha)
 refine⟨_,ob,ws,H2,ha,hw,fz,I2,hr.retell ha fz.2.1 ⟨_,fz.1⟩ ⟨ob,ws,fz.1,r1,r2.off f'⟩,f',fun o u q=> ?_⟩
 have:=I.base.frzs _ _ _ q
 rw[hw]at this;cases this
theorem cY {α':Pl} {H2 H':Hp} {a:Addr} {ob:Obj} {ws:List (AI×V)} {h':A7} {k:Nat} {kvs':List (AI×M)} (ha:α.a[k]? =some a) (hw:H a=some (.dK ws)) (fz:T7 H H2 a ob ws) (ev:Ev α α' H2 H') (hr:Rl K α' h' H') (hk:h'[k]? =some (.fdc kvs')):
 H' a=some (.frz ob (.dK ws))∧Ev α α' H (upd H' a (.dK ws))∧Rl K α' (h'.set k (.dct kvs')) (upd H' a (.dK ws))∧∀b,b∉α'.a→(upd H' a (.dK ws)) b=H' b:=by
 have h1:H' a=some (.frz ob (.dK ws)):=ev.keepF _ _ _ fz.1
 have ha':=ev.ix ha
 have hm:a∈α.a:=List.mem_of_getElem? ha
 have off:∀b,b∉α'.a→(upd H' a (.dK ws)) b=H' b:=fun b n=>AF fun z=>n (z▸List.mem_of_getElem? ha')
 refine⟨h1,⟨?_,fun b o hb q n=> ?_,fun b us hb n=> ?_,fun b hb=> ?_,fun b o u hb=> ?_⟩,hr.retell ha' (fun b z=>AF z) ⟨_,AH⟩ ?_,off⟩
 ·obtain⟨g,β,e1,e2⟩:=ev.pre
  exact⟨g,β,e1,fun b hb=>by
   have:=e2 b hb
   rw[fz.2.1 b (fun z=>by subst z;rw[fz.1]at this;cases this)]at this;exact this⟩
 ·have z:b≠a:=fun z=>n (z▸hm)
  rw[AF z];exact ev.keep b o (by rw[fz.2.1 b z];exact hb) q n
 ·have z:b≠a:=fun z=>n (z▸hm)
  rcases ev.keepD b us (by rw[fz.2.1 b z];exact hb) n with r|⟨o,r⟩
  ·exact .inl (by rw[AF z];exact r)
  ·exact .inr ⟨o,by rw[AF z];exact r⟩
 ·have z:b≠a:=fun z=>by subst z;rw[AH]at hb;cases hb
  rw[AF z]at hb
  have:=ev.dom b hb
  rw[fz.2.1 b z]at this;exact this
 ·have z:b≠a:=fun z=>by subst z;rw[hw]at hb;cases hb
  rw[AF z];exact ev.keepF b o u (by rw[fz.2.1 b z];exact hb)
 ·obtain⟨ob',ws',h2,r1,r2⟩:=hr.obj k a _ ha' hk
  rw[h1]at h2;cases h2
  exact⟨ws,AH,r1,r2.off off⟩
theorem ZJ {st:Stmt} {S:FS} {pick:B4→A7→Option Nat} (h0:PS X st (sM X.K S)):PS X st (sM X.K (SX pick S)):=by
 rintro pins s σ H D I ⟨α,ρ,h,o,h',hσ,hr,e,k⟩
 rcases T2 e with e|⟨q,kvs,h1,kvs',hq,e1,e2,e3⟩
 ·exact h0 pins s σ H D I ⟨α,ρ,h,o,h',hσ,hr,e,k⟩
 ·dsimp only at e1 e3
  subst e3
  obtain⟨a,ob,ws,H2,ha,hw,fz,I2,hr2,f',nf⟩:=jW I hr hq
  have th:∀{P:Hp→Prop} {s':Shared} {σ':St} {H':Hp},Inv X pins σ' H' s'→(H' a=some (.frz ob (.dK ws))∧P (upd H' a (.dK ws)))→∃H'',Inv X pins σ' H'' s'∧P H'':=fun I' q=>⟨_,I'.thaw q.1 nf,q.2⟩
  refine CK (h0 pins s σ H2 {nx:=fun σ' H'=>H' a=some (.frz ob (.dK ws))∧D.nx σ' (upd H' a (.dK ws)),bk:=fun σ' H'=>H' a=some (.frz ob (.dK ws))∧D.bk σ' (upd H' a (.dK ws)),ct:=fun σ' H'=>H' a=some (.frz ob (.dK ws))∧D.ct σ' (upd H' a (.dK ws)),rt:=fun v H'=>H' a=some (.frz ob (.dK ws))∧D.rt v (upd H' a (.dK ws))} I2 ⟨α,ρ,_,o,h1,hσ.off f',hr2,e1,fun α' H' ev hr'=> ?_⟩) fun fl s' hs=> ?_
  ·obtain⟨t1,t2,t3,t4⟩:=cY ha hw fz ev hr' e2
   have kk:=k α' _ t2 t3
   cases o with
   |nx ρ'=>exact fun σ' hσ'=>⟨t1,kk σ' (hσ'.off t4)⟩
   |bk ρ'=>exact fun σ' hσ'=>⟨t1,kk σ' (hσ'.off t4)⟩
   |ct ρ'=>exact fun σ' hσ'=>⟨t1,kk σ' (hσ'.off t4)⟩
   |rt d=>exact fun v rv=>⟨t1,kk v (rv.off t4)⟩
  ·cases fl with
   |next=>obtain⟨σ',H',I',q⟩:=hs;exact⟨σ',th I' q⟩
   |brk=>obtain⟨σ',H',I',q⟩:=hs;exact⟨σ',th I' q⟩
   |cont=>obtain⟨σ',H',I',q⟩:=hs;exact⟨σ',th I' q⟩
   |ret u=>obtain⟨v,σ',H',I',r,q⟩:=hs;exact⟨v,σ',_,I'.thaw q.1 nf,r,q.2⟩
def sX (a:FE):FI:=fun ρ h=>bnd (a ρ h) fun x h1=>match x with
 | .ref k=>(match h1[k]?with|some (.fdc kvs)=>some ((kvs.map fun kv=>kM kv.1,none),h1)|_=>none)
 |_=>none
theorem PU {l tg:Expr} {ml:FE} (hl:PE X l (tM X.K ml)):PI X tg l (iM X.K (sX ml)):=(ZX hl).imp fun σ H R ⟨α,ρ,h,s,h',hσ,hr,e,k⟩=>by
 obtain⟨x,h1,e1,e⟩:=A6 e
 split at e
 ·split at e
  ·rename_i q _ kvs hq
   cases e
   refine⟨α,ρ,h,_,_,hσ,hr,e1,fun α1 H1 v ev1 hr1 rv=> ?_⟩
   obtain⟨a,ha,rfl⟩:=rv
   obtain⟨ob,ws,hw,ek,rs⟩:=hr1.obj q a _ ha hq
   refine⟨a,ws,rfl, .inr ⟨ob,hw⟩,fun ob' H2 fz=> ?_⟩
   have e2:ob'=ob:=by
    rcases fz.2.2 with z|z
    ·rw[hw]at z;cases z
    ·rw[hw]at z;cases z;rfl
   subst e2
   have eH:H2=H1:=funext fun b=>by
    by_cases z:b=a
    ·subst z;rw[fz.1,hw]
    ·exact fz.2.1 b z
   subst eH
   refine k α1 _ _ ev1 hr1 fun γ hγ α2 h2 H3 ev3 hr3 _ i=> ?_
   have hA:H3 a=some (.frz ob' (.dK ws)):=ev3.keepF a _ _ hw
   have hln:ws.length=kvs.length:=by have:=congrArg List.length ek;simpa using this
   refine⟨fun x hx=> ?_,fun hi=>⟨hA,by simpa[hln]using hi⟩⟩
   have hx':((ws.map (·.1)).map kM)[i]? =some x:=by rw[ek,List.map_map];exact hx
   simp only[List.getElem?_map]at hx'
   cases q:ws[i]?with
   |none=>rw[q]at hx';cases hx'
   |some w=>
    rw[q]at hx'
    simp only[Option.map_some,Option.some.injEq]at hx'
    subst hx'
    refine⟨⟨hA,(List.getElem?_eq_some_iff.mp q).1⟩,fun v H4 y=> ?_⟩
    obtain⟨rfl,w',q',rfl⟩:=y
    rw[q]at q';cases q'
    exact⟨Same.refl _,aU⟩
  ·cases e
 ·cases e
end
end L2
namespace L2
open PySem PySem.Spec PyProof.Rows
def UH (es:List (AI×D)) (ds:List (AI×D)):Bool:=ds.all fun kd=>match(es.find? fun kv=>decide (kv.1=kd.1)).map (·.2) with|some d'=>BO kd.2 d'|none=>false
def aV (ds es:List (AI×D)):Bool:=ds.length==es.length&&UH es ds
def RepKD (K:PySem.W.Frag) (H:Hp) (ds:List (AI×D)) (ws:List (AI×V)):Prop:=ws.map (·.1)=ds.map (·.1)∧RepKs K H (ds.map (·.2)) (ws.map (·.2))
theorem RepKD.inv {K:PySem.W.Frag} {H:Hp} {kd:AI×D} {ds:List (AI×D)} {ws:List (AI×V)} (r:RepKD K H (kd::ds) ws):∃v ws',ws=(kd.1,v)::ws'∧RepK K H kd.2 v∧RepKD K H ds ws':=by
 obtain⟨e,r⟩:=r
 cases ws with
 |nil=>cases e
 |cons w ws=>
  have e':w.1::ws.map (·.1)=kd.1::ds.map (·.1):=e
  injection e' with e1 e2
  obtain⟨v,q,e3,r1,r2⟩:=r
  have e3':w.2::ws.map (·.2)=v::q:=e3
  injection e3' with e4 e5
  subst e4 e5
  exact⟨w.2,ws,by rw[←e1],r1,e2,r2⟩
theorem RepKD.len {K:PySem.W.Frag} {H:Hp} {ds:List (AI×D)} {ws:List (AI×V)} (r:RepKD K H ds ws):ws.length=ds.length:=by have:=congrArg List.length r.1;simpa using this
theorem RepKD.find {K:PySem.W.Frag} {H:Hp} (k:AI):∀{ds:List (AI×D)} {ws:List (AI×V)},RepKD K H ds ws→match(ds.find? fun kv=>decide (kv.1=k)).map (·.2) with|some d=>∃v,DO ws k=some v∧RepK K H d v|none=>DO ws k=none
 |[],ws,r=>by
  cases ws with
  |nil=>exact rfl
  |cons _ _=>cases r.1
 |kd::ds,ws,r=>by
  obtain⟨v,ws',rfl,h1,h2⟩:=r.inv
  have ih:=RepKD.find k h2
  by_cases h:kd.1=k
  ·rw[List.find?_cons,decide_eq_true h]
   exact⟨v,GL h,h1⟩
  ·rw[List.find?_cons,decide_eq_false h,GK h]
   exact ih
section
variable {X:Cx} {pins:List (Addr×Obj)} {σ:St} {H:Hp} {s:Shared}
theorem UV (I:Inv X pins σ H s) {A:Around} (hu:A.units+150<cLine) {es:List (AI×D)} {us:List (AI×V)} {kb:List (AI×Value)} (re:RepKD X.K H es us) (kve:KV us kb):
 ∀{ds:List (AI×D)} {ws:List (AI×V)} {ka:List (AI×Value)},RepKD X.K H ds ws→KV ws ka→D.deeps (ds.map (·.2))≤150→∃r,PySem.W.KeqHits A s kb ka r∧r=UH es ds
 |[],ws,ka,r,kv,_=>by
  cases ws with
  |nil=>cases kv;exact⟨true, .nil,rfl⟩
  |cons _ _=>cases r.1
 |kd::ds,ws,ka,r,kv,hd=>by
  obtain⟨v,ws',rfl,h1,h2⟩:=r.inv
  cases kv with
  | @cons _ q _ qs h t=>
    obtain⟨k',u⟩:=q
    obtain⟨hk,hv⟩:=h
    dsimp only at hk hv
    subst hk
    have hd':kd.2.deep≤150∧D.deeps (ds.map (·.2))≤150:=by
     have:D.deeps (kd.2::ds.map (·.2))≤150:=hd
     simp[D.deeps]at this
     exact Nat.max_le.mp this
    obtain⟨r',q1,q2⟩:=UV I hu re kve h2 t hd'.2
    have f:=re.find kd.1
    have val:=kve.val kd.1
    unfold UH
    rw[List.all_cons]
    cases hf:(es.find? fun kv=>decide (kv.1=kd.1)).map (·.2) with
    |none=>
     rw[hf]at f
     dsimp only at f
     rw[f]at val
     have hn:valueAt kb kd.1=none:=RelO.none_of val
     exact⟨false, .miss hn,by simp⟩
    |some d'=>
     rw[hf]at f
     obtain⟨v',e1,h3⟩:=f
     rw[e1]at val
     obtain⟨y,hy,ry⟩:=RelO.some_of val
     refine⟨_, .hit hy ((EH I 150 A kd.2 d' v v' u y hd'.1 hu h1 h3 hv ry).2) q1,?_⟩
     rw[q2];rfl
def qC (K:PySem.W.Frag):R2:=fun x y H Q=>∃a b ws us ds es,x= .ref a∧y= .ref b∧Rd H a (.dK ws)∧Rd H b (.dK us)∧RepKD K H ds ws∧RepKD K H es us∧D.deeps (ds.map (·.2))≤150∧Q (.bl (!aV ds es)) H
theorem iF (hu:X.A.units+151<cLine):OpR X (compareOp .NotEq) (qC X.K):=by
 intro pins s σ H x y v u Q I rx ry h
 obtain⟨a,b,ws,us,ds,es,rfl,rfl,ha,hb,r1,r2,hd,q⟩:=h
 obtain rfl:v=Value.ref a:=rx
 obtain rfl:u=Value.ref b:=ry
 obtain⟨z,hd1,vs,rel,dd⟩:=DK I.hok ha
 obtain⟨z2,hd2,vs2,rel2,dd2⟩:=DK I.hok hb
 have hl:vs.length=ds.length:=by rw[←KV.length rel,r1.len]
 have hl2:vs2.length=es.length:=by rw[←KV.length rel2,r2.len]
 obtain⟨r,q1,q2⟩:=UV I (A:=X.A.in1) (by have:X.A.in1.units=X.A.units+1:=rfl;omega) r2 rel2 r1 rel hd
 refine PySem.W.keq_ne (r:=r) hd1 hd2 dd dd2 (by omega) (fun e=>q1) ⟨.bl _,H,I,rfl,?_⟩
 rw[hl,hl2,q2]
 exact q
end
def Z0 (h:A7) (kvs:List (AI×M)):Option (List (AI×D)):=(SS h (kvs.map (·.2))).map fun ds=>(kvs.map (·.1)).zip ds
def TZ (x y:M) (h:A7):Option M:=(BK h x).bind fun kvs=>(BK h y).bind fun kvs'=>(Z0 h kvs).bind fun ds=>(Z0 h kvs').bind fun es=>if D.deeps (ds.map (·.2))≤150 then some (.bl (!aV ds es)) else none
section
variable {X:Cx} {K:PySem.W.Frag}
theorem QD {α:Pl} {h:A7} {H:Hp} {kvs:List (AI×M)} {ws:List (AI×V)} {ds:List (AI×D)} (hr:Rl K α h H) (e:Z0 h kvs=some ds) (r1:ws.map (·.1)=kvs.map (·.1)) (r2:RepAs K α H (kvs.map (·.2)) (ws.map (·.2))):RepKD K H ds ws:=by
 obtain⟨ds',e1,rfl⟩:=Option.map_eq_some_iff.mp e
 have q:=GU hr e1 r2
 have hl:ds'.length=kvs.length:=by rw[RepKs.length q];have:=congrArg List.length r1;simpa using this
 exact⟨by rw[r1,List.map_fst_zip (by simp[hl])],by rw[List.map_snd_zip (by simp[hl])];exact q⟩
theorem jQ:MR K (qC K) TZ:=by
 intro α h H x y d u v Q hr rx ry e k
 obtain⟨kvs,e1,e⟩:=Option.bind_eq_some_iff.mp e
 obtain⟨kvs',e2,e⟩:=Option.bind_eq_some_iff.mp e
 obtain⟨ds,e3,e⟩:=Option.bind_eq_some_iff.mp e
 obtain⟨es,e4,e⟩:=Option.bind_eq_some_iff.mp e
 split at e
 ·rename_i hd
  cases e
  obtain⟨a,ws,rfl,ha,r1,r2⟩:=BL hr rx e1
  obtain⟨b,us,rfl,hb,r3,r4⟩:=BL hr ry e2
  exact⟨a,b,ws,us,ds,es,rfl,rfl,ha,hb,QD hr e3 r1 r2,QD hr e4 r3 r4,hd,k H _ (Same.refl _) rfl⟩
 ·cases e
end
section
variable {R:M→Prop} {Q:M→A7→Prop} {h:A7}
theorem VB {ds:List (AI×D)} (nd:(ds.map (·.1)).Nodup) (hr:∀d∈ds.map (·.2),BO d d=true):aV ds ds=true:=by
 unfold aV
 rw[beq_self_eq_true,Bool.true_and]
 unfold UH
 rw[List.all_eq_true]
 intro kd hm
 have:∀(l:List (AI×D)),(l.map (·.1)).Nodup→kd∈l→(l.find? fun kv=>decide (kv.1=kd.1))=some kd:=by
  intro l
  induction l with
  |nil=>intro _ h;cases h
  |cons p r ih=>
   intro nd h
   have nd':p.1∉r.map (·.1)∧(r.map (·.1)).Nodup:=List.nodup_cons.mp nd
   rcases List.mem_cons.mp h with h|h
   ·subst h
    rw[List.find?_cons,decide_eq_true rfl]
   ·have hne:¬p.1=kd.1:=fun z=>nd'.1 (z▸List.mem_map.mpr ⟨kd,h,rfl⟩)
    rw[List.find?_cons,decide_eq_false hne]
    exact ih nd'.2 h
 rw[this ds nd hm]
 exact hr _ (List.mem_map.mpr ⟨kd,hm,rfl⟩)
end
section
variable {ρ:B4} {h:A7}
theorem U3 {ml:FE} {k:Nat} (q:Ens (ml ρ h) fun x _=>x= .ref k):NZ ml ρ h=some k:=by
 obtain⟨x,h',e,rfl⟩:=q
 unfold NZ
 rw[e]
theorem eY {a:Type} {pick:B4→A7→Option Nat} {S:B4→A7→Option (a×A7)} {k:Nat} {kvs:List (AI×M)} {Q:a→A7→Prop} (hp:pick ρ h=some k) (hk:h[k]? =some (.dct kvs))
 (q:Ens (S ρ (h.set k (.fdc kvs))) fun o h'=>∃kvs',h'[k]? =some (.fdc kvs')∧Q o (h'.set k (.dct kvs'))):Ens (SX pick S ρ h) Q:=by
 unfold SX WF
 simp only[hp,hk]
 exact .bnd (q.mono fun o h' q=>by
  obtain⟨kvs',e,q⟩:=q
  simp only[e]
  exact .ret q)
theorem eM {ma:FE} {s:SI} (q:Ens (ma ρ h) fun x h1=>∃k kvs,x= .ref k∧h1[k]? =some (.fdc kvs)∧s (kvs.map fun kv=>kM kv.1,none) h1):Ens (sX ma ρ h) s:= .bnd (q.mono fun x h1 q=>by
 obtain⟨k,kvs,rfl,e,q⟩:=q
 refine⟨_,h1,?_,q⟩
 simp only[e])
theorem ND {k:Nat} {h:A7} {kvs:List (AI×M)} (e:h[k]? =some (.fdc kvs)):BK h (.ref k)=some kvs:=by unfold BK;simp only[e]
end
end L2
set_option maxHeartbeats 4000000
namespace K10
open PySem L2
local macro_rules| `(tactic|walk_at "n")=> `(tactic|exact⟨by decide+kernel,by decide+kernel,by decide+kernel,by decide+kernel⟩)
def CH (i:Nat):Stmt:=PySem.Challenge.pw_webstore_k10_fields_set_and_gone.main.body.getD i (.Pass ⟨0,0,0,0⟩)
def mt (i j:Nat):Stmt:=(match CH i with| .ClassDef _ _ _ b .. =>b|_=>[]).getD j (.Pass ⟨0,0,0,0⟩)
abbrev BG:Stmt:=CH 16
abbrev BH:Stmt:=CH 19
abbrev IL:Stmt:=CH 21
abbrev DT:Stmt:=CH 22
abbrev EZ:Stmt:=CH 23
abbrev DJ:Stmt:=CH 24
abbrev C8:Stmt:=CH 25
abbrev HC:Stmt:=CH 26
abbrev G9:Stmt:=CH 27
abbrev L8:Stmt:=CH 29
abbrev C4:Stmt:=CH 30
abbrev J8:Stmt:=CH 31
abbrev K4:Stmt:=CH 32
abbrev GP:Stmt:=CH 33
abbrev FR:Stmt:=CH 34
abbrev E5:Stmt:=CH 35
abbrev CT:Stmt:=CH 36
abbrev BM:Stmt:=CH 37
abbrev B3:Stmt:=CH 38
abbrev BF:Stmt:=CH 39
abbrev BN:Stmt:=mt 18 0
abbrev AU:Stmt:=mt 18 1
abbrev AT:Stmt:=mt 18 2
abbrev BZ:Stmt:=mt 18 3
abbrev CB:Stmt:=mt 18 4
abbrev AK:Stmt:=mt 18 5
abbrev AL:Stmt:=mt 18 6
abbrev BW:Stmt:=mt 18 7
abbrev CD:Stmt:=mt 18 8
abbrev B0:Stmt:=mt 18 13
abbrev BD:Stmt:=mt 18 14
theorem LL:FnScope ["fields"] ["fields"] (A0 BG):=⟨rfl,rfl,rfl,by decide+kernel,rfl,by decide+kernel,by decide+kernel⟩
theorem HX:FnScope ["fields","name","value","pairs"] ["fields","name","value"] (A0 BH):=⟨rfl,rfl,rfl,by decide+kernel,rfl,by decide+kernel,by decide+kernel⟩
theorem aG:FnScope ["_law_script"] ["_law_script"] (A0 IL):=⟨rfl,rfl,rfl,by decide+kernel,rfl,by decide+kernel,by decide+kernel⟩
theorem G5:FnScope ["_law_hand_here","_law_many","_law_cell","_law_once","_law_twice","_law_found"] ["_law_hand_here","_law_many"] (A0 DT):=⟨rfl,rfl,rfl,by decide+kernel,rfl,by decide+kernel,by decide+kernel⟩
theorem T6:FnScope ["_law_hand_here","_law_some"] ["_law_hand_here"] (A0 EZ):=⟨rfl,rfl,rfl,by decide+kernel,rfl,by decide+kernel,by decide+kernel⟩
theorem JF:FnScope ["_law_hand_here","_law_far","_law_texts","_law_some"] ["_law_hand_here"] (A0 DJ):=⟨rfl,rfl,rfl,by decide+kernel,rfl,by decide+kernel,by decide+kernel⟩
theorem K8:FnScope ["_law_hand_here","_law_most","_law_fields_here","_law_k"] ["_law_hand_here","_law_most"] (A0 C8):=⟨rfl,rfl,rfl,by decide+kernel,rfl,by decide+kernel,by decide+kernel⟩
theorem ZB:FnScope [] [] (A0 HC):=⟨rfl,rfl,rfl,by decide+kernel,rfl,by decide+kernel,by decide+kernel⟩
theorem bO:FnScope ["_law_fields_here"] ["_law_fields_here"] (A0 G9):=⟨rfl,rfl,rfl,by decide+kernel,rfl,by decide+kernel,by decide+kernel⟩
theorem IC:FnScope ["_law_own","_law_deed","_law_word_here","_law_ends"] ["_law_own","_law_deed"] (A0 C4):=⟨rfl,rfl,rfl,by decide+kernel,rfl,by decide+kernel,by decide+kernel⟩
theorem iD:FnScope ["_law_fields_here","_law_name","_law_value_here"] ["_law_fields_here","_law_name","_law_value_here"] (A0 J8):=⟨rfl,rfl,rfl,by decide+kernel,rfl,by decide+kernel,by decide+kernel⟩
theorem WW:FnScope ["_law_own","_law_deed","_law_why","_law_word_here"] ["_law_own","_law_deed"] (A0 K4):=⟨rfl,rfl,rfl,by decide+kernel,rfl,by decide+kernel,by decide+kernel⟩
theorem bE:FnScope ["_law_store","_law_deed"] ["_law_store","_law_deed"] (A0 GP):=⟨rfl,rfl,rfl,by decide+kernel,rfl,by decide+kernel,by decide+kernel⟩
theorem PF:FnScope ["_law_store","_law_deed","_law_caught","_law_told_here","error"] ["_law_store","_law_deed"] (A0 E5):=⟨rfl,rfl,rfl,by decide+kernel,rfl,by decide+kernel,by decide+kernel⟩
theorem eC:FnScope ["_law_found","_law_due"] ["_law_found","_law_due"] (A0 CT):=⟨rfl,rfl,rfl,by decide+kernel,rfl,by decide+kernel,by decide+kernel⟩
theorem DY:FnScope ["_law_hand_here","_law_store","_law_own","_law_shared","_law_places","_law_k","_law_fields_here","_law_deed","_law_as_it_was","_law_handed","_law_told_here"] ["_law_hand_here","_law_store","_law_own"] (A0 BM):=⟨rfl,rfl,rfl,by decide+kernel,rfl,by decide+kernel,by decide+kernel⟩
theorem BU:FnScope ["_law_store","_law_own","_law_n","_law_kind","_law_fields_here","_law_start","_law_end"] ["_law_store","_law_own"] (A0 B3):=⟨rfl,rfl,rfl,by decide+kernel,rfl,by decide+kernel,by decide+kernel⟩
theorem EN:FnScope ["_law_script","_law_hand_here","_law_store","_law_own","_law_k","_law_sort","_law_some","_law_n","_law_fields_here","_law_names","_law_name","_law_deed"] ["_law_script"] (A0 BF):=⟨rfl,rfl,rfl,by decide+kernel,rfl,by decide+kernel,by decide+kernel⟩
theorem JB:FnScope ["self"] ["self"] (A0 BN):=⟨rfl,rfl,rfl,by decide+kernel,rfl,by decide+kernel,by decide+kernel⟩
theorem EM:FnScope ["self","kind","fields","number"] ["self","kind","fields"] (A0 AU):=⟨rfl,rfl,rfl,by decide+kernel,rfl,by decide+kernel,by decide+kernel⟩
theorem FU:FnScope ["self","kind","start","end","fields","number"] ["self","kind","start","end","fields"] (A0 AT):=⟨rfl,rfl,rfl,by decide+kernel,rfl,by decide+kernel,by decide+kernel⟩
theorem D8:FnScope ["self","n","name","value","kind","fields"] ["self","n","name","value"] (A0 AK):=⟨rfl,rfl,rfl,by decide+kernel,rfl,by decide+kernel,by decide+kernel⟩
theorem CA:FnScope ["self","n","name","value","kind","start","end","fields"] ["self","n","name","value"] (A0 AL):=⟨rfl,rfl,rfl,by decide+kernel,rfl,by decide+kernel,by decide+kernel⟩
theorem M5:FnScope ["self","n"] ["self","n"] (A0 BW):=⟨rfl,rfl,rfl,by decide+kernel,rfl,by decide+kernel,by decide+kernel⟩
theorem OM:FnScope ["self","n"] ["self","n"] (A0 CD):=⟨rfl,rfl,rfl,by decide+kernel,rfl,by decide+kernel,by decide+kernel⟩
theorem HM:FnScope ["self","n"] ["self","n"] (A0 B0):=⟨rfl,rfl,rfl,by decide+kernel,rfl,by decide+kernel,by decide+kernel⟩
theorem J0:FnScope ["self","n"] ["self","n"] (A0 BD):=⟨rfl,rfl,rfl,by decide+kernel,rfl,by decide+kernel,by decide+kernel⟩
theorem q1:NmOk (A0 BG) "dict" .globalImplicit:=(by walk_at "n")
theorem q0:NmOk (A0 BG) "fields" .local:=(by walk_at "n")
theorem q2:NmOk (A0 BG) "sorted" .globalImplicit:=(by walk_at "n")
theorem q3:NmOk (A0 BG) "tuple" .globalImplicit:=(by walk_at "n")
theorem q8:NmOk (A0 BH) "fields" .local:=(by walk_at "n")
theorem q5:NmOk (A0 BH) "fields_told" .globalImplicit:=(by walk_at "n")
theorem q7:NmOk (A0 BH) "name" .cell:=(by walk_at "n")
theorem q4:NmOk (A0 BH) "pairs" .local:=(by walk_at "n")
theorem q6:NmOk (A0 BH) "value" .local:=(by walk_at "n")
theorem q9:NmOk (A0 IL) "_law_script" .local:=(by walk_at "n")
theorem pD:NmOk (A0 DT) "_law_cell" .local:=(by walk_at "n")
theorem vW:NmOk (A0 DT) "_law_found" .local:=(by walk_at "n")
theorem O5:NmOk (A0 DT) "_law_hand_here" .local:=(by walk_at "n")
theorem tY:NmOk (A0 DT) "_law_many" .local:=(by walk_at "n")
theorem rF:NmOk (A0 DT) "_law_once" .local:=(by walk_at "n")
theorem wM:NmOk (A0 DT) "_law_twice" .local:=(by walk_at "n")
theorem tD:NmOk (A0 DT) "len" .globalImplicit:=(by walk_at "n")
theorem uI:NmOk (A0 EZ) "_law_draw" .globalImplicit:=(by walk_at "n")
theorem uH:NmOk (A0 EZ) "_law_hand_here" .cell:=(by walk_at "n")
theorem vX:NmOk (A0 EZ) "_law_some" .local:=(by walk_at "n")
theorem xM:NmOk (A0 EZ) "range" .globalImplicit:=(by walk_at "n")
theorem mJ:NmOk (A0 DJ) "_law_draw" .globalImplicit:=(by walk_at "n")
theorem wJ:NmOk (A0 DJ) "_law_far" .local:=(by walk_at "n")
theorem m9:NmOk (A0 DJ) "_law_hand_here" .local:=(by walk_at "n")
theorem vY:NmOk (A0 DJ) "_law_some" .local:=(by walk_at "n")
theorem vT:NmOk (A0 DJ) "_law_texts" .local:=(by walk_at "n")
theorem xV:NmOk (A0 C8) "_law_draw" .globalImplicit:=(by walk_at "n")
theorem u9:NmOk (A0 C8) "_law_fields_here" .local:=(by walk_at "n")
theorem tP:NmOk (A0 C8) "_law_hand_here" .local:=(by walk_at "n")
theorem x3:NmOk (A0 C8) "_law_k" .local:=(by walk_at "n")
theorem y6:NmOk (A0 C8) "_law_most" .local:=(by walk_at "n")
theorem xG:NmOk (A0 C8) "_law_value" .globalImplicit:=(by walk_at "n")
theorem x6:NmOk (A0 C8) "_law_word" .globalImplicit:=(by walk_at "n")
theorem xX:NmOk (A0 C8) "range" .globalImplicit:=(by walk_at "n")
theorem xD:NmOk (A0 G9) "_law_fields_here" .cell:=(by walk_at "n")
theorem xQ:NmOk (A0 G9) "sorted" .globalImplicit:=(by walk_at "n")
theorem y2:NmOk (A0 G9) "tuple" .globalImplicit:=(by walk_at "n")
theorem qV:NmOk (A0 C4) "_law_deed" .local:=(by walk_at "n")
theorem wV:NmOk (A0 C4) "_law_ends" .local:=(by walk_at "n")
theorem wU:NmOk (A0 C4) "_law_own" .cell:=(by walk_at "n")
theorem xP:NmOk (A0 C4) "_law_tied" .globalImplicit:=(by walk_at "n")
theorem qZ:NmOk (A0 C4) "_law_word_here" .local:=(by walk_at "n")
theorem x9:NmOk (A0 C4) "int" .globalImplicit:=(by walk_at "n")
theorem wT:NmOk (A0 J8) "_law_fields_here" .local:=(by walk_at "n")
theorem wY:NmOk (A0 J8) "_law_name" .local:=(by walk_at "n")
theorem wN:NmOk (A0 J8) "_law_value_here" .local:=(by walk_at "n")
theorem UG:NmOk (A0 K4) "_law_deed" .local:=(by walk_at "n")
theorem SE:NmOk (A0 K4) "_law_own" .local:=(by walk_at "n")
theorem xW:NmOk (A0 K4) "_law_refusal" .globalImplicit:=(by walk_at "n")
theorem wS:NmOk (A0 K4) "_law_set" .globalImplicit:=(by walk_at "n")
theorem tZ:NmOk (A0 K4) "_law_why" .local:=(by walk_at "n")
theorem mG:NmOk (A0 K4) "_law_word_here" .local:=(by walk_at "n")
theorem wH:NmOk (A0 K4) "dict" .globalImplicit:=(by walk_at "n")
theorem PL:NmOk (A0 GP) "_law_deed" .local:=(by walk_at "n")
theorem mF:NmOk (A0 GP) "_law_store" .local:=(by walk_at "n")
theorem xB:NmOk (A0 E5) "_law_call" .globalImplicit:=(by walk_at "n")
theorem tT:NmOk (A0 E5) "_law_caught" .local:=(by walk_at "n")
theorem xE:NmOk (A0 E5) "_law_deed" .local:=(by walk_at "n")
theorem y3:NmOk (A0 E5) "_law_store" .local:=(by walk_at "n")
theorem wW:NmOk (A0 E5) "_law_told_here" .local:=(by walk_at "n")
theorem xI:NmOk (A0 E5) "_law_word_of" .globalImplicit:=(by walk_at "n")
theorem ZN:NmOk (A0 CT) "_law_due" .local:=(by walk_at "n")
theorem dR:NmOk (A0 CT) "_law_found" .local:=(by walk_at "n")
theorem y4:NmOk (A0 CT) "all" .globalImplicit:=(by walk_at "n")
theorem xU:NmOk (A0 CT) "bool" .globalImplicit:=(by walk_at "n")
theorem xJ:NmOk (A0 CT) "int" .globalImplicit:=(by walk_at "n")
theorem ZO:NmOk (A0 CT) "isinstance" .globalImplicit:=(by walk_at "n")
theorem vU:NmOk (A0 CT) "len" .globalImplicit:=(by walk_at "n")
theorem vB:NmOk (A0 CT) "list" .globalImplicit:=(by walk_at "n")
theorem vL:NmOk (A0 CT) "str" .globalImplicit:=(by walk_at "n")
theorem tI:NmOk (A0 CT) "tuple" .globalImplicit:=(by walk_at "n")
theorem yB:NmOk (A0 CT) "zip" .globalImplicit:=(by walk_at "n")
theorem vZ:NmOk (A0 BM) "_law_as_it_was" .local:=(by walk_at "n")
theorem sJ:NmOk (A0 BM) "_law_deed" .local:=(by walk_at "n")
theorem xN:NmOk (A0 BM) "_law_do" .globalImplicit:=(by walk_at "n")
theorem x4:NmOk (A0 BM) "_law_done" .globalImplicit:=(by walk_at "n")
theorem hZ:NmOk (A0 BM) "_law_draw" .globalImplicit:=(by walk_at "n")
theorem wA:NmOk (A0 BM) "_law_fields" .globalImplicit:=(by walk_at "n")
theorem YJ:NmOk (A0 BM) "_law_fields_here" .local:=(by walk_at "n")
theorem WD:NmOk (A0 BM) "_law_hand_here" .local:=(by walk_at "n")
theorem wX:NmOk (A0 BM) "_law_handed" .local:=(by walk_at "n")
theorem wR:NmOk (A0 BM) "_law_k" .local:=(by walk_at "n")
theorem y9:NmOk (A0 BM) "_law_own" .local:=(by walk_at "n")
theorem mB:NmOk (A0 BM) "_law_places" .local:=(by walk_at "n")
theorem x8:NmOk (A0 BM) "_law_same" .globalImplicit:=(by walk_at "n")
theorem wD:NmOk (A0 BM) "_law_shared" .local:=(by walk_at "n")
theorem xS:NmOk (A0 BM) "_law_store" .local:=(by walk_at "n")
theorem wL:NmOk (A0 BM) "_law_told_here" .local:=(by walk_at "n")
theorem wI:NmOk (A0 BM) "_law_word" .globalImplicit:=(by walk_at "n")
theorem xC:NmOk (A0 BM) "dict" .globalImplicit:=(by walk_at "n")
theorem xH:NmOk (A0 BM) "fields_told" .globalImplicit:=(by walk_at "n")
theorem xL:NmOk (A0 BM) "range" .globalImplicit:=(by walk_at "n")
theorem xO:NmOk (A0 BM) "sorted" .globalImplicit:=(by walk_at "n")
theorem wP:NmOk (A0 B3) "_law_end" .local:=(by walk_at "n")
theorem sH:NmOk (A0 B3) "_law_fields_here" .local:=(by walk_at "n")
theorem sF:NmOk (A0 B3) "_law_kind" .local:=(by walk_at "n")
theorem mE:NmOk (A0 B3) "_law_n" .local:=(by walk_at "n")
theorem sG:NmOk (A0 B3) "_law_own" .local:=(by walk_at "n")
theorem qN:NmOk (A0 B3) "_law_same" .globalImplicit:=(by walk_at "n")
theorem wZ:NmOk (A0 B3) "_law_start" .local:=(by walk_at "n")
theorem w4:NmOk (A0 B3) "_law_store" .local:=(by walk_at "n")
theorem oS:NmOk (A0 B3) "_law_told" .globalImplicit:=(by walk_at "n")
theorem tN:NmOk (A0 BF) "Store" .globalImplicit:=(by walk_at "n")
theorem rK:NmOk (A0 BF) "_law_all_right" .globalImplicit:=(by walk_at "n")
theorem vG:NmOk (A0 BF) "_law_begun" .globalImplicit:=(by walk_at "n")
theorem gQ:NmOk (A0 BF) "_law_deed" .local:=(by walk_at "n")
theorem vP:NmOk (A0 BF) "_law_do" .globalImplicit:=(by walk_at "n")
theorem tW:NmOk (A0 BF) "_law_done" .globalImplicit:=(by walk_at "n")
theorem YG:NmOk (A0 BF) "_law_draw" .globalImplicit:=(by walk_at "n")
theorem gX:NmOk (A0 BF) "_law_fields_here" .local:=(by walk_at "n")
theorem tX:NmOk (A0 BF) "_law_hand" .globalImplicit:=(by walk_at "n")
theorem OG:NmOk (A0 BF) "_law_hand_here" .local:=(by walk_at "n")
theorem uY:NmOk (A0 BF) "_law_k" .local:=(by walk_at "n")
theorem u3:NmOk (A0 BF) "_law_made" .globalImplicit:=(by walk_at "n")
theorem j5:NmOk (A0 BF) "_law_n" .local:=(by walk_at "n")
theorem jK:NmOk (A0 BF) "_law_name" .local:=(by walk_at "n")
theorem lI:NmOk (A0 BF) "_law_names" .local:=(by walk_at "n")
theorem R3:NmOk (A0 BF) "_law_own" .local:=(by walk_at "n")
theorem uM:NmOk (A0 BF) "_law_same" .globalImplicit:=(by walk_at "n")
theorem u7:NmOk (A0 BF) "_law_script" .local:=(by walk_at "n")
theorem gC:NmOk (A0 BF) "_law_some" .local:=(by walk_at "n")
theorem aX:NmOk (A0 BF) "_law_sort" .local:=(by walk_at "n")
theorem XV:NmOk (A0 BF) "_law_store" .local:=(by walk_at "n")
theorem tK:NmOk (A0 BF) "_law_value" .globalImplicit:=(by walk_at "n")
theorem vD:NmOk (A0 BF) "_law_word" .globalImplicit:=(by walk_at "n")
theorem uA:NmOk (A0 BF) "int" .globalImplicit:=(by walk_at "n")
theorem rV:NmOk (A0 BF) "len" .globalImplicit:=(by walk_at "n")
theorem uJ:NmOk (A0 BF) "range" .globalImplicit:=(by walk_at "n")
theorem oB:NmOk (A0 BF) "sorted" .globalImplicit:=(by walk_at "n")
theorem uX:NmOk (A0 BF) "str" .globalImplicit:=(by walk_at "n")
theorem cM:NmOk (A0 BN) "self" .local:=(by walk_at "n")
theorem tL:NmOk (A0 AU) "fields" .local:=(by walk_at "n")
theorem u0:NmOk (A0 AU) "fields_told" .globalImplicit:=(by walk_at "n")
theorem tG:NmOk (A0 AU) "kind" .local:=(by walk_at "n")
theorem cP:NmOk (A0 AU) "number" .local:=(by walk_at "n")
theorem jJ:NmOk (A0 AU) "self" .local:=(by walk_at "n")
theorem oR:NmOk (A0 AT) "end" .local:=(by walk_at "n")
theorem uB:NmOk (A0 AT) "fields" .local:=(by walk_at "n")
theorem vA:NmOk (A0 AT) "fields_told" .globalImplicit:=(by walk_at "n")
theorem uG:NmOk (A0 AT) "kind" .local:=(by walk_at "n")
theorem bQ:NmOk (A0 AT) "number" .local:=(by walk_at "n")
theorem YZ:NmOk (A0 AT) "self" .local:=(by walk_at "n")
theorem rJ:NmOk (A0 AT) "start" .local:=(by walk_at "n")
theorem oA:NmOk (A0 AK) "fields" .local:=(by walk_at "n")
theorem n9:NmOk (A0 AK) "kind" .local:=(by walk_at "n")
theorem mQ:NmOk (A0 AK) "n" .local:=(by walk_at "n")
theorem vM:NmOk (A0 AK) "name" .local:=(by walk_at "n")
theorem mS:NmOk (A0 AK) "self" .local:=(by walk_at "n")
theorem t9:NmOk (A0 AK) "value" .local:=(by walk_at "n")
theorem uU:NmOk (A0 AK) "with_value" .globalImplicit:=(by walk_at "n")
theorem oF:NmOk (A0 AL) "end" .local:=(by walk_at "n")
theorem pP:NmOk (A0 AL) "fields" .local:=(by walk_at "n")
theorem p5:NmOk (A0 AL) "kind" .local:=(by walk_at "n")
theorem rS:NmOk (A0 AL) "n" .local:=(by walk_at "n")
theorem v0:NmOk (A0 AL) "name" .local:=(by walk_at "n")
theorem mR:NmOk (A0 AL) "self" .local:=(by walk_at "n")
theorem pU:NmOk (A0 AL) "start" .local:=(by walk_at "n")
theorem uC:NmOk (A0 AL) "value" .local:=(by walk_at "n")
theorem tE:NmOk (A0 AL) "with_value" .globalImplicit:=(by walk_at "n")
theorem oV:NmOk (A0 BW) "n" .local:=(by walk_at "n")
theorem rL:NmOk (A0 BW) "self" .local:=(by walk_at "n")
theorem rY:NmOk (A0 CD) "n" .local:=(by walk_at "n")
theorem qY:NmOk (A0 CD) "self" .local:=(by walk_at "n")
theorem uD:NmOk (A0 B0) "n" .local:=(by walk_at "n")
theorem vH:NmOk (A0 B0) "self" .local:=(by walk_at "n")
theorem t6:NmOk (A0 BD) "n" .local:=(by walk_at "n")
theorem vC:NmOk (A0 BD) "self" .local:=(by walk_at "n")
structure Adr where
 f_fields_told:Addr
 d_fields_told:FuncData
 f_with_value:Addr
 d_with_value:FuncData
 fLhand:Addr
 dLhand:FuncData
 fLdraw:Addr
 dLdraw:FuncData
 fLword:Addr
 dLword:FuncData
 fLvalue:Addr
 dLvalue:FuncData
 fLfields:Addr
 dLfields:FuncData
 fLbegun:Addr
 dLbegun:FuncData
 fLtold:Addr
 dLtold:FuncData
 fLtied:Addr
 dLtied:FuncData
 fLrefusal:Addr
 dLrefusal:FuncData
 fLset:Addr
 dLset:FuncData
 fLdo:Addr
 dLdo:FuncData
 fLcall:Addr
 dLcall:FuncData
 fLword_of:Addr
 dLword_of:FuncData
 fLdone:Addr
 dLdone:FuncData
 fLsame:Addr
 dLsame:FuncData
 fLmade:Addr
 dLmade:FuncData
 fLall_right:Addr
 dLall_right:FuncData
 f_law:Addr
 d_law:FuncData
 f_Store___init__:Addr
 d_Store___init__:FuncData
 f_Store_add_place:Addr
 d_Store_add_place:FuncData
 f_Store_add_tie:Addr
 d_Store_add_tie:FuncData
 f_Store_take_place:Addr
 d_Store_take_place:FuncData
 f_Store_take_tie:Addr
 d_Store_take_tie:FuncData
 f_Store_set_place:Addr
 d_Store_set_place:FuncData
 f_Store_set_tie:Addr
 d_Store_set_tie:FuncData
 f_Store_place:Addr
 d_Store_place:FuncData
 f_Store_tie:Addr
 d_Store_tie:FuncData
 f_Store_need_place:Addr
 d_Store_need_place:FuncData
 f_Store_need_tie:Addr
 d_Store_need_tie:FuncData
 C_Store:Addr
structure Txt (P:Program) (w:World) (K:PySem.W.Frag) (mg:Str→Option Value) (t:Adr):Prop where
 F_fields_told:Fun K "fields_told" "fields_told" BG t.f_fields_told t.d_fields_told
 b_fields_told:Binds K t.d_fields_told ["fields"] []
 m_fields_told:mg "fields_told"=some (.ref t.f_fields_told)
 F_with_value:Fun K "with_value" "with_value" BH t.f_with_value t.d_with_value
 b_with_value:Binds K t.d_with_value ["fields","name","value"] []
 m_with_value:mg "with_value"=some (.ref t.f_with_value)
 FLhand:Fun K "_law_hand" "_law_hand" IL t.fLhand t.dLhand
 bLhand:Binds K t.dLhand ["_law_script"] []
 mLhand:mg "_law_hand"=some (.ref t.fLhand)
 FLdraw:Fun K "_law_draw" "_law_draw" DT t.fLdraw t.dLdraw
 bLdraw:Binds K t.dLdraw ["_law_hand_here","_law_many"] []
 mLdraw:mg "_law_draw"=some (.ref t.fLdraw)
 FLword:Fun K "_law_word" "_law_word" EZ t.fLword t.dLword
 bLword:Binds K t.dLword ["_law_hand_here"] []
 mLword:mg "_law_word"=some (.ref t.fLword)
 FLvalue:Fun K "_law_value" "_law_value" DJ t.fLvalue t.dLvalue
 bLvalue:Binds K t.dLvalue ["_law_hand_here"] []
 mLvalue:mg "_law_value"=some (.ref t.fLvalue)
 FLfields:Fun K "_law_fields" "_law_fields" C8 t.fLfields t.dLfields
 bLfields:Binds K t.dLfields ["_law_hand_here","_law_most"] []
 mLfields:mg "_law_fields"=some (.ref t.fLfields)
 FLbegun:Fun K "_law_begun" "_law_begun" HC t.fLbegun t.dLbegun
 bLbegun:Binds K t.dLbegun [] []
 mLbegun:mg "_law_begun"=some (.ref t.fLbegun)
 FLtold:Fun K "_law_told" "_law_told" G9 t.fLtold t.dLtold
 bLtold:Binds K t.dLtold ["_law_fields_here"] []
 mLtold:mg "_law_told"=some (.ref t.fLtold)
 FLtied:Fun K "_law_tied" "_law_tied" L8 t.fLtied t.dLtied
 bLtied:Binds K t.dLtied ["_law_own"] []
 mLtied:mg "_law_tied"=some (.ref t.fLtied)
 FLrefusal:Fun K "_law_refusal" "_law_refusal" C4 t.fLrefusal t.dLrefusal
 bLrefusal:Binds K t.dLrefusal ["_law_own","_law_deed"] []
 mLrefusal:mg "_law_refusal"=some (.ref t.fLrefusal)
 FLset:Fun K "_law_set" "_law_set" J8 t.fLset t.dLset
 bLset:Binds K t.dLset ["_law_fields_here","_law_name","_law_value_here"] []
 mLset:mg "_law_set"=some (.ref t.fLset)
 FLdo:Fun K "_law_do" "_law_do" K4 t.fLdo t.dLdo
 bLdo:Binds K t.dLdo ["_law_own","_law_deed"] []
 mLdo:mg "_law_do"=some (.ref t.fLdo)
 FLcall:Fun K "_law_call" "_law_call" GP t.fLcall t.dLcall
 bLcall:Binds K t.dLcall ["_law_store","_law_deed"] []
 mLcall:mg "_law_call"=some (.ref t.fLcall)
 FLword_of:Fun K "_law_word_of" "_law_word_of" FR t.fLword_of t.dLword_of
 bLword_of:Binds K t.dLword_of ["_law_caught"] []
 mLword_of:mg "_law_word_of"=some (.ref t.fLword_of)
 FLdone:Fun K "_law_done" "_law_done" E5 t.fLdone t.dLdone
 bLdone:Binds K t.dLdone ["_law_store","_law_deed"] []
 mLdone:mg "_law_done"=some (.ref t.fLdone)
 FLsame:Fun K "_law_same" "_law_same" CT t.fLsame t.dLsame
 bLsame:Binds K t.dLsame ["_law_found","_law_due"] []
 mLsame:mg "_law_same"=some (.ref t.fLsame)
 FLmade:Fun K "_law_made" "_law_made" BM t.fLmade t.dLmade
 bLmade:Binds K t.dLmade ["_law_hand_here","_law_store","_law_own"] []
 mLmade:mg "_law_made"=some (.ref t.fLmade)
 FLall_right:Fun K "_law_all_right" "_law_all_right" B3 t.fLall_right t.dLall_right
 bLall_right:Binds K t.dLall_right ["_law_store","_law_own"] []
 mLall_right:mg "_law_all_right"=some (.ref t.fLall_right)
 F_law:Fun K "law" "law" BF t.f_law t.d_law
 UK:Binds K t.d_law ["_law_script"] []
 m_law:mg "law"=some (.ref t.f_law)
 F_Store___init__:Fun K "__init__" "Store.__init__" BN t.f_Store___init__ t.d_Store___init__
 b_Store___init__:Binds K t.d_Store___init__ ["self"] []
 F_Store_add_place:Fun K "add_place" "Store.add_place" AU t.f_Store_add_place t.d_Store_add_place
 b_Store_add_place:Binds K t.d_Store_add_place ["self","kind","fields"] []
 F_Store_add_tie:Fun K "add_tie" "Store.add_tie" AT t.f_Store_add_tie t.d_Store_add_tie
 b_Store_add_tie:Binds K t.d_Store_add_tie ["self","kind","start","end","fields"] []
 F_Store_take_place:Fun K "take_place" "Store.take_place" BZ t.f_Store_take_place t.d_Store_take_place
 b_Store_take_place:Binds K t.d_Store_take_place ["self","n"] []
 F_Store_take_tie:Fun K "take_tie" "Store.take_tie" CB t.f_Store_take_tie t.d_Store_take_tie
 b_Store_take_tie:Binds K t.d_Store_take_tie ["self","n"] []
 F_Store_set_place:Fun K "set_place" "Store.set_place" AK t.f_Store_set_place t.d_Store_set_place
 b_Store_set_place:Binds K t.d_Store_set_place ["self","n","name","value"] []
 F_Store_set_tie:Fun K "set_tie" "Store.set_tie" AL t.f_Store_set_tie t.d_Store_set_tie
 b_Store_set_tie:Binds K t.d_Store_set_tie ["self","n","name","value"] []
 F_Store_place:Fun K "place" "Store.place" BW t.f_Store_place t.d_Store_place
 b_Store_place:Binds K t.d_Store_place ["self","n"] []
 F_Store_tie:Fun K "tie" "Store.tie" CD t.f_Store_tie t.d_Store_tie
 b_Store_tie:Binds K t.d_Store_tie ["self","n"] []
 F_Store_need_place:Fun K "need_place" "Store.need_place" B0 t.f_Store_need_place t.d_Store_need_place
 b_Store_need_place:Binds K t.d_Store_need_place ["self","n"] []
 F_Store_need_tie:Fun K "need_tie" "Store.need_tie" BD t.f_Store_need_tie t.d_Store_need_tie
 b_Store_need_tie:Binds K t.d_Store_need_tie ["self","n"] []
 a_Store:DI K "Store"=some t.C_Store
 l_Store:Cls K t.C_Store
 k_Store:Mk K t.C_Store t.f_Store___init__
 g_Store:mg "Store"=some (.ref t.C_Store)
 n_Store_next_place:NoAttr K t.C_Store "next_place"
 n_Store_next_tie:NoAttr K t.C_Store "next_tie"
 n_Store_place_rows:NoAttr K t.C_Store "place_rows"
 n_Store_tie_rows:NoAttr K t.C_Store "tie_rows"
 h_Store_add_place:Meth K t.C_Store "add_place" t.f_Store_add_place
 h_Store_add_tie:Meth K t.C_Store "add_tie" t.f_Store_add_tie
 h_Store_take_place:Meth K t.C_Store "take_place" t.f_Store_take_place
 h_Store_take_tie:Meth K t.C_Store "take_tie" t.f_Store_take_tie
 h_Store_set_place:Meth K t.C_Store "set_place" t.f_Store_set_place
 h_Store_set_tie:Meth K t.C_Store "set_tie" t.f_Store_set_tie
 h_Store_place:Meth K t.C_Store "place" t.f_Store_place
 h_Store_tie:Meth K t.C_Store "tie" t.f_Store_tie
 h_Store_need_place:Meth K t.C_Store "need_place" t.f_Store_need_place
 h_Store_need_tie:Meth K t.C_Store "need_tie" t.f_Store_need_tie
 z_abs:mg "abs"=none
 z_all:mg "all"=none
 z_bool:mg "bool"=none
 z_dict:mg "dict"=none
 z_int:mg "int"=none
 z_isinstance:mg "isinstance"=none
 z_len:mg "len"=none
 z_list:mg "list"=none
 z_range:mg "range"=none
 z_sorted:mg "sorted"=none
 z_str:mg "str"=none
 z_tuple:mg "tuple"=none
 z_zip:mg "zip"=none
noncomputable def b_fields_told:FS:=
 (C1 (HK OQ (A2 (mK EU (HK FN (A2 (A3 0) AB))) AB)))
noncomputable def m_fields_told:FF:=D3 1 0 b_fields_told
noncomputable def b_with_value:FS:=
 (AS (BR (dW (GW [none,some 1] (iT (A3 0)) (D0 0) (tV (AM Q0 (AM B7 (A3 0) (mC (.int 0))) (A3 1))) (A3 0))) (D0 3))
 (AS (GT (tV (AM HB (A3 2) (mC .non))) (ET (ZR sY JI (A3 3) (A2 (EA (A2 (A3 1) (A2 (A3 2) AB))) AB))) BV)
 (C1 (AR m_fields_told (A2 (A3 3) AB)))))
noncomputable def m_with_value:FF:=D3 3 1 b_with_value
noncomputable def bLhand:FS:=
 (C1 (UC (A2 (GW [none] (iL (fJ X5 (A3 0) qT (GB (mC (.int 63))))) (D0 0) GY (HK dQ (A2 (A3 0) AB))) (A2 (mC (.int 0)) (A2 (mC (.int 0)) (A2 (mC (.int 0)) AB))))))
noncomputable def mLhand:FF:=D3 1 0 bLhand
noncomputable def bLdraw:FS:=
 (AS (BR (AM C7 (AM B7 (A3 0) (mC (.int 3))) (mC (.int 1))) (J3 (A3 0) (mC (.int 3))))
 (AS (GT (tV (AM E2 (AM B7 (A3 0) (mC (.int 2))) (mC (.int 0)))) (AS (BR (mC (.int 0)) (D0 2))
 (AS (GT (tV (AM Z9 (HK LX (A2 (AM B7 (A3 0) (mC (.int 0))) AB)) (mC (.int 0)))) (BR (AM B7 (AM B7 (A3 0) (mC (.int 0))) (AM J5 (AM B7 (A3 0) (mC (.int 1))) (HK LX (A2 (AM B7 (A3 0) (mC (.int 0))) AB)))) (D0 2)) BV)
 (AS (BR (AM C7 (AM B7 (A3 0) (mC (.int 1))) (mC (.int 1))) (J3 (A3 0) (mC (.int 1))))
 (AS (GT (PR (tV (AM kC (A3 2) (AM M6 (mC (.int 10)) (mC (.int 18))))) (tV (AM Z9 (AM B7 (A3 0) (mC (.int 1))) (HK LX (A2 (AM B7 (A3 0) (mC (.int 0))) AB))))) (AS (BR (AM C7 (AM C7 (AM J5 (A3 2) (mC (.int 2147483629))) (AM KF (mC (.int 7919)) (AM B7 (A3 0) (mC (.int 3))))) (mC (.int 11))) (D0 3))
 (AS (BR (AM J5 (AM KF (A3 3) (AM C7 (mC (.int 48271)) (AM KF (mC (.int 2)) (AM B7 (A3 0) (mC (.int 3)))))) (mC (.int 2147483647))) (D0 3))
 (AS (BR (AM J5 (AM C7 (AM KF (A3 3) (AM C7 (AM J5 (A3 3) (mC (.int 39373))) (AM B7 (A3 0) (mC (.int 3))))) (AM KF (mC (.int 31)) (AM B7 (A3 0) (mC (.int 3))))) (mC (.int 1999999973))) (D0 4))
 (C1 (AM J5 (AM UL (A3 4) (mC (.int 7))) (A3 1)))))) BV)
 (BR (A3 2) (J3 (A3 0) (mC (.int 2)))))))) BV)
 (AS (BR (AM J5 (AM B7 (A3 0) (mC (.int 2))) (A3 1)) (D0 5))
 (AS (BR (AM UL (AM B7 (A3 0) (mC (.int 2))) (A3 1)) (J3 (A3 0) (mC (.int 2))))
 (C1 (A3 5))))))
noncomputable def mLdraw:FF:=D3 2 4 bLdraw
noncomputable def bLword:FS:=
 (AS (BR (J4 (A2 (mC (.str "b")) (A2 (mC (.str "aa")) (A2 (mC (.str "zebra")) (A2 (mC (.str "c")) (A2 (mC (.str "quartzes")) (A2 (mC (.str "ab")) (A2 (mC (.str "m")) (A2 (mC (.str "knows")) (A2 (mC (.str "d")) (A2 (mC (.str "mm")) (A2 (mC (.str "likes")) (A2 (mC (.str "z")) (A2 (mC (.str "a")) (A2 (mC (.str "age")) AB))))))))))))))) (D0 1))
 (AS (GT (tV (AM Z9 (AR mLdraw (A2 (A3 0) (A2 (mC (.int 12)) AB))) (mC (.int 0)))) (C1 (AM B7 (A3 1) (AR mLdraw (A2 (A3 0) (A2 (mC (.int 14)) AB))))) BV)
 (C1 (ZR w6 UN (mC (.str "")) (A2 (GW [none,some 0] (mM (A2 (AM C7 (mC (.int 1)) (AR mLdraw (A2 (A3 0) (A2 (mC (.int 8)) AB)))) AB)) (D0 0) GY (AM B7 (mC (.str "abcdefghijklmnopqrstuvwxyz")) (AR mLdraw (A2 (A3 1) (A2 (mC (.int 26)) AB))))) AB)))))
noncomputable def mLword:FF:=D3 1 1 bLword
noncomputable def bLvalue:FS:=
 (AS (BR (AM B7 (J4 (A2 (AM LJ (AM M6 (mC (.int 10)) (mC (.int 12))) (mC (.int 1))) (A2 (AM LJ (mC (.int 1)) (AM M6 (mC (.int 10)) (mC (.int 12)))) (A2 (AM C7 (AM M6 (mC (.int 10)) (mC (.int 11))) (AR mLdraw (A2 (A3 0) (A2 (AM M6 (mC (.int 10)) (mC (.int 6))) AB)))) AB)))) (AR mLdraw (A2 (A3 0) (A2 (mC (.int 3)) AB)))) (D0 1))
 (AS (BR (J4 (A2 (mC (.str "")) (A2 (mC (.str "b")) (A2 (mC (.str "aa")) (A2 (mC (.str "B")) (A2 (mC (.str "ab c")) (A2 (mC (.str "12")) (A2 (mC (.str "-3")) (A2 (mC (.str "~")) (A2 (mC (.str " ")) (A2 (mC (.str "a")) (A2 (mC (.str "zzzzzzzzzzzzzzzzzzzz")) (A2 (mC (.str "0")) AB))))))))))))) (D0 2))
 (AS (BR (J4 (A2 (AR mLdraw (A2 (A3 0) (A2 (mC (.int 5)) AB))) (A2 (AM LJ (AR mLdraw (A2 (A3 0) (A2 (mC (.int 2001)) AB))) (mC (.int 1000))) (A2 (A3 1) (A2 (AM B7 (A3 2) (AR mLdraw (A2 (A3 0) (A2 (mC (.int 12)) AB)))) AB))))) (D0 3))
 (C1 (AM B7 (A3 3) (AM B7 (J4 (A2 (mC (.int 0)) (A2 (mC (.int 1)) (A2 (mC (.int 2)) (A2 (mC (.int 3)) (A2 (mC (.int 3)) AB)))))) (AR mLdraw (A2 (A3 0) (A2 (mC (.int 5)) AB)))))))))
noncomputable def mLvalue:FF:=D3 1 3 bLvalue
noncomputable def bLfields:FS:=
 (AS (BR IT (D0 2))
 (AS (RN (mM (A2 (AR mLdraw (A2 (A3 0) (A2 (AM C7 (A3 1) (mC (.int 1))) AB))) AB)) (D0 3) (GC (A3 2) (AR mLword (A2 (A3 0) AB)) (AR mLvalue (A2 (A3 0) AB))))
 (C1 (A3 2))))
noncomputable def mLfields:FF:=D3 2 2 bLfields
noncomputable def bLbegun:FS:=
 (C1 (i6 (A2 (mC (.str "places")) (A2 IT (A2 (mC (.str "ties")) (A2 IT (A2 (mC (.str "made")) (A2 (UC (A2 (mC (.int 0)) (A2 (mC (.int 0)) AB))) AB))))))))
noncomputable def mLbegun:FF:=D3 0 0 bLbegun
noncomputable def bLtold:FS:=
 (C1 (HK OQ (A2 (GW [none,some 0] (iL (HK IE (A2 (A3 0) AB))) (D0 0) GY (EA (A2 (A3 0) (A2 (AM B7 (A3 1) (A3 0)) AB)))) AB)))
noncomputable def mLtold:FF:=D3 1 0 bLtold
def mLtied:FF:=fun _ _=>none
noncomputable def bLrefusal:FS:=
 (AS (BR (AM B7 (A3 1) (mC (.int 0))) (D0 2))
 (AS (GT (tV (AM E2 (A3 2) (mC (.str "add_place")))) (C1 (mC (.str ""))) BV)
 (AS (GT (tV (AM JX (A3 2) (EA (A2 (mC (.str "take_tie")) (A2 (mC (.str "set_tie")) AB))))) (C1 (AM B7 (J4 (A2 (mC (.str "NoTie")) (A2 (mC (.str "")) AB))) (HK YV (A2 (AM JX (AM B7 (A3 1) (mC (.int 1))) (AM B7 (A3 0) (mC (.str "ties")))) AB)))) BV)
 (AS (BR (uN (tV (AM E2 (A3 2) (mC (.str "add_tie")))) (fJ X5 (A3 1) (GB (mC (.int 2))) (GB (mC (.int 4)))) (fJ X5 (A3 1) (GB (mC (.int 1))) (GB (mC (.int 2))))) (D0 3))
 (AS (GT (tV (AM JX (mC (.bl false)) (GW [none,some 0] (iT (A3 3)) (D0 0) GY (AM JX (A3 0) (AM B7 (A3 1) (mC (.str "places"))))))) (C1 (mC (.str "NoPlace"))) BV)
 (AS (GT (YY (tV (AM E2 (A3 2) (mC (.str "take_place")))) (tV (AM JX (AM B7 (A3 1) (mC (.int 1))) (AR mLtied (A2 (A3 0) AB))))) (C1 (mC (.str "Tied"))) BV)
 (C1 (mC (.str "")))))))))
noncomputable def mLrefusal:FF:=D3 2 2 bLrefusal
noncomputable def bLset:FS:=
 (AS (ET (ZR aP JZ (A3 0) (A2 (A3 1) (A2 (mC .non) AB))))
 (GT (tV (AM HB (A3 2) (mC .non))) (GC (A3 0) (A3 1) (A3 2)) BV))
noncomputable def mLset:FF:=D3 3 0 bLset
noncomputable def bLdo:FS:=
 (AS (BR (AR mLrefusal (A2 (A3 0) (A2 (A3 1) AB))) (D0 2))
 (AS (GT (tV (AM Q0 (A3 2) (mC (.str "")))) (C1 (EA (A2 (mC (.str "refused")) (A2 (A3 2) AB)))) BV)
 (AS (BR (AM B7 (A3 1) (mC (.int 0))) (D0 3))
 (AS (GT (tV (AM E2 (A3 3) (mC (.str "add_place")))) (AS (GC (AM B7 (A3 0) (mC (.str "places"))) (AM B7 (AM B7 (A3 0) (mC (.str "made"))) (mC (.int 0))) (EA (A2 (AM B7 (A3 1) (mC (.int 1))) (A2 (OS (A2 (AM B7 (A3 1) (mC (.int 2))) AB)) AB))))
 (AS (BR (AM C7 (AM B7 (AM B7 (A3 0) (mC (.str "made"))) (mC (.int 0))) (mC (.int 1))) (J3 (AM B7 (A3 0) (mC (.str "made"))) (mC (.int 0))))
 (C1 (EA (A2 (mC (.str "told")) (A2 (AM LJ (AM B7 (AM B7 (A3 0) (mC (.str "made"))) (mC (.int 0))) (mC (.int 1))) AB)))))) BV)
 (AS (GT (tV (AM E2 (A3 3) (mC (.str "add_tie")))) (AS (GC (AM B7 (A3 0) (mC (.str "ties"))) (AM B7 (AM B7 (A3 0) (mC (.str "made"))) (mC (.int 1))) (AM C7 (fJ X5 (A3 1) (GB (mC (.int 1))) (GB (mC (.int 4)))) (EA (A2 (OS (A2 (AM B7 (A3 1) (mC (.int 4))) AB)) AB))))
 (AS (BR (AM C7 (AM B7 (AM B7 (A3 0) (mC (.str "made"))) (mC (.int 1))) (mC (.int 1))) (J3 (AM B7 (A3 0) (mC (.str "made"))) (mC (.int 1))))
 (C1 (EA (A2 (mC (.str "told")) (A2 (AM LJ (AM B7 (AM B7 (A3 0) (mC (.str "made"))) (mC (.int 1))) (mC (.int 1))) AB)))))) BV)
 (AS (GT (tV (AM E2 (A3 3) (mC (.str "take_place")))) (ET (ZR aP MM (AM B7 (A3 0) (mC (.str "places"))) (A2 (AM B7 (A3 1) (mC (.int 1))) AB))) (GT (tV (AM E2 (A3 3) (mC (.str "take_tie")))) (ET (ZR aP MM (AM B7 (A3 0) (mC (.str "ties"))) (A2 (AM B7 (A3 1) (mC (.int 1))) AB))) (GT (tV (AM E2 (A3 3) (mC (.str "set_place")))) (ET (AR mLset (A2 (AM B7 (AM B7 (AM B7 (A3 0) (mC (.str "places"))) (AM B7 (A3 1) (mC (.int 1)))) (mC (.int 1))) (A2 (AM B7 (A3 1) (mC (.int 2))) (A2 (AM B7 (A3 1) (mC (.int 3))) AB))))) (ET (AR mLset (A2 (AM B7 (AM B7 (AM B7 (A3 0) (mC (.str "ties"))) (AM B7 (A3 1) (mC (.int 1)))) (mC (.int 3))) (A2 (AM B7 (A3 1) (mC (.int 2))) (A2 (AM B7 (A3 1) (mC (.int 3))) AB))))))))
 (C1 (EA (A2 (mC (.str "told")) (A2 (mC .non) AB))))))))))
noncomputable def mLdo:FF:=D3 2 2 bLdo
noncomputable def b_Store_need_tie:FS:=
 (GT (tV (AM HA (A3 1) (JV "Store" "tie_rows" (A3 0)))) RT BV)
noncomputable def DP:FF:=D3 2 0 b_Store_need_tie
noncomputable def b_Store_tie:FS:=
 (AS (ET (DM "Store" "need_tie" DP (A3 0) (A2 (A3 1) AB)))
 (C1 (AM B7 (JV "Store" "tie_rows" (A3 0)) (A3 1))))
noncomputable def EV:FF:=D3 2 0 b_Store_tie
noncomputable def b_Store_set_tie:FS:=
 (AS (BR (DM "Store" "tie" EV (A3 0) (A2 (A3 1) AB)) (ZQ 4 (CV (D0 4) (CV (D0 5) (CV (D0 6) (CV (D0 7) KL))))))
 (GC (JV "Store" "tie_rows" (A3 0)) (A3 1) (EA (A2 (A3 4) (A2 (A3 5) (A2 (A3 6) (A2 (AR m_with_value (A2 (A3 7) (A2 (A3 2) (A2 (A3 3) AB)))) AB)))))))
noncomputable def D5:FF:=D3 4 4 b_Store_set_tie
noncomputable def b_Store_add_place:FS:=
 (AS (BR (JV "Store" "next_place" (A3 0)) (D0 3))
 (AS (GC (JV "Store" "place_rows" (A3 0)) (A3 3) (EA (A2 (A3 1) (A2 (AR m_fields_told (A2 (A3 2) AB)) AB))))
 (AS (KH "Store" "next_place" (A3 0) (AM C7 (A3 3) (mC (.int 1))))
 (C1 (A3 3)))))
noncomputable def CM:FF:=D3 3 1 b_Store_add_place
noncomputable def b_Store_need_place:FS:=
 (GT (tV (AM HA (A3 1) (JV "Store" "place_rows" (A3 0)))) RT BV)
noncomputable def BY:FF:=D3 2 0 b_Store_need_place
noncomputable def b_Store_add_tie:FS:=
 (AS (ET (DM "Store" "need_place" BY (A3 0) (A2 (A3 2) AB)))
 (AS (ET (DM "Store" "need_place" BY (A3 0) (A2 (A3 3) AB)))
 (AS (BR (JV "Store" "next_tie" (A3 0)) (D0 5))
 (AS (GC (JV "Store" "tie_rows" (A3 0)) (A3 5) (EA (A2 (A3 1) (A2 (A3 2) (A2 (A3 3) (A2 (AR m_fields_told (A2 (A3 4) AB)) AB))))))
 (AS (KH "Store" "next_tie" (A3 0) (AM C7 (A3 5) (mC (.int 1))))
 (C1 (A3 5)))))))
noncomputable def D7:FF:=D3 5 1 b_Store_add_tie
def EG:FF:=fun _ _=>none
def FK:FF:=fun _ _=>none
noncomputable def b_Store_place:FS:=
 (AS (ET (DM "Store" "need_place" BY (A3 0) (A2 (A3 1) AB)))
 (C1 (AM B7 (JV "Store" "place_rows" (A3 0)) (A3 1))))
noncomputable def DX:FF:=D3 2 0 b_Store_place
noncomputable def b_Store_set_place:FS:=
 (AS (BR (DM "Store" "place" DX (A3 0) (A2 (A3 1) AB)) (ZQ 2 (CV (D0 4) (CV (D0 5) KL))))
 (GC (JV "Store" "place_rows" (A3 0)) (A3 1) (EA (A2 (A3 4) (A2 (AR m_with_value (A2 (A3 5) (A2 (A3 2) (A2 (A3 3) AB)))) AB)))))
noncomputable def CN:FF:=D3 4 2 b_Store_set_place
noncomputable def bLcall:FS:=
 (AS (GT (tV (AM E2 (AM B7 (A3 1) (mC (.int 0))) (mC (.str "add_place")))) (C1 (DM "Store" "add_place" CM (A3 0) (A2 (AM B7 (A3 1) (mC (.int 1))) (A2 (AM B7 (A3 1) (mC (.int 2))) AB)))) BV)
 (AS (GT (tV (AM E2 (AM B7 (A3 1) (mC (.int 0))) (mC (.str "add_tie")))) (C1 (DM "Store" "add_tie" D7 (A3 0) (A2 (AM B7 (A3 1) (mC (.int 1))) (A2 (AM B7 (A3 1) (mC (.int 2))) (A2 (AM B7 (A3 1) (mC (.int 3))) (A2 (AM B7 (A3 1) (mC (.int 4))) AB)))))) BV)
 (AS (GT (tV (AM E2 (AM B7 (A3 1) (mC (.int 0))) (mC (.str "take_place")))) (C1 (DM "Store" "take_place" EG (A3 0) (A2 (AM B7 (A3 1) (mC (.int 1))) AB))) BV)
 (AS (GT (tV (AM E2 (AM B7 (A3 1) (mC (.int 0))) (mC (.str "take_tie")))) (C1 (DM "Store" "take_tie" FK (A3 0) (A2 (AM B7 (A3 1) (mC (.int 1))) AB))) BV)
 (AS (GT (tV (AM E2 (AM B7 (A3 1) (mC (.int 0))) (mC (.str "set_place")))) (C1 (DM "Store" "set_place" CN (A3 0) (A2 (AM B7 (A3 1) (mC (.int 1))) (A2 (AM B7 (A3 1) (mC (.int 2))) (A2 (AM B7 (A3 1) (mC (.int 3))) AB))))) BV)
 (C1 (DM "Store" "set_tie" D5 (A3 0) (A2 (AM B7 (A3 1) (mC (.int 1))) (A2 (AM B7 (A3 1) (mC (.int 2))) (A2 (AM B7 (A3 1) (mC (.int 3))) AB))))))))))
noncomputable def mLcall:FF:=D3 2 0 bLcall
def mLword_of:FF:=fun _ _=>none
noncomputable def bLdone:FS:=
 (AS (BR (mC .non) (D0 2))
 (AS (BR (AR mLcall (A2 (A3 0) (A2 (A3 1) AB))) (D0 3))
 (AS (GT (tV (AM HB (A3 2) (mC .non))) (C1 (EA (A2 (mC (.str "refused")) (A2 (AR mLword_of (A2 (A3 2) AB)) AB)))) BV)
 (C1 (EA (A2 (mC (.str "told")) (A2 (A3 3) AB)))))))
noncomputable def mLdone:FF:=D3 2 3 bLdone
noncomputable def bLsame (rec:FF):FS:=
 (AS (GT (tV (HK CJ (A2 (A3 1) (A2 (EA (A2 (mC (.ty "list")) (A2 (mC (.ty "tuple")) AB))) AB)))) (AS (GT (PR (tV (AM Q0 (HK CJ (A2 (A3 0) (A2 (mC (.ty "list")) AB))) (HK CJ (A2 (A3 1) (A2 (mC (.ty "list")) AB))))) (tV (AM Q0 (HK CJ (A2 (A3 0) (A2 (mC (.ty "tuple")) AB))) (HK CJ (A2 (A3 1) (A2 (mC (.ty "tuple")) AB)))))) (C1 (mC (.bl false))) BV)
 (C1 (RW (AM E2 (HK LX (A2 (A3 0) AB)) (HK LX (A2 (A3 1) AB))) (HK cQ (A2 (GW [none,none] (iK (A2 (A3 0) (A2 (A3 1) AB))) (ZQ 2 (CV (D0 0) (CV (D0 1) KL))) GY (AR rec (A2 (A3 0) (A2 (A3 1) AB)))) AB))))) BV)
 (AS (GT (PR (tV (AM aO (A3 1) (mC .non))) (tV (HK CJ (A2 (A3 1) (A2 (mC (.ty "str")) AB))))) (C1 (RW (AM E2 (A3 0) (A3 1)) (AM E2 (HK CJ (A2 (A3 0) (A2 (mC (.ty "str")) AB))) (HK CJ (A2 (A3 1) (A2 (mC (.ty "str")) AB)))))) BV)
 (C1 (RW (HK CJ (A2 (A3 0) (A2 (mC (.ty "int")) AB))) (RW (jB (HK CJ (A2 (A3 0) (A2 (mC (.ty "bool")) AB)))) (AM E2 (A3 0) (A3 1)))))))
noncomputable def mLsame:Nat→FF
 |0=>fun _ _=>none
 |n+1=>D3 2 0 (bLsame (mLsame n))
noncomputable def bLmade:FS:=
 (AS (BR (AR mLfields (A2 (A3 0) (A2 (mC (.int 3)) AB))) (D0 3))
 (AS (BR (AM C7 (mC (.int 1)) (AR mLdraw (A2 (A3 0) (A2 (mC (.int 8)) AB)))) (D0 4))
 (AS (RN (mM (A2 (AM C7 (A3 4) (AR mLdraw (A2 (A3 0) (A2 (AM C7 (A3 4) (mC (.int 1))) AB)))) AB)) (D0 5) (AS (BR (AM B7 (J4 (A2 (A3 3) (A2 (AR mLfields (A2 (A3 0) (A2 (AM B7 (J4 (A2 (mC (.int 2)) (A2 (mC (.int 9)) AB))) (AR mLdraw (A2 (A3 0) (A2 (mC (.int 2)) AB)))) AB))) AB))) (AR mLdraw (A2 (A3 0) (A2 (mC (.int 2)) AB)))) (D0 6))
 (AS (BR (EA (A2 (mC (.str "add_place")) (A2 (AR mLword (A2 (A3 0) AB)) (A2 (A3 6) AB)))) (D0 7))
 (AS (GT (tV (AM i0 (A3 5) (A3 4))) (BR (EA (A2 (mC (.str "add_tie")) (A2 (AR mLword (A2 (A3 0) AB)) (A2 (AR mLdraw (A2 (A3 0) (A2 (A3 4) AB))) (A2 (AR mLdraw (A2 (A3 0) (A2 (A3 4) AB))) (A2 (A3 6) AB)))))) (D0 7)) BV)
 (AS (BR (HK FN (A2 (A3 6) AB)) (D0 8))
 (AS (BR (AM B7 (J4 (A2 (A3 6) (A2 (AR m_fields_told (A2 (A3 6) AB)) (A2 (A3 6) AB)))) (AR mLdraw (A2 (A3 0) (A2 (mC (.int 3)) AB)))) (D0 9))
 (AS (BR (AR mLdone (A2 (A3 1) (A2 (AM C7 (fJ X5 (A3 7) qT (GB (mK QX (mC (.int 1))))) (EA (A2 (A3 9) AB))) AB))) (D0 10))
 (AS (GT (PR (J9 (tV (AR (mLsame 12) (A2 (A3 10) (A2 (AR mLdo (A2 (A3 2) (A2 (A3 7) AB))) AB))))) (tV (AM TZ (A3 6) (A3 8)))) (C1 (mC (.bl false))) BV)
 (AS (GC (A3 6) (mC (.str "more")) (mC (.int 5)))
 (ET (ZR aP MM (A3 6) (A2 (AM B7 (HK IE (A2 (A3 6) AB)) (mC (.int 0))) AB))))))))))))
 (C1 (mC (.bl true))))))
noncomputable def mLmade:FF:=D3 3 8 bLmade
noncomputable def bLall_right:FS:=
 (AS (SX (NZ (AM B7 (A3 1) (mC (.str "places")))) (RN (sX (AM B7 (A3 1) (mC (.str "places")))) (D0 2) (AS (BR (AM B7 (AM B7 (A3 1) (mC (.str "places"))) (A3 2)) (ZQ 2 (CV (D0 3) (CV (D0 4) KL))))
 (GT (J9 (tV (AR (mLsame 12) (A2 (DM "Store" "place" DX (A3 0) (A2 (A3 2) AB)) (A2 (EA (A2 (A3 3) (A2 (AR mLtold (A2 (A3 4) AB)) AB))) AB))))) (C1 (mC (.bl false))) BV))))
 (AS (SX (NZ (AM B7 (A3 1) (mC (.str "ties")))) (RN (sX (AM B7 (A3 1) (mC (.str "ties")))) (D0 2) (AS (BR (AM B7 (AM B7 (A3 1) (mC (.str "ties"))) (A3 2)) (ZQ 4 (CV (D0 3) (CV (D0 5) (CV (D0 6) (CV (D0 4) KL))))))
 (GT (J9 (tV (AR (mLsame 12) (A2 (DM "Store" "tie" EV (A3 0) (A2 (A3 2) AB)) (A2 (EA (A2 (A3 3) (A2 (A3 5) (A2 (A3 6) (A2 (AR mLtold (A2 (A3 4) AB)) AB))))) AB))))) (C1 (mC (.bl false))) BV))))
 (C1 (mC (.bl true)))))
noncomputable def mLall_right:FF:=D3 2 5 bLall_right
noncomputable def b_Store___init__:FS:=
 (AS (KH "Store" "place_rows" (A3 0) IT)
 (AS (KH "Store" "tie_rows" (A3 0) IT)
 (AS (KH "Store" "next_place" (A3 0) (mC (.int 0)))
 (KH "Store" "next_tie" (A3 0) (mC (.int 0))))))
noncomputable def DQ:FF:=D3 1 0 b_Store___init__
noncomputable def UK:FS:=
 (AS (BR (AR mLhand (A2 (A3 0) AB)) (D0 1))
 (AS (hV 2 3 (A2 (TJ "Store" DQ AB) (A2 (AR mLbegun AB) AB)))
 (AS (GT (PR (J9 (tV (AR mLmade (A2 (A3 1) (A2 (A3 2) (A2 (A3 3) AB)))))) (J9 (tV (AR mLall_right (A2 (A3 2) (A2 (A3 3) AB)))))) (C1 (mC (.bl false))) BV)
 (AS (RN (mM (A2 (AR mLdraw (A2 (A3 1) (A2 (mC (.int 41)) AB))) AB)) (D0 4) (AS (BR (AM B7 (J4 (A2 (mC (.str "place")) (A2 (mC (.str "tie")) AB))) (HK YV (A2 (RW (AM TH (AM B7 (A3 3) (mC (.str "ties"))) X3) (AM E2 (AR mLdraw (A2 (A3 1) (A2 (mC (.int 3)) AB))) (mC (.int 0)))) AB))) (D0 5))
 (AS (BR (HK KZ (A2 (AM B7 (A3 3) (AM C7 (A3 5) (mC (.str "s")))) AB)) (D0 6))
 (AS (BR (AM B7 (A3 6) (AR mLdraw (A2 (A3 1) (A2 (HK LX (A2 (A3 6) AB)) AB)))) (D0 7))
 (AS (BR (AM B7 (AM B7 (AM B7 (A3 3) (AM C7 (A3 5) (mC (.str "s")))) (A3 7)) (mK QX (mC (.int 1)))) (D0 8))
 (AS (BR (AM C7 (HK IE (A2 (A3 8) AB)) (J4 (A2 (AR mLword (A2 (A3 1) AB)) AB))) (D0 9))
 (AS (BR (AM B7 (A3 9) (AR mLdraw (A2 (A3 1) (A2 (HK LX (A2 (A3 9) AB)) AB)))) (D0 10))
 (AS (BR (EA (A2 (AM C7 (mC (.str "set_")) (A3 5)) (A2 (A3 7) (A2 (A3 10) (A2 (AM B7 (J4 (A2 (mC .non) (A2 (AR mLvalue (A2 (A3 1) AB)) (A2 (fJ X5 (HK UJ (A2 (ZR aP U1 (A3 8) (A2 (A3 10) (A2 (mC (.str "")) AB))) AB)) qT (GB (mC (.int 20)))) AB)))) (AR mLdraw (A2 (A3 1) (A2 (mC (.int 3)) AB)))) AB))))) (D0 11))
 (GT (PR (J9 (tV (AR (mLsame 12) (A2 (AR mLdone (A2 (A3 2) (A2 (A3 11) AB))) (A2 (AR mLdo (A2 (A3 3) (A2 (A3 11) AB))) AB))))) (J9 (tV (AR mLall_right (A2 (A3 2) (A2 (A3 3) AB)))))) (C1 (mC (.bl false))) BV)))))))))
 (C1 (mC (.bl true)))))))
noncomputable def m_law:FF:=D3 1 11 UK
end K10
set_option maxHeartbeats 8000000
namespace K10
open PySem L2
local macro_rules| `(tactic|walk_at "n")=> `(tactic|exact⟨by decide+kernel,by decide+kernel,by decide+kernel,by decide+kernel⟩)
local macro_rules| `(tactic|apply $e:term)=> `(tactic|with_reducible refine' $e)
local macro_rules| `(tactic|walk_at "late")=> `(tactic|first|rfl|exact True.intro|exact nomark _|exact PassesOwn.never|exact Room.mono (by assumption) (by omega)|exact fun _ _=>rfl|(intro _;rfl)|with_unfolding_all rfl|exact Or.inl rfl|decide|simp)
section
variable {P:Program} {w:World} {K:PySem.W.Frag} {mg:Str→Option Value} {base:Heap} {t:Adr}
theorem DC (T:Txt P w K mg t):FnOk P w K mg base EW 1 t.f_fields_told t.d_fields_told ["fields"] (FC K m_fields_told):=by
 refine T.F_fields_told.okM (k:=0) LL rfl fun cdv A outer s H E hr=> ?_
 unfold b_fields_told
 conv=>arg 2;whnf
 apply AA ?_
 apply AV ?_
 apply IQ I0 R8 ?d3 ?d4 ?_ ?d5 ?_ ?_
 case d3=>exact q3
 case d4=>exact T.z_tuple
 case' d5=>apply BE ?d6 ?_
 case' d6=>apply ON ?_ ?d7 ?d8 ?d9 ?_ ?_
 case d7=>exact q2
 case d8=>exact T.z_sorted
 case' d9=>apply IQ ?d10 T4 ?d11 ?d12 ?_ ?d13 ?_ ?_
 case d10=>exact(IA rfl)
 case d11=>exact q1
 case d12=>exact T.z_dict
 case' d13=>apply BE ?d14 ?_
 case d14=>exact(A1 (AE 0 q0))
 all_goals (try walk_at "late")
theorem HV (T:Txt P w K mg t):FnOk P w K mg base EW 2 t.f_with_value t.d_with_value ["fields","name","value"] (FC K m_with_value):=by
 have C_fields_told:=Cal.of (DC (P:=P) (w:=w) (base:=base) T) T.m_fields_told T.F_fields_told.kp T.b_fields_told
 refine T.F_with_value.okM (k:=1) HX rfl fun cdv A outer s H E hr=> ?_
 unfold b_with_value
 conv=>arg 2;whnf
 apply A5 ?d1 ?d2
 case' d1=>apply YC (k:=3) ?d3 ?_ ?d4 (N':=["pair","name"]) (ix:=[none,some 1]) ?d5 ?_ ?d6 ?d7 ?d8 ?d9 ?d10 ?_ ?_
 case d3=>exact HX.nd
 case d4=>exact q4.lk
 case d5=>exact⟨rfl,by decide+kernel,by decide+kernel,EE _ _ rfl,rfl,HG _ _ _ _ rfl⟩
 case' d6=>apply G8 ?_
 case' d7=>apply XS ?_
 case d7=>exact(A1 (AE 0 q8))
 case d8=>(intro _ _ _ _;exact(iS (i:=0) (by walk_at "n") (show List.Nodup (["pair","name"]:List Str) from by decide+kernel) (by rfl)))
 case' d9=>(intro _ _ _ _;apply ZZ ?_)
 case' d9=>apply B8 ?d13 UA ?d14 ?d15 ?_
 case d13=>exact(O7 (A8 hr))
 case' d14=>apply AD (AJ (A8 hr)) AC ?d16 A4 ?_
 case d16=>exact(A1 (AE 0 (NmOk.own (by walk_at "n"))))
 case d15=>exact(A1 (sZ 1 (by walk_at "n")))
 case d10=>(intro _ _ _ _;exact(A1 (AE 0 (NmOk.own (by walk_at "n")))))
 case' d2=>apply A5 ?d17 ?d18
 case' d17=>apply BS ?d19 ?d20 AY
 case' d19=>apply B8 JO LU ?d21 GO ?_
 case d21=>exact(A1 (AE 2 q6))
 case' d20=>apply AA ?_
 case' d20=>apply DH ?d23 ?_
 case' d23=>apply MD PySem.F.plainAttrs_list PySem.F.slot_list_append PySem.F.type_list_append ?d24 ?d25 V8 ?d26 ?d27 ?_ ?_ ?_ ?_ ?_
 case d24=>exact NX
 case d25=>exact(fun _ _ _ _ _=>lE)
 case d26=>exact(A1 (AE 3 q4))
 case' d27=>apply BE ?d28 ?_
 case' d28=>apply C3 ?_
 case' d28=>apply AZ ?d30 ?d31 ?_ ?_
 case d30=>exact(A1 (AE 1 q7))
 case d31=>exact(A1 (AE 2 q6))
 case' d18=>apply AA ?_
 case' d18=>apply AV ?_
 case' d18=>apply AG ?d34 ?_ ?d35 ?d36 ?_ ?_
 case d34=>exact C_fields_told
 case d35=>exact q5
 case' d36=>apply BE ?d37 ?_
 case d37=>exact(A1 (AE 3 q4))
 all_goals (try walk_at "late")
theorem dO (T:Txt P w K mg t):FnOk P w K mg base EW 1 t.fLhand t.dLhand ["_law_script"] (FC K mLhand):=by
 refine T.FLhand.okM (k:=0) aG rfl fun cdv A outer s H E hr=> ?_
 unfold bLhand
 conv=>arg 2;whnf
 apply AA ?_
 apply AV ?_
 apply UU ?_
 apply PQ ?d4 A4 A4 A4 ?_ ?_ ?_ ?_
 case' d4=>apply IU (N':=["_law_cell"]) (ix:=[none]) ?d5 ?_ ?d6 ?d7 ?d8 ?d9 ?d10 ?_
 case d5=>exact⟨rfl,by decide+kernel,by decide+kernel,EE _ _ rfl,rfl,HG _ _ _ _ rfl⟩
 case' d6=>apply G8 ?_
 case' d7=>apply TQ ?_
 case' d7=>apply FW V1 NG ?d12 P8 ?d13
 case d12=>exact(A1 (AE 0 q9))
 case' d13=>apply EC A4
 case d8=>(intro _ _ _ _;exact(iS (i:=0) (by walk_at "n") (show List.Nodup (["_law_cell"]:List Str) from by decide+kernel) (by rfl)))
 case d9=>(intro _ _ _ _;exact IV)
 case' d10=>(intro _ _ _ _;apply CQ XT fV ?d14 ?d15 PyProof.Rows.Boot.abs ?d16 ?_ ?_)
 case d14=>exact(NmOk.glob (by walk_at "n"))
 case d15=>exact T.z_abs
 case' d16=>apply BE ?d17 ?_
 case d17=>exact(A1 (AE 0 (NmOk.own (by walk_at "n"))))
 all_goals (try walk_at "late")
theorem JL (T:Txt P w K mg t):FnOk P w K mg base EW 1 t.fLdraw t.dLdraw ["_law_hand_here","_law_many"] (FC K mLdraw):=by
 refine T.FLdraw.okM (k:=0) G5 rfl fun cdv A outer s H E hr=> ?_
 unfold bLdraw
 conv=>arg 2;whnf
 apply A5 ?d1 ?d2
 case' d1=>apply EX ?d3 ?d4 ?_ ?_ ?_
 case' d3=>apply B1 BJ BX ?_ A4
 case' d3=>apply AD (AJ (A8 hr)) AC ?d6 A4 ?_
 case d6=>exact(A1 (AE 0 O5))
 case' d4=>apply K2 ?d7 A4 ?_
 case d7=>exact(A1 (AE 0 O5))
 case' d2=>apply A5 ?d8 ?d9
 case' d8=>apply BS ?d10 ?d11 AY
 case' d10=>apply B8 ?d12 DE ?d13 A4 ?_
 case d12=>exact(CF (DF hr))
 case' d13=>apply AD (AJ (A8 hr)) AC ?d14 A4 ?_
 case d14=>exact(A1 (AE 0 O5))
 case' d11=>apply A5 ?d15 ?d16
 case' d15=>apply B2 (i:=2) ?d17 ?_ ?d18 A4 ?_ ?_
 case d17=>exact G5.nd
 case d18=>exact(Or.inl pD.lk)
 case' d16=>apply A5 ?d19 ?d20
 case' d19=>apply BS ?d21 ?d22 AY
 case' d21=>apply B8 SC Z1 ?d23 A4 ?_
 case' d23=>apply CQ DR IR ?d24 ?d25 PySem.boot_len ?d26 ?_ ?_
 case d24=>exact tD
 case d25=>exact T.z_len
 case' d26=>apply BE ?d27 ?_
 case' d27=>apply AD (AJ (A8 hr)) AC ?d28 A4 ?_
 case d28=>exact(A1 (AE 0 O5))
 case' d22=>apply AA ?_
 case' d22=>apply B2 (i:=2) ?d30 ?_ ?d31 ?d32 ?_ ?_
 case d30=>exact G5.nd
 case d31=>exact(Or.inl pD.lk)
 case' d32=>apply AD (AJ (A8 hr)) AC ?d33 ?d34 ?_
 case' d33=>apply AD (AJ (A8 hr)) AC ?d35 A4 ?_
 case d35=>exact(A1 (AE 0 O5))
 case' d34=>apply B1 IN II ?d36 ?d37
 case' d36=>apply AD (AJ (A8 hr)) AC ?d38 A4 ?_
 case d38=>exact(A1 (AE 0 O5))
 case' d37=>apply CQ DR IR ?d39 ?d40 PySem.boot_len ?d41 ?_ ?_
 case d39=>exact tD
 case d40=>exact T.z_len
 case' d41=>apply BE ?d42 ?_
 case' d42=>apply AD (AJ (A8 hr)) AC ?d43 A4 ?_
 case d43=>exact(A1 (AE 0 O5))
 case' d20=>apply A5 ?d44 ?d45
 case' d44=>apply EX ?d46 ?d47 ?_ ?_ ?_
 case' d46=>apply B1 BJ BX ?_ A4
 case' d46=>apply AD (AJ (A8 hr)) AC ?d49 A4 ?_
 case d49=>exact(A1 (AE 0 O5))
 case' d47=>apply K2 ?d50 A4 ?_
 case d50=>exact(A1 (AE 0 O5))
 case' d45=>apply A5 ?d51 ?d52
 case' d51=>apply BS ?d53 ?d54 AY
 case' d53=>apply PW.pt ?_
 case' d53=>apply NM ?d56 ?d57
 case' d56=>apply B8 gU sB ?d58 ?d59 ?_
 case d58=>exact(A1 (AE 2 pD))
 case' d59=>apply B1 LS M4 A4 A4
 case' d57=>apply JR ?_
 case' d57=>apply B8 SC Z1 ?d61 ?d62 ?_
 case' d61=>apply AD (AJ (A8 hr)) AC ?d63 A4 ?_
 case d63=>exact(A1 (AE 0 O5))
 case' d62=>apply CQ DR IR ?d64 ?d65 PySem.boot_len ?d66 ?_ ?_
 case d64=>exact tD
 case d65=>exact T.z_len
 case' d66=>apply BE ?d67 ?_
 case' d67=>apply AD (AJ (A8 hr)) AC ?d68 A4 ?_
 case d68=>exact(A1 (AE 0 O5))
 case' d54=>apply A5 ?d69 ?d70
 case' d69=>apply B2 (i:=3) ?d71 ?_ ?d72 ?d73 ?_ ?_
 case d71=>exact G5.nd
 case d72=>exact(Or.inl rF.lk)
 case' d73=>apply B1 BJ BX ?_ A4
 case' d73=>apply B1 BJ BX ?d75 ?d76
 case' d75=>apply B1 IN II ?_ A4
 case d75=>exact(A1 (AE 2 pD))
 case' d76=>apply B1 JK L7 A4 ?_
 case' d76=>apply AD (AJ (A8 hr)) AC ?d79 A4 ?_
 case d79=>exact(A1 (AE 0 O5))
 case' d70=>apply A5 ?d80 ?d81
 case' d80=>apply B2 (i:=3) ?d82 ?_ ?d83 ?d84 ?_ ?_
 case d82=>exact G5.nd
 case d83=>exact(Or.inl rF.lk)
 case' d84=>apply B1 IN II ?_ A4
 case' d84=>apply B1 JK L7 ?d86 ?d87
 case d86=>exact(A1 (AE 3 rF))
 case' d87=>apply B1 BJ BX A4 ?_
 case' d87=>apply B1 JK L7 A4 ?_
 case' d87=>apply AD (AJ (A8 hr)) AC ?d90 A4 ?_
 case d90=>exact(A1 (AE 0 O5))
 case' d81=>apply A5 ?d91 ?d92
 case' d91=>apply B2 (i:=4) ?d93 ?_ ?d94 ?d95 ?_ ?_
 case d93=>exact G5.nd
 case d94=>exact(Or.inl wM.lk)
 case' d95=>apply B1 IN II ?_ A4
 case' d95=>apply B1 BJ BX ?d97 ?d98
 case' d97=>apply B1 JK L7 ?d99 ?d100
 case d99=>exact(A1 (AE 3 rF))
 case' d100=>apply B1 BJ BX ?d101 ?d102
 case' d101=>apply B1 IN II ?_ A4
 case d101=>exact(A1 (AE 3 rF))
 case' d102=>apply AD (AJ (A8 hr)) AC ?d104 A4 ?_
 case d104=>exact(A1 (AE 0 O5))
 case' d98=>apply B1 JK L7 A4 ?_
 case' d98=>apply AD (AJ (A8 hr)) AC ?d106 A4 ?_
 case d106=>exact(A1 (AE 0 O5))
 case' d92=>apply AA ?_
 case' d92=>apply AV ?_
 case' d92=>apply B1 IN II ?d109 ?d110
 case' d109=>apply B1 U0 ZL ?_ A4
 case d109=>exact(A1 (AE 4 wM))
 case d110=>exact(A1 (AE 1 tY))
 case' d52=>apply AA ?_
 case' d52=>apply EX ?d113 ?d114 ?_ ?_ ?_
 case d113=>exact(A1 (AE 2 pD))
 case' d114=>apply K2 ?d115 A4 ?_
 case d115=>exact(A1 (AE 0 O5))
 case' d9=>apply A5 ?d116 ?d117
 case' d116=>apply B2 (i:=5) ?d118 ?_ ?d119 ?d120 ?_ ?_
 case d118=>exact G5.nd
 case d119=>exact(Or.inl vW.lk)
 case' d120=>apply B1 IN II ?d121 ?d122
 case' d121=>apply AD (AJ (A8 hr)) AC ?d123 A4 ?_
 case d123=>exact(A1 (AE 0 O5))
 case d122=>exact(A1 (AE 1 tY))
 case' d117=>apply A5 ?d124 ?d125
 case' d124=>apply EX ?d126 ?d127 ?_ ?_ ?_
 case' d126=>apply B1 U0 ZL ?d128 ?d129
 case' d128=>apply AD (AJ (A8 hr)) AC ?d130 A4 ?_
 case d130=>exact(A1 (AE 0 O5))
 case d129=>exact(A1 (AE 1 tY))
 case' d127=>apply K2 ?d131 A4 ?_
 case d131=>exact(A1 (AE 0 O5))
 case' d125=>apply AA ?_
 case' d125=>apply AV ?_
 case d125=>exact(A1 (AE 5 vW))
 all_goals (try walk_at "late")
theorem OV (T:Txt P w K mg t):FnOk P w K mg base EW 2 t.fLword t.dLword ["_law_hand_here"] (FC K mLword):=by
 have CLdraw:=Cal.of (JL (P:=P) (w:=w) (base:=base) T) T.mLdraw T.FLdraw.kp T.bLdraw
 refine T.FLword.okM (k:=1) T6 rfl fun cdv A outer s H E hr=> ?_
 unfold bLword
 conv=>arg 2;whnf
 apply A5 ?d1 ?d2
 case' d1=>apply B2 (i:=1) ?d3 ?_ ?d4 ?d5 ?_ ?_
 case d3=>exact T6.nd
 case d4=>exact(Or.inl vX.lk)
 case' d5=>apply E4 ?_
 case' d5=>apply KA A9 A9 A9 A9 ?d7 ?_ ?_ ?_ ?_
 case' d7=>apply KA A9 A9 A9 A9 ?d8 ?_ ?_ ?_ ?_
 case' d8=>apply KA A9 A9 A9 A9 ?d9 ?_ ?_ ?_ ?_
 case' d9=>apply AZ A9 A9 ?_ ?_
 case' d2=>apply A5 ?d10 ?d11
 case' d10=>apply BS ?d12 ?d13 AY
 case' d12=>apply B8 SC Z1 ?d14 A4 ?_
 case' d14=>apply AG ?d15 ?_ ?d16 ?d17 ?_ ?_
 case d15=>exact CLdraw
 case d16=>exact uI
 case' d17=>apply AZ ?d18 A4 ?_ ?_
 case d18=>exact(A1 (AE 0 uH))
 case' d13=>apply AA ?_
 case' d13=>apply AV ?_
 case' d13=>apply AD (AJ (A8 hr)) AC ?d21 ?d22 ?_
 case d21=>exact(A1 (AE 1 vX))
 case' d22=>apply AG ?d23 ?_ ?d24 ?d25 ?_ ?_
 case d23=>exact CLdraw
 case d24=>exact uI
 case' d25=>apply AZ ?d26 A4 ?_ ?_
 case d26=>exact(A1 (AE 0 uH))
 case' d11=>apply AA ?_
 case' d11=>apply AV ?_
 case' d11=>apply MD PySem.F.plainAttrs_str PySem.F.slot_str_join PySem.F.type_str_join ?d29 ?d30 dB A9 ?d31 ?_ ?_ ?_ ?_ ?_
 case d29=>exact bU
 case d30=>exact(fun _ _ _ _ _=>iR)
 case' d31=>apply BE ?d32 ?_
 case' d32=>apply IU (N':=["_law_k","_law_hand_here"]) (ix:=[none,some 0]) ?d33 ?_ ?d34 ?d35 ?d36 ?d37 ?d38 ?_
 case d33=>exact⟨rfl,by decide+kernel,by decide+kernel,EE _ _ rfl,rfl,HG _ _ _ _ rfl⟩
 case' d34=>apply G8 ?_
 case' d35=>apply HD ?d39 ?d40 ?d41 ?_
 case d39=>exact xM.lk
 case d40=>exact T.z_range
 case' d41=>apply BE ?d42 ?_
 case' d42=>apply B1 BJ BX A4 ?_
 case' d42=>apply AG ?d44 ?_ ?d45 ?d46 ?_ ?_
 case d44=>exact CLdraw
 case d45=>exact uI
 case' d46=>apply AZ ?d47 A4 ?_ ?_
 case d47=>exact(A1 (AE 0 uH))
 case d36=>(intro _ _ _ _;exact(iS (i:=0) (by walk_at "n") (show List.Nodup (["_law_k","_law_hand_here"]:List Str) from by decide+kernel) (by rfl)))
 case d37=>(intro _ _ _ _;exact IV)
 case' d38=>(intro _ _ _ _;apply AD (AJ (A8 hr)) AC A9 ?d48 ?_)
 case' d48=>apply AG ?d49 ?_ ?d50 ?d51 ?_ ?_
 case d49=>exact CLdraw
 case d50=>exact(NmOk.glob (by walk_at "n"))
 case' d51=>apply AZ ?d52 A4 ?_ ?_
 case d52=>exact(A1 (sZ 1 (by walk_at "n")))
 all_goals (try walk_at "late")
theorem Q8 (T:Txt P w K mg t):FnOk P w K mg base EW 2 t.fLvalue t.dLvalue ["_law_hand_here"] (FC K mLvalue):=by
 have CLdraw:=Cal.of (JL (P:=P) (w:=w) (base:=base) T) T.mLdraw T.FLdraw.kp T.bLdraw
 refine T.FLvalue.okM (k:=1) JF rfl fun cdv A outer s H E hr=> ?_
 unfold bLvalue
 conv=>arg 2;whnf
 apply A5 ?d1 ?d2
 case' d1=>apply B2 (i:=1) ?d3 ?_ ?d4 ?d5 ?_ ?_
 case d3=>exact JF.nd
 case d4=>exact(Or.inl wJ.lk)
 case' d5=>apply AD (AJ (A8 hr)) AC ?d6 ?d7 ?_
 case' d6=>apply E4 ?_
 case' d6=>apply MB ?d9 ?d10 ?d11 ?_ ?_ ?_
 case' d9=>apply B1 LP M3 ?_ A4
 case' d9=>apply B1 LS M4 A4 A4
 case' d10=>apply B1 LP M3 A4 ?_
 case' d10=>apply B1 LS M4 A4 A4
 case' d11=>apply B1 BJ BX ?d14 ?d15
 case' d14=>apply B1 LS M4 A4 A4
 case' d15=>apply AG ?d16 ?_ ?d17 ?d18 ?_ ?_
 case d16=>exact CLdraw
 case d17=>exact mJ
 case' d18=>apply AZ ?d19 ?d20 ?_ ?_
 case d19=>exact(A1 (AE 0 m9))
 case' d20=>apply B1 LS M4 A4 A4
 case' d7=>apply AG ?d21 ?_ ?d22 ?d23 ?_ ?_
 case d21=>exact CLdraw
 case d22=>exact mJ
 case' d23=>apply AZ ?d24 A4 ?_ ?_
 case d24=>exact(A1 (AE 0 m9))
 case' d2=>apply A5 ?d25 ?d26
 case' d25=>apply B2 (i:=2) ?d27 ?_ ?d28 ?d29 ?_ ?_
 case d27=>exact JF.nd
 case d28=>exact(Or.inl vT.lk)
 case' d29=>apply E4 ?_
 case' d29=>apply KA A9 A9 A9 A9 ?d31 ?_ ?_ ?_ ?_
 case' d31=>apply KA A9 A9 A9 A9 ?d32 ?_ ?_ ?_ ?_
 case' d32=>apply PQ A9 A9 A9 A9 ?_ ?_ ?_ ?_
 case' d26=>apply A5 ?d33 ?d34
 case' d33=>apply B2 (i:=3) ?d35 ?_ ?d36 ?d37 ?_ ?_
 case d35=>exact JF.nd
 case d36=>exact(Or.inl vY.lk)
 case' d37=>apply E4 ?_
 case' d37=>apply PQ ?d39 ?d40 ?d41 ?d42 ?_ ?_ ?_ ?_
 case' d39=>apply AG ?d43 ?_ ?d44 ?d45 ?_ ?_
 case d43=>exact CLdraw
 case d44=>exact mJ
 case' d45=>apply AZ ?d46 A4 ?_ ?_
 case d46=>exact(A1 (AE 0 m9))
 case' d40=>apply B1 LP M3 ?_ A4
 case' d40=>apply AG ?d48 ?_ ?d49 ?d50 ?_ ?_
 case d48=>exact CLdraw
 case d49=>exact mJ
 case' d50=>apply AZ ?d51 A4 ?_ ?_
 case d51=>exact(A1 (AE 0 m9))
 case d41=>exact(A1 (AE 1 wJ))
 case' d42=>apply AD (AJ (A8 hr)) AC ?d52 ?d53 ?_
 case d52=>exact(A1 (AE 2 vT))
 case' d53=>apply AG ?d54 ?_ ?d55 ?d56 ?_ ?_
 case d54=>exact CLdraw
 case d55=>exact mJ
 case' d56=>apply AZ ?d57 A4 ?_ ?_
 case d57=>exact(A1 (AE 0 m9))
 case' d34=>apply AA ?_
 case' d34=>apply AV ?_
 case' d34=>apply AD (AJ (A8 hr)) AC ?d60 ?d61 ?_
 case d60=>exact(A1 (AE 3 vY))
 case' d61=>apply AD (AJ (A8 hr)) AC ?d62 ?d63 ?_
 case' d62=>apply E4 ?_
 case' d62=>apply KA A4 A4 A4 A4 ?d65 ?_ ?_ ?_ ?_
 case' d65=>apply BE A4 ?_
 case' d63=>apply AG ?d66 ?_ ?d67 ?d68 ?_ ?_
 case d66=>exact CLdraw
 case d67=>exact mJ
 case' d68=>apply AZ ?d69 A4 ?_ ?_
 case d69=>exact(A1 (AE 0 m9))
 all_goals (try walk_at "late")
theorem VQ (T:Txt P w K mg t):FnOk P w K mg base EW 3 t.fLfields t.dLfields ["_law_hand_here","_law_most"] (FC K mLfields):=by
 have CLdraw:=Cal.of (JL (P:=P) (w:=w) (base:=base) T) T.mLdraw T.FLdraw.kp T.bLdraw
 have CLvalue:=Cal.of (Q8 (P:=P) (w:=w) (base:=base) T) T.mLvalue T.FLvalue.kp T.bLvalue
 have CLword:=Cal.of (OV (P:=P) (w:=w) (base:=base) T) T.mLword T.FLword.kp T.bLword
 refine T.FLfields.okM (k:=2) K8 rfl fun cdv A outer s H E hr=> ?_
 unfold bLfields
 conv=>arg 2;whnf
 apply A5 ?d1 ?d2
 case' d1=>apply B2 (i:=2) ?d3 ?_ ?d4 ?d5 ?_ ?_
 case d3=>exact K8.nd
 case d4=>exact(Or.inl u9.lk)
 case d5=>exact GJ
 case' d2=>apply A5 ?d6 ?d7
 case' d6=>apply M2 ?_ ?_ ?d8 ?d9 ?d10 ?_
 case' d8=>apply HD ?d11 ?d12 ?d13 ?_
 case d11=>exact xX.lk
 case d12=>exact T.z_range
 case' d13=>apply BE ?d14 ?_
 case' d14=>apply AG ?d15 ?_ ?d16 ?d17 ?_ ?_
 case d15=>exact CLdraw
 case d16=>exact xV
 case' d17=>apply AZ ?d18 ?d19 ?_ ?_
 case d18=>exact(A1 (AE 0 tP))
 case' d19=>apply B1 BJ BX ?_ A4
 case d19=>exact(A1 (AE 1 y6))
 case' d9=>apply C5 ?_
 case' d9=>apply C0 (i:=3) ?d22 ?_ ?d23 ?_
 case d22=>exact K8.nd
 case d23=>exact(Or.inl x3.lk)
 case' d10=>apply AA ?_
 case' d10=>apply ED ?d25 ?d26 ?d27 ?d28 ?_
 case d25=>exact(WN hr)
 case d26=>exact(A1 (AE 2 u9))
 case' d27=>apply AG ?d29 ?_ ?d30 ?d31 ?_ ?_
 case d29=>exact CLword
 case d30=>exact x6
 case' d31=>apply BE ?d32 ?_
 case d32=>exact(A1 (AE 0 tP))
 case' d28=>apply AG ?d33 ?_ ?d34 ?d35 ?_ ?_
 case d33=>exact CLvalue
 case d34=>exact xG
 case' d35=>apply BE ?d36 ?_
 case d36=>exact(A1 (AE 0 tP))
 case' d7=>apply AA ?_
 case' d7=>apply AV ?_
 case d7=>exact(A1 (AE 2 u9))
 all_goals (try walk_at "late")
theorem YX (T:Txt P w K mg t):FnOk P w K mg base EW 1 t.fLbegun t.dLbegun [] (FC K mLbegun):=by
 refine T.FLbegun.okM (k:=0) ZB rfl fun cdv A outer s H E hr=> ?_
 unfold bLbegun
 conv=>arg 2;whnf
 apply AA ?_
 apply AV ?_
 apply gD ?d3 ?_ ?_ ?_ ?_
 case' d3=>apply OW A9 ?d4 ?d5
 case d4=>exact GJ
 case' d5=>apply OW A9 ?d6 ?d7
 case d6=>exact GJ
 case' d7=>apply OW A9 ?_ iV
 case' d7=>apply UU ?_
 case' d7=>apply AZ A4 A4 ?_ ?_
 all_goals (try walk_at "late")
theorem bX (T:Txt P w K mg t):FnOk P w K mg base EW 1 t.fLtold t.dLtold ["_law_fields_here"] (FC K mLtold):=by
 refine T.FLtold.okM (k:=0) bO rfl fun cdv A outer s H E hr=> ?_
 unfold bLtold
 conv=>arg 2;whnf
 apply AA ?_
 apply AV ?_
 apply IQ I0 R8 ?d3 ?d4 ?_ ?d5 ?_ ?_
 case d3=>exact y2
 case d4=>exact T.z_tuple
 case' d5=>apply BE ?d6 ?_
 case' d6=>apply IU (N':=["_law_name","_law_fields_here"]) (ix:=[none,some 0]) ?d7 ?_ ?d8 ?d9 ?d10 ?d11 ?d12 ?_
 case d7=>exact⟨rfl,by decide+kernel,by decide+kernel,EE _ _ rfl,rfl,HG _ _ _ _ rfl⟩
 case' d8=>apply G8 ?_
 case' d9=>apply TQ ?_
 case' d9=>apply CQ ?d14 M7 ?d15 ?d16 PyProof.Rows.boot_sorted ?d17 ?_ ?_
 case d14=>exact(IF rfl)
 case d15=>exact xQ
 case d16=>exact T.z_sorted
 case' d17=>apply BE ?d18 ?_
 case d18=>exact(A1 (AE 0 xD))
 case d10=>(intro _ _ _ _;exact(iS (i:=0) (by walk_at "n") (show List.Nodup (["_law_name","_law_fields_here"]:List Str) from by decide+kernel) (by rfl)))
 case d11=>(intro _ _ _ _;exact IV)
 case' d12=>(intro _ _ _ _;apply C3 ?_)
 case' d12=>apply AZ ?d20 ?d21 ?_ ?_
 case d20=>exact(A1 (AE 0 (NmOk.own (by walk_at "n"))))
 case' d21=>apply AD (AJ (A8 hr)) AC ?d22 ?d23 ?_
 case d22=>exact(A1 (sZ 1 (by walk_at "n")))
 case d23=>exact(A1 (AE 0 (NmOk.own (by walk_at "n"))))
 all_goals (try walk_at "late")
theorem eE (T:Txt P w K mg t):FnOk P w K mg base EW 1 t.fLtied t.dLtied ["_law_own"] (FC K mLtied):=FnOk.empty
theorem RL (T:Txt P w K mg t):FnOk P w K mg base EW 2 t.fLrefusal t.dLrefusal ["_law_own","_law_deed"] (FC K mLrefusal):=by
 have CLtied:=Cal.of (eE (P:=P) (w:=w) (base:=base) T) T.mLtied T.FLtied.kp T.bLtied
 refine T.FLrefusal.okM (k:=1) IC rfl fun cdv A outer s H E hr=> ?_
 unfold bLrefusal
 conv=>arg 2;whnf
 apply A5 ?d1 ?d2
 case' d1=>apply B2 (i:=2) ?d3 ?_ ?d4 ?d5 ?_ ?_
 case d3=>exact IC.nd
 case d4=>exact(Or.inl qZ.lk)
 case' d5=>apply AD (AJ (A8 hr)) AC ?d6 A4 ?_
 case d6=>exact(A1 (AE 1 qV))
 case' d2=>apply A5 ?d7 ?d8
 case' d7=>apply BS ?d9 ?d10 AY
 case' d9=>apply B8 ?d11 DE ?d12 A9 ?_
 case d11=>exact(CF (DF hr))
 case d12=>exact(A1 (AE 2 qZ))
 case' d10=>apply AA ?_
 case' d10=>apply AV A9
 case' d8=>apply A5 ?d14 ?d15
 case' d14=>apply BS ?d16 ?d17 AY
 case' d16=>apply B8 ?d18 QB ?d19 ?d20 ?_
 case d18=>exact(LZ (A8 hr))
 case d19=>exact(A1 (AE 2 qZ))
 case' d20=>apply C3 ?_
 case' d20=>apply AZ A9 A9 ?_ ?_
 case' d17=>apply AA ?_
 case' d17=>apply AV ?_
 case' d17=>apply AD (AJ (A8 hr)) AC ?d24 ?d25 ?_
 case' d24=>apply E4 ?_
 case' d24=>apply AZ A9 A9 ?_ ?_
 case' d25=>apply IQ NY XA ?d27 ?d28 ?_ ?d29 ?_ ?_
 case d27=>exact x9
 case d28=>exact T.z_int
 case' d29=>apply BE ?d30 ?_
 case' d30=>apply GG ?d31 QB ?d32 ?d33 ?_
 case d31=>exact(LZ (A8 hr))
 case' d32=>apply AD (AJ (A8 hr)) AC ?d34 A4 ?_
 case d34=>exact(A1 (AE 1 qV))
 case' d33=>apply AD (AJ (A8 hr)) AC ?d35 A9 ?_
 case d35=>exact(A1 (AE 0 wU))
 case' d15=>apply A5 ?d36 ?d37
 case' d36=>apply B2 (i:=3) ?d38 ?_ ?d39 ?d40 ?_ ?_
 case d38=>exact IC.nd
 case d39=>exact(Or.inl wV.lk)
 case' d40=>apply nU ?d41 ?d42 ?d43
 case' d41=>apply B8 ?d44 DE ?d45 A9 ?_
 case d44=>exact(CF (DF hr))
 case d45=>exact(A1 (AE 2 qZ))
 case' d42=>apply FW V1 NG ?d46 ?d47 ?d48
 case d46=>exact(A1 (AE 1 qV))
 case' d47=>apply EC A4
 case' d48=>apply EC A4
 case' d43=>apply FW V1 NG ?d49 ?d50 ?d51
 case d49=>exact(A1 (AE 1 qV))
 case' d50=>apply EC A4
 case' d51=>apply EC A4
 case' d37=>apply A5 ?d52 ?d53
 case' d52=>apply BS ?d54 ?d55 AY
 case' d54=>apply B8 ?d56 QB HZ ?d57 ?_
 case d56=>exact(LZ (A8 hr))
 case' d57=>apply IU (N':=["_law_n","_law_own"]) (ix:=[none,some 0]) ?d58 ?_ ?d59 ?d60 ?d61 ?d62 ?d63 ?_
 case d58=>exact⟨rfl,by decide+kernel,by decide+kernel,EE _ _ rfl,rfl,HG _ _ _ _ rfl⟩
 case' d59=>apply G8 ?_
 case' d60=>apply XS ?_
 case d60=>exact(A1 (AE 3 wV))
 case d61=>(intro _ _ _ _;exact(iS (i:=0) (by walk_at "n") (show List.Nodup (["_law_n","_law_own"]:List Str) from by decide+kernel) (by rfl)))
 case d62=>(intro _ _ _ _;exact IV)
 case' d63=>(intro _ _ _ _;apply GG ?d65 QB ?d66 ?d67 ?_)
 case d65=>exact(LZ (A8 hr))
 case d66=>exact(A1 (AE 0 (NmOk.own (by walk_at "n"))))
 case' d67=>apply AD (AJ (A8 hr)) AC ?d68 A9 ?_
 case d68=>exact(A1 (sZ 1 (by walk_at "n")))
 case' d55=>apply AA ?_
 case' d55=>apply AV A9
 case' d53=>apply A5 ?d70 ?d71
 case' d70=>apply BS ?d72 ?d73 AY
 case' d72=>apply PW.pt ?_
 case' d72=>apply m4 ?d75 ?d76
 case' d75=>apply B8 ?d77 DE ?d78 A9 ?_
 case d77=>exact(CF (DF hr))
 case d78=>exact(A1 (AE 2 qZ))
 case' d76=>apply cZ ?_
 case' d76=>apply B8 ?d80 QB ?d81 ?d82 ?_
 case d80=>exact(LZ (A8 hr))
 case' d81=>apply AD (AJ (A8 hr)) AC ?d83 A4 ?_
 case d83=>exact(A1 (AE 1 qV))
 case' d82=>apply AG ?d84 ?_ ?d85 ?d86 ?_ ?_
 case d84=>exact CLtied
 case d85=>exact xP
 case' d86=>apply BE ?d87 ?_
 case d87=>exact(A1 (AE 0 wU))
 case' d73=>apply AA ?_
 case' d73=>apply AV A9
 case' d71=>apply AA ?_
 case' d71=>apply AV A9
 all_goals (try walk_at "late")
theorem jO (T:Txt P w K mg t):FnOk P w K mg base EW 1 t.fLset t.dLset ["_law_fields_here","_law_name","_law_value_here"] (FC K mLset):=by
 refine T.FLset.okM (k:=0) iD rfl fun cdv A outer s H E hr=> ?_
 unfold bLset
 conv=>arg 2;whnf
 apply A5 ?d1 ?d2
 case' d1=>apply DH ?d3 ?_
 case' d3=>apply MD PySem.F.plainAttrs_dict PySem.F.slot_dict_pop PySem.F.type_dict_pop ?d4 ?d5 ZI ?d6 ?d7 ?_ ?_ ?_ ?_ ?_
 case d4=>exact Z6
 case d5=>exact(fun _ _ _ _ _=>LE)
 case d6=>exact(A1 (AE 0 wT))
 case' d7=>apply AZ ?d8 GO ?_ ?_
 case d8=>exact(A1 (AE 1 wY))
 case' d2=>apply AA ?_
 case' d2=>apply BS ?d10 ?d11 AY
 case' d10=>apply B8 JO LU ?d12 GO ?_
 case d12=>exact(A1 (AE 2 wN))
 case' d11=>apply AA ?_
 case' d11=>apply ED ?d14 ?d15 ?d16 ?d17 ?_
 case d14=>exact(WN hr)
 case d15=>exact(A1 (AE 0 wT))
 case d16=>exact(A1 (AE 1 wY))
 case d17=>exact(A1 (AE 2 wN))
 all_goals (try walk_at "late")
theorem eO (T:Txt P w K mg t):FnOk P w K mg base EW 3 t.fLdo t.dLdo ["_law_own","_law_deed"] (FC K mLdo):=by
 have CLrefusal:=Cal.of (RL (P:=P) (w:=w) (base:=base) T) T.mLrefusal T.FLrefusal.kp T.bLrefusal
 have CLset:=Cal.of (jO (P:=P) (w:=w) (base:=base) T) T.mLset T.FLset.kp T.bLset
 refine T.FLdo.okM (k:=2) WW rfl fun cdv A outer s H E hr=> ?_
 unfold bLdo
 conv=>arg 2;whnf
 apply A5 ?d1 ?d2
 case' d1=>apply B2 (i:=2) ?d3 ?_ ?d4 ?d5 ?_ ?_
 case d3=>exact WW.nd
 case d4=>exact(Or.inl tZ.lk)
 case' d5=>apply AG ?d6 ?_ ?d7 ?d8 ?_ ?_
 case d6=>exact CLrefusal
 case d7=>exact xW
 case' d8=>apply AZ ?d9 ?d10 ?_ ?_
 case d9=>exact(A1 (AE 0 SE))
 case d10=>exact(A1 (AE 1 UG))
 case' d2=>apply A5 ?d11 ?d12
 case' d11=>apply BS ?d13 ?d14 AY
 case' d13=>apply B8 ?d15 UA ?d16 A9 ?_
 case d15=>exact(O7 (A8 hr))
 case d16=>exact(A1 (AE 2 tZ))
 case' d14=>apply AA ?_
 case' d14=>apply AV ?_
 case' d14=>apply C3 ?_
 case' d14=>apply AZ A9 ?d20 ?_ ?_
 case d20=>exact(A1 (AE 2 tZ))
 case' d12=>apply A5 ?d21 ?d22
 case' d21=>apply B2 (i:=3) ?d23 ?_ ?d24 ?d25 ?_ ?_
 case d23=>exact WW.nd
 case d24=>exact(Or.inl mG.lk)
 case' d25=>apply AD (AJ (A8 hr)) AC ?d26 A4 ?_
 case d26=>exact(A1 (AE 1 UG))
 case' d22=>apply A5 ?d27 ?d28
 case' d27=>apply BS ?d29 ?d30 AY
 case' d29=>apply B8 ?d31 DE ?d32 A9 ?_
 case d31=>exact(CF (DF hr))
 case d32=>exact(A1 (AE 3 mG))
 case' d30=>apply A5 ?d33 ?d34
 case' d33=>apply ED ?d35 ?d36 ?d37 ?d38 ?_
 case d35=>exact(WN hr)
 case' d36=>apply AD (AJ (A8 hr)) AC ?d39 A9 ?_
 case d39=>exact(A1 (AE 0 SE))
 case' d37=>apply AD (AJ (A8 hr)) AC ?d40 A4 ?_
 case' d40=>apply AD (AJ (A8 hr)) AC ?d41 A9 ?_
 case d41=>exact(A1 (AE 0 SE))
 case' d38=>apply C3 ?_
 case' d38=>apply AZ ?d43 ?d44 ?_ ?_
 case' d43=>apply AD (AJ (A8 hr)) AC ?d45 A4 ?_
 case d45=>exact(A1 (AE 1 UG))
 case' d44=>apply Q7 ?_ ?d46 ?d47 ?_ ?d48 ?_ ?_
 case d46=>exact wH
 case d47=>exact T.z_dict
 case' d48=>apply BE ?d49 ?_
 case' d49=>apply AD (AJ (A8 hr)) AC ?d50 A4 ?_
 case d50=>exact(A1 (AE 1 UG))
 case' d34=>apply A5 ?d51 ?d52
 case' d51=>apply EX ?d53 ?d54 ?_ ?_ ?_
 case' d53=>apply B1 BJ BX ?_ A4
 case' d53=>apply AD (AJ (A8 hr)) AC ?d56 A4 ?_
 case' d56=>apply AD (AJ (A8 hr)) AC ?d57 A9 ?_
 case d57=>exact(A1 (AE 0 SE))
 case' d54=>apply K2 ?d58 A4 ?_
 case' d58=>apply AD (AJ (A8 hr)) AC ?d59 A9 ?_
 case d59=>exact(A1 (AE 0 SE))
 case' d52=>apply AA ?_
 case' d52=>apply AV ?_
 case' d52=>apply C3 ?_
 case' d52=>apply AZ A9 ?d63 ?_ ?_
 case' d63=>apply B1 LP M3 ?_ A4
 case' d63=>apply AD (AJ (A8 hr)) AC ?d65 A4 ?_
 case' d65=>apply AD (AJ (A8 hr)) AC ?d66 A9 ?_
 case d66=>exact(A1 (AE 0 SE))
 case' d28=>apply A5 ?d67 ?d68
 case' d67=>apply BS ?d69 ?d70 AY
 case' d69=>apply B8 ?d71 DE ?d72 A9 ?_
 case d71=>exact(CF (DF hr))
 case d72=>exact(A1 (AE 3 mG))
 case' d70=>apply A5 ?d73 ?d74
 case' d73=>apply ED ?d75 ?d76 ?d77 ?d78 ?_
 case d75=>exact(WN hr)
 case' d76=>apply AD (AJ (A8 hr)) AC ?d79 A9 ?_
 case d79=>exact(A1 (AE 0 SE))
 case' d77=>apply AD (AJ (A8 hr)) AC ?d80 A4 ?_
 case' d80=>apply AD (AJ (A8 hr)) AC ?d81 A9 ?_
 case d81=>exact(A1 (AE 0 SE))
 case' d78=>apply B1 BJ BX ?d82 ?d83
 case' d82=>apply FW V1 NG ?d84 ?d85 ?d86
 case d84=>exact(A1 (AE 1 UG))
 case' d85=>apply EC A4
 case' d86=>apply EC A4
 case' d83=>apply C3 ?_
 case' d83=>apply BE ?d88 ?_
 case' d88=>apply Q7 ?_ ?d89 ?d90 ?_ ?d91 ?_ ?_
 case d89=>exact wH
 case d90=>exact T.z_dict
 case' d91=>apply BE ?d92 ?_
 case' d92=>apply AD (AJ (A8 hr)) AC ?d93 A4 ?_
 case d93=>exact(A1 (AE 1 UG))
 case' d74=>apply A5 ?d94 ?d95
 case' d94=>apply EX ?d96 ?d97 ?_ ?_ ?_
 case' d96=>apply B1 BJ BX ?_ A4
 case' d96=>apply AD (AJ (A8 hr)) AC ?d99 A4 ?_
 case' d99=>apply AD (AJ (A8 hr)) AC ?d100 A9 ?_
 case d100=>exact(A1 (AE 0 SE))
 case' d97=>apply K2 ?d101 A4 ?_
 case' d101=>apply AD (AJ (A8 hr)) AC ?d102 A9 ?_
 case d102=>exact(A1 (AE 0 SE))
 case' d95=>apply AA ?_
 case' d95=>apply AV ?_
 case' d95=>apply C3 ?_
 case' d95=>apply AZ A9 ?d106 ?_ ?_
 case' d106=>apply B1 LP M3 ?_ A4
 case' d106=>apply AD (AJ (A8 hr)) AC ?d108 A4 ?_
 case' d108=>apply AD (AJ (A8 hr)) AC ?d109 A9 ?_
 case d109=>exact(A1 (AE 0 SE))
 case' d68=>apply A5 ?d110 ?d111
 case' d110=>apply BS ?d112 ?d113 ?d114
 case' d112=>apply B8 ?d115 DE ?d116 A9 ?_
 case d115=>exact(CF (DF hr))
 case d116=>exact(A1 (AE 3 mG))
 case' d113=>apply AA ?_
 case' d113=>apply DH ?d118 ?_
 case' d118=>apply MD PySem.F.plainAttrs_dict PySem.F.slot_dict_pop PySem.F.type_dict_pop ?d119 ?d120 OA ?d121 ?d122 ?_ ?_ ?_ ?_ ?_
 case d119=>exact O1
 case d120=>exact(fun _ _ _ _ _=>LE)
 case' d121=>apply AD (AJ (A8 hr)) AC ?d123 A9 ?_
 case d123=>exact(A1 (AE 0 SE))
 case' d122=>apply BE ?d124 ?_
 case' d124=>apply AD (AJ (A8 hr)) AC ?d125 A4 ?_
 case d125=>exact(A1 (AE 1 UG))
 case' d114=>apply AA ?_
 case' d114=>apply BS ?d127 ?d128 ?d129
 case' d127=>apply B8 ?d130 DE ?d131 A9 ?_
 case d130=>exact(CF (DF hr))
 case d131=>exact(A1 (AE 3 mG))
 case' d128=>apply AA ?_
 case' d128=>apply DH ?d133 ?_
 case' d133=>apply MD PySem.F.plainAttrs_dict PySem.F.slot_dict_pop PySem.F.type_dict_pop ?d134 ?d135 OA ?d136 ?d137 ?_ ?_ ?_ ?_ ?_
 case d134=>exact O1
 case d135=>exact(fun _ _ _ _ _=>LE)
 case' d136=>apply AD (AJ (A8 hr)) AC ?d138 A9 ?_
 case d138=>exact(A1 (AE 0 SE))
 case' d137=>apply BE ?d139 ?_
 case' d139=>apply AD (AJ (A8 hr)) AC ?d140 A4 ?_
 case d140=>exact(A1 (AE 1 UG))
 case' d129=>apply AA ?_
 case' d129=>apply BS ?d142 ?d143 ?d144
 case' d142=>apply B8 ?d145 DE ?d146 A9 ?_
 case d145=>exact(CF (DF hr))
 case d146=>exact(A1 (AE 3 mG))
 case' d143=>apply AA ?_
 case' d143=>apply DH ?d148 ?_
 case' d148=>apply AG ?d149 ?_ ?d150 ?d151 ?_ ?_
 case d149=>exact CLset
 case d150=>exact wS
 case' d151=>apply MB ?d152 ?d153 ?d154 ?_ ?_ ?_
 case' d152=>apply AD (AJ (A8 hr)) AC ?d155 A4 ?_
 case' d155=>apply AD (AJ (A8 hr)) AC ?d156 ?d157 ?_
 case' d156=>apply AD (AJ (A8 hr)) AC ?d158 A9 ?_
 case d158=>exact(A1 (AE 0 SE))
 case' d157=>apply AD (AJ (A8 hr)) AC ?d159 A4 ?_
 case d159=>exact(A1 (AE 1 UG))
 case' d153=>apply AD (AJ (A8 hr)) AC ?d160 A4 ?_
 case d160=>exact(A1 (AE 1 UG))
 case' d154=>apply AD (AJ (A8 hr)) AC ?d161 A4 ?_
 case d161=>exact(A1 (AE 1 UG))
 case' d144=>apply AA ?_
 case' d144=>apply DH ?d163 ?_
 case' d163=>apply AG ?d164 ?_ ?d165 ?d166 ?_ ?_
 case d164=>exact CLset
 case d165=>exact wS
 case' d166=>apply MB ?d167 ?d168 ?d169 ?_ ?_ ?_
 case' d167=>apply AD (AJ (A8 hr)) AC ?d170 A4 ?_
 case' d170=>apply AD (AJ (A8 hr)) AC ?d171 ?d172 ?_
 case' d171=>apply AD (AJ (A8 hr)) AC ?d173 A9 ?_
 case d173=>exact(A1 (AE 0 SE))
 case' d172=>apply AD (AJ (A8 hr)) AC ?d174 A4 ?_
 case d174=>exact(A1 (AE 1 UG))
 case' d168=>apply AD (AJ (A8 hr)) AC ?d175 A4 ?_
 case d175=>exact(A1 (AE 1 UG))
 case' d169=>apply AD (AJ (A8 hr)) AC ?d176 A4 ?_
 case d176=>exact(A1 (AE 1 UG))
 case' d111=>apply AA ?_
 case' d111=>apply AV ?_
 case' d111=>apply C3 ?_
 case' d111=>apply AZ A9 GO ?_ ?_
 all_goals (try walk_at "late")
theorem IY (T:Txt P w K mg t):FnOk P w K mg base EW 1 t.f_Store_need_tie t.d_Store_need_tie ["self","n"] (FC K DP):=by
 refine T.F_Store_need_tie.okM (k:=0) J0 rfl fun cdv A outer s H E hr=> ?_
 unfold b_Store_need_tie
 conv=>arg 2;whnf
 apply AA ?_
 apply BS ?d2 ?d3 AY
 case' d2=>apply B8 ?d4 R1 ?d5 ?d6 ?_
 case d4=>exact(NB (A8 hr))
 case d5=>exact(A1 (AE 1 t6))
 case' d6=>apply FB ?d7 ?d8 ?d9 ?d10 ?_
 case d7=>exact T.a_Store
 case d8=>exact T.l_Store
 case d9=>exact T.n_Store_tie_rows
 case d10=>exact(A1 (AE 0 vC))
 case' d3=>apply AA ?_
 case d3=>exact QP
 all_goals (try walk_at "late")
theorem J7 (T:Txt P w K mg t):FnOk P w K mg base EW 2 t.f_Store_tie t.d_Store_tie ["self","n"] (FC K EV):=by
 have O_Store_need_tie:=IY (P:=P) (w:=w) (base:=base) T
 refine T.F_Store_tie.okM (k:=1) OM rfl fun cdv A outer s H E hr=> ?_
 unfold b_Store_tie
 conv=>arg 2;whnf
 apply A5 ?d1 ?d2
 case' d1=>apply DH ?d3 ?_
 case' d3=>apply C6 ?d4 ?d5 ?d6 ?d7 ?_ ?d8 ?d9 ?d10 ?_ ?_ ?_
 case d4=>exact T.a_Store
 case d5=>exact T.l_Store
 case d6=>exact T.h_Store_need_tie
 case d7=>exact O_Store_need_tie
 case d8=>exact T.b_Store_need_tie
 case d9=>exact(A1 (AE 0 qY))
 case' d10=>apply BE ?d11 ?_
 case d11=>exact(A1 (AE 1 rY))
 case' d2=>apply AA ?_
 case' d2=>apply AV ?_
 case' d2=>apply AD (AJ (A8 hr)) AC ?d14 ?d15 ?_
 case' d14=>apply FB ?d16 ?d17 ?d18 ?d19 ?_
 case d16=>exact T.a_Store
 case d17=>exact T.l_Store
 case d18=>exact T.n_Store_tie_rows
 case d19=>exact(A1 (AE 0 qY))
 case d15=>exact(A1 (AE 1 rY))
 all_goals (try walk_at "late")
theorem JW (T:Txt P w K mg t):FnOk P w K mg base EW 3 t.f_Store_set_tie t.d_Store_set_tie ["self","n","name","value"] (FC K D5):=by
 have C_with_value:=Cal.of (HV (P:=P) (w:=w) (base:=base) T) T.m_with_value T.F_with_value.kp T.b_with_value
 have O_Store_tie:=J7 (P:=P) (w:=w) (base:=base) T
 refine T.F_Store_set_tie.okM (k:=2) CA rfl fun cdv A outer s H E hr=> ?_
 unfold b_Store_set_tie
 conv=>arg 2;whnf
 apply A5 ?d1 ?d2
 case' d1=>apply EX ?d3 ?d4 ?_ ?_ ?_
 case' d3=>apply C6 ?d5 ?d6 ?d7 ?d8 ?_ ?d9 ?d10 ?d11 ?_ ?_ ?_
 case d5=>exact T.a_Store
 case d6=>exact T.l_Store
 case d7=>exact T.h_Store_tie
 case d8=>exact O_Store_tie
 case d9=>exact T.b_Store_tie
 case d10=>exact(A1 (AE 0 mR))
 case' d11=>apply BE ?d12 ?_
 case d12=>exact(A1 (AE 1 rS))
 case' d4=>apply OB ?_ ?d13 ?_ ?_
 case' d13=>apply CL ?d14 ?d15 ?_
 case' d14=>apply C5 ?_
 case' d14=>apply C0 (i:=4) ?d17 ?_ ?d18 ?_
 case d17=>exact CA.nd
 case d18=>exact(Or.inl p5.lk)
 case' d15=>apply CL ?d19 ?d20 ?_
 case' d19=>apply C5 ?_
 case' d19=>apply C0 (i:=5) ?d22 ?_ ?d23 ?_
 case d22=>exact CA.nd
 case d23=>exact(Or.inl pU.lk)
 case' d20=>apply CL ?d24 ?d25 ?_
 case' d24=>apply C5 ?_
 case' d24=>apply C0 (i:=6) ?d27 ?_ ?d28 ?_
 case d27=>exact CA.nd
 case d28=>exact(Or.inl oF.lk)
 case' d25=>apply CL ?d29 L3 ?_
 case' d29=>apply C5 ?_
 case' d29=>apply C0 (i:=7) ?d31 ?_ ?d32 ?_
 case d31=>exact CA.nd
 case d32=>exact(Or.inl pP.lk)
 case' d2=>apply AA ?_
 case' d2=>apply ED ?d34 ?d35 ?d36 ?d37 ?_
 case d34=>exact(WN hr)
 case' d35=>apply FB ?d38 ?d39 ?d40 ?d41 ?_
 case d38=>exact T.a_Store
 case d39=>exact T.l_Store
 case d40=>exact T.n_Store_tie_rows
 case d41=>exact(A1 (AE 0 mR))
 case d36=>exact(A1 (AE 1 rS))
 case' d37=>apply C3 ?_
 case' d37=>apply PQ ?d43 ?d44 ?d45 ?d46 ?_ ?_ ?_ ?_
 case d43=>exact(A1 (AE 4 p5))
 case d44=>exact(A1 (AE 5 pU))
 case d45=>exact(A1 (AE 6 oF))
 case' d46=>apply AG ?d47 ?_ ?d48 ?d49 ?_ ?_
 case d47=>exact C_with_value
 case d48=>exact tE
 case' d49=>apply MB ?d50 ?d51 ?d52 ?_ ?_ ?_
 case d50=>exact(A1 (AE 7 pP))
 case d51=>exact(A1 (AE 2 v0))
 case d52=>exact(A1 (AE 3 uC))
 all_goals (try walk_at "late")
theorem IK (T:Txt P w K mg t):FnOk P w K mg base EW 2 t.f_Store_add_place t.d_Store_add_place ["self","kind","fields"] (FC K CM):=by
 have C_fields_told:=Cal.of (DC (P:=P) (w:=w) (base:=base) T) T.m_fields_told T.F_fields_told.kp T.b_fields_told
 refine T.F_Store_add_place.okM (k:=1) EM rfl fun cdv A outer s H E hr=> ?_
 unfold b_Store_add_place
 conv=>arg 2;whnf
 apply A5 ?d1 ?d2
 case' d1=>apply B2 (i:=3) ?d3 ?_ ?d4 ?d5 ?_ ?_
 case d3=>exact EM.nd
 case d4=>exact(Or.inl cP.lk)
 case' d5=>apply FB ?d6 ?d7 ?d8 ?d9 ?_
 case d6=>exact T.a_Store
 case d7=>exact T.l_Store
 case d8=>exact T.n_Store_next_place
 case d9=>exact(A1 (AE 0 jJ))
 case' d2=>apply A5 ?d10 ?d11
 case' d10=>apply ED ?d12 ?d13 ?d14 ?d15 ?_
 case d12=>exact(WN hr)
 case' d13=>apply FB ?d16 ?d17 ?d18 ?d19 ?_
 case d16=>exact T.a_Store
 case d17=>exact T.l_Store
 case d18=>exact T.n_Store_place_rows
 case d19=>exact(A1 (AE 0 jJ))
 case d14=>exact(A1 (AE 3 cP))
 case' d15=>apply C3 ?_
 case' d15=>apply AZ ?d21 ?d22 ?_ ?_
 case d21=>exact(A1 (AE 1 tG))
 case' d22=>apply AG ?d23 ?_ ?d24 ?d25 ?_ ?_
 case d23=>exact C_fields_told
 case d24=>exact u0
 case' d25=>apply BE ?d26 ?_
 case d26=>exact(A1 (AE 2 tL))
 case' d11=>apply A5 ?d27 ?d28
 case' d27=>apply JP ?d29 ?d30 ?d31 ?d32 ?d33 ?_
 case d29=>exact T.a_Store
 case d30=>exact T.l_Store
 case d31=>exact T.n_Store_next_place
 case d32=>exact(A1 (AE 0 jJ))
 case' d33=>apply B1 BJ BX ?_ A4
 case d33=>exact(A1 (AE 3 cP))
 case' d28=>apply AA ?_
 case' d28=>apply AV ?_
 case d28=>exact(A1 (AE 3 cP))
 all_goals (try walk_at "late")
theorem E6 (T:Txt P w K mg t):FnOk P w K mg base EW 1 t.f_Store_need_place t.d_Store_need_place ["self","n"] (FC K BY):=by
 refine T.F_Store_need_place.okM (k:=0) HM rfl fun cdv A outer s H E hr=> ?_
 unfold b_Store_need_place
 conv=>arg 2;whnf
 apply AA ?_
 apply BS ?d2 ?d3 AY
 case' d2=>apply B8 ?d4 R1 ?d5 ?d6 ?_
 case d4=>exact(NB (A8 hr))
 case d5=>exact(A1 (AE 1 uD))
 case' d6=>apply FB ?d7 ?d8 ?d9 ?d10 ?_
 case d7=>exact T.a_Store
 case d8=>exact T.l_Store
 case d9=>exact T.n_Store_place_rows
 case d10=>exact(A1 (AE 0 vH))
 case' d3=>apply AA ?_
 case d3=>exact QP
 all_goals (try walk_at "late")
theorem JS (T:Txt P w K mg t):FnOk P w K mg base EW 2 t.f_Store_add_tie t.d_Store_add_tie ["self","kind","start","end","fields"] (FC K D7):=by
 have C_fields_told:=Cal.of (DC (P:=P) (w:=w) (base:=base) T) T.m_fields_told T.F_fields_told.kp T.b_fields_told
 have O_Store_need_place:=E6 (P:=P) (w:=w) (base:=base) T
 refine T.F_Store_add_tie.okM (k:=1) FU rfl fun cdv A outer s H E hr=> ?_
 unfold b_Store_add_tie
 conv=>arg 2;whnf
 apply A5 ?d1 ?d2
 case' d1=>apply DH ?d3 ?_
 case' d3=>apply C6 ?d4 ?d5 ?d6 ?d7 ?_ ?d8 ?d9 ?d10 ?_ ?_ ?_
 case d4=>exact T.a_Store
 case d5=>exact T.l_Store
 case d6=>exact T.h_Store_need_place
 case d7=>exact O_Store_need_place
 case d8=>exact T.b_Store_need_place
 case d9=>exact(A1 (AE 0 YZ))
 case' d10=>apply BE ?d11 ?_
 case d11=>exact(A1 (AE 2 rJ))
 case' d2=>apply A5 ?d12 ?d13
 case' d12=>apply DH ?d14 ?_
 case' d14=>apply C6 ?d15 ?d16 ?d17 ?d18 ?_ ?d19 ?d20 ?d21 ?_ ?_ ?_
 case d15=>exact T.a_Store
 case d16=>exact T.l_Store
 case d17=>exact T.h_Store_need_place
 case d18=>exact O_Store_need_place
 case d19=>exact T.b_Store_need_place
 case d20=>exact(A1 (AE 0 YZ))
 case' d21=>apply BE ?d22 ?_
 case d22=>exact(A1 (AE 3 oR))
 case' d13=>apply A5 ?d23 ?d24
 case' d23=>apply B2 (i:=5) ?d25 ?_ ?d26 ?d27 ?_ ?_
 case d25=>exact FU.nd
 case d26=>exact(Or.inl bQ.lk)
 case' d27=>apply FB ?d28 ?d29 ?d30 ?d31 ?_
 case d28=>exact T.a_Store
 case d29=>exact T.l_Store
 case d30=>exact T.n_Store_next_tie
 case d31=>exact(A1 (AE 0 YZ))
 case' d24=>apply A5 ?d32 ?d33
 case' d32=>apply ED ?d34 ?d35 ?d36 ?d37 ?_
 case d34=>exact(WN hr)
 case' d35=>apply FB ?d38 ?d39 ?d40 ?d41 ?_
 case d38=>exact T.a_Store
 case d39=>exact T.l_Store
 case d40=>exact T.n_Store_tie_rows
 case d41=>exact(A1 (AE 0 YZ))
 case d36=>exact(A1 (AE 5 bQ))
 case' d37=>apply C3 ?_
 case' d37=>apply PQ ?d43 ?d44 ?d45 ?d46 ?_ ?_ ?_ ?_
 case d43=>exact(A1 (AE 1 uG))
 case d44=>exact(A1 (AE 2 rJ))
 case d45=>exact(A1 (AE 3 oR))
 case' d46=>apply AG ?d47 ?_ ?d48 ?d49 ?_ ?_
 case d47=>exact C_fields_told
 case d48=>exact vA
 case' d49=>apply BE ?d50 ?_
 case d50=>exact(A1 (AE 4 uB))
 case' d33=>apply A5 ?d51 ?d52
 case' d51=>apply JP ?d53 ?d54 ?d55 ?d56 ?d57 ?_
 case d53=>exact T.a_Store
 case d54=>exact T.l_Store
 case d55=>exact T.n_Store_next_tie
 case d56=>exact(A1 (AE 0 YZ))
 case' d57=>apply B1 BJ BX ?_ A4
 case d57=>exact(A1 (AE 5 bQ))
 case' d52=>apply AA ?_
 case' d52=>apply AV ?_
 case d52=>exact(A1 (AE 5 bQ))
 all_goals (try walk_at "late")
theorem HQ (T:Txt P w K mg t):FnOk P w K mg base EW 1 t.f_Store_take_place t.d_Store_take_place ["self","n"] (FC K EG):=FnOk.empty
theorem JD (T:Txt P w K mg t):FnOk P w K mg base EW 1 t.f_Store_take_tie t.d_Store_take_tie ["self","n"] (FC K FK):=FnOk.empty
theorem GI (T:Txt P w K mg t):FnOk P w K mg base EW 2 t.f_Store_place t.d_Store_place ["self","n"] (FC K DX):=by
 have O_Store_need_place:=E6 (P:=P) (w:=w) (base:=base) T
 refine T.F_Store_place.okM (k:=1) M5 rfl fun cdv A outer s H E hr=> ?_
 unfold b_Store_place
 conv=>arg 2;whnf
 apply A5 ?d1 ?d2
 case' d1=>apply DH ?d3 ?_
 case' d3=>apply C6 ?d4 ?d5 ?d6 ?d7 ?_ ?d8 ?d9 ?d10 ?_ ?_ ?_
 case d4=>exact T.a_Store
 case d5=>exact T.l_Store
 case d6=>exact T.h_Store_need_place
 case d7=>exact O_Store_need_place
 case d8=>exact T.b_Store_need_place
 case d9=>exact(A1 (AE 0 rL))
 case' d10=>apply BE ?d11 ?_
 case d11=>exact(A1 (AE 1 oV))
 case' d2=>apply AA ?_
 case' d2=>apply AV ?_
 case' d2=>apply AD (AJ (A8 hr)) AC ?d14 ?d15 ?_
 case' d14=>apply FB ?d16 ?d17 ?d18 ?d19 ?_
 case d16=>exact T.a_Store
 case d17=>exact T.l_Store
 case d18=>exact T.n_Store_place_rows
 case d19=>exact(A1 (AE 0 rL))
 case d15=>exact(A1 (AE 1 oV))
 all_goals (try walk_at "late")
theorem IP (T:Txt P w K mg t):FnOk P w K mg base EW 3 t.f_Store_set_place t.d_Store_set_place ["self","n","name","value"] (FC K CN):=by
 have C_with_value:=Cal.of (HV (P:=P) (w:=w) (base:=base) T) T.m_with_value T.F_with_value.kp T.b_with_value
 have O_Store_place:=GI (P:=P) (w:=w) (base:=base) T
 refine T.F_Store_set_place.okM (k:=2) D8 rfl fun cdv A outer s H E hr=> ?_
 unfold b_Store_set_place
 conv=>arg 2;whnf
 apply A5 ?d1 ?d2
 case' d1=>apply EX ?d3 ?d4 ?_ ?_ ?_
 case' d3=>apply C6 ?d5 ?d6 ?d7 ?d8 ?_ ?d9 ?d10 ?d11 ?_ ?_ ?_
 case d5=>exact T.a_Store
 case d6=>exact T.l_Store
 case d7=>exact T.h_Store_place
 case d8=>exact O_Store_place
 case d9=>exact T.b_Store_place
 case d10=>exact(A1 (AE 0 mS))
 case' d11=>apply BE ?d12 ?_
 case d12=>exact(A1 (AE 1 mQ))
 case' d4=>apply OB ?_ ?d13 ?_ ?_
 case' d13=>apply CL ?d14 ?d15 ?_
 case' d14=>apply C5 ?_
 case' d14=>apply C0 (i:=4) ?d17 ?_ ?d18 ?_
 case d17=>exact D8.nd
 case d18=>exact(Or.inl n9.lk)
 case' d15=>apply CL ?d19 L3 ?_
 case' d19=>apply C5 ?_
 case' d19=>apply C0 (i:=5) ?d21 ?_ ?d22 ?_
 case d21=>exact D8.nd
 case d22=>exact(Or.inl oA.lk)
 case' d2=>apply AA ?_
 case' d2=>apply ED ?d24 ?d25 ?d26 ?d27 ?_
 case d24=>exact(WN hr)
 case' d25=>apply FB ?d28 ?d29 ?d30 ?d31 ?_
 case d28=>exact T.a_Store
 case d29=>exact T.l_Store
 case d30=>exact T.n_Store_place_rows
 case d31=>exact(A1 (AE 0 mS))
 case d26=>exact(A1 (AE 1 mQ))
 case' d27=>apply C3 ?_
 case' d27=>apply AZ ?d33 ?d34 ?_ ?_
 case d33=>exact(A1 (AE 4 n9))
 case' d34=>apply AG ?d35 ?_ ?d36 ?d37 ?_ ?_
 case d35=>exact C_with_value
 case d36=>exact uU
 case' d37=>apply MB ?d38 ?d39 ?d40 ?_ ?_ ?_
 case d38=>exact(A1 (AE 5 oA))
 case d39=>exact(A1 (AE 2 vM))
 case d40=>exact(A1 (AE 3 t9))
 all_goals (try walk_at "late")
theorem aC (T:Txt P w K mg t):FnOk P w K mg base EW 4 t.fLcall t.dLcall ["_law_store","_law_deed"] (FC K mLcall):=by
 have O_Store_set_tie:=JW (P:=P) (w:=w) (base:=base) T
 have O_Store_add_place:=IK (P:=P) (w:=w) (base:=base) T
 have O_Store_add_tie:=JS (P:=P) (w:=w) (base:=base) T
 have O_Store_take_place:=HQ (P:=P) (w:=w) (base:=base) T
 have O_Store_take_tie:=JD (P:=P) (w:=w) (base:=base) T
 have O_Store_set_place:=IP (P:=P) (w:=w) (base:=base) T
 refine T.FLcall.okM (k:=3) bE rfl fun cdv A outer s H E hr=> ?_
 unfold bLcall
 conv=>arg 2;whnf
 apply A5 ?d1 ?d2
 case' d1=>apply BS ?d3 ?d4 AY
 case' d3=>apply B8 ?d5 DE ?d6 A9 ?_
 case d5=>exact(CF (DF hr))
 case' d6=>apply AD (AJ (A8 hr)) AC ?d7 A4 ?_
 case d7=>exact(A1 (AE 1 PL))
 case' d4=>apply AA ?_
 case' d4=>apply AV ?_
 case' d4=>apply C6 ?d10 ?d11 ?d12 ?d13 ?_ ?d14 ?d15 ?d16 ?_ ?_ ?_
 case d10=>exact T.a_Store
 case d11=>exact T.l_Store
 case d12=>exact T.h_Store_add_place
 case d13=>exact O_Store_add_place
 case d14=>exact T.b_Store_add_place
 case d15=>exact(A1 (AE 0 mF))
 case' d16=>apply AZ ?d17 ?d18 ?_ ?_
 case' d17=>apply AD (AJ (A8 hr)) AC ?d19 A4 ?_
 case d19=>exact(A1 (AE 1 PL))
 case' d18=>apply AD (AJ (A8 hr)) AC ?d20 A4 ?_
 case d20=>exact(A1 (AE 1 PL))
 case' d2=>apply A5 ?d21 ?d22
 case' d21=>apply BS ?d23 ?d24 AY
 case' d23=>apply B8 ?d25 DE ?d26 A9 ?_
 case d25=>exact(CF (DF hr))
 case' d26=>apply AD (AJ (A8 hr)) AC ?d27 A4 ?_
 case d27=>exact(A1 (AE 1 PL))
 case' d24=>apply AA ?_
 case' d24=>apply AV ?_
 case' d24=>apply C6 ?d30 ?d31 ?d32 ?d33 ?_ ?d34 ?d35 ?d36 ?_ ?_ ?_
 case d30=>exact T.a_Store
 case d31=>exact T.l_Store
 case d32=>exact T.h_Store_add_tie
 case d33=>exact O_Store_add_tie
 case d34=>exact T.b_Store_add_tie
 case d35=>exact(A1 (AE 0 mF))
 case' d36=>apply PQ ?d37 ?d38 ?d39 ?d40 ?_ ?_ ?_ ?_
 case' d37=>apply AD (AJ (A8 hr)) AC ?d41 A4 ?_
 case d41=>exact(A1 (AE 1 PL))
 case' d38=>apply AD (AJ (A8 hr)) AC ?d42 A4 ?_
 case d42=>exact(A1 (AE 1 PL))
 case' d39=>apply AD (AJ (A8 hr)) AC ?d43 A4 ?_
 case d43=>exact(A1 (AE 1 PL))
 case' d40=>apply AD (AJ (A8 hr)) AC ?d44 A4 ?_
 case d44=>exact(A1 (AE 1 PL))
 case' d22=>apply A5 ?d45 ?d46
 case' d45=>apply BS ?d47 ?d48 AY
 case' d47=>apply B8 ?d49 DE ?d50 A9 ?_
 case d49=>exact(CF (DF hr))
 case' d50=>apply AD (AJ (A8 hr)) AC ?d51 A4 ?_
 case d51=>exact(A1 (AE 1 PL))
 case' d48=>apply AA ?_
 case' d48=>apply AV ?_
 case' d48=>apply C6 ?d54 ?d55 ?d56 ?d57 ?_ ?d58 ?d59 ?d60 ?_ ?_ ?_
 case d54=>exact T.a_Store
 case d55=>exact T.l_Store
 case d56=>exact T.h_Store_take_place
 case d57=>exact O_Store_take_place
 case d58=>exact T.b_Store_take_place
 case d59=>exact(A1 (AE 0 mF))
 case' d60=>apply BE ?d61 ?_
 case' d61=>apply AD (AJ (A8 hr)) AC ?d62 A4 ?_
 case d62=>exact(A1 (AE 1 PL))
 case' d46=>apply A5 ?d63 ?d64
 case' d63=>apply BS ?d65 ?d66 AY
 case' d65=>apply B8 ?d67 DE ?d68 A9 ?_
 case d67=>exact(CF (DF hr))
 case' d68=>apply AD (AJ (A8 hr)) AC ?d69 A4 ?_
 case d69=>exact(A1 (AE 1 PL))
 case' d66=>apply AA ?_
 case' d66=>apply AV ?_
 case' d66=>apply C6 ?d72 ?d73 ?d74 ?d75 ?_ ?d76 ?d77 ?d78 ?_ ?_ ?_
 case d72=>exact T.a_Store
 case d73=>exact T.l_Store
 case d74=>exact T.h_Store_take_tie
 case d75=>exact O_Store_take_tie
 case d76=>exact T.b_Store_take_tie
 case d77=>exact(A1 (AE 0 mF))
 case' d78=>apply BE ?d79 ?_
 case' d79=>apply AD (AJ (A8 hr)) AC ?d80 A4 ?_
 case d80=>exact(A1 (AE 1 PL))
 case' d64=>apply A5 ?d81 ?d82
 case' d81=>apply BS ?d83 ?d84 AY
 case' d83=>apply B8 ?d85 DE ?d86 A9 ?_
 case d85=>exact(CF (DF hr))
 case' d86=>apply AD (AJ (A8 hr)) AC ?d87 A4 ?_
 case d87=>exact(A1 (AE 1 PL))
 case' d84=>apply AA ?_
 case' d84=>apply AV ?_
 case' d84=>apply C6 ?d90 ?d91 ?d92 ?d93 ?_ ?d94 ?d95 ?d96 ?_ ?_ ?_
 case d90=>exact T.a_Store
 case d91=>exact T.l_Store
 case d92=>exact T.h_Store_set_place
 case d93=>exact O_Store_set_place
 case d94=>exact T.b_Store_set_place
 case d95=>exact(A1 (AE 0 mF))
 case' d96=>apply MB ?d97 ?d98 ?d99 ?_ ?_ ?_
 case' d97=>apply AD (AJ (A8 hr)) AC ?d100 A4 ?_
 case d100=>exact(A1 (AE 1 PL))
 case' d98=>apply AD (AJ (A8 hr)) AC ?d101 A4 ?_
 case d101=>exact(A1 (AE 1 PL))
 case' d99=>apply AD (AJ (A8 hr)) AC ?d102 A4 ?_
 case d102=>exact(A1 (AE 1 PL))
 case' d82=>apply AA ?_
 case' d82=>apply AV ?_
 case' d82=>apply C6 ?d105 ?d106 ?d107 ?d108 ?_ ?d109 ?d110 ?d111 ?_ ?_ ?_
 case d105=>exact T.a_Store
 case d106=>exact T.l_Store
 case d107=>exact T.h_Store_set_tie
 case d108=>exact O_Store_set_tie
 case d109=>exact T.b_Store_set_tie
 case d110=>exact(A1 (AE 0 mF))
 case' d111=>apply MB ?d112 ?d113 ?d114 ?_ ?_ ?_
 case' d112=>apply AD (AJ (A8 hr)) AC ?d115 A4 ?_
 case d115=>exact(A1 (AE 1 PL))
 case' d113=>apply AD (AJ (A8 hr)) AC ?d116 A4 ?_
 case d116=>exact(A1 (AE 1 PL))
 case' d114=>apply AD (AJ (A8 hr)) AC ?d117 A4 ?_
 case d117=>exact(A1 (AE 1 PL))
 all_goals (try walk_at "late")
theorem SU (T:Txt P w K mg t):FnOk P w K mg base EW 1 t.fLword_of t.dLword_of ["_law_caught"] (FC K mLword_of):=FnOk.empty
theorem TY (T:Txt P w K mg t):FnOk P w K mg base EW 5 t.fLdone t.dLdone ["_law_store","_law_deed"] (FC K mLdone):=by
 have CLcall:=Cal.of (aC (P:=P) (w:=w) (base:=base) T) T.mLcall T.FLcall.kp T.bLcall
 have CLword_of:=Cal.of (SU (P:=P) (w:=w) (base:=base) T) T.mLword_of T.FLword_of.kp T.bLword_of
 refine T.FLdone.okM (k:=4) PF rfl fun cdv A outer s H E hr=> ?_
 unfold bLdone
 conv=>arg 2;whnf
 apply A5 ?d1 ?d2
 case' d1=>apply B2 (i:=2) ?d3 ?_ ?d4 GO ?_ ?_
 case d3=>exact PF.nd
 case d4=>exact(Or.inl tT.lk)
 case' d2=>apply A5 ?d5 ?d6
 case' d5=>apply gY ?_ ?d7
 case' d7=>apply AA ?_
 case' d7=>apply B2 (i:=3) ?d9 ?_ ?d10 ?d11 ?_ ?_
 case d9=>exact PF.nd
 case d10=>exact(Or.inl wW.lk)
 case' d11=>apply AG ?d12 ?_ ?d13 ?d14 ?_ ?_
 case d12=>exact CLcall
 case d13=>exact xB
 case' d14=>apply AZ ?d15 ?d16 ?_ ?_
 case d15=>exact(A1 (AE 0 y3))
 case d16=>exact(A1 (AE 1 xE))
 case' d6=>apply A5 ?d17 ?d18
 case' d17=>apply BS ?d19 ?d20 AY
 case' d19=>apply B8 JO LU ?d21 GO ?_
 case d21=>exact(A1 (AE 2 tT))
 case' d20=>apply AA ?_
 case' d20=>apply AV ?_
 case' d20=>apply C3 ?_
 case' d20=>apply AZ A9 ?d25 ?_ ?_
 case' d25=>apply AG ?d26 ?_ ?d27 ?d28 ?_ ?_
 case d26=>exact CLword_of
 case d27=>exact xI
 case' d28=>apply BE ?d29 ?_
 case d29=>exact(A1 (AE 2 tT))
 case' d18=>apply AA ?_
 case' d18=>apply AV ?_
 case' d18=>apply C3 ?_
 case' d18=>apply AZ A9 ?d33 ?_ ?_
 case d33=>exact(A1 (AE 3 wW))
 all_goals (try walk_at "late")
theorem O2 (T:Txt P w K mg t) (n:Nat):FnOk P w K mg base EW (n+0) t.fLsame t.dLsame ["_law_found","_law_due"] (FC K (mLsame n)):=by
 induction n with
 |zero=>exact FnOk.empty
 |succ n ih=>
  have CLsame:=Cal.of ih T.mLsame T.FLsame.kp T.bLsame
  refine FnOk.mono (j:=n+0+1) (T.FLsame.okM (k:=n+0) eC rfl fun cdv A outer s H E hr=> ?_) (by omega)
  unfold bLsame
  conv=>arg 2;whnf
  apply A5 ?d1 ?d2
  case' d1=>apply BS ?d3 ?d4 AY
  case' d3=>apply G2 ?d5 ?_
  case' d5=>apply CQ C9 DW ?d6 ?d7 PyProof.Rows.boot_isinstance ?d8 ?_ ?_
  case d6=>exact ZO
  case d7=>exact T.z_isinstance
  case' d8=>apply AZ ?d9 ?d10 ?_ ?_
  case d9=>exact(A1 (AE 1 ZN))
  case' d10=>apply C3 ?_
  case' d10=>apply AZ ?d12 ?d13 ?_ ?_
  case' d12=>apply IJ ?d14 ?_
  case' d14=>apply CS (v:= .ty "list") ?d15 ?d16 ?_ ?_
  case d15=>exact vB
  case d16=>exact T.z_list
  case' d13=>apply IJ ?d17 ?_
  case' d17=>apply CS (v:= .ty "tuple") ?d18 ?d19 ?_ ?_
  case d18=>exact tI
  case d19=>exact T.z_tuple
  case' d4=>apply A5 ?d20 ?d21
  case' d20=>apply BS ?d22 ?d23 AY
  case' d22=>apply PW.pt ?_
  case' d22=>apply NM ?d25 ?d26
  case' d25=>apply B8 ?d27 UA ?d28 ?d29 ?_
  case d27=>exact(O7 (A8 hr))
  case' d28=>apply CQ C9 DW ?d30 ?d31 PyProof.Rows.boot_isinstance ?d32 ?_ ?_
  case d30=>exact ZO
  case d31=>exact T.z_isinstance
  case' d32=>apply AZ ?d33 ?d34 ?_ ?_
  case d33=>exact(A1 (AE 0 dR))
  case' d34=>apply IJ ?d35 ?_
  case' d35=>apply CS (v:= .ty "list") ?d36 ?d37 ?_ ?_
  case d36=>exact vB
  case d37=>exact T.z_list
  case' d29=>apply CQ C9 DW ?d38 ?d39 PyProof.Rows.boot_isinstance ?d40 ?_ ?_
  case d38=>exact ZO
  case d39=>exact T.z_isinstance
  case' d40=>apply AZ ?d41 ?d42 ?_ ?_
  case d41=>exact(A1 (AE 1 ZN))
  case' d42=>apply IJ ?d43 ?_
  case' d43=>apply CS (v:= .ty "list") ?d44 ?d45 ?_ ?_
  case d44=>exact vB
  case d45=>exact T.z_list
  case' d26=>apply JR ?_
  case' d26=>apply B8 ?d47 UA ?d48 ?d49 ?_
  case d47=>exact(O7 (A8 hr))
  case' d48=>apply CQ C9 DW ?d50 ?d51 PyProof.Rows.boot_isinstance ?d52 ?_ ?_
  case d50=>exact ZO
  case d51=>exact T.z_isinstance
  case' d52=>apply AZ ?d53 ?d54 ?_ ?_
  case d53=>exact(A1 (AE 0 dR))
  case' d54=>apply IJ ?d55 ?_
  case' d55=>apply CS (v:= .ty "tuple") ?d56 ?d57 ?_ ?_
  case d56=>exact tI
  case d57=>exact T.z_tuple
  case' d49=>apply CQ C9 DW ?d58 ?d59 PyProof.Rows.boot_isinstance ?d60 ?_ ?_
  case d58=>exact ZO
  case d59=>exact T.z_isinstance
  case' d60=>apply AZ ?d61 ?d62 ?_ ?_
  case d61=>exact(A1 (AE 1 ZN))
  case' d62=>apply IJ ?d63 ?_
  case' d63=>apply CS (v:= .ty "tuple") ?d64 ?d65 ?_ ?_
  case d64=>exact tI
  case d65=>exact T.z_tuple
  case' d23=>apply AA ?_
  case' d23=>apply AV HZ
  case' d21=>apply AA ?_
  case' d21=>apply AV ?_
  case' d21=>apply L6 ?d69 ?d70
  case' d69=>apply GG ?d71 DE ?d72 ?d73 ?_
  case d71=>exact(CF (DF hr))
  case' d72=>apply CQ DR IR ?d74 ?d75 PySem.boot_len ?d76 ?_ ?_
  case d74=>exact vU
  case d75=>exact T.z_len
  case' d76=>apply BE ?d77 ?_
  case d77=>exact(A1 (AE 0 dR))
  case' d73=>apply CQ DR IR ?d78 ?d79 PySem.boot_len ?d80 ?_ ?_
  case d78=>exact vU
  case d79=>exact T.z_len
  case' d80=>apply BE ?d81 ?_
  case d81=>exact(A1 (AE 1 ZN))
  case' d70=>apply OE ?_
  case' d70=>apply CQ ?d83 jP ?d84 ?d85 PyProof.Rows.boot_all ?d86 ?_ ?_
  case d83=>exact(Y6 rfl)
  case d84=>exact y4
  case d85=>exact T.z_all
  case' d86=>apply BE ?d87 ?_
  case' d87=>apply IU (N':=["_law_one","_law_other"]) (ix:=[none,none]) ?d88 ?_ ?d89 ?d90 ?d91 ?d92 ?d93 ?_
  case d88=>exact⟨rfl,by decide+kernel,by decide+kernel,EE _ _ rfl,rfl,HG _ _ _ _ rfl⟩
  case d89=>exact(id (gJ (R6 (G8 rfl) (R6 (G8 rfl) bF))))
  case' d90=>apply lQ ?d94 ?d95 ?d96 ?_ ?_
  case d94=>exact yB
  case d95=>exact T.z_zip
  case' d96=>apply AZ ?d97 ?d98 ?_ ?_
  case d97=>exact(A1 (AE 0 dR))
  case d98=>exact(A1 (AE 1 ZN))
  case' d91=>(intro _ _ _ _;apply Y9 ?_ ?d99 ?_ ?_)
  case' d99=>apply LC ?d100 ?d101 ?_
  case d100=>exact(iS (i:=0) (by walk_at "n") (show List.Nodup (["_law_one","_law_other"]:List Str) from by decide+kernel) (by rfl))
  case' d101=>apply LC ?d102 ?d103 ?_
  case d102=>exact(iS (i:=1) (by walk_at "n") (show List.Nodup (["_law_one","_law_other"]:List Str) from by decide+kernel) (by rfl))
  case d103=>exact UI
  case d92=>(intro _ _ _ _;exact IV)
  case' d93=>(intro _ _ _ _;apply AG ?d104 ?_ ?d105 ?d106 ?_ ?_)
  case d104=>exact CLsame
  case d105=>exact(NmOk.glob (by walk_at "n"))
  case' d106=>apply AZ ?d107 ?d108 ?_ ?_
  case d107=>exact(A1 (AE 0 (NmOk.own (by walk_at "n"))))
  case d108=>exact(A1 (AE 1 (NmOk.own (by walk_at "n"))))
  case' d2=>apply A5 ?d109 ?d110
  case' d109=>apply BS ?d111 ?d112 AY
  case' d111=>apply PW.pt ?_
  case' d111=>apply NM ?d114 ?d115
  case' d114=>apply B8 iX nR ?d116 GO ?_
  case d116=>exact(A1 (AE 1 ZN))
  case' d115=>apply JR ?_
  case' d115=>apply G2 ?d118 ?_
  case' d118=>apply CQ C9 DW ?d119 ?d120 PyProof.Rows.boot_isinstance ?d121 ?_ ?_
  case d119=>exact ZO
  case d120=>exact T.z_isinstance
  case' d121=>apply AZ ?d122 ?d123 ?_ ?_
  case d122=>exact(A1 (AE 1 ZN))
  case' d123=>apply IJ ?d124 ?_
  case' d124=>apply CS (v:= .ty "str") ?d125 ?d126 ?_ ?_
  case d125=>exact vL
  case d126=>exact T.z_str
  case' d112=>apply AA ?_
  case' d112=>apply AV ?_
  case' d112=>apply L6 ?d129 ?d130
  case' d129=>apply GG ?d131 DE ?d132 ?d133 ?_
  case d131=>exact(CF (DF hr))
  case d132=>exact(A1 (AE 0 dR))
  case d133=>exact(A1 (AE 1 ZN))
  case' d130=>apply OE ?_
  case' d130=>apply GG ?d135 DE ?d136 ?d137 ?_
  case d135=>exact(CF (DF hr))
  case' d136=>apply CQ C9 DW ?d138 ?d139 PyProof.Rows.boot_isinstance ?d140 ?_ ?_
  case d138=>exact ZO
  case d139=>exact T.z_isinstance
  case' d140=>apply AZ ?d141 ?d142 ?_ ?_
  case d141=>exact(A1 (AE 0 dR))
  case' d142=>apply IJ ?d143 ?_
  case' d143=>apply CS (v:= .ty "str") ?d144 ?d145 ?_ ?_
  case d144=>exact vL
  case d145=>exact T.z_str
  case' d137=>apply CQ C9 DW ?d146 ?d147 PyProof.Rows.boot_isinstance ?d148 ?_ ?_
  case d146=>exact ZO
  case d147=>exact T.z_isinstance
  case' d148=>apply AZ ?d149 ?d150 ?_ ?_
  case d149=>exact(A1 (AE 1 ZN))
  case' d150=>apply IJ ?d151 ?_
  case' d151=>apply CS (v:= .ty "str") ?d152 ?d153 ?_ ?_
  case d152=>exact vL
  case d153=>exact T.z_str
  case' d110=>apply AA ?_
  case' d110=>apply AV ?_
  case' d110=>apply L6 ?d156 ?d157
  case' d156=>apply CQ C9 DW ?d158 ?d159 PyProof.Rows.boot_isinstance ?d160 ?_ ?_
  case d158=>exact ZO
  case d159=>exact T.z_isinstance
  case' d160=>apply AZ ?d161 ?d162 ?_ ?_
  case d161=>exact(A1 (AE 0 dR))
  case' d162=>apply IJ ?d163 ?_
  case' d163=>apply CS (v:= .ty "int") ?d164 ?d165 ?_ ?_
  case d164=>exact xJ
  case d165=>exact T.z_int
  case' d157=>apply L6 ?d166 ?d167
  case' d166=>apply i8 ?_
  case' d166=>apply CQ C9 DW ?d169 ?d170 PyProof.Rows.boot_isinstance ?d171 ?_ ?_
  case d169=>exact ZO
  case d170=>exact T.z_isinstance
  case' d171=>apply AZ ?d172 ?d173 ?_ ?_
  case d172=>exact(A1 (AE 0 dR))
  case' d173=>apply IJ ?d174 ?_
  case' d174=>apply CS (v:= .ty "bool") ?d175 ?d176 ?_ ?_
  case d175=>exact xU
  case d176=>exact T.z_bool
  case' d167=>apply OE ?_
  case' d167=>apply GG ?d178 DE ?d179 ?d180 ?_
  case d178=>exact(CF (DF hr))
  case d179=>exact(A1 (AE 0 dR))
  case d180=>exact(A1 (AE 1 ZN))
  all_goals (try walk_at "late")
theorem cJ (T:Txt P w K mg t):FnOk P w K mg base EW 13 t.fLmade t.dLmade ["_law_hand_here","_law_store","_law_own"] (FC K mLmade):=by
 have CLfields:=Cal.of (VQ (P:=P) (w:=w) (base:=base) T) T.mLfields T.FLfields.kp T.bLfields
 have CLdraw:=Cal.of (JL (P:=P) (w:=w) (base:=base) T) T.mLdraw T.FLdraw.kp T.bLdraw
 have CLdone:=Cal.of (TY (P:=P) (w:=w) (base:=base) T) T.mLdone T.FLdone.kp T.bLdone
 have CLword:=Cal.of (OV (P:=P) (w:=w) (base:=base) T) T.mLword T.FLword.kp T.bLword
 have C_fields_told:=Cal.of (DC (P:=P) (w:=w) (base:=base) T) T.m_fields_told T.F_fields_told.kp T.b_fields_told
 have CLsame:=Cal.of (O2 (P:=P) (w:=w) (base:=base) T 12) T.mLsame T.FLsame.kp T.bLsame
 have CLdo:=Cal.of (eO (P:=P) (w:=w) (base:=base) T) T.mLdo T.FLdo.kp T.bLdo
 refine T.FLmade.okM (k:=12) DY rfl fun cdv A outer s H E hr=> ?_
 unfold bLmade
 conv=>arg 2;whnf
 apply A5 ?d1 ?d2
 case' d1=>apply B2 (i:=3) ?d3 ?_ ?d4 ?d5 ?_ ?_
 case d3=>exact DY.nd
 case d4=>exact(Or.inl wD.lk)
 case' d5=>apply AG ?d6 ?_ ?d7 ?d8 ?_ ?_
 case d6=>exact CLfields
 case d7=>exact wA
 case' d8=>apply AZ ?d9 A4 ?_ ?_
 case d9=>exact(A1 (AE 0 WD))
 case' d2=>apply A5 ?d10 ?d11
 case' d10=>apply B2 (i:=4) ?d12 ?_ ?d13 ?d14 ?_ ?_
 case d12=>exact DY.nd
 case d13=>exact(Or.inl mB.lk)
 case' d14=>apply B1 BJ BX A4 ?_
 case' d14=>apply AG ?d16 ?_ ?d17 ?d18 ?_ ?_
 case d16=>exact CLdraw
 case d17=>exact hZ
 case' d18=>apply AZ ?d19 A4 ?_ ?_
 case d19=>exact(A1 (AE 0 WD))
 case' d11=>apply A5 ?d20 ?d21
 case' d20=>apply M2 ?_ ?_ ?d22 ?d23 ?d24 ?_
 case' d22=>apply HD ?d25 ?d26 ?d27 ?_
 case d25=>exact xL.lk
 case d26=>exact T.z_range
 case' d27=>apply BE ?d28 ?_
 case' d28=>apply B1 BJ BX ?d29 ?d30
 case d29=>exact(A1 (AE 4 mB))
 case' d30=>apply AG ?d31 ?_ ?d32 ?d33 ?_ ?_
 case d31=>exact CLdraw
 case d32=>exact hZ
 case' d33=>apply AZ ?d34 ?d35 ?_ ?_
 case d34=>exact(A1 (AE 0 WD))
 case' d35=>apply B1 BJ BX ?_ A4
 case d35=>exact(A1 (AE 4 mB))
 case' d23=>apply C5 ?_
 case' d23=>apply C0 (i:=5) ?d38 ?_ ?d39 ?_
 case d38=>exact DY.nd
 case d39=>exact(Or.inl wR.lk)
 case' d24=>apply A5 ?d40 ?d41
 case' d40=>apply B2 (i:=6) ?d42 ?_ ?d43 ?d44 ?_ ?_
 case d42=>exact DY.nd
 case d43=>exact(Or.inl YJ.lk)
 case' d44=>apply AD (AJ (A8 hr)) AC ?d45 ?d46 ?_
 case' d45=>apply E4 ?_
 case' d45=>apply AZ ?d48 ?d49 ?_ ?_
 case d48=>exact(A1 (AE 3 wD))
 case' d49=>apply AG ?d50 ?_ ?d51 ?d52 ?_ ?_
 case d50=>exact CLfields
 case d51=>exact wA
 case' d52=>apply AZ ?d53 ?d54 ?_ ?_
 case d53=>exact(A1 (AE 0 WD))
 case' d54=>apply AD (AJ (A8 hr)) AC ?d55 ?d56 ?_
 case' d55=>apply E4 ?_
 case' d55=>apply AZ A4 A4 ?_ ?_
 case' d56=>apply AG ?d58 ?_ ?d59 ?d60 ?_ ?_
 case d58=>exact CLdraw
 case d59=>exact hZ
 case' d60=>apply AZ ?d61 A4 ?_ ?_
 case d61=>exact(A1 (AE 0 WD))
 case' d46=>apply AG ?d62 ?_ ?d63 ?d64 ?_ ?_
 case d62=>exact CLdraw
 case d63=>exact hZ
 case' d64=>apply AZ ?d65 A4 ?_ ?_
 case d65=>exact(A1 (AE 0 WD))
 case' d41=>apply A5 ?d66 ?d67
 case' d66=>apply B2 (i:=7) ?d68 ?_ ?d69 ?d70 ?_ ?_
 case d68=>exact DY.nd
 case d69=>exact(Or.inl sJ.lk)
 case' d70=>apply C3 ?_
 case' d70=>apply MB A9 ?d72 ?d73 ?_ ?_ ?_
 case' d72=>apply AG ?d74 ?_ ?d75 ?d76 ?_ ?_
 case d74=>exact CLword
 case d75=>exact wI
 case' d76=>apply BE ?d77 ?_
 case d77=>exact(A1 (AE 0 WD))
 case d73=>exact(A1 (AE 6 YJ))
 case' d67=>apply A5 ?d78 ?d79
 case' d78=>apply BS ?d80 ?d81 AY
 case' d80=>apply B8 jA o0 ?d82 ?d83 ?_
 case d82=>exact(A1 (AE 5 wR))
 case d83=>exact(A1 (AE 4 mB))
 case' d81=>apply AA ?_
 case' d81=>apply B2 (i:=7) ?d85 ?_ ?d86 ?d87 ?_ ?_
 case d85=>exact DY.nd
 case d86=>exact(Or.inl sJ.lk)
 case' d87=>apply C3 ?_
 case' d87=>apply KA A9 ?d89 ?d90 ?d91 ?d92 ?_ ?_ ?_ ?_
 case' d89=>apply AG ?d93 ?_ ?d94 ?d95 ?_ ?_
 case d93=>exact CLword
 case d94=>exact wI
 case' d95=>apply BE ?d96 ?_
 case d96=>exact(A1 (AE 0 WD))
 case' d90=>apply AG ?d97 ?_ ?d98 ?d99 ?_ ?_
 case d97=>exact CLdraw
 case d98=>exact hZ
 case' d99=>apply AZ ?d100 ?d101 ?_ ?_
 case d100=>exact(A1 (AE 0 WD))
 case d101=>exact(A1 (AE 4 mB))
 case' d91=>apply AG ?d102 ?_ ?d103 ?d104 ?_ ?_
 case d102=>exact CLdraw
 case d103=>exact hZ
 case' d104=>apply AZ ?d105 ?d106 ?_ ?_
 case d105=>exact(A1 (AE 0 WD))
 case d106=>exact(A1 (AE 4 mB))
 case' d92=>apply BE ?d107 ?_
 case d107=>exact(A1 (AE 6 YJ))
 case' d79=>apply A5 ?d108 ?d109
 case' d108=>apply B2 (i:=8) ?d110 ?_ ?d111 ?d112 ?_ ?_
 case d110=>exact DY.nd
 case d111=>exact(Or.inl vZ.lk)
 case' d112=>apply IQ ?d113 T4 ?d114 ?d115 ?_ ?d116 ?_ ?_
 case d113=>exact(IA rfl)
 case d114=>exact xC
 case d115=>exact T.z_dict
 case' d116=>apply BE ?d117 ?_
 case d117=>exact(A1 (AE 6 YJ))
 case' d109=>apply A5 ?d118 ?d119
 case' d118=>apply B2 (i:=9) ?d120 ?_ ?d121 ?d122 ?_ ?_
 case d120=>exact DY.nd
 case d121=>exact(Or.inl wX.lk)
 case' d122=>apply AD (AJ (A8 hr)) AC ?d123 ?d124 ?_
 case' d123=>apply E4 ?_
 case' d123=>apply MB ?d126 ?d127 ?d128 ?_ ?_ ?_
 case d126=>exact(A1 (AE 6 YJ))
 case' d127=>apply AG ?d129 ?_ ?d130 ?d131 ?_ ?_
 case d129=>exact C_fields_told
 case d130=>exact xH
 case' d131=>apply BE ?d132 ?_
 case d132=>exact(A1 (AE 6 YJ))
 case d128=>exact(A1 (AE 6 YJ))
 case' d124=>apply AG ?d133 ?_ ?d134 ?d135 ?_ ?_
 case d133=>exact CLdraw
 case d134=>exact hZ
 case' d135=>apply AZ ?d136 A4 ?_ ?_
 case d136=>exact(A1 (AE 0 WD))
 case' d119=>apply A5 ?d137 ?d138
 case' d137=>apply B2 (i:=10) ?d139 ?_ ?d140 ?d141 ?_ ?_
 case d139=>exact DY.nd
 case d140=>exact(Or.inl wL.lk)
 case' d141=>apply AG ?d142 ?_ ?d143 ?d144 ?_ ?_
 case d142=>exact CLdone
 case d143=>exact x4
 case' d144=>apply AZ ?d145 ?d146 ?_ ?_
 case d145=>exact(A1 (AE 1 xS))
 case' d146=>apply B1 BJ BX ?d147 ?d148
 case' d147=>apply FW V1 NG ?d149 P8 ?d150
 case d149=>exact(A1 (AE 7 sJ))
 case' d150=>apply EC ?_
 case' d150=>apply fL WR WO A4
 case' d148=>apply C3 ?_
 case' d148=>apply BE ?d153 ?_
 case d153=>exact(A1 (AE 9 wX))
 case' d138=>apply A5 ?d154 ?d155
 case' d154=>apply BS ?d156 ?d157 AY
 case' d156=>apply PW.pt ?_
 case' d156=>apply NM ?d159 ?d160
 case' d159=>apply IB ?_
 case' d159=>apply G2 ?d162 ?_
 case' d162=>apply AG ?d163 ?_ ?d164 ?d165 ?_ ?_
 case d163=>exact CLsame
 case d164=>exact x8
 case' d165=>apply AZ ?d166 ?d167 ?_ ?_
 case d166=>exact(A1 (AE 10 wL))
 case' d167=>apply AG ?d168 ?_ ?d169 ?d170 ?_ ?_
 case d168=>exact CLdo
 case d169=>exact xN
 case' d170=>apply AZ ?d171 ?d172 ?_ ?_
 case d171=>exact(A1 (AE 2 y9))
 case d172=>exact(A1 (AE 7 sJ))
 case' d160=>apply JR ?_
 case' d160=>apply B8 ?d174 jQ ?d175 ?d176 ?_
 case d174=>exact(iF (A8 hr))
 case d175=>exact(A1 (AE 6 YJ))
 case d176=>exact(A1 (AE 8 vZ))
 case' d157=>apply AA ?_
 case' d157=>apply AV HZ
 case' d155=>apply A5 ?d178 ?d179
 case' d178=>apply ED ?d180 ?d181 A9 A4 ?_
 case d180=>exact(WN hr)
 case d181=>exact(A1 (AE 6 YJ))
 case' d179=>apply AA ?_
 case' d179=>apply DH ?d183 ?_
 case' d183=>apply MD PySem.F.plainAttrs_dict PySem.F.slot_dict_pop PySem.F.type_dict_pop ?d184 ?d185 OA ?d186 ?d187 ?_ ?_ ?_ ?_ ?_
 case d184=>exact O1
 case d185=>exact(fun _ _ _ _ _=>LE)
 case d186=>exact(A1 (AE 6 YJ))
 case' d187=>apply BE ?d188 ?_
 case' d188=>apply AD (AJ (A8 hr)) AC ?d189 A4 ?_
 case' d189=>apply CQ ?d190 M7 ?d191 ?d192 PyProof.Rows.boot_sorted ?d193 ?_ ?_
 case d190=>exact(IF rfl)
 case d191=>exact xO
 case d192=>exact T.z_sorted
 case' d193=>apply BE ?d194 ?_
 case d194=>exact(A1 (AE 6 YJ))
 case' d21=>apply AA ?_
 case' d21=>apply AV HZ
 all_goals (try walk_at "late")
theorem OO (T:Txt P w K mg t):FnOk P w K mg base EW 13 t.fLall_right t.dLall_right ["_law_store","_law_own"] (FC K mLall_right):=by
 have CLsame:=Cal.of (O2 (P:=P) (w:=w) (base:=base) T 12) T.mLsame T.FLsame.kp T.bLsame
 have CLtold:=Cal.of (bX (P:=P) (w:=w) (base:=base) T) T.mLtold T.FLtold.kp T.bLtold
 have O_Store_place:=GI (P:=P) (w:=w) (base:=base) T
 have O_Store_tie:=J7 (P:=P) (w:=w) (base:=base) T
 refine T.FLall_right.okM (k:=12) BU rfl fun cdv A outer s H E hr=> ?_
 unfold bLall_right
 conv=>arg 2;whnf
 apply A5 ?d1 ?d2
 case' d1=>apply ZJ (pick:=NZ (AM B7 (A3 1) (mC (.str "places")))) ?_
 case' d1=>apply M2 ?_ ?_ ?d4 ?d5 ?d6 ?_
 case' d4=>apply PU ?_
 case' d4=>apply AD (AJ (A8 hr)) AC ?d8 A9 ?_
 case d8=>exact(A1 (AE 1 sG))
 case' d5=>apply C5 ?_
 case' d5=>apply C0 (i:=2) ?d10 ?_ ?d11 ?_
 case d10=>exact BU.nd
 case d11=>exact(Or.inl mE.lk)
 case' d6=>apply A5 ?d12 ?d13
 case' d12=>apply EX ?d14 ?d15 ?_ ?_ ?_
 case' d14=>apply AD (AJ (A8 hr)) AC ?d16 ?d17 ?_
 case' d16=>apply AD (AJ (A8 hr)) AC ?d18 A9 ?_
 case d18=>exact(A1 (AE 1 sG))
 case d17=>exact(A1 (AE 2 mE))
 case' d15=>apply OB ?_ ?d19 ?_ ?_
 case' d19=>apply CL ?d20 ?d21 ?_
 case' d20=>apply C5 ?_
 case' d20=>apply C0 (i:=3) ?d23 ?_ ?d24 ?_
 case d23=>exact BU.nd
 case d24=>exact(Or.inl sF.lk)
 case' d21=>apply CL ?d25 L3 ?_
 case' d25=>apply C5 ?_
 case' d25=>apply C0 (i:=4) ?d27 ?_ ?d28 ?_
 case d27=>exact BU.nd
 case d28=>exact(Or.inl sH.lk)
 case' d13=>apply AA ?_
 case' d13=>apply BS ?d30 ?d31 AY
 case' d30=>apply IB ?_
 case' d30=>apply G2 ?d33 ?_
 case' d33=>apply AG ?d34 ?_ ?d35 ?d36 ?_ ?_
 case d34=>exact CLsame
 case d35=>exact qN
 case' d36=>apply AZ ?d37 ?d38 ?_ ?_
 case' d37=>apply C6 ?d39 ?d40 ?d41 ?d42 ?_ ?d43 ?d44 ?d45 ?_ ?_ ?_
 case d39=>exact T.a_Store
 case d40=>exact T.l_Store
 case d41=>exact T.h_Store_place
 case d42=>exact O_Store_place
 case d43=>exact T.b_Store_place
 case d44=>exact(A1 (AE 0 w4))
 case' d45=>apply BE ?d46 ?_
 case d46=>exact(A1 (AE 2 mE))
 case' d38=>apply C3 ?_
 case' d38=>apply AZ ?d48 ?d49 ?_ ?_
 case d48=>exact(A1 (AE 3 sF))
 case' d49=>apply AG ?d50 ?_ ?d51 ?d52 ?_ ?_
 case d50=>exact CLtold
 case d51=>exact oS
 case' d52=>apply BE ?d53 ?_
 case d53=>exact(A1 (AE 4 sH))
 case' d31=>apply AA ?_
 case' d31=>apply AV HZ
 case' d2=>apply A5 ?d55 ?d56
 case' d55=>apply ZJ (pick:=NZ (AM B7 (A3 1) (mC (.str "ties")))) ?_
 case' d55=>apply M2 ?_ ?_ ?d58 ?d59 ?d60 ?_
 case' d58=>apply PU ?_
 case' d58=>apply AD (AJ (A8 hr)) AC ?d62 A9 ?_
 case d62=>exact(A1 (AE 1 sG))
 case' d59=>apply C5 ?_
 case' d59=>apply C0 (i:=2) ?d64 ?_ ?d65 ?_
 case d64=>exact BU.nd
 case d65=>exact(Or.inl mE.lk)
 case' d60=>apply A5 ?d66 ?d67
 case' d66=>apply EX ?d68 ?d69 ?_ ?_ ?_
 case' d68=>apply AD (AJ (A8 hr)) AC ?d70 ?d71 ?_
 case' d70=>apply AD (AJ (A8 hr)) AC ?d72 A9 ?_
 case d72=>exact(A1 (AE 1 sG))
 case d71=>exact(A1 (AE 2 mE))
 case' d69=>apply OB ?_ ?d73 ?_ ?_
 case' d73=>apply CL ?d74 ?d75 ?_
 case' d74=>apply C5 ?_
 case' d74=>apply C0 (i:=3) ?d77 ?_ ?d78 ?_
 case d77=>exact BU.nd
 case d78=>exact(Or.inl sF.lk)
 case' d75=>apply CL ?d79 ?d80 ?_
 case' d79=>apply C5 ?_
 case' d79=>apply C0 (i:=5) ?d82 ?_ ?d83 ?_
 case d82=>exact BU.nd
 case d83=>exact(Or.inl wZ.lk)
 case' d80=>apply CL ?d84 ?d85 ?_
 case' d84=>apply C5 ?_
 case' d84=>apply C0 (i:=6) ?d87 ?_ ?d88 ?_
 case d87=>exact BU.nd
 case d88=>exact(Or.inl wP.lk)
 case' d85=>apply CL ?d89 L3 ?_
 case' d89=>apply C5 ?_
 case' d89=>apply C0 (i:=4) ?d91 ?_ ?d92 ?_
 case d91=>exact BU.nd
 case d92=>exact(Or.inl sH.lk)
 case' d67=>apply AA ?_
 case' d67=>apply BS ?d94 ?d95 AY
 case' d94=>apply IB ?_
 case' d94=>apply G2 ?d97 ?_
 case' d97=>apply AG ?d98 ?_ ?d99 ?d100 ?_ ?_
 case d98=>exact CLsame
 case d99=>exact qN
 case' d100=>apply AZ ?d101 ?d102 ?_ ?_
 case' d101=>apply C6 ?d103 ?d104 ?d105 ?d106 ?_ ?d107 ?d108 ?d109 ?_ ?_ ?_
 case d103=>exact T.a_Store
 case d104=>exact T.l_Store
 case d105=>exact T.h_Store_tie
 case d106=>exact O_Store_tie
 case d107=>exact T.b_Store_tie
 case d108=>exact(A1 (AE 0 w4))
 case' d109=>apply BE ?d110 ?_
 case d110=>exact(A1 (AE 2 mE))
 case' d102=>apply C3 ?_
 case' d102=>apply PQ ?d112 ?d113 ?d114 ?d115 ?_ ?_ ?_ ?_
 case d112=>exact(A1 (AE 3 sF))
 case d113=>exact(A1 (AE 5 wZ))
 case d114=>exact(A1 (AE 6 wP))
 case' d115=>apply AG ?d116 ?_ ?d117 ?d118 ?_ ?_
 case d116=>exact CLtold
 case d117=>exact oS
 case' d118=>apply BE ?d119 ?_
 case d119=>exact(A1 (AE 4 sH))
 case' d95=>apply AA ?_
 case' d95=>apply AV HZ
 case' d56=>apply AA ?_
 case' d56=>apply AV HZ
 all_goals (try walk_at "late")
theorem JG (T:Txt P w K mg t):FnOk P w K mg base EW 1 t.f_Store___init__ t.d_Store___init__ ["self"] (FC K DQ):=by
 refine T.F_Store___init__.okM (k:=0) JB rfl fun cdv A outer s H E hr=> ?_
 unfold b_Store___init__
 conv=>arg 2;whnf
 apply A5 ?d1 ?d2
 case' d1=>apply JP ?d3 ?d4 ?d5 ?d6 ?d7 ?_
 case d3=>exact T.a_Store
 case d4=>exact T.l_Store
 case d5=>exact T.n_Store_place_rows
 case d6=>exact(A1 (AE 0 cM))
 case d7=>exact GJ
 case' d2=>apply A5 ?d8 ?d9
 case' d8=>apply JP ?d10 ?d11 ?d12 ?d13 ?d14 ?_
 case d10=>exact T.a_Store
 case d11=>exact T.l_Store
 case d12=>exact T.n_Store_tie_rows
 case d13=>exact(A1 (AE 0 cM))
 case d14=>exact GJ
 case' d9=>apply A5 ?d15 ?d16
 case' d15=>apply JP ?d17 ?d18 ?d19 ?d20 A4 ?_
 case d17=>exact T.a_Store
 case d18=>exact T.l_Store
 case d19=>exact T.n_Store_next_place
 case d20=>exact(A1 (AE 0 cM))
 case' d16=>apply AA ?_
 case' d16=>apply JP ?d22 ?d23 ?d24 ?d25 A4 ?_
 case d22=>exact T.a_Store
 case d23=>exact T.l_Store
 case d24=>exact T.n_Store_next_tie
 case d25=>exact(A1 (AE 0 cM))
 all_goals (try walk_at "late")
theorem i7 (T:Txt P w K mg t):FnOk P w K mg base EW 14 t.f_law t.d_law ["_law_script"] (FC K m_law):=by
 have CLhand:=Cal.of (dO (P:=P) (w:=w) (base:=base) T) T.mLhand T.FLhand.kp T.bLhand
 have CLbegun:=Cal.of (YX (P:=P) (w:=w) (base:=base) T) T.mLbegun T.FLbegun.kp T.bLbegun
 have CLdraw:=Cal.of (JL (P:=P) (w:=w) (base:=base) T) T.mLdraw T.FLdraw.kp T.bLdraw
 have CLmade:=Cal.of (cJ (P:=P) (w:=w) (base:=base) T) T.mLmade T.FLmade.kp T.bLmade
 have CLall_right:=Cal.of (OO (P:=P) (w:=w) (base:=base) T) T.mLall_right T.FLall_right.kp T.bLall_right
 have CLword:=Cal.of (OV (P:=P) (w:=w) (base:=base) T) T.mLword T.FLword.kp T.bLword
 have CLsame:=Cal.of (O2 (P:=P) (w:=w) (base:=base) T 12) T.mLsame T.FLsame.kp T.bLsame
 have CLvalue:=Cal.of (Q8 (P:=P) (w:=w) (base:=base) T) T.mLvalue T.FLvalue.kp T.bLvalue
 have CLdone:=Cal.of (TY (P:=P) (w:=w) (base:=base) T) T.mLdone T.FLdone.kp T.bLdone
 have CLdo:=Cal.of (eO (P:=P) (w:=w) (base:=base) T) T.mLdo T.FLdo.kp T.bLdo
 have O_Store___init__:=JG (P:=P) (w:=w) (base:=base) T
 refine T.F_law.okM (k:=13) EN rfl fun cdv A outer s H E hr=> ?_
 unfold UK
 conv=>arg 2;whnf
 apply A5 ?d1 ?d2
 case' d1=>apply B2 (i:=1) ?d3 ?_ ?d4 ?d5 ?_ ?_
 case d3=>exact EN.nd
 case d4=>exact(Or.inl OG.lk)
 case' d5=>apply AG ?d6 ?_ ?d7 ?d8 ?_ ?_
 case d6=>exact CLhand
 case d7=>exact tX
 case' d8=>apply BE ?d9 ?_
 case d9=>exact(A1 (AE 0 u7))
 case' d2=>apply A5 ?d10 ?d11
 case' d10=>apply jI (i:=2) (j:=3) ?_ ?d12 ?_ ?_ ?_ ?d13 ?d14 ?d15 ?_ ?_
 case d12=>exact EN.nd
 case d13=>exact XV.lk
 case d14=>exact R3.lk
 case' d15=>apply AZ ?d16 ?d17 ?_ ?_
 case' d16=>apply V4 ?d18 ?d19 ?d20 ?_ ?d21 ?d22 ?d23
 case d18=>exact T.a_Store
 case d19=>exact T.k_Store
 case d20=>exact O_Store___init__
 case d21=>exact tN
 case d22=>exact T.g_Store
 case d23=>exact T.b_Store___init__
 case' d17=>apply bJ ?d24 ?_ ?d25
 case d24=>exact CLbegun
 case d25=>exact vG
 case' d11=>apply A5 ?d26 ?d27
 case' d26=>apply BS ?d28 ?d29 AY
 case' d28=>apply PW.pt ?_
 case' d28=>apply NM ?d31 ?d32
 case' d31=>apply IB ?_
 case' d31=>apply G2 ?d34 ?_
 case' d34=>apply AG ?d35 ?_ ?d36 ?d37 ?_ ?_
 case d35=>exact CLmade
 case d36=>exact u3
 case' d37=>apply MB ?d38 ?d39 ?d40 ?_ ?_ ?_
 case d38=>exact(A1 (AE 1 OG))
 case d39=>exact(A1 (AE 2 XV))
 case d40=>exact(A1 (AE 3 R3))
 case' d32=>apply JR ?_
 case' d32=>apply IB ?_
 case' d32=>apply G2 ?d43 ?_
 case' d43=>apply AG ?d44 ?_ ?d45 ?d46 ?_ ?_
 case d44=>exact CLall_right
 case d45=>exact rK
 case' d46=>apply AZ ?d47 ?d48 ?_ ?_
 case d47=>exact(A1 (AE 2 XV))
 case d48=>exact(A1 (AE 3 R3))
 case' d29=>apply AA ?_
 case' d29=>apply AV HZ
 case' d27=>apply A5 ?d50 ?d51
 case' d50=>apply M2 ?_ ?_ ?d52 ?d53 ?d54 ?_
 case' d52=>apply HD ?d55 ?d56 ?d57 ?_
 case d55=>exact uJ.lk
 case d56=>exact T.z_range
 case' d57=>apply BE ?d58 ?_
 case' d58=>apply AG ?d59 ?_ ?d60 ?d61 ?_ ?_
 case d59=>exact CLdraw
 case d60=>exact YG
 case' d61=>apply AZ ?d62 A4 ?_ ?_
 case d62=>exact(A1 (AE 1 OG))
 case' d53=>apply C5 ?_
 case' d53=>apply C0 (i:=4) ?d64 ?_ ?d65 ?_
 case d64=>exact EN.nd
 case d65=>exact(Or.inl uY.lk)
 case' d54=>apply A5 ?d66 ?d67
 case' d66=>apply B2 (i:=5) ?d68 ?_ ?d69 ?d70 ?_ ?_
 case d68=>exact EN.nd
 case d69=>exact(Or.inl aX.lk)
 case' d70=>apply AD (AJ (A8 hr)) AC ?d71 ?d72 ?_
 case' d71=>apply E4 ?_
 case' d71=>apply AZ A9 A9 ?_ ?_
 case' d72=>apply IQ NY XA ?d74 ?d75 ?_ ?d76 ?_ ?_
 case d74=>exact uA
 case d75=>exact T.z_int
 case' d76=>apply BE ?d77 ?_
 case' d77=>apply L6 ?d78 ?d79
 case' d78=>apply GG ?d80 iA ?d81 ?d82 ?_
 case d80=>exact(kP (WN hr))
 case' d81=>apply AD (AJ (A8 hr)) AC ?d83 A9 ?_
 case d83=>exact(A1 (AE 3 R3))
 case d82=>exact e8
 case' d79=>apply OE ?_
 case' d79=>apply GG ?d85 DE ?d86 A4 ?_
 case d85=>exact(CF (DF hr))
 case' d86=>apply AG ?d87 ?_ ?d88 ?d89 ?_ ?_
 case d87=>exact CLdraw
 case d88=>exact YG
 case' d89=>apply AZ ?d90 A4 ?_ ?_
 case d90=>exact(A1 (AE 1 OG))
 case' d67=>apply A5 ?d91 ?d92
 case' d91=>apply B2 (i:=6) ?d93 ?_ ?d94 ?d95 ?_ ?_
 case d93=>exact EN.nd
 case d94=>exact(Or.inl gC.lk)
 case' d95=>apply CQ ?d96 V2 ?d97 ?d98 PyProof.Rows.boot_sorted ?d99 ?_ ?_
 case d96=>exact(QZ rfl)
 case d97=>exact oB
 case d98=>exact T.z_sorted
 case' d99=>apply BE ?d100 ?_
 case' d100=>apply AD (AJ (A8 hr)) AC ?d101 ?d102 ?_
 case d101=>exact(A1 (AE 3 R3))
 case' d102=>apply B1 BJ BX ?_ A9
 case d102=>exact(A1 (AE 5 aX))
 case' d92=>apply A5 ?d104 ?d105
 case' d104=>apply B2 (i:=7) ?d106 ?_ ?d107 ?d108 ?_ ?_
 case d106=>exact EN.nd
 case d107=>exact(Or.inl j5.lk)
 case' d108=>apply AD (AJ (A8 hr)) AC ?d109 ?d110 ?_
 case d109=>exact(A1 (AE 6 gC))
 case' d110=>apply AG ?d111 ?_ ?d112 ?d113 ?_ ?_
 case d111=>exact CLdraw
 case d112=>exact YG
 case' d113=>apply AZ ?d114 ?d115 ?_ ?_
 case d114=>exact(A1 (AE 1 OG))
 case' d115=>apply CQ DR IR ?d116 ?d117 PySem.boot_len ?d118 ?_ ?_
 case d116=>exact rV
 case d117=>exact T.z_len
 case' d118=>apply BE ?d119 ?_
 case d119=>exact(A1 (AE 6 gC))
 case' d105=>apply A5 ?d120 ?d121
 case' d120=>apply B2 (i:=8) ?d122 ?_ ?d123 ?d124 ?_ ?_
 case d122=>exact EN.nd
 case d123=>exact(Or.inl gX.lk)
 case' d124=>apply AD (AJ (A8 hr)) AC ?d125 ?d126 ?_
 case' d125=>apply AD (AJ (A8 hr)) AC ?d127 ?d128 ?_
 case' d127=>apply AD (AJ (A8 hr)) AC ?d129 ?d130 ?_
 case d129=>exact(A1 (AE 3 R3))
 case' d130=>apply B1 BJ BX ?_ A9
 case d130=>exact(A1 (AE 5 aX))
 case d128=>exact(A1 (AE 7 j5))
 case' d126=>apply fL WR WO A4
 case' d121=>apply A5 ?d132 ?d133
 case' d132=>apply B2 (i:=9) ?d134 ?_ ?d135 ?d136 ?_ ?_
 case d134=>exact EN.nd
 case d135=>exact(Or.inl lI.lk)
 case' d136=>apply B1 BJ BX ?d137 ?d138
 case' d137=>apply CQ ?d139 M7 ?d140 ?d141 PyProof.Rows.boot_sorted ?d142 ?_ ?_
 case d139=>exact(IF rfl)
 case d140=>exact oB
 case d141=>exact T.z_sorted
 case' d142=>apply BE ?d143 ?_
 case d143=>exact(A1 (AE 8 gX))
 case' d138=>apply E4 ?_
 case' d138=>apply BE ?d145 ?_
 case' d145=>apply AG ?d146 ?_ ?d147 ?d148 ?_ ?_
 case d146=>exact CLword
 case d147=>exact vD
 case' d148=>apply BE ?d149 ?_
 case d149=>exact(A1 (AE 1 OG))
 case' d133=>apply A5 ?d150 ?d151
 case' d150=>apply B2 (i:=10) ?d152 ?_ ?d153 ?d154 ?_ ?_
 case d152=>exact EN.nd
 case d153=>exact(Or.inl jK.lk)
 case' d154=>apply AD (AJ (A8 hr)) AC ?d155 ?d156 ?_
 case d155=>exact(A1 (AE 9 lI))
 case' d156=>apply AG ?d157 ?_ ?d158 ?d159 ?_ ?_
 case d157=>exact CLdraw
 case d158=>exact YG
 case' d159=>apply AZ ?d160 ?d161 ?_ ?_
 case d160=>exact(A1 (AE 1 OG))
 case' d161=>apply CQ DR IR ?d162 ?d163 PySem.boot_len ?d164 ?_ ?_
 case d162=>exact rV
 case d163=>exact T.z_len
 case' d164=>apply BE ?d165 ?_
 case d165=>exact(A1 (AE 9 lI))
 case' d151=>apply A5 ?d166 ?d167
 case' d166=>apply B2 (i:=11) ?d168 ?_ ?d169 ?d170 ?_ ?_
 case d168=>exact EN.nd
 case d169=>exact(Or.inl gQ.lk)
 case' d170=>apply C3 ?_
 case' d170=>apply PQ ?d172 ?d173 ?d174 ?d175 ?_ ?_ ?_ ?_
 case' d172=>apply B1 BJ BX A9 ?_
 case d172=>exact(A1 (AE 5 aX))
 case d173=>exact(A1 (AE 7 j5))
 case d174=>exact(A1 (AE 10 jK))
 case' d175=>apply AD (AJ (A8 hr)) AC ?d177 ?d178 ?_
 case' d177=>apply E4 ?_
 case' d177=>apply MB GO ?d180 ?d181 ?_ ?_ ?_
 case' d180=>apply AG ?d182 ?_ ?d183 ?d184 ?_ ?_
 case d182=>exact CLvalue
 case d183=>exact tK
 case' d184=>apply BE ?d185 ?_
 case d185=>exact(A1 (AE 1 OG))
 case' d181=>apply FW V1 NG ?d186 P8 ?d187
 case' d186=>apply IQ V6 dJ ?d188 ?d189 ?_ ?d190 ?_ ?_
 case d188=>exact uX
 case d189=>exact T.z_str
 case' d190=>apply BE ?d191 ?_
 case' d191=>apply MD PySem.F.plainAttrs_dict PySem.F.slot_dict_get PySem.F.type_dict_get ?d192 ?d193 dA ?d194 ?d195 ?_ ?_ ?_ ?_ ?_
 case' d192=>apply cK ?_
 case d192=>exact(WN hr)
 case d193=>exact(fun _ _ _ _ _=>LE)
 case d194=>exact(A1 (AE 8 gX))
 case' d195=>apply AZ ?d197 A9 ?_ ?_
 case d197=>exact(A1 (AE 10 jK))
 case' d187=>apply EC A4
 case' d178=>apply AG ?d198 ?_ ?d199 ?d200 ?_ ?_
 case d198=>exact CLdraw
 case d199=>exact YG
 case' d200=>apply AZ ?d201 A4 ?_ ?_
 case d201=>exact(A1 (AE 1 OG))
 case' d167=>apply AA ?_
 case' d167=>apply BS ?d203 ?d204 AY
 case' d203=>apply PW.pt ?_
 case' d203=>apply NM ?d206 ?d207
 case' d206=>apply IB ?_
 case' d206=>apply G2 ?d209 ?_
 case' d209=>apply AG ?d210 ?_ ?d211 ?d212 ?_ ?_
 case d210=>exact CLsame
 case d211=>exact uM
 case' d212=>apply AZ ?d213 ?d214 ?_ ?_
 case' d213=>apply AG ?d215 ?_ ?d216 ?d217 ?_ ?_
 case d215=>exact CLdone
 case d216=>exact tW
 case' d217=>apply AZ ?d218 ?d219 ?_ ?_
 case d218=>exact(A1 (AE 2 XV))
 case d219=>exact(A1 (AE 11 gQ))
 case' d214=>apply AG ?d220 ?_ ?d221 ?d222 ?_ ?_
 case d220=>exact CLdo
 case d221=>exact vP
 case' d222=>apply AZ ?d223 ?d224 ?_ ?_
 case d223=>exact(A1 (AE 3 R3))
 case d224=>exact(A1 (AE 11 gQ))
 case' d207=>apply JR ?_
 case' d207=>apply IB ?_
 case' d207=>apply G2 ?d227 ?_
 case' d227=>apply AG ?d228 ?_ ?d229 ?d230 ?_ ?_
 case d228=>exact CLall_right
 case d229=>exact rK
 case' d230=>apply AZ ?d231 ?d232 ?_ ?_
 case d231=>exact(A1 (AE 2 XV))
 case d232=>exact(A1 (AE 3 R3))
 case' d204=>apply AA ?_
 case' d204=>apply AV HZ
 case' d51=>apply AA ?_
 case' d51=>apply AV HZ
 all_goals (try walk_at "late")
end
end K10
set_option maxHeartbeats 4000000
namespace K10
open PySem L2
local macro_rules| `(tactic|walk_at "e")=> `(tactic|(with_reducible first
 |refine fN ?_|refine rW ?_|refine mP ?_|refine e_sqB ?_|refine e_sqC ?_|refine rB ?_|refine e_lqC ?_|refine e_lqB ?_|refine e_lqR ?_|refine nA ?_|refine mV ?_|refine rN ?_|refine oQ ?_|refine pN ?_|refine qO ?_|refine e_retN ?_|refine lK ?_|refine iN ?_|refine e_brk ?_|refine e_cont ?_
 |refine xY ?_|refine uP ?_|refine uO ?_|refine u5 ?_|refine gK ?_|refine pB ?_|refine jF ?_|refine uE ?_|refine uQ ?_|refine gI ?_|refine mY ?_|refine iU ?_|refine rZ ?_|refine e_or ?_|refine qE ?_|refine mT ?_|refine e_chain ?_|refine cT ?_
 |refine nE ?_|refine pO ?_|refine p4 ?_|refine dZ ?_|refine u6 ?_|refine lH ?_|refine oT ?_|refine Z4 ?_|refine lP ?_|refine ZV ?_
 |(refine pW ?h1 ?_;(case h1=>with_unfolding_all rfl))
 |(refine' N0 ?hv ?_;(case hv=>with_unfolding_all rfl))
 |refine gR ?_|refine iB ?_|refine g6 ?_|refine p_eqTF ?_|refine p_eqFT ?_|refine lF ?_|refine iQ ?_|refine p_neTF ?_|refine p_neFT ?_|refine j3 ?_|refine p_isTT ?_|refine p_isTF ?_|refine p_isFT ?_|refine p_isFF ?_|refine p_isNotTT ?_|refine p_isNotTF ?_|refine p_isNotFT ?_|refine p_isNotFF ?_
 |refine fW ?_|refine gV ?_|refine pA ?_|refine p_leI ?_|refine nW ?_|refine oO ?_|refine p_ltS ?_|refine pK ?_|refine p_neI ?_|refine qD ?_|refine oZ ?_|refine p_eqB ?_|refine p_neB ?_|refine nJ ?_|refine YF ?_|refine p_isB ?_|refine p_isNotB ?_|refine mN ?_|refine nV ?_|refine p_intI ?_|refine jY ?_|refine p_min ?_|refine p_max ?_
 |refine lR ?_|refine lJ ?_|refine p_lenC ?_|refine p_slL ?_|refine nS ?_|refine pF ?_
 |(refine YH ?h1 ?_;(case h1=>with_unfolding_all rfl))
 |(refine p_ixT ?h1 ?_;(case h1=>with_unfolding_all rfl))
 |(refine jM ?h1 ?_;(case h1=>omega))
 |(refine fC ?h1 ?_;(case h1=>omega))
 |(refine qK ?h1 ?_;(case h1=>omega))
 |(refine mW ?h1 ?_;(case h1=>decide))
 |refine T1 ?_|refine pi_non_int ?_|refine pi_non_bool ?_|refine pi_non_tuple ?_|refine pi_non_list ?_|refine pi_bl_str ?_|refine pi_bl_int ?_|refine pi_bl_bool ?_|refine pi_bl_tuple ?_|refine pi_bl_list ?_|refine SO ?_|refine SZ ?_|refine Q3 ?_|refine pi_int_tuple ?_|refine pi_int_list ?_|refine RZ ?_|refine pi_str_int ?_|refine pi_str_bool ?_|refine pi_str_tuple ?_|refine pi_str_list ?_|refine pi_tup_str ?_|refine pi_tup_int ?_|refine pi_tup_bool ?_|refine OC ?_|refine QU ?_|refine pi_lst_str ?_|refine pi_lst_int ?_|refine pi_lst_bool ?_|refine pi_lst_tuple ?_|refine pi_lst_list ?_|refine pi_scr_str ?_|refine pi_scr_int ?_|refine pi_scr_bool ?_|refine pi_scr_tuple ?_|refine pi_scr_list ?_|refine pi_dct_str ?_|refine pi_dct_int ?_|refine pi_dct_bool ?_|refine pi_dct_tuple ?_|refine pi_dct_list ?_
 |(refine eV ⟨?h1,?_⟩;(case h1=>decide))
 |refine eV ?_|refine nK ?_|refine iI ?_))
local macro_rules| `(tactic|walk_at "es")=> `(tactic|repeat (walk_at "e"))
def hd (cs:List Int) (a b c:Int):MO:= .lst [.lst (cs.map M.int), .int a, .int b, .int c]
def P5 (h:A7) (p:Nat) (c:Int):Prop:=∃cs a b,h[p]? =some (hd cs a b c)∧(∀n∈cs,0≤n)∧cs.length≤63∧0≤a∧0≤b∧0≤c
theorem YR {ns:List Int} {i:Int} (h0:0≤i) (h:i<(ns.length:Int)):∃c,c∈ns∧L1 (ns.map M.int) i=some (.int c):=by
 have hk:i.toNat<ns.length:=by omega
 have ek:i=((i.toNat:Nat):Int):=by omega
 refine⟨ns[i.toNat],List.getElem_mem hk,?_⟩
 have z:L1 (ns.map M.int) ((i.toNat:Nat):Int)=some (.int ns[i.toNat]):=HH (by rw[List.getElem?_map,List.getElem?_eq_getElem hk];rfl)
 rwa [←ek]at z
theorem aF {h:A7} {p:Nat} {c many:Int} {R:M→A7→Prop} (hh:P5 h p c) (m1:0<many) (m2:many<1073741824) (m3:c<1000000000)
 (k:∀r h',0≤r→r<many→P5 h' p (c+1)→Kp p h h'→R (.int r) h'):Ens (mLdraw [.ref p, .int many] h) R:=by
 obtain⟨cs,a,b,e,hcs,hl,ha,hb,hc⟩:=hh
 refine BI rfl ?_
 unfold bLdraw
 walk_at "es"
 refine D4 e rfl ?_
 walk_at "es"
 refine U8 (k:=p) (j:=3) rfl rfl e rfl fun h1 e1 k1=> ?_
 replace e1:h1[p]? =some (hd cs a b (c+1)):=e1
 walk_at "e"
 walk_at "e"
 refine join (fun o h2=>(∃r,o= .rt (.int r)∧0≤r∧r<many∧P5 h2 p (c+1)∧Kp p h h2)∨∃a2 b2 v2 v3 v4,o= .nx [some (.ref p),some (.int many),v2,v3,v4,none]∧0≤a2∧0≤b2∧h2[p]? =some (hd cs a2 b2 (c+1))∧Kp p h h2) ?_ ?_
 ·walk_at "es"
  refine D4 e1 rfl ?_
  walk_at "es"
  refine EJ (fun _=> ?_) (fun _=> ?_)
  ·walk_at "e"
   walk_at "e"
   walk_at "e"
   walk_at "e"
   walk_at "e"
   walk_at "e"
   refine join (fun o h2=>∃n,0≤n∧o= .nx [some (.ref p),some (.int many),some (.int n),none,none,none]∧h2=h1) ?_ ?_
   ·walk_at "es"
    refine D4 e1 rfl ?_
    walk_at "es"
    refine EJ (fun hp=> ?_) (fun _=> ?_)
    ·have hp':0<cs.length:=by simpa using of_decide_eq_true hp
     walk_at "es"
     refine D4 e1 rfl ?_
     walk_at "es"
     refine D4 e1 rfl ?_
     walk_at "es"
     refine D4 e1 rfl ?_
     walk_at "e"
     walk_at "e"
     refine fC (by simp;omega) ?_
     obtain⟨n,hn,en⟩:=YR (ns:=cs) (i:=a % ((cs.map M.int).length:Int)) (Int.emod_nonneg _ (by rw[List.length_map];omega)) (by have:=Int.emod_lt_of_pos a (b:=((cs.map M.int).length:Int)) (by rw[List.length_map];omega);simpa using this)
     refine YH en ?_
     walk_at "es"
     exact⟨n,hcs n hn,rfl,rfl⟩
    ·walk_at "es"
     exact⟨0,Int.le_refl _,rfl,rfl⟩
   ·rintro o h2 ⟨n,hn,rfl,rfl⟩
    walk_at "es"
    refine D4 e1 rfl ?_
    walk_at "es"
    refine U8 (k:=p) (j:=1) rfl rfl e1 rfl fun h2 e2 k2=> ?_
    replace e2:h2[p]? =some (hd cs (a+1) b (c+1)):=e2
    walk_at "e"
    walk_at "e"
    refine join (fun o h3=>(∃r,o= .rt (.int r)∧0≤r∧r<many∧h3=h2)∨(o= .nx [some (.ref p),some (.int many),some (.int n),none,none,none]∧h3=h2)) ?_ ?_
    ·walk_at "e"
     refine Ens.mono (Q:=fun _ h3=>h3=h2) ?_ fun t h3 e=> ?_
     ·walk_at "es"
      refine EJ (fun _=>rfl) (fun _=> ?_)
      walk_at "es"
      refine D4 e2 rfl ?_
      walk_at "es"
      refine D4 e2 rfl ?_
      walk_at "es"
      rfl
     ·subst e
      refine EJ (fun _=> ?_) (fun _=> ?_)
      ·walk_at "es"
       refine D4 e2 rfl ?_
       walk_at "es"
       refine D4 e2 rfl ?_
       walk_at "es"
       refine D4 e2 rfl ?_
       walk_at "es"
       refine D4 e2 rfl ?_
       walk_at "es"
       exact .inl ⟨_,rfl,Int.emod_nonneg _ (by omega),Int.emod_lt_of_pos _ m1,rfl⟩
      ·walk_at "es"
       exact .inr ⟨rfl,rfl⟩
    ·rintro o h3 (⟨r,rfl,r0,r1,rfl⟩|⟨rfl,rfl⟩)
     ·exact .inl ⟨r,rfl,r0,r1,⟨cs,_,_,e2,hcs,hl,by omega,hb,by omega⟩,k1.trans k2⟩
     ·walk_at "es"
      refine U8 (k:=p) (j:=2) rfl rfl e2 rfl fun h3 e3 k3=> ?_
      exact .inr ⟨_,_,_,_,_,rfl,by omega,hn,e3,(k1.trans k2).trans k3⟩
  ·walk_at "es"
   exact .inr ⟨a,b,_,_,_,rfl,ha,hb,e1,k1⟩
 ·rintro o h2 (⟨r,rfl,r0,r1,hh2,k2⟩|⟨a2,b2,v2,v3,v4,rfl,ha2,hb2,e2,k2⟩)
  ·exact k r h2 r0 r1 hh2 k2
  ·walk_at "es"
   refine D4 e2 rfl ?_
   walk_at "es"
   refine D4 e2 rfl ?_
   walk_at "es"
   refine U8 (k:=p) (j:=2) rfl rfl e2 rfl fun h3 e3 k3=> ?_
   walk_at "es"
   exact k _ _ (Int.emod_nonneg _ (by omega)) (Int.emod_lt_of_pos _ m1) ⟨cs,a2,_,e3,hcs,hl,ha2,Int.ediv_nonneg hb2 (by omega),by omega⟩ (k2.trans k3)
def Hd (o:MO) (c:Int):Prop:=∃cs a b n,o=hd cs a b n∧n≤c∧(∀n∈cs,0≤n)∧cs.length≤63∧0≤a∧0≤b∧0≤n
theorem Hd.mono {o:MO} {c c':Int} (h:Hd o c) (hc:c≤c'):Hd o c':=by
 obtain⟨cs,a,b,n,e,hn,r⟩:=h
 exact⟨cs,a,b,n,e,by omega,r⟩
theorem X7 {o:MO} {t:A7} {c many:Int} {R:M→A7→Prop} (hh:Hd o c) (m1:0<many) (m2:many<1073741824) (m3:c<1000000000)
 (k:∀r o',0≤r→r<many→Hd o' (c+1)→R (.int r) (o'::t)):Ens (mLdraw [.ref 0, .int many] (o::t)) R:=by
 obtain⟨cs,a,b,n,rfl,hn,h1,h2,h3,h4,h5⟩:=hh
 refine aF (p:=0) (c:=n) ⟨cs,a,b,rfl,h1,h2,h3,h4,h5⟩ m1 m2 (by omega) fun r h' r0 r1 hh' kp=> ?_
 obtain⟨cs',a',b',e,q1,q2,q3,q4,q5⟩:=hh'
 cases h' with
 |nil=>simp at e
 |cons o' t'=>
  have et:t'=t:=by
   apply List.ext_getElem?
   intro i
   simpa using kp.2 (i+1) (by omega)
  subst et
  have eo:o'=hd cs' a' b' (n+1):=by simpa using e
  exact k r o' r0 r1 ⟨cs',a',b',n+1,eo,by omega,q1,q2,q3,q4,q5⟩
local macro_rules| `(tactic|walk_at "w")=> `(tactic|repeat (first|(with_reducible refine SN ?_)|(with_reducible refine gB ?_)|(with_reducible refine lO ?_)|walk_at "e"|(with_reducible refine RK (by simp) ?_)|(with_reducible refine⟨_,rfl,?_⟩)|((with_reducible refine X7 (by assumption) (by first|omega|decide) (by first|omega|decide) (by omega) ?_);intro _ _ _ _ _)))
def VN (c:Nat):Bool:=decide (97≤c)&&decide (c≤122)
def Nm (z:Str):Prop:=1≤z.length∧z.length≤8∧z.cps.toList.all VN=true
def IsVal (v:M):Prop:=(∃i:Int,v= .int i∧i.natAbs<1000000000000000)∨∃z:Str,v= .str z∧z.length≤100
theorem IsVal.pu {v:M} (h:IsVal v) {k:Nat}:Pu k v:=by
 rcases h with⟨i,rfl,_⟩|⟨z,rfl,hz⟩
 ·exact Pu.int
 ·exact Pu.str hz
def t5 (z:Str):Bool:=decide (1≤z.length)&&decide (z.length≤8)&&z.cps.toList.all VN
theorem eZ {z:Str} (h:t5 z=true):Nm z:=by
 unfold t5 at h
 simp only[Bool.and_eq_true,decide_eq_true_eq]at h
 exact⟨h.1.1,h.1.2,h.2⟩
theorem kT {ss:List Str} (h:ss.all t5=true):∀x∈ss.map M.str,∃z,x= .str z∧Nm z:=fun x hx=>by
 obtain⟨z,hz,rfl⟩:=List.mem_map.mp hx
 exact⟨z,rfl,eZ (List.all_eq_true.mp h z hz)⟩
theorem cU {ss:List Str} (h:ss.all (fun z=>decide (z.length≤100))=true):∀x∈ss.map M.str,IsVal x:=fun x hx=>by
 obtain⟨z,hz,rfl⟩:=List.mem_map.mp hx
 exact .inr ⟨z,rfl,of_decide_eq_true (List.all_eq_true.mp h z hz)⟩
theorem RE:∀{cs:List Str},(∀c∈cs,c.length=1)→(cs.map (·.length)).sum=cs.length
 |[],_=>rfl
 |c::cs,h=>by
  rw[List.map_cons,List.sum_cons,RE fun d hd=>h d (List.mem_cons_of_mem _ hd),h c List.mem_cons_self,List.length_cons];omega
theorem NI:∀{cs:List Str},(∀c∈cs,c.length=1)→((cs.map fun c=>c.cps.toList).flatten).length=cs.length
 |[],_=>rfl
 |c::cs,h=>by
  rw[List.map_cons,List.flatten_cons,List.length_append,NI fun d hd=>h d (List.mem_cons_of_mem _ hd),List.length_cons]
  have:c.cps.toList.length=1:=by have:=h c List.mem_cons_self;simpa[Str.length]using this
  omega
theorem aK {cs:List Str} (h1:1≤cs.length) (h8:cs.length≤8) (h:∀c∈cs,c.length=1∧c.cps.toList.all VN=true):Nm (Txt.join "" cs):=by
 have e:=WL (z:= "") (by decide+kernel) cs
 have hl:(Txt.join "" cs).length=cs.length:=by
  have:=congrArg List.length e
  rw[NI fun c hc=>(h c hc).1]at this
  simpa[Str.length]using this
 refine⟨by omega,by omega,?_⟩
 rw[e,List.all_eq_true]
 intro x hx
 obtain⟨l,hl,hxl⟩:=List.mem_flatten.mp hx
 obtain⟨c,hc,rfl⟩:=List.mem_map.mp hl
 exact List.all_eq_true.mp (h c hc).2 x hxl
theorem fF {o:MO} {t:A7} {c:Int} {R:M→A7→Prop} (hh:Hd o c) (m3:c<900000000) (k:∀z o',Nm z→Hd o' (c+11)→R (.str z) (o'::t)):Ens (mLword [.ref 0] (o::t)) R:=by
 refine BI rfl ?_
 unfold bLword
 walk_at "w"
 refine EJ (fun _=> ?_) (fun _=> ?_)
 ·walk_at "w"
  refine GR (by assumption) (by assumption) fun x hx=> ?_
  obtain⟨z,rfl,hz⟩:=kT (ss:=["b","aa","zebra","c","quartzes","ab","m","knows","d","mm","likes","z","a","age"]) (by decide+kernel) x hx
  walk_at "w"
  exact k z _ hz (Hd.mono (by assumption) (by omega))
 ·walk_at "w"
  refine WX ?_
  walk_at "w"
  refine⟨rfl,?_⟩
  walk_at "w"
  refine TN ?_
  walk_at "w"
  rename_i r o2 m0 m1 hm
  refine⟨by omega,by simp;omega,?_⟩
  refine PB (fun i acc h'=>∃ss:List Str,acc=ss.map .str∧ss.length=i∧(∀z∈ss,z.length=1∧z.cps.toList.all VN=true)∧∃o',h'=o'::t∧Hd o' (c+2+i)) ⟨[],rfl,rfl,by simp,_,rfl,Hd.mono (by assumption) (by omega)⟩ ?_ ?_
  ·rintro i x acc h' hx ⟨ss,rfl,rfl,hs,o',rfl,ho⟩
   have hi:ss.length<8:=by have:=(List.getElem?_eq_some_iff.mp hx).1;simp at this;omega
   walk_at "w"
   refine hX (by decide+kernel) (by assumption) (by assumption) fun x hx=> ?_
   have hl:VN x=true:=List.all_eq_true.mp (show("abcdefghijklmnopqrstuvwxyz":Str).cps.toList.all VN=true by decide+kernel) x hx
   refine⟨ss++[⟨#[x]⟩],by simp,by simp,fun z hz=> ?_,_,rfl,Hd.mono (by assumption) (by omega)⟩
   rcases List.mem_append.mp hz with hz|hz
   ·exact hs z hz
   ·rw[List.mem_singleton.mp hz]
    exact⟨rfl,by simpa using hl⟩
  ·rintro acc h' ⟨ss,rfl,hl,hs,o',rfl,ho⟩
   have hl':ss.length=(1+r).toNat:=by rw[hl];simp
   walk_at "w"
   refine kN (by rw[RE fun z hz=>(hs z hz).1,show("":Str).length=0 from rfl];omega) ?_
   walk_at "w"
   exact k _ _ (aK (by omega) (by omega) hs) (Hd.mono ho (by omega))
theorem XG {o:MO} {t:A7} {c:Int} {R:M→A7→Prop} (hh:Hd o c) (m3:c<900000000) (k:∀v o',IsVal v→Hd o' (c+6)→R v (o'::t)):Ens (mLvalue [.ref 0] (o::t)) R:=by
 refine BI rfl ?_
 unfold bLvalue
 walk_at "w"
 refine GR (by assumption) (by assumption) fun x hx=> ?_
 have hx':IsVal x:=by
  simp only[List.mem_cons,List.not_mem_nil,or_false]at hx
  have e12:(10:Int)^Int.toNat 12=1000000000000:=by decide
  have e11:(10:Int)^Int.toNat 11=100000000000:=by decide
  have e6:(10:Int)^Int.toNat 6=1000000:=by decide
  simp only[e12,e11,e6]at*
  rcases hx with rfl|rfl|rfl<;>exact .inl ⟨_,rfl,by omega⟩
 clear hx
 walk_at "w"
 refine GR (by assumption) (by assumption) fun y hy=> ?_
 have hy':=cU (ss:=["","b","aa","B","ab c","12","-3","~"," ","a","zzzzzzzzzzzzzzzzzzzz","0"]) (by decide+kernel) y hy
 clear hy
 walk_at "w"
 refine GR (by assumption) (by assumption) fun i hi=> ?_
 have hi':∃j,i= .int j∧0≤j∧j<4:=by
  simp only[List.mem_cons,List.not_mem_nil,or_false]at hi
  rcases hi with rfl|rfl|rfl|rfl|rfl<;>exact⟨_,rfl,by decide,by decide⟩
 obtain⟨j,rfl,j0,j1⟩:=hi'
 refine GR j0 (by simpa using j1) fun v hv=> ?_
 have hv':IsVal v:=by
  simp only[List.mem_cons,List.not_mem_nil,or_false]at hv
  rcases hv with rfl|rfl|rfl|rfl
  ·exact .inl ⟨_,rfl,by omega⟩
  ·exact .inl ⟨_,rfl,by omega⟩
  ·exact hx'
  ·exact hy'
 walk_at "w"
 exact k v _ hv' (Hd.mono (by assumption) (by omega))
def AN (kvs:List (Str×M)):List (AI×M):=kvs.map fun kv=>(.inr kv.1,kv.2)
structure Fl (kvs:List (Str×M)):Prop where
 nd:(kvs.map (·.1)).Nodup
 nm:∀kv∈kvs,Nm kv.1
 val:∀kv∈kvs,IsVal kv.2
def JY (kvs:List (Str×M)) (z:Str) (v:M):List (Str×M):=if(kvs.any fun kv=>decide (kv.1=z)) then kvs.map fun kv=>if kv.1=z then(kv.1,v) else kv else kvs++[(z,v)]
theorem YA {kvs:List (Str×M)} {z:Str} {v:M}:FY (AN kvs) (.inr z) v=AN (JY kvs z v):=by
 have ha:((AN kvs).any fun kv=>decide (kv.1=(Sum.inr z:AI)))=kvs.any fun kv=>decide (kv.1=z):=by
  unfold AN
  rw[List.any_map]
  congr 1
  funext kv
  simp
 unfold FY JY
 rw[ha]
 split
 ·unfold AN
  rw[List.map_map,List.map_map]
  refine List.map_congr_left fun kv _=> ?_
  by_cases h:kv.1=z
  ·simp[h]
  ·simp[h]
 ·unfold AN
  simp
theorem Fl.put {kvs:List (Str×M)} {z:Str} {v:M} (f:Fl kvs) (hz:Nm z) (hv:IsVal v):Fl (JY kvs z v)∧(JY kvs z v).length≤kvs.length+1:=by
 unfold JY
 split
 ·refine⟨⟨?_,fun kv hk=> ?_,fun kv hk=> ?_⟩,by simp⟩
  ·rw[List.map_map]
   have:((fun kv:Str×M=>kv.1)∘fun kv=>if kv.1=z then(kv.1,v) else kv)=fun kv=>kv.1:=by
    funext kv
    by_cases h:kv.1=z<;>simp[h]
   rw[this];exact f.nd
  ·obtain⟨kv',h',rfl⟩:=List.mem_map.mp hk
   by_cases h:kv'.1=z
   ·rw[if_pos h];exact f.nm kv' h'
   ·rw[if_neg h];exact f.nm kv' h'
  ·obtain⟨kv',h',rfl⟩:=List.mem_map.mp hk
   by_cases h:kv'.1=z
   ·rw[if_pos h];exact hv
   ·rw[if_neg h];exact f.val kv' h'
 ·rename_i hn
  refine⟨⟨?_,fun kv hk=> ?_,fun kv hk=> ?_⟩,by simp⟩
  ·rw[List.map_append,List.nodup_append]
   refine⟨f.nd,by simp,fun x hx y hy e=>hn ?_⟩
   simp only[List.map_cons,List.map_nil,List.mem_singleton]at hy
   subst hy e
   obtain⟨kv,hk,rfl⟩:=List.mem_map.mp hx
   exact List.any_eq_true.mpr ⟨kv,hk,decide_eq_true rfl⟩
  ·rcases List.mem_append.mp hk with hk|hk
   ·exact f.nm kv hk
   ·rw[List.mem_singleton.mp hk];exact hz
  ·rcases List.mem_append.mp hk with hk|hk
   ·exact f.val kv hk
   ·rw[List.mem_singleton.mp hk];exact hv
theorem UB {o:MO} {t:A7} {c most:Int} {R:M→A7→Prop} (hh:Hd o c) (m3:c<800000000) (h0:0≤most) (h9:most≤9)
 (k:∀kvs o',Fl kvs→kvs.length≤most→Hd o' (c+200)→R (.ref (t.length+1)) (o'::(t++[.dct (AN kvs)]))):Ens (mLfields [.ref 0, .int most] (o::t)) R:=by
 refine BI rfl ?_
 unfold bLfields
 walk_at "e"
 walk_at "e"
 refine J6 ?_
 simp only[List.cons_append]
 walk_at "w"
 refine TN ?_
 walk_at "w"
 rename_i r o2 r0 r1 ho2
 refine⟨by omega,?_⟩
 refine LA (fun i ρ h'=>∃v3 kvs o',ρ=[some (.ref 0),some (.int most),some (.ref (o::t).length),v3]∧h'=o'::(t++[.dct (AN kvs)])∧Fl kvs∧kvs.length≤i∧Hd o' (c+1+17*i)) ⟨_,[],o2,rfl,rfl,⟨by simp,by simp,by simp⟩,by simp,ho2.mono (by omega)⟩ ?_ ?_
 ·rintro i x ρ h' hx ⟨v3,kvs,o',rfl,rfl,fl,hl,ho⟩
  have hi:i<10:=by have:=(List.getElem?_eq_some_iff.mp hx).1;simp at this;omega
  walk_at "w"
  refine G7 ?_
  walk_at "w"
  refine XG ho (by omega) fun v o3 hv ho3=> ?_
  walk_at "w"
  refine fF ho3 (by omega) fun z o4 hz ho4=> ?_
  have eat:(o4::(t++[MO.dct (AN kvs)]))[(o::t).length]? =some (.dct (AN kvs)):=by simp
  refine⟨_, .inr z,AN kvs,rfl,rfl,eat,by unfold AN;rw[List.length_map];omega,?_⟩
  obtain⟨f2,l2⟩:=fl.put hz hv
  rw[YA]
  refine⟨_,JY kvs z v,o4,rfl,?_,f2,by omega,ho4.mono (by omega)⟩
  rw[List.length_cons,List.set_cons_succ,mX rfl]
 ·rintro ρ h' ⟨v3,kvs,o',rfl,rfl,fl,hl,ho⟩
  rw[List.length_map,List.length_range]at hl ho
  walk_at "w"
  exact k kvs o' fl (by omega) (ho.mono (by omega))
def ab (n:Int):Int:=if n<0 then-n else n
theorem pG {ns:List Int} (hl:ns.length≤63):ID (ns.map M.int) none (some 63)=ns.map M.int:=by
 unfold ID
 have:=HT.UT (ns.map M.int).length (ns.map M.int).length 63
 rw[HT.R7]
 have e:HT.CZ (ns.map M.int).length (ns.map M.int).length (some 63)=(ns.map M.int).length:=by
  have h2:((63:Nat):Int)=63:=rfl
  rw[h2]at this
  rw[this];simp;omega
 rw[e,List.drop_zero,Nat.sub_zero,List.take_length]
theorem bY {ns:List Int} {h:A7} {R:M→A7→Prop} (hl:ns.length≤63) (k:P5 (h++[hd (ns.map ab) 0 0 0]) h.length 0→R (.ref h.length) (h++[hd (ns.map ab) 0 0 0])):Ens (mLhand [.scr ns] h) R:=by
 refine BI rfl ?_
 unfold bLhand
 walk_at "es"
 refine r9 ?_
 walk_at "es"
 refine⟨_,rfl,?_⟩
 walk_at "es"
 refine⟨_,rfl,?_⟩
 rw[pG hl]
 refine⟨by simp;omega,?_⟩
 refine PB (fun i acc h'=>acc=((ns.take i).map ab).map M.int∧h'=h) ⟨by simp,rfl⟩ ?_ ?_
 ·rintro i x acc h' hx ⟨rfl,rfl⟩
  rw[List.getElem?_map]at hx
  cases q:ns[i]?with
  |none=>rw[q]at hx;cases hx
  |some n=>
   rw[q]at hx
   cases hx
   walk_at "es"
   refine⟨?_,rfl⟩
   rw[ML q]
   simp[ab]
 ·rintro acc h' ⟨rfl,rfl⟩
  walk_at "es"
  refine⟨by simp,?_⟩
  have e:((ns.take (ns.map M.int).length).map ab).map M.int=(ns.map ab).map M.int:=by simp
  rw[e]
  walk_at "es"
  refine k ⟨ns.map ab,0,0,by simp,fun n hn=> ?_,by simpa using hl,by omega,by omega,by omega⟩
  obtain⟨m,_,rfl⟩:=List.mem_map.mp hn
  unfold ab
  split<;>omega
theorem pR {ns:List Int} {R:M→A7→Prop} (hl:ns.length≤63) (k:∀o,Hd o 0→R (.ref 0) [o]):Ens (mLhand [.scr ns] []) R:=
 bY (h:=[]) hl fun hh=>by
  obtain⟨cs,a,b,e,h1,h2,h3,h4,h5⟩:=hh
  refine k _ ⟨cs,a,b,0,?_,Int.le_refl _,h1,h2,h3,h4,h5⟩
  simpa using e
theorem VL {l:List Str}:CI (CI l)=CI l:=HI JA (List.mergeSort_perm _ KG) (FL _) (FL _)
theorem M9 {l:List Str}:(CI l).length=l.length:=(List.mergeSort_perm l KG).length_eq
def G0 (kvs:List (Str×M)) (z:Str):M:=(B6 (AN kvs) (.inr z)).getD .non
def HN (kvs:List (Str×M)):List (Str×M):=(CI (kvs.map (·.1))).map fun z=>(z,G0 kvs z)
def RM (kv:Str×M):M:= .tup [.str kv.1,kv.2]
def C2 (kvs:List (Str×M)):List M:=(HN kvs).map RM
theorem DD {kvs:List (Str×M)}:(AN kvs).length=kvs.length:=by unfold AN;rw[List.length_map]
theorem HF {kvs:List (Str×M)}:(HN kvs).length=kvs.length:=by unfold HN;rw[List.length_map,M9,List.length_map]
theorem GH:∀{kvs:List (Str×M)},GQ (AN kvs)=some (kvs.map (·.1))
 |[]=>rfl
 |kv::kvs=>by
  show(GQ (AN kvs)).map (kv.1:: ·)=_
  rw[GH];rfl
theorem aA {kvs:List (Str×M)}:NW (AN kvs) (kvs.map (·.1))=C2 kvs:=by
 unfold NW C2 HN
 rw[List.map_map]
 rfl
theorem M8:∀{kvs:List (Str×M)},GE (kvs.map RM)=some (AN kvs)
 |[]=>rfl
 |kv::kvs=>by
  show(GE (kvs.map RM)).map (((Sum.inr kv.1:AI),kv.2):: ·)=_
  rw[M8];rfl
theorem FP:∀{kvs:List (Str×M)} {kv:Str×M},(kvs.map (·.1)).Nodup→kv∈kvs→B6 (AN kvs) (.inr kv.1)=some kv.2
 |[],_,_,h=>by cases h
 |x::r,kv,hn,h=>by
  rw[List.map_cons,List.nodup_cons]at hn
  rcases List.mem_cons.mp h with rfl|h
  ·simp[B6,AN]
  ·have hne:x.1≠kv.1:=fun e=>hn.1 (by rw[e];exact List.mem_map_of_mem h)
   have ih:=FP hn.2 h
   unfold B6 AN at ih⊢
   rw[List.map_cons,List.find?_cons]
   simp only[Sum.inr.injEq,hne,decide_false]
   exact ih
theorem PH {kvs:List (Str×M)} {z:Str} (f:Fl kvs) (hz:z∈kvs.map (·.1)):B6 (AN kvs) (.inr z)=some (G0 kvs z)∧IsVal (G0 kvs z):=by
 obtain⟨kv,hk,rfl⟩:=List.mem_map.mp hz
 have e:=FP f.nd hk
 unfold G0
 rw[e]
 exact⟨rfl,f.val kv hk⟩
theorem Q2 {kvs:List (Str×M)}:(HN kvs).map (·.1)=CI (kvs.map (·.1)):=by
 unfold HN
 rw[List.map_map]
 exact List.map_id _
theorem EF {l:List Str} {z:Str}:z∈CI l↔z∈l:=(List.mergeSort_perm l KG).mem_iff
theorem Fl.sk {kvs:List (Str×M)} (f:Fl kvs):Fl (HN kvs):=by
 refine⟨?_,fun kv hk=> ?_,fun kv hk=> ?_⟩
 ·rw[Q2]
  exact(List.mergeSort_perm _ KG).nodup_iff.mpr f.nd
 ·obtain⟨z,hz,rfl⟩:=List.mem_map.mp hk
  obtain⟨kv',h',rfl⟩:=List.mem_map.mp (EF.mp hz)
  exact f.nm kv' h'
 ·obtain⟨z,hz,rfl⟩:=List.mem_map.mp hk
  exact(PH f (EF.mp hz)).2
theorem oK {kvs:List (Str×M)} (f:Fl kvs):HN (HN kvs)=HN kvs:=by
 show(CI ((HN kvs).map (·.1))).map (fun z=>(z,G0 (HN kvs) z))=(CI (kvs.map (·.1))).map fun z=>(z,G0 kvs z)
 rw[Q2,VL]
 refine List.map_congr_left fun z hz=> ?_
 have hm:(z,G0 kvs z)∈HN kvs:=List.mem_map.mpr ⟨z,hz,rfl⟩
 have e:=FP (kv:=(z,G0 kvs z)) f.sk.nd hm
 show(z,G0 (HN kvs) z)=_
 have:G0 (HN kvs) z=G0 kvs z:=by
  show(B6 (AN (HN kvs)) (.inr z)).getD .non=_
  rw[e];rfl
 rw[this]
theorem MJ:∀{more acc:List (AI×M)},((acc++more).map (·.1)).Nodup→DG acc more=acc++more
 |[],acc,_=>by rw[List.append_nil];rfl
 |kv::more,acc,h=>by
  have hp:FY acc kv.1 kv.2=acc++[kv]:=by
   unfold FY
   rw[if_neg]
   intro z
   obtain⟨p,hp,e⟩:=List.any_eq_true.mp z
   have e':p.1=kv.1:=of_decide_eq_true e
   rw[List.map_append,List.map_cons,List.nodup_append]at h
   exact h.2.2 p.1 (List.mem_map_of_mem hp) kv.1 List.mem_cons_self e'
  show DG (FY acc kv.1 kv.2) more=_
  rw[hp,MJ (by rw[List.append_assoc];exact h),List.append_assoc];rfl
theorem U4 {kvs:List (Str×M)} (hn:(kvs.map (·.1)).Nodup):DG [] (AN kvs)=AN kvs:=by
 refine MJ ?_
 rw[List.nil_append]
 have e:(AN kvs).map (·.1)=(kvs.map (·.1)).map (Sum.inr:Str→AI):=by unfold AN;rw[List.map_map,List.map_map];rfl
 rw[e]
 exact hn.map Sum.inr (fun a b h z=>h (Sum.inr.inj z))
theorem HE {h:A7} {k:Nat} {kvs:List (AI×M)} (e:h[k]? =some (.dct kvs)):FN [.ref k] h=some (HS kvs):=by
 show(match BK h (.ref k) with|some kvs=>some (HS kvs)|none=>_)=_
 rw[BA e]
theorem VF {h:A7} {kvs:List (Str×M)} (f:Fl kvs) (hl:kvs.length≤1000):FN [.tup (kvs.map RM)] h=some (HS (AN kvs)):=by
 show(GE (kvs.map RM)).bind _=_
 rw[M8,Option.bind_some,if_pos (by rw[DD];omega),U4 f.nd]
theorem IZ {x:M} {h:A7} {kvs:List (Str×M)} {R:M→A7→Prop} (e:FN [x] h=some (HS (AN kvs))) (hl:kvs.length<64) (k:R (.tup (C2 kvs)) h):Ens (m_fields_told [x] h) R:=by
 refine BI rfl ?_
 unfold b_fields_told
 walk_at "w"
 refine vV e ?_
 refine R9 DU GH (by rw[DD];omega) ?_
 walk_at "w"
 refine⟨_,rfl,?_⟩
 rw[aA]
 walk_at "w"
 exact k
theorem XW {kvs:List (Str×M)} (f:Fl kvs):(kvs.map (·.1)).map (fun z=>(z,G0 kvs z))=kvs:=by
 rw[List.map_map]
 have:∀l:List (Str×M),(∀kv∈l,kv∈kvs)→l.map ((fun z=>(z,G0 kvs z))∘fun kv:Str×M=>kv.1)=l:=by
  intro l
  induction l with
  |nil=>intro _;rfl
  |cons kv r ih=>
   intro h
   have e:=FP f.nd (h kv List.mem_cons_self)
   rw[List.map_cons,ih fun x hx=>h x (List.mem_cons_of_mem _ hx)]
   show(kv.1,G0 kvs kv.1)::r=_
   unfold G0
   rw[e];rfl
 exact this kvs fun _ h=>h
theorem cI {kvs:List (Str×M)} (f:Fl kvs):(HN kvs).Perm kvs:=by
 have h:=(List.mergeSort_perm (kvs.map (·.1)) KG).map (fun z=>(z,G0 kvs z))
 rw[XW f]at h
 exact h
theorem Fl.perm {A B:List (Str×M)} (f:Fl A) (p:A.Perm B):Fl B:=
 ⟨(p.map _).nodup_iff.mp f.nd,fun kv hk=>f.nm kv (p.mem_iff.mpr hk),fun kv hk=>f.val kv (p.mem_iff.mpr hk)⟩
theorem lU {A B:List (Str×M)} (f:Fl A) (p:A.Perm B):HN A=HN B:=by
 have g:=f.perm p
 have e:CI (A.map (·.1))=CI (B.map (·.1)):=HI JA ((List.mergeSort_perm _ KG).trans ((p.map _).trans (List.mergeSort_perm _ KG).symm)) (FL _) (FL _)
 unfold HN
 rw[e]
 refine List.map_congr_left fun z hz=> ?_
 obtain⟨kv,hk,rfl⟩:=List.mem_map.mp (EF.mp hz)
 have e1:=FP g.nd hk
 have e2:=FP f.nd (p.mem_iff.mpr hk)
 unfold G0
 rw[e1,e2]
def DZ (kvs:List (Str×M)) (z:Str) (v:M):List (Str×M):=(kvs.filter fun kv=> !(kv.1==z))++if X1 v=true then[] else[(z,v)]
theorem MG {kvs:List (Str×M)} {z:Str} {v:M}:(DZ kvs z v).length≤kvs.length+1:=by
 unfold DZ
 have:=List.length_filter_le (fun kv:Str×M=> !(kv.1==z)) kvs
 split<;>simp<;>omega
theorem KR {kvs:List (Str×M)} {z:Str} {v:M} (f:Fl kvs) (hz:Nm z) (hv:v= .non∨IsVal v):Fl (DZ kvs z v):=by
 have ff:Fl (kvs.filter fun kv=> !(kv.1==z)):=⟨(List.Sublist.map _ List.filter_sublist).nodup f.nd,fun kv hk=>f.nm kv (List.mem_filter.mp hk).1,fun kv hk=>f.val kv (List.mem_filter.mp hk).1⟩
 unfold DZ
 by_cases hn:X1 v=true
 ·rw[if_pos hn,List.append_nil];exact ff
 ·rw[if_neg hn]
  have hv':IsVal v:=by
   rcases hv with rfl|hv
   ·exact absurd rfl hn
   ·exact hv
  refine⟨?_,fun kv hk=> ?_,fun kv hk=> ?_⟩
  ·rw[List.map_append,List.nodup_append]
   refine⟨ff.nd,by simp,fun x hx y hy e=> ?_⟩
   simp only[List.map_cons,List.map_nil,List.mem_singleton]at hy
   subst hy e
   obtain⟨kv,hk,e⟩:=List.mem_map.mp hx
   have:=(List.mem_filter.mp hk).2
   rw[e]at this
   simp at this
  ·rcases List.mem_append.mp hk with hk|hk
   ·exact ff.nm kv hk
   ·rw[List.mem_singleton.mp hk];exact hz
  ·rcases List.mem_append.mp hk with hk|hk
   ·exact ff.val kv hk
   ·rw[List.mem_singleton.mp hk];exact hv'
theorem TU {kvs:List (Str×M)} {z:Str} {v:M} (f:Fl kvs) (hz:Nm z) (hv:v= .non∨IsVal v):C2 (DZ (HN kvs) z v)=C2 (DZ kvs z v):=by
 unfold C2
 rw[lU (KR f.sk hz hv) (B:=DZ kvs z v) (((cI f).filter _).append_right _)]
theorem nG {ma:FE} {ρ:B4} {h:A7} {R:M→A7→Prop} (q:Ens (ma ρ h) fun x h1=>∃xs,x= .lst xs∧R (.ref h1.length) (h1++[.lst xs])):Ens (dW ma ρ h) R:= .bnd (q.mono fun x h1 q=>by
 obtain⟨xs,rfl,q⟩:=q
 exact⟨_,_,rfl,q⟩)
theorem NJ {h:A7} {k:Nat} {kvs:List (Str×M)} (e:h[k]? =some (.lst (kvs.map RM))) (f:Fl kvs) (hl:kvs.length≤1000):FN [.ref k] h=some (HS (AN kvs)):=by
 unfold FN
 dsimp only
 have e1:BK h (.ref k)=none:=by unfold BK;simp only[e]
 rw[e1]
 have e2:UZ h (.ref k)=some (kvs.map RM):=by unfold UZ KP;exact cN e
 dsimp only
 rw[e2,Option.bind_some,M8,Option.bind_some,if_pos (by rw[DD];omega),U4 f.nd]
theorem T8 {kvs:List (Str×M)} {z:Str} {v:M} {h:A7} {R:M→A7→Prop} (f:Fl kvs) (hz:Nm z) (hv:v= .non∨IsVal v) (hl:kvs.length<60) (k:∀u,R (.tup (C2 (DZ kvs z v))) (h++[u])):Ens (m_with_value [.tup (C2 kvs), .str z,v] h) R:=by
 refine BI rfl ?_
 unfold b_with_value
 walk_at "w"
 refine nG ?_
 walk_at "w"
 refine kK ?_
 have hsl:(C2 kvs).length=kvs.length:=by unfold C2;rw[List.length_map,HF]
 walk_at "es"
 refine⟨_,rfl,?_⟩
 refine⟨by show(C2 kvs).length≤16777216;omega,?_⟩
 refine OY (p:=fun x=>match x with| .tup (.str a::_)=> !(a==z)|_=>false) (f:=id) (fun x hx=> ?_) ?_
 ·obtain⟨kv,hk,rfl⟩:=List.mem_map.mp hx
  unfold RM
  walk_at "w"
  refine⟨rfl,?_⟩
  walk_at "w"
  refine mU ?_
  walk_at "w"
  refine⟨rfl,rfl,fun _=> ?_⟩
  walk_at "w"
  exact⟨rfl,rfl⟩
 have ef:(((C2 kvs).filter fun x=>match x with| .tup (.str a::_)=> !(a==z)|_=>false).map id)=((HN kvs).filter fun kv=> !(kv.1==z)).map RM:=by
  unfold C2
  rw[List.map_id,List.filter_map];rfl
 rw[ef]
 have hfl:((HN kvs).filter fun kv=> !(kv.1==z)).length≤kvs.length:=by
  have:=List.length_filter_le (fun kv:Str×M=> !(kv.1==z)) (HN kvs)
  rw[HF]at this;exact this
 have hfs:=KR (z:=z) (v:=v) f.sk hz hv
 have hls:(DZ (HN kvs) z v).length≤kvs.length+1:=by have:=MG (kvs:=HN kvs) (z:=z) (v:=v);rw[HF]at this;exact this
 walk_at "w"
 refine EJ (fun hn=> ?_) (fun hn=> ?_)
 ·have hn':¬X1 v=true:=by simpa using hn
  walk_at "w"
  refine WX ?_
  walk_at "w"
  refine⟨lD (sV rfl),?_⟩
  walk_at "w"
  refine Y7 (sV rfl) (by rw[List.length_map];omega) ?_
  rw[mX rfl]
  walk_at "w"
  have e:((HN kvs).filter fun kv=> !(kv.1==z)).map RM++[M.tup [.str z,v]]=(DZ (HN kvs) z v).map RM:=by
   unfold DZ
   rw[if_neg hn',List.map_append];rfl
  rw[e]
  refine IZ (NJ (sV rfl) hfs (by omega)) (by omega) ?_
  rw[TU f hz hv]
  exact k _
 ·have hn':X1 v=true:=by simpa using hn
  walk_at "w"
  have e:((HN kvs).filter fun kv=> !(kv.1==z)).map RM=(DZ (HN kvs) z v).map RM:=by
   unfold DZ
   rw[if_pos hn',List.append_nil]
  rw[e]
  refine IZ (NJ (sV rfl) hfs (by omega)) (by omega) ?_
  rw[TU f hz hv]
  exact k _
theorem lt_of {x:M} {h:A7} {c:String} {b:Bool} {R:M→Prop} (e:PJ h x=c) (hc:c≠ "") (hb:["list","tuple"].any (CC c)=b) (q:R (.bl b)):Enp (CJ [x, .tup [.ty "list", .ty "tuple"]] h) R:=⟨_,by
 show(if PJ h x≠ ""∧["list","tuple"].all QN=true then some (M.bl (["list","tuple"].any (CC (PJ h x)))) else none)=_
 rw[e,if_pos ⟨hc,by decide⟩,hb],q⟩
theorem lt_int {h:A7} {i:Int} {R:M→Prop} (q:R (.bl false)):Enp (CJ [.int i, .tup [.ty "list", .ty "tuple"]] h) R:=lt_of (c:= "int") rfl (by decide) (by decide) q
theorem lt_str {h:A7} {i:Str} {R:M→Prop} (q:R (.bl false)):Enp (CJ [.str i, .tup [.ty "list", .ty "tuple"]] h) R:=lt_of (c:= "str") rfl (by decide) (by decide) q
theorem lt_non {h:A7} {R:M→Prop} (q:R (.bl false)):Enp (CJ [.non, .tup [.ty "list", .ty "tuple"]] h) R:=lt_of (c:= "NoneType") rfl (by decide) (by decide) q
theorem lt_tup {h:A7} {xs:List M} {R:M→Prop} (q:R (.bl true)):Enp (CJ [.tup xs, .tup [.ty "list", .ty "tuple"]] h) R:=lt_of (c:= "tuple") rfl (by decide) (by decide) q
def Sm (n:Nat) (x:M):Prop:=∀(h:A7) (R:M→A7→Prop),R (.bl true) h→Ens (mLsame n [x,x] h) R
theorem ME {n:Nat} {i:Int}:Sm (n+1) (.int i):=fun h R k=>by
 refine BI rfl ?_
 unfold bLsame
 walk_at "w"
 refine lt_int ?_
 walk_at "w"
 refine EJ (fun q=>nomatch q) (fun _=> ?_)
 walk_at "w"
 rw[beq_self_eq_true]
 exact k
theorem LR {n:Nat} {z:Str}:Sm (n+1) (.str z):=fun h R k=>by
 refine BI rfl ?_
 unfold bLsame
 walk_at "w"
 refine lt_str ?_
 walk_at "w"
 refine EJ (fun q=>nomatch q) (fun _=> ?_)
 walk_at "w"
 refine EJ (fun _=> ?_) (fun q=>by simp at q)
 walk_at "w"
 exact k
theorem XD {n:Nat}:Sm (n+1) .non:=fun h R k=>by
 refine BI rfl ?_
 unfold bLsame
 walk_at "w"
 refine lt_non ?_
 walk_at "w"
 refine EJ (fun _=> ?_) (fun q=>nomatch q)
 walk_at "w"
 refine qP (x:= .non) (k:=1) rfl (by decide) ?_
 walk_at "w"
 exact k
theorem N3:∀(xs:List M),List.zipWith (fun u v=>M.tup [u,v]) xs xs=xs.map fun u=>M.tup [u,u]
 |[]=>rfl
 |x::xs=>by rw[List.zipWith_cons_cons,N3 xs];rfl
theorem LK {n:Nat} {xs:List M} (hl:xs.length≤1000) (hx:∀x∈xs,Sm n x):Sm (n+1) (.tup xs):=fun h R k=>by
 refine BI rfl ?_
 unfold bLsame
 walk_at "w"
 refine lt_tup ?_
 walk_at "w"
 refine EJ (fun _=> ?_) (fun q=>by simp at q)
 walk_at "w"
 refine kX ?_
 walk_at "w"
 refine⟨_,_,_,_,rfl,rfl,rfl,?_⟩
 rw[N3]
 refine⟨by simp;omega,?_⟩
 refine OY (p:=fun _=>true) (f:=fun _=> .bl true) (fun y hy=> ?_) ?_
 ·obtain⟨x,hm,rfl⟩:=List.mem_map.mp hy
  walk_at "w"
  refine⟨rfl,?_⟩
  walk_at "w"
  refine⟨rfl,rfl,fun _=> ?_⟩
  walk_at "w"
  exact hx x hm _ _ ⟨rfl,rfl⟩
 have e:(((xs.map fun u=>M.tup [u,u]).filter fun _=>true).map fun _=>M.bl true)=(xs.map fun _=>true).map M.bl:=by
  rw[List.filter_eq_self.mpr (fun _ _=>rfl),List.map_map,List.map_map];rfl
 rw[e]
 walk_at "w"
 refine p3 ?_
 have e2:(xs.map fun _=>true).all id=true:=by simp
 rw[e2]
 exact k
theorem Sm.val {n:Nat} {v:M} (h:IsVal v):Sm (n+1) v:=by
 rcases h with⟨i,rfl,_⟩|⟨z,rfl,_⟩
 ·exact ME
 ·exact LR
theorem XJ {n:Nat} {kvs:List (Str×M)} (f:Fl kvs) (hl:kvs.length≤1000):Sm (n+3) (.tup (C2 kvs)):=by
 have hs:(C2 kvs).length=kvs.length:=by unfold C2;rw[List.length_map,HF]
 refine LK (by omega) fun x hx=> ?_
 obtain⟨kv,hk,rfl⟩:=List.mem_map.mp hx
 refine LK (by simp) fun y hy=> ?_
 simp only[List.mem_cons,List.not_mem_nil,or_false]at hy
 rcases hy with rfl|rfl
 ·exact LR
 ·exact .val (f.sk.val kv hk)
structure En where
 n:Int
 pre:List M
 f:Nat
 kvs:List (Str×M)
def BP (e:En):AI×M:=(.inl e.n, .tup (e.pre++[.tup (C2 e.kvs)]))
def BC (e:En):AI×M:=(.inl e.n, .tup (e.pre++[.ref (e.f+7)]))
def IH (np nt:Int):List (Str×M):=[("place_rows", .ref 2),("tie_rows", .ref 3),("next_place", .int np),("next_tie", .int nt)]
abbrev H7 (o:MO) (np nt:Int) (dP dT dp dq:List (AI×M)) (mp mt:Int) (u:A7):A7:=o:: .ins "Store" (IH np nt):: .dct dP:: .dct dT:: .dct dp:: .dct dq:: .lst [.int mp, .int mt]::u
def WZ:List (AI×M):=[(.inr "places", .ref 4),(.inr "ties", .ref 5),(.inr "made", .ref 6)]
def EO:M:=HS WZ
theorem KS {k:AI} {v:M} {r:List (AI×M)}:B6 ((k,v)::r) k=some v:=by simp[B6]
theorem L5 {k k':AI} {v:M} {r:List (AI×M)} (h:k'≠k):B6 ((k',v)::r) k=B6 r k:=by simp[B6,h]
theorem RH {h:A7} {R:M→Prop} (q:R (.ref 4)):Enp (B7 EO (.str "places") h) R:=GM rfl DU KS q
theorem RS {h:A7} {R:M→Prop} (q:R (.ref 5)):Enp (B7 EO (.str "ties") h) R:=GM rfl DU ((L5 (by decide+kernel)).trans KS) q
theorem Z5 {h:A7} {R:M→Prop} (q:R (.ref 6)):Enp (B7 EO (.str "made") h) R:=GM rfl DU ((L5 (by decide+kernel)).trans ((L5 (by decide+kernel)).trans KS)) q
section
variable {np nt:Int}
theorem dU:(IH np nt).lookup ("place_rows":Str)=some (.ref 2):=by with_unfolding_all rfl
theorem aZ:(IH np nt).lookup ("tie_rows":Str)=some (.ref 3):=by with_unfolding_all rfl
theorem bT:(IH np nt).lookup ("next_place":Str)=some (.int np):=by with_unfolding_all rfl
theorem bD:(IH np nt).lookup ("next_tie":Str)=some (.int nt):=by with_unfolding_all rfl
theorem i3 {m:Str} (h:(decide (m∈([("place_rows":Str),"tie_rows","next_place","next_tie"]:List Str)))=false):(IH np nt).lookup m=none:=by
 have h':=of_decide_eq_false h
 simp only[List.mem_cons,List.not_mem_nil,or_false,not_or]at h'
 unfold IH
 simp only[List.lookup_cons,List.lookup_nil,beq_eq_false_iff_ne.mpr h'.1,beq_eq_false_iff_ne.mpr h'.2.1,beq_eq_false_iff_ne.mpr h'.2.2.1,beq_eq_false_iff_ne.mpr h'.2.2.2]
theorem jN {x:Int}:OH "next_place" (.int x) (IH np nt)=IH x nt:=by with_unfolding_all rfl
theorem j4 {x:Int}:OH "next_tie" (.int x) (IH np nt)=IH np x:=by with_unfolding_all rfl
end
theorem CU {row:En→AI×M} (hr:∀e,(row e).1= .inl e.n):∀{L:List En} {e:En},(L.map (·.n)).Nodup→e∈L→B6 (L.map row) (.inl e.n)=some (row e).2
 |[],_,_,h=>by cases h
 |x::r,e,nd,h=>by
  rw[List.map_cons,List.nodup_cons]at nd
  rw[List.map_cons]
  rcases List.mem_cons.mp h with rfl|h
  ·have:row e=(.inl e.n,(row e).2):=by rw[←hr e]
   rw[this];exact KS
  ·have hne:x.n≠e.n:=fun z=>nd.1 (z▸List.mem_map_of_mem h)
   have:row x=(.inl x.n,(row x).2):=by rw[←hr x]
   rw[this,L5 (fun z=>hne (Sum.inl.inj z))]
   exact CU hr nd.2 h
theorem GS {kvs:List (AI×M)} {k:AI} {v:M} (h:∀kv∈kvs,kv.1≠k):FY kvs k v=kvs++[(k,v)]:=by
 unfold FY
 rw[if_neg]
 intro z
 obtain⟨p,hp,e⟩:=List.any_eq_true.mp z
 exact h p hp (of_decide_eq_true e)
def HP (n:Int) (kvs:List (Str×M)) (L:List En):List En:=L.map fun e=>if e.n=n then{e with kvs:=kvs} else e
theorem ZH {L:List En} (nd:(L.map (·.n)).Nodup):∀{e e':En},e∈L→e'∈L→e'.n=e.n→e'=e:=by
 induction L with
 |nil=>intro _ _ h;cases h
 |cons x r ih=>
  intro e e' h h' q
  rw[List.map_cons,List.nodup_cons]at nd
  rcases List.mem_cons.mp h with z|z<;>rcases List.mem_cons.mp h' with z'|z'
  ·rw[z,z']
  ·subst z;exact absurd (q▸List.mem_map_of_mem z') nd.1
  ·subst z';exact absurd (by rw[q];exact List.mem_map_of_mem z) nd.1
  ·exact ih nd.2 z z' q
theorem Z2 {L:List En} {e:En} {kvs:List (Str×M)} (nd:(L.map (·.n)).Nodup) (he:e∈L):FY (L.map BP) (.inl e.n) (.tup (e.pre++[.tup (C2 kvs)]))=(HP e.n kvs L).map BP:=by
 unfold FY
 rw[if_pos (List.any_eq_true.mpr ⟨BP e,List.mem_map_of_mem he,decide_eq_true rfl⟩)]
 unfold HP
 rw[List.map_map,List.map_map]
 refine List.map_congr_left fun x hx=> ?_
 show(if(Sum.inl x.n:AI)= .inl e.n then((Sum.inl x.n:AI),M.tup (e.pre++[.tup (C2 kvs)])) else BP x)=BP (if x.n=e.n then{x with kvs:=kvs} else x)
 by_cases h:x.n=e.n
 ·have:=ZH nd he hx h
  subst this
  rw[if_pos rfl,if_pos rfl];rfl
 ·rw[if_neg h,if_neg (fun z=>h (Sum.inl.inj z))]
theorem rT {L:List En} {n:Int} {kvs:List (Str×M)}:(HP n kvs L).map BC=L.map BC:=by
 unfold HP
 rw[List.map_map]
 refine List.map_congr_left fun x _=> ?_
 show BC (if x.n=n then _ else x)=_
 split<;>rfl
theorem lS {ρ:B4} {h:A7} {i k:Nat} {f:Str} {fs:List (Str×M)} {y:M} {R:M→A7→Prop} (hv:ρ[i]? =some (some (.ref k))) (hk:h[k]? =some (.ins "Store" fs)) (hf:fs.lookup f=some y) (q:R y h):Ens (JV "Store" f (A3 i) ρ h) R:=
 qA (N0 hv ⟨k,fs,y,rfl,hk,hf,q⟩)
theorem HJ {ρ:B4} {h:A7} {i:Nat} {m:Str} {f:FF} {mas:FA} {np nt:Int} {R:M→A7→Prop} (hv:ρ[i]? =some (some (.ref 1))) (hk:h[1]? =some (.ins "Store" (IH np nt))) (hf:(decide (m∈([("place_rows":Str),"tie_rows","next_place","next_tie"]:List Str)))=false)
 (q:Ens (mas ρ h) fun xs h2=>Ens (f (.ref 1::xs) h2) R):Ens (DM "Store" m f (A3 i) mas ρ h) R:=
 iH (N0 hv ⟨1,_,rfl,hk,i3 hf,q⟩)
local macro_rules| `(tactic|walk_at "x")=> `(tactic|repeat (first|(with_reducible refine RH ?_)|(with_reducible refine RS ?_)|(with_reducible refine Z5 ?_)|((with_reducible refine' lS ?hv ?hk ?hf ?_);(case hv=>with_unfolding_all rfl);(case hk=>with_unfolding_all rfl);(case hf=>with_reducible first|exact dU|exact aZ|exact bT|exact bD))|((with_reducible refine' HJ ?hv ?hk ?hf ?_);(case hv=>with_unfolding_all rfl);(case hk=>with_unfolding_all rfl);(case hf=>decide+kernel))|(with_reducible refine SN ?_)|(with_reducible refine gB ?_)|(with_reducible refine lO ?_)|walk_at "e"|((with_reducible refine' RK ?hl ?_);(case hl=>(simp;done)))|(with_reducible refine⟨_,rfl,?_⟩)|((with_reducible refine X7 (by assumption) (by first|omega|decide) (by first|omega|decide) (by omega) ?_);intro _ _ _ _ _)))
section
variable {o:MO} {np nt mp mt:Int} {dP dT dp dq:List (AI×M)} {u:A7} {R:M→A7→Prop} {x2:MO} {r:A7}
theorem IG {n:Int} (hn:(B6 dP (.inl n)).isSome=true) (k:R .non (o:: .ins "Store" (IH np nt):: .dct dP::r)):Ens (BY [.ref 1, .int n] (o:: .ins "Store" (IH np nt):: .dct dP::r)) R:=by
 refine BI rfl ?_
 unfold b_Store_need_place
 walk_at "x"
 refine Q9 (kvs:=dP) rfl (BA rfl) ?_
 rw[hn]
 walk_at "x"
 exact k
theorem YQ {n:Int} (hn:(B6 dT (.inl n)).isSome=true) (k:R .non (o:: .ins "Store" (IH np nt)::x2:: .dct dT::r)):Ens (DP [.ref 1, .int n] (o:: .ins "Store" (IH np nt)::x2:: .dct dT::r)) R:=by
 refine BI rfl ?_
 unfold b_Store_need_tie
 walk_at "x"
 refine Q9 (kvs:=dT) rfl (BA rfl) ?_
 rw[hn]
 walk_at "x"
 exact k
theorem PZ {n:Int} {v:M} (hn:B6 dP (.inl n)=some v) (k:R v (o:: .ins "Store" (IH np nt):: .dct dP::r)):Ens (DX [.ref 1, .int n] (o:: .ins "Store" (IH np nt):: .dct dP::r)) R:=by
 refine BI rfl ?_
 unfold b_Store_place
 walk_at "x"
 refine IG (by rw[hn];rfl) ?_
 walk_at "x"
 refine GM (kvs:=dP) rfl (BA rfl) hn ?_
 walk_at "x"
 exact k
theorem XC {n:Int} {v:M} (hn:B6 dT (.inl n)=some v) (k:R v (o:: .ins "Store" (IH np nt)::x2:: .dct dT::r)):Ens (EV [.ref 1, .int n] (o:: .ins "Store" (IH np nt)::x2:: .dct dT::r)) R:=by
 refine BI rfl ?_
 unfold b_Store_tie
 walk_at "x"
 refine YQ (by rw[hn];rfl) ?_
 walk_at "x"
 refine GM (kvs:=dT) rfl (BA rfl) hn ?_
 walk_at "x"
 exact k
theorem OL {z:Str} {x:M} {kvs:List (Str×M)} (hb:FN [x] (H7 o np nt dP dT dp dq mp mt u)=some (HS (AN kvs))) (hl:kvs.length<64) (hd:dP.length<1000) (hk:∀kv∈dP,kv.1≠ .inl np)
 (k:R (.int np) (H7 o (np+1) nt (dP++[(.inl np, .tup [.str z, .tup (C2 kvs)])]) dT dp dq mp mt u)):Ens (CM [.ref 1, .str z,x] (H7 o np nt dP dT dp dq mp mt u)) R:=by
 refine BI rfl ?_
 unfold b_Store_add_place
 walk_at "x"
 refine G7 ?_
 walk_at "x"
 refine IZ hb hl ?_
 walk_at "x"
 refine⟨2, .inl np,dP,rfl,rfl,rfl,by omega,?_⟩
 rw[GS hk]
 walk_at "x"
 refine JT ?_
 walk_at "x"
 refine⟨1,IH np nt,rfl,rfl,by simp[IH],?_⟩
 rw[jN]
 walk_at "x"
 exact k
theorem S9 {z:Str} {a b:Int} {x:M} {kvs:List (Str×M)} (ha:(B6 dP (.inl a)).isSome=true) (hb':(B6 dP (.inl b)).isSome=true) (hb:FN [x] (H7 o np nt dP dT dp dq mp mt u)=some (HS (AN kvs))) (hl:kvs.length<64) (hd:dT.length<1000) (hk:∀kv∈dT,kv.1≠ .inl nt)
 (k:R (.int nt) (H7 o np (nt+1) dP (dT++[(.inl nt, .tup [.str z, .int a, .int b, .tup (C2 kvs)])]) dp dq mp mt u)):Ens (D7 [.ref 1, .str z, .int a, .int b,x] (H7 o np nt dP dT dp dq mp mt u)) R:=by
 refine BI rfl ?_
 unfold b_Store_add_tie
 walk_at "x"
 refine IG ha ?_
 walk_at "x"
 refine IG hb' ?_
 walk_at "x"
 refine G7 ?_
 walk_at "x"
 refine IZ hb hl ?_
 walk_at "x"
 refine⟨3, .inl nt,dT,rfl,rfl,rfl,by omega,?_⟩
 rw[GS hk]
 walk_at "x"
 refine JT ?_
 walk_at "x"
 refine⟨1,IH np nt,rfl,rfl,by simp[IH],?_⟩
 rw[j4]
 walk_at "x"
 exact k
theorem OU {n:Int} {z w:Str} {v:M} {kvs:List (Str×M)} (hn:B6 dP (.inl n)=some (.tup [.str w, .tup (C2 kvs)])) (f:Fl kvs) (hz:Nm z) (hv:v= .non∨IsVal v) (hl:kvs.length<60) (hd:dP.length<1000)
 (k:∀g,R .non (H7 o np nt (FY dP (.inl n) (.tup [.str w, .tup (C2 (DZ kvs z v))])) dT dp dq mp mt (u++[g]))):Ens (CN [.ref 1, .int n, .str z,v] (H7 o np nt dP dT dp dq mp mt u)) R:=by
 refine BI rfl ?_
 unfold b_Store_set_place
 walk_at "x"
 refine PZ hn ?_
 walk_at "x"
 refine G7 ?_
 walk_at "x"
 refine T8 f hz hv hl fun g=> ?_
 walk_at "x"
 refine⟨2, .inl n,dP,rfl,rfl,rfl,by omega,?_⟩
 walk_at "x"
 exact k g
theorem SK {n a b:Int} {z w:Str} {v:M} {kvs:List (Str×M)} (hn:B6 dT (.inl n)=some (.tup [.str w, .int a, .int b, .tup (C2 kvs)])) (f:Fl kvs) (hz:Nm z) (hv:v= .non∨IsVal v) (hl:kvs.length<60) (hd:dT.length<1000)
 (k:∀g,R .non (H7 o np nt dP (FY dT (.inl n) (.tup [.str w, .int a, .int b, .tup (C2 (DZ kvs z v))])) dp dq mp mt (u++[g]))):Ens (D5 [.ref 1, .int n, .str z,v] (H7 o np nt dP dT dp dq mp mt u)) R:=by
 refine BI rfl ?_
 unfold b_Store_set_tie
 walk_at "x"
 refine XC hn ?_
 walk_at "x"
 refine G7 ?_
 walk_at "x"
 refine T8 f hz hv hl fun g=> ?_
 walk_at "x"
 refine⟨3, .inl n,dT,rfl,rfl,rfl,by omega,?_⟩
 walk_at "x"
 exact k g
end
theorem jS {A B:Prop} {c:Bool} (h:c=false) (q:B):if c=true then A else B:=by rw[h];exact q
theorem jL {A B:Prop} {c:Bool} (h:c=true) (q:A):if c=true then A else B:=by rw[h];exact q
theorem tJ {R:M→Prop} {h:A7} {a b c d e:M} {ps:List M} (q:R e):Enp (B7 (.tup (a::b::c::d::e::ps)) (.int 4) h) R:=YE (j:=4) rfl q
local macro_rules| `(tactic|walk_at "y")=> `(tactic|repeat (first|(with_reducible refine RH ?_)|(with_reducible refine RS ?_)|(with_reducible refine Z5 ?_)|(with_reducible refine SN ?_)|(with_reducible refine mU ?_)|(with_reducible refine tF ?_)|(with_reducible refine tS ?_)|(with_reducible refine uS ?_)|(with_reducible refine tJ ?_)|(with_reducible refine gB ?_)|(with_reducible refine lO ?_)|((with_reducible refine' HJ ?hv ?hk ?hf ?_);(case hv=>with_unfolding_all rfl);(case hk=>with_unfolding_all rfl);(case hf=>decide+kernel))|walk_at "e"|((with_reducible refine' RK ?hl ?_);(case hl=>(simp;done)))|(with_reducible refine⟨_,rfl,?_⟩)|((with_reducible refine' jL ?hd ?_);(case hd=>decide+kernel))|((with_reducible refine' jS ?hd ?_);(case hd=>decide+kernel))))
section
variable {h:A7} {R:M→A7→Prop}
theorem L4 {d:M} (k:Ens (mLcall [.ref 1,d] h) fun v h'=>R (.tup [.str "told",v]) h'):Ens (mLdone [.ref 1,d] h) R:=by
 refine BI rfl ?_
 unfold bLdone
 walk_at "y"
 refine k.mono fun v h' q=> ?_
 walk_at "y"
 exact q
theorem aY {z x:M} {np nt:Int} (h1:h[1]? =some (.ins "Store" (IH np nt))) (k:Ens (CM [.ref 1,z,x] h) R):Ens (mLcall [.ref 1, .tup [.str "add_place",z,x]] h) R:=by
 refine BI rfl ?_
 unfold bLcall
 walk_at "y"
 refine HJ rfl h1 (by decide+kernel) ?_
 walk_at "y"
 refine k.mono fun v h' q=> ?_
 walk_at "y"
 exact q
theorem eK {z a b x:M} {np nt:Int} (h1:h[1]? =some (.ins "Store" (IH np nt))) (k:Ens (D7 [.ref 1,z,a,b,x] h) R):Ens (mLcall [.ref 1, .tup [.str "add_tie",z,a,b,x]] h) R:=by
 refine BI rfl ?_
 unfold bLcall
 walk_at "y"
 refine HJ rfl h1 (by decide+kernel) ?_
 walk_at "y"
 refine k.mono fun v h' q=> ?_
 walk_at "y"
 exact q
theorem eB {n z v:M} {np nt:Int} (h1:h[1]? =some (.ins "Store" (IH np nt))) (k:Ens (CN [.ref 1,n,z,v] h) R):Ens (mLcall [.ref 1, .tup [.str "set_place",n,z,v]] h) R:=by
 refine BI rfl ?_
 unfold bLcall
 walk_at "y"
 refine HJ rfl h1 (by decide+kernel) ?_
 walk_at "y"
 refine k.mono fun v h' q=> ?_
 walk_at "y"
 exact q
theorem eG {n z v:M} {np nt:Int} (h1:h[1]? =some (.ins "Store" (IH np nt))) (k:Ens (D5 [.ref 1,n,z,v] h) R):Ens (mLcall [.ref 1, .tup [.str "set_tie",n,z,v]] h) R:=by
 refine BI rfl ?_
 unfold bLcall
 walk_at "y"
 refine HJ rfl h1 (by decide+kernel) ?_
 walk_at "y"
 refine k.mono fun v h' q=> ?_
 walk_at "y"
 exact q
end
section
variable {o:MO} {np nt mp mt:Int} {dP dT dp dq:List (AI×M)} {u:A7} {R:M→A7→Prop}
theorem jX {z x:M} (k:R (.str "") (H7 o np nt dP dT dp dq mp mt u)):Ens (mLrefusal [EO, .tup [.str "add_place",z,x]] (H7 o np nt dP dT dp dq mp mt u)) R:=by
 refine BI rfl ?_
 unfold bLrefusal
 walk_at "y"
 exact k
theorem TB {ns:List Int} {d:M} {n3:B4→B4} {τ:B4} {S:List M→A7→Prop} (hτ:τ=[none,some EO]) (hn:∀n∈ns,(B6 dp (.inl n)).isSome=true) (k:S ((ns.map fun _=>true).map M.bl) (H7 o np nt dP dT dp dq mp mt u)):
 Ens (CY (ns.map M.int) none (D0 0) GY (AM JX (A3 0) (AM B7 (A3 1) (mC (.str "places")))) τ (ns.map M.int) (H7 o np nt dP dT dp dq mp mt u)) S:=by
 subst hτ
 refine OY (p:=fun _=>true) (f:=fun _=> .bl true) (fun x hx=> ?_) ?_
 ·obtain⟨n,hm,rfl⟩:=List.mem_map.mp hx
  walk_at "y"
  refine⟨rfl,?_⟩
  walk_at "y"
  refine⟨rfl,rfl,fun _=> ?_⟩
  walk_at "y"
  refine fD (kvs:=dp) rfl (BA rfl) ?_
  exact⟨rfl,by rw[hn n hm]⟩
 ·rw[List.filter_eq_self.mpr (fun _ _=>rfl),List.map_map]
  rw[List.map_map]at k
  exact k
theorem QK {ns:List Int}:(ns.map fun _=>true).any (· ==false)=false:=by simp
theorem kJ {z:Str} {h:A7} {b:Bool} {R:M→Prop} (e:cR ["take_tie","set_tie"] (.str z)=b) (hz:z.length≤100) (q:R (.bl b)):Enp (JX (.str z) (.tup [.str "take_tie", .str "set_tie"]) h) R:=
 nN (ss:=["take_tie","set_tie"]) (k:=0) (Pu.str hz) (by rw[e];exact q)
theorem kR {z x:M} {a b:Int} (ha:(B6 dp (.inl a)).isSome=true) (hb:(B6 dp (.inl b)).isSome=true) (k:R (.str "") (H7 o np nt dP dT dp dq mp mt u)):Ens (mLrefusal [EO, .tup [.str "add_tie",z, .int a, .int b,x]] (H7 o np nt dP dT dp dq mp mt u)) R:=by
 refine BI rfl ?_
 unfold bLrefusal
 walk_at "y"
 refine kJ (b:=false) (by decide+kernel) (by decide+kernel) ?_
 walk_at "y"
 rw[show ID [M.str "add_tie",z, .int a, .int b,x] (some 2) (some 4)=[a,b].map M.int by with_unfolding_all rfl]
 refine kK ?_
 walk_at "y"
 refine TB (n3:=id) (d:= .non) rfl (fun n hn=>by simp at hn;rcases hn with rfl|rfl<;>assumption) ?_
 refine WH ?_
 rw[QK]
 walk_at "y"
 exact k
theorem gN {z x:M} {n:Int} (hn:(B6 dp (.inl n)).isSome=true) (k:R (.str "") (H7 o np nt dP dT dp dq mp mt u)):Ens (mLrefusal [EO, .tup [.str "set_place", .int n,z,x]] (H7 o np nt dP dT dp dq mp mt u)) R:=by
 refine BI rfl ?_
 unfold bLrefusal
 walk_at "y"
 refine kJ (b:=false) (by decide+kernel) (by decide+kernel) ?_
 walk_at "y"
 rw[show ID [M.str "set_place", .int n,z,x] (some 1) (some 2)=[n].map M.int by with_unfolding_all rfl]
 refine kK ?_
 walk_at "y"
 refine TB (n3:=id) (d:= .non) rfl (fun m hm=>by simp at hm;subst hm;exact hn) ?_
 refine WH ?_
 rw[QK]
 walk_at "y"
 exact k
theorem j8 {z x:M} {n:Int} (hn:(B6 dq (.inl n)).isSome=true) (k:R (.str "") (H7 o np nt dP dT dp dq mp mt u)):Ens (mLrefusal [EO, .tup [.str "set_tie", .int n,z,x]] (H7 o np nt dP dT dp dq mp mt u)) R:=by
 refine BI rfl ?_
 unfold bLrefusal
 walk_at "y"
 refine kJ (b:=true) (by decide+kernel) (by decide+kernel) ?_
 walk_at "y"
 refine fD (kvs:=dq) rfl (BA rfl) ?_
 rw[hn]
 walk_at "y"
 rw[if_pos rfl]
 walk_at "y"
 exact k
end
theorem YD {kvs:List (Str×M)} {z:Str}:LO (AN kvs) (.inr z)=AN (kvs.filter fun kv=> !(kv.1==z)):=by
 unfold LO AN
 rw[List.filter_map]
 congr 1
 refine List.filter_congr fun kv _=> ?_
 show decide ((Sum.inr kv.1:AI)≠ .inr z)= !(kv.1==z)
 by_cases h:kv.1=z
 ·rw[h];simp
 ·have h2:(Sum.inr kv.1:AI)≠ .inr z:=fun e=>h (Sum.inr.inj e)
  rw[decide_eq_true h2];simp[h]
theorem dX {g:Nat} {h:A7} {kvs:List (Str×M)} {z:Str} {w:M} {R:M→A7→Prop} (hg:h[g]? =some (.dct (AN kvs))) (k:∀v,R v (h.set g (.dct (AN (kvs.filter fun kv=> !(kv.1==z)))))):Ens (JZ (.ref g) [.str z,w] h) R:=by
 cases e:B6 (AN kvs) (.inr z) with
 |some v=>
  refine⟨v,_,?_,k v⟩
  unfold JZ
  simp only[E9,Option.bind_some,hg,e]
  rw[YD]
 |none=>
  refine⟨w,h,?_,?_⟩
  ·unfold JZ
   simp only[E9,Option.bind_some,hg,e]
  ·have ef:(kvs.filter fun kv=> !(kv.1==z))=kvs:=by
    rw[List.filter_eq_self]
    intro kv hk
    by_cases hz:kv.1=z
    ·exfalso
     have:((AN kvs).find? fun kv'=>decide (kv'.1=(.inr z:AI))).isSome=true:=by
      rw[List.find?_isSome]
      exact⟨(.inr kv.1,kv.2),List.mem_map.mpr ⟨kv,hk,rfl⟩,decide_eq_true (by rw[hz])⟩
     obtain⟨w',hw⟩:=Option.isSome_iff_exists.mp this
     unfold B6 at e
     rw[hw]at e;cases e
    ·simp[hz]
   have eh:h.set g (.dct (AN kvs))=h:=by
    obtain⟨hl,e'⟩:=List.getElem?_eq_some_iff.mp hg
    rw[←e'];exact List.set_getElem_self hl
   have:=k w
   rw[ef,eh]at this
   exact this
theorem bN {kvs:List (Str×M)} {z:Str} {v:M}:FY (AN (kvs.filter fun kv=> !(kv.1==z))) (.inr z) v=AN ((kvs.filter fun kv=> !(kv.1==z))++[(z,v)]):=by
 rw[GS]
 ·unfold AN;rw[List.map_append];rfl
 ·intro kv hk e
  obtain⟨kv',h',rfl⟩:=List.mem_map.mp hk
  have:=(List.mem_filter.mp h').2
  rw[Sum.inr.inj e]at this
  simp at this
theorem WE {g:Nat} {h:A7} {kvs:List (Str×M)} {z:Str} {v:M} {R:M→A7→Prop} (hg:h[g]? =some (.dct (AN kvs))) (hl:kvs.length<1000) (k:R .non (h.set g (.dct (AN (DZ kvs z v))))):Ens (mLset [.ref g, .str z,v] h) R:=by
 have hfl:(kvs.filter fun kv=> !(kv.1==z)).length≤kvs.length:=List.length_filter_le _ _
 have hgl:g<h.length:=(List.getElem?_eq_some_iff.mp hg).1
 refine BI rfl ?_
 unfold bLset
 walk_at "y"
 refine WX ?_
 walk_at "y"
 refine⟨O4 hg,?_⟩
 walk_at "y"
 refine dX hg fun w=> ?_
 walk_at "y"
 refine EJ (fun hn=> ?_) (fun hn=> ?_)
 ·have hn':¬X1 v=true:=by simpa using hn
  refine G7 ?_
  walk_at "y"
  refine⟨g, .inr z,_,rfl,rfl,List.getElem?_set_self hgl,by rw[DD];omega,?_⟩
  rw[bN,List.set_set]
  walk_at "y"
  unfold DZ at k
  rw[if_neg hn']at k
  exact k
 ·have hn':X1 v=true:=by simpa using hn
  walk_at "y"
  unfold DZ at k
  rw[if_pos hn',List.append_nil]at k
  exact k
section
variable {o:MO} {np nt mp mt:Int} {dP dT dp dq:List (AI×M)} {u:A7} {R:M→A7→Prop}
theorem QQ {h:A7} {g:Nat} {kvs:List (AI×M)} (e:h[g]? =some (.dct kvs)):R5 (.ref g) h=some kvs:=by unfold R5;rw[BA e]
theorem rH {z:Str} {g:Nat} {kvs:List (Str×M)} (hg:(H7 o np nt dP dT dp dq mp mt u)[g]? =some (.dct (AN kvs))) (hd:dp.length<1000) (hk:∀kv∈dp,kv.1≠ .inl mp)
 (k:R (.tup [.str "told", .int mp]) (H7 o np nt dP dT (dp++[(.inl mp, .tup [.str z, .ref (u.length+7)])]) dq (mp+1) mt (u++[.dct (AN kvs)]))):Ens (mLdo [EO, .tup [.str "add_place", .str z, .ref g]] (H7 o np nt dP dT dp dq mp mt u)) R:=by
 refine BI rfl ?_
 unfold bLdo
 walk_at "y"
 refine jX ?_
 walk_at "y"
 refine G7 ?_
 walk_at "y"
 refine TR ?_
 walk_at "y"
 refine⟨_,_,rfl,QQ hg,?_⟩
 walk_at "y"
 refine D4 (k:=6) (d:= .int mp) rfl rfl ?_
 refine⟨4, .inl mp,dp,rfl,rfl,rfl,by omega,?_⟩
 rw[GS hk]
 walk_at "y"
 refine D4 (k:=6) (d:= .int mp) rfl rfl ?_
 walk_at "y"
 refine S8 ?_
 walk_at "y"
 refine⟨6,0,[.int mp, .int mt],0,rfl,rfl,rfl,rfl,?_⟩
 walk_at "y"
 refine D4 (k:=6) (d:= .int (mp+1)) rfl rfl ?_
 walk_at "y"
 rw[Int.add_sub_cancel]
 exact k
theorem qU {z:Str} {a b:Int} {g:Nat} {kvs:List (Str×M)} (ha:(B6 dp (.inl a)).isSome=true) (hb:(B6 dp (.inl b)).isSome=true) (hg:(H7 o np nt dP dT dp dq mp mt u)[g]? =some (.dct (AN kvs))) (hd:dq.length<1000) (hk:∀kv∈dq,kv.1≠ .inl mt)
 (k:R (.tup [.str "told", .int mt]) (H7 o np nt dP dT dp (dq++[(.inl mt, .tup [.str z, .int a, .int b, .ref (u.length+7)])]) mp (mt+1) (u++[.dct (AN kvs)]))):Ens (mLdo [EO, .tup [.str "add_tie", .str z, .int a, .int b, .ref g]] (H7 o np nt dP dT dp dq mp mt u)) R:=by
 refine BI rfl ?_
 unfold bLdo
 walk_at "y"
 refine kR ha hb ?_
 walk_at "y"
 refine G7 ?_
 walk_at "y"
 refine TR ?_
 walk_at "y"
 refine⟨_,_,rfl,QQ hg,?_⟩
 walk_at "y"
 rw[show ID [M.str "add_tie", .str z, .int a, .int b, .ref g] (some 1) (some 4)=[.str z, .int a, .int b] by with_unfolding_all rfl]
 refine SR (by simp) ?_
 walk_at "y"
 refine D4 (k:=6) (d:= .int mt) rfl rfl ?_
 refine⟨5, .inl mt,dq,rfl,rfl,rfl,by omega,?_⟩
 rw[GS hk]
 walk_at "y"
 refine D4 (k:=6) (d:= .int mt) rfl rfl ?_
 walk_at "y"
 refine S8 ?_
 walk_at "y"
 refine⟨6,1,[.int mp, .int mt],1,rfl,rfl,rfl,rfl,?_⟩
 walk_at "y"
 refine D4 (k:=6) (d:= .int (mt+1)) rfl rfl ?_
 walk_at "y"
 rw[Int.add_sub_cancel]
 exact k
theorem sD {n:Int} {z w:Str} {v:M} {f:Nat} {kvs:List (Str×M)} (hn:B6 dp (.inl n)=some (.tup [.str w, .ref (f+7)])) (hg:u[f]? =some (.dct (AN kvs))) (hl:kvs.length<1000)
 (k:R (.tup [.str "told", .non]) (H7 o np nt dP dT dp dq mp mt (u.set f (.dct (AN (DZ kvs z v)))))):Ens (mLdo [EO, .tup [.str "set_place", .int n, .str z,v]] (H7 o np nt dP dT dp dq mp mt u)) R:=by
 refine BI rfl ?_
 unfold bLdo
 walk_at "y"
 refine gN (by rw[hn];rfl) ?_
 walk_at "y"
 refine GM (kvs:=dp) rfl (BA rfl) hn ?_
 walk_at "y"
 refine WE (g:=f+7) (kvs:=kvs) hg hl ?_
 walk_at "y"
 exact k
theorem qR {n a b:Int} {z w:Str} {v:M} {f:Nat} {kvs:List (Str×M)} (hn:B6 dq (.inl n)=some (.tup [.str w, .int a, .int b, .ref (f+7)])) (hg:u[f]? =some (.dct (AN kvs))) (hl:kvs.length<1000)
 (k:R (.tup [.str "told", .non]) (H7 o np nt dP dT dp dq mp mt (u.set f (.dct (AN (DZ kvs z v)))))):Ens (mLdo [EO, .tup [.str "set_tie", .int n, .str z,v]] (H7 o np nt dP dT dp dq mp mt u)) R:=by
 refine BI rfl ?_
 unfold bLdo
 walk_at "y"
 refine j8 (by rw[hn];rfl) ?_
 walk_at "y"
 refine GM (kvs:=dq) rfl (BA rfl) hn ?_
 walk_at "y"
 refine WE (g:=f+7) (kvs:=kvs) hg hl ?_
 walk_at "y"
 exact k
theorem QF {g:Nat} {h:A7} {kvs:List (Str×M)} (hg:h[g]? =some (.dct (AN kvs))) (f:Fl kvs) (hl:kvs.length<64) (k:R (.tup (C2 kvs)) h):Ens (mLtold [.ref g] h) R:=by
 refine BI rfl ?_
 unfold bLtold
 walk_at "y"
 refine r9 ?_
 walk_at "es"
 refine PD (BA hg) GH (by rw[DD];omega) ?_
 refine⟨_,rfl,?_⟩
 have hsl:(CI (kvs.map (·.1))).length=kvs.length:=by rw[M9,List.length_map]
 refine⟨by show((CI (kvs.map (·.1))).map M.str).length≤16777216;rw[List.length_map];omega,?_⟩
 refine OY (p:=fun _=>true) (f:=fun x=>match x with| .str a=>RM (a,G0 kvs a)|_=> .non) (fun x hx=> ?_) ?_
 ·obtain⟨a,ha,rfl⟩:=List.mem_map.mp hx
  walk_at "y"
  refine⟨rfl,?_⟩
  walk_at "y"
  refine⟨rfl,rfl,fun _=> ?_⟩
  walk_at "y"
  refine GM rfl (BA hg) (PH f (EF.mp ha)).1 ?_
  walk_at "y"
  exact⟨rfl,rfl⟩
 ·rw[List.filter_eq_self.mpr (fun _ _=>rfl)]
  have ef:(((CI (kvs.map (·.1))).map M.str).map fun x=>match x with| .str a=>RM (a,G0 kvs a)|_=> .non)=C2 kvs:=by
   unfold C2 HN
   rw[List.map_map,List.map_map];rfl
  rw[ef]
  walk_at "y"
  refine⟨_,rfl,?_⟩
  walk_at "y"
  exact k
end
structure Tb (L:List En) (np:Int) (B:Nat) (u:A7) (Pre:List M→Prop):Prop where
 nd:(L.map (·.n)).Nodup
 rg:∀e∈L,0≤e.n∧e.n<np
 fl:∀e∈L,Fl e.kvs∧e.kvs.length≤B∧u[e.f]? =some (.dct (AN e.kvs))
 pre:∀e∈L,Pre e.pre
def gS (p:List M):Prop:=∃z:Str,p=[.str z]
def i5 (p:List M):Prop:=∃(z:Str) (a b:Int),p=[.str z, .int a, .int b]
theorem YK {z:Str} {kvs:List (Str×M)} (f:Fl kvs) (hl:kvs.length≤1000):Sm 12 (.tup [.str z, .tup (C2 kvs)]):=LK (n:=11) (by simp) fun x hx=>by
 simp only[List.mem_cons,List.not_mem_nil,or_false]at hx
 rcases hx with rfl|rfl
 ·exact LR
 ·exact XJ f hl
theorem lZ {z:Str} {a b:Int} {kvs:List (Str×M)} (f:Fl kvs) (hl:kvs.length≤1000):Sm 12 (.tup [.str z, .int a, .int b, .tup (C2 kvs)]):=LK (n:=11) (by simp) fun x hx=>by
 simp only[List.mem_cons,List.not_mem_nil,or_false]at hx
 rcases hx with rfl|rfl|rfl|rfl
 ·exact LR
 ·exact ME
 ·exact ME
 ·exact XJ f hl
section
variable {o:MO} {np nt mp mt:Int} {u:A7} {R:M→A7→Prop} {pl tl:List En} {B:Nat}
theorem LM (tp:Tb pl np B u gS) (tt:Tb tl nt B u i5) (hB:B<60) (k:R (.bl true) (H7 o np nt (pl.map BP) (tl.map BP) (pl.map BC) (tl.map BC) mp mt u)):
 Ens (mLall_right [.ref 1,EO] (H7 o np nt (pl.map BP) (tl.map BP) (pl.map BC) (tl.map BC) mp mt u)) R:=by
 refine BI rfl ?_
 unfold bLall_right
 walk_at "y"
 refine eY (k:=4) (kvs:=pl.map BC) (U3 ?_) rfl ?_
 ·walk_at "y"
  exact rfl
 walk_at "y"
 refine eM ?_
 walk_at "y"
 refine⟨4,pl.map BC,rfl,rfl,?_⟩
 refine LA (fun i ρ h'=>∃v2 v3 v4 v5 v6,ρ=[some (.ref 1),some EO,v2,v3,v4,v5,v6]∧h'=o:: .ins "Store" (IH np nt):: .dct (pl.map BP):: .dct (tl.map BP):: .fdc (pl.map BC):: .dct (tl.map BC):: .lst [.int mp, .int mt]::u) ⟨_,_,_,_,_,rfl,rfl⟩ ?_ ?_
 ·rintro i x ρ h' hx ⟨v2,v3,v4,v5,v6,rfl,rfl⟩
  rw[List.map_map,List.getElem?_map]at hx
  cases q:pl[i]?with
  |none=>rw[q]at hx;cases hx
  |some e=>
   rw[q]at hx
   cases hx
   have hm:=List.mem_of_getElem? q
   obtain⟨f1,f2,f3⟩:=tp.fl e hm
   obtain⟨z,hz⟩:=tp.pre e hm
   have vO:B6 (pl.map BC) (.inl e.n)=some (.tup [.str z, .ref (e.f+7)]):=by
    rw[CU (row:=BC) (fun _=>rfl) tp.nd hm];unfold BC;rw[hz];rfl
   have vS:B6 (pl.map BP) (.inl e.n)=some (.tup [.str z, .tup (C2 e.kvs)]):=by
    rw[CU (row:=BP) (fun _=>rfl) tp.nd hm];unfold BP;rw[hz];rfl
   show Ens _ _
   dsimp only[Function.comp,BC,kM]
   walk_at "y"
   refine GM (kvs:=pl.map BC) rfl (ND rfl) vO ?_
   walk_at "y"
   refine PZ vS ?_
   walk_at "y"
   refine QF (g:=e.f+7) f3 f1 (by omega) ?_
   walk_at "y"
   refine YK f1 (by omega) _ _ ?_
   walk_at "y"
   exact⟨_,_,_,_,_,rfl,rfl⟩
 rintro ρ h' ⟨v2,v3,v4,v5,v6,rfl,rfl⟩
 refine⟨_,rfl,?_⟩
 show SQ _ _ _ (H7 o np nt (pl.map BP) (tl.map BP) (pl.map BC) (tl.map BC) mp mt u)
 walk_at "y"
 refine eY (k:=5) (kvs:=tl.map BC) (U3 ?_) rfl ?_
 ·walk_at "y"
  exact rfl
 walk_at "y"
 refine eM ?_
 walk_at "y"
 refine⟨5,tl.map BC,rfl,rfl,?_⟩
 refine LA (fun i ρ h'=>∃v2 v3 v4 v5 v6,ρ=[some (.ref 1),some EO,v2,v3,v4,v5,v6]∧h'=o:: .ins "Store" (IH np nt):: .dct (pl.map BP):: .dct (tl.map BP):: .dct (pl.map BC):: .fdc (tl.map BC):: .lst [.int mp, .int mt]::u) ⟨_,_,_,_,_,rfl,rfl⟩ ?_ ?_
 ·rintro i x ρ h' hx ⟨v2,v3,v4,v5,v6,rfl,rfl⟩
  rw[List.map_map,List.getElem?_map]at hx
  cases q:tl[i]?with
  |none=>rw[q]at hx;cases hx
  |some e=>
   rw[q]at hx
   cases hx
   have hm:=List.mem_of_getElem? q
   obtain⟨f1,f2,f3⟩:=tt.fl e hm
   obtain⟨z,a,b,hz⟩:=tt.pre e hm
   have vO:B6 (tl.map BC) (.inl e.n)=some (.tup [.str z, .int a, .int b, .ref (e.f+7)]):=by
    rw[CU (row:=BC) (fun _=>rfl) tt.nd hm];unfold BC;rw[hz];rfl
   have vS:B6 (tl.map BP) (.inl e.n)=some (.tup [.str z, .int a, .int b, .tup (C2 e.kvs)]):=by
    rw[CU (row:=BP) (fun _=>rfl) tt.nd hm];unfold BP;rw[hz];rfl
   show Ens _ _
   dsimp only[Function.comp,BC,kM]
   walk_at "y"
   refine GM (kvs:=tl.map BC) rfl (ND rfl) vO ?_
   walk_at "y"
   refine XC vS ?_
   walk_at "y"
   refine QF (g:=e.f+7) f3 f1 (by omega) ?_
   walk_at "y"
   refine lZ f1 (by omega) _ _ ?_
   walk_at "y"
   exact⟨_,_,_,_,_,rfl,rfl⟩
 rintro ρ h' ⟨v2,v3,v4,v5,v6,rfl,rfl⟩
 refine⟨_,rfl,?_⟩
 show SQ _ _ _ (H7 o np nt (pl.map BP) (tl.map BP) (pl.map BC) (tl.map BC) mp mt u)
 walk_at "y"
 exact k
end
theorem eP {x y:M} {h:A7} {kvs:List (Str×M)} {R:M→Prop} (e1:BK h x=some (AN kvs)) (e2:BK h y=some (AN kvs)) (f:Fl kvs) (hl:kvs.length≤1000) (q:R (.bl false)):Enp (TZ x y h) R:=by
 have hp:Pu 1 (.lst ((AN kvs).map (·.2))):=Pu.lst (by rw[List.length_map,DD];exact hl) (fun v hv=>by
  obtain⟨kv,hk,rfl⟩:=List.mem_map.mp hv
  obtain⟨kv',h',rfl⟩:=List.mem_map.mp hk
  exact(f.val kv' h').pu)
 obtain⟨d,e,dd,_⟩:=hp.toD h
 obtain⟨ds,e3,e4⟩:=Option.map_eq_some_iff.mp (show(SS h ((AN kvs).map (·.2))).map D.lst=some d from e)
 have ek:Z0 h (AN kvs)=some (((AN kvs).map (·.1)).zip ds):=by unfold Z0;rw[e3];rfl
 have hlen:ds.length≤(AN kvs).length∧(AN kvs).length≤ds.length:=by
  have:∀(ys:List M) (ds:List D),DN (DL h 20) ys=some ds→ds.length=ys.length:=by
   intro ys
   induction ys with
   |nil=>intro ds e;cases e;rfl
   |cons y ys ih=>
    intro ds e
    unfold DN at e
    obtain⟨d,_,e⟩:=Option.bind_eq_some_iff.mp e
    obtain⟨ds',e',rfl⟩:=Option.map_eq_some_iff.mp e
    rw[List.length_cons,List.length_cons,ih _ e']
  have:=this _ _ e3
  rw[List.length_map]at this
  omega
 have em:(((AN kvs).map (·.1)).zip ds).map (·.2)=ds:=List.map_snd_zip (by rw[List.length_map];omega)
 have en:(((AN kvs).map (·.1)).zip ds).map (·.1)=(AN kvs).map (·.1):=List.map_fst_zip (by rw[List.length_map];omega)
 have nd:((((AN kvs).map (·.1)).zip ds).map (·.1)).Nodup:=by
  rw[en]
  have:(AN kvs).map (·.1)=(kvs.map (·.1)).map (Sum.inr:Str→AI):=by unfold AN;rw[List.map_map,List.map_map];rfl
  rw[this]
  exact f.nd.map Sum.inr (fun a b h z=>h (Sum.inr.inj z))
 refine⟨.bl false,?_,q⟩
 unfold TZ
 rw[e1,Option.bind_some,e2,Option.bind_some,ek,Option.bind_some,Option.bind_some,em]
 have hd:D.deeps ds≤150:=by
  subst e4
  have:D.deeps ds+1≤1:=dd
  omega
 rw[if_pos hd,VB nd (fun d _=>GZ d)];rfl
structure W (pl tl:List En) (np nt:Int) (B:Nat) (u:A7):Prop where
 tp:Tb pl np B u gS
 tt:Tb tl nt B u i5
 nd:((pl++tl).map (·.f)).Nodup
theorem D6 {u x:A7} {i:Nat} {v:MO} (h:u[i]? =some v):(u++x)[i]? =some v:=by
 rw[List.getElem?_append_left (List.getElem?_eq_some_iff.mp h).1];exact h
theorem Tb.ext {L:List En} {np:Int} {B:Nat} {u x:A7} {Pre:List M→Prop} (t:Tb L np B u Pre):Tb L np B (u++x) Pre:=
 ⟨t.nd,t.rg,fun e he=>⟨(t.fl e he).1,(t.fl e he).2.1,D6 (t.fl e he).2.2⟩,t.pre⟩
theorem Tb.off {L:List En} {np:Int} {B B':Nat} {u:A7} {Pre:List M→Prop} {g:Nat} {v:MO} (t:Tb L np B u Pre) (hg:∀e∈L,e.f≠g) (hB:B≤B'):Tb L np B' (u.set g v) Pre:=
 ⟨t.nd,t.rg,fun e he=>⟨(t.fl e he).1,Nat.le_trans (t.fl e he).2.1 hB,by rw[List.getElem?_set_ne (Ne.symm (hg e he))];exact(t.fl e he).2.2⟩,t.pre⟩
theorem Tb.add {L:List En} {np:Int} {B:Nat} {u:A7} {Pre:List M→Prop} {p:List M} {kvs:List (Str×M)} (t:Tb L np B u Pre) (h0:0≤np) (hp:Pre p) (f:Fl kvs) (hl:kvs.length≤B):
 Tb (L++[⟨np,p,u.length,kvs⟩]) (np+1) B (u++[.dct (AN kvs)]) Pre:=by
 refine⟨?_,fun e he=> ?_,fun e he=> ?_,fun e he=> ?_⟩
 ·rw[List.map_append,List.nodup_append]
  refine⟨t.nd,by simp,fun x hx y hy e=> ?_⟩
  simp only[List.map_cons,List.map_nil,List.mem_singleton]at hy
  obtain⟨e',he,e2⟩:=List.mem_map.mp hx
  have e2':e'.n=x:=e2
  have:=(t.rg e' he).2
  omega
 ·rcases List.mem_append.mp he with he|he
  ·have:=t.rg e he;omega
  ·rw[List.mem_singleton.mp he];exact⟨h0,by show np<np+1;omega⟩
 ·rcases List.mem_append.mp he with he|he
  ·exact⟨(t.fl e he).1,(t.fl e he).2.1,D6 (t.fl e he).2.2⟩
  ·rw[List.mem_singleton.mp he]
   exact⟨f,hl,by simp⟩
 ·rcases List.mem_append.mp he with he|he
  ·exact t.pre e he
  ·rw[List.mem_singleton.mp he];exact hp
theorem eN {L:List En} {n:Int} {kvs:List (Str×M)}:(HP n kvs L).map (·.f)=L.map (·.f):=by
 unfold HP
 rw[List.map_map]
 refine List.map_congr_left fun x _=> ?_
 show(if x.n=n then _ else x:En).f=_
 split<;>rfl
theorem pZ {L:List En} {n:Int} {kvs:List (Str×M)}:(HP n kvs L).map (·.n)=L.map (·.n):=by
 unfold HP
 rw[List.map_map]
 refine List.map_congr_left fun x _=> ?_
 show(if x.n=n then _ else x:En).n=_
 split<;>rfl
theorem Tb.upd {L:List En} {np:Int} {B B':Nat} {u:A7} {Pre:List M→Prop} {e:En} {kvs:List (Str×M)} (t:Tb L np B u Pre) (he:e∈L) (nf:(L.map (·.f)).Nodup) (f:Fl kvs) (hl:kvs.length≤B') (hB:B≤B'):
 Tb (HP e.n kvs L) np B' (u.set e.f (.dct (AN kvs))) Pre:=by
 have key:∀x∈HP e.n kvs L,(x={e with kvs:=kvs})∨(x∈L∧x.f≠e.f):=by
  intro x hx
  obtain⟨y,hy,rfl⟩:=List.mem_map.mp hx
  by_cases h:y.n=e.n
  ·rw[if_pos h,ZH t.nd he hy h];exact .inl rfl
  ·rw[if_neg h]
   refine .inr ⟨hy,fun z=>h ?_⟩
   have:∀(l:List En),(l.map (·.f)).Nodup→e∈l→y∈l→y.f=e.f→y=e:=by
    intro l
    induction l with
    |nil=>intro _ h;cases h
    |cons x r ih=>
     intro nd h h' q
     rw[List.map_cons,List.nodup_cons]at nd
     rcases List.mem_cons.mp h with z|z<;>rcases List.mem_cons.mp h' with z'|z'
     ·rw[z,z']
     ·subst z;exact absurd (q▸List.mem_map_of_mem z') nd.1
     ·subst z';exact absurd (by rw[q];exact List.mem_map_of_mem z) nd.1
     ·exact ih nd.2 z z' q
   rw[this L nf he hy z]
 have hlt:e.f<u.length:=(List.getElem?_eq_some_iff.mp (t.fl e he).2.2).1
 refine⟨by rw[pZ];exact t.nd,fun x hx=> ?_,fun x hx=> ?_,fun x hx=> ?_⟩
 ·rcases key x hx with rfl|⟨h,_⟩
  ·exact t.rg e he
  ·exact t.rg x h
 ·rcases key x hx with rfl|⟨h,hne⟩
  ·exact⟨f,hl,List.getElem?_set_self hlt⟩
  ·exact⟨(t.fl x h).1,Nat.le_trans (t.fl x h).2.1 hB,by rw[List.getElem?_set_ne (Ne.symm hne)];exact(t.fl x h).2.2⟩
 ·rcases key x hx with rfl|⟨h,_⟩
  ·exact t.pre e he
  ·exact t.pre x h
theorem Tb.lt {L:List En} {np:Int} {B:Nat} {u:A7} {Pre:List M→Prop} (t:Tb L np B u Pre) {e:En} (he:e∈L):e.f<u.length:=(List.getElem?_eq_some_iff.mp (t.fl e he).2.2).1
theorem Tb.fresh {L:List En} {np:Int} {B:Nat} {u:A7} {Pre:List M→Prop} (t:Tb L np B u Pre) {row:En→AI×M} (hr:∀e,(row e).1= .inl e.n):∀kv∈L.map row,kv.1≠ .inl np:=fun kv hk e=>by
 obtain⟨x,hx,rfl⟩:=List.mem_map.mp hk
 rw[hr]at e
 have e':x.n=np:=Sum.inl.inj e
 have:=(t.rg x hx).2
 omega
section
variable {pl tl:List En} {np nt:Int} {B B':Nat} {u x:A7}
theorem W.ext (w:W pl tl np nt B u):W pl tl np nt B (u++x):=⟨w.tp.ext,w.tt.ext,w.nd⟩
theorem W.off {g:Nat} {v:MO} (w:W pl tl np nt B u) (hg:∀e∈pl++tl,e.f≠g) (hB:B≤B'):W pl tl np nt B' (u.set g v):=
 ⟨w.tp.off (fun e he=>hg e (List.mem_append_left _ he)) hB,w.tt.off (fun e he=>hg e (List.mem_append_right _ he)) hB,w.nd⟩
theorem W.lt (w:W pl tl np nt B u):∀e∈pl++tl,e.f<u.length:=fun e he=>(List.mem_append.mp he).elim w.tp.lt w.tt.lt
theorem W.addP {z:Str} {kvs:List (Str×M)} (w:W pl tl np nt B u) (h0:0≤np) (f:Fl kvs) (hl:kvs.length≤B):W (pl++[⟨np,[.str z],u.length,kvs⟩]) tl (np+1) nt B (u++[.dct (AN kvs)]):=by
 refine⟨w.tp.add h0 ⟨z,rfl⟩ f hl,w.tt.ext,?_⟩
 have h2:(pl++[(⟨np,[.str z],u.length,kvs⟩:En)]++tl).Perm ((⟨np,[.str z],u.length,kvs⟩:En)::(pl++tl)):=by
  rw[List.append_assoc]
  exact List.perm_middle
 rw[(h2.map (·.f)).nodup_iff,List.map_cons,List.nodup_cons]
 refine⟨fun hm=> ?_,w.nd⟩
 obtain⟨e,he,e2⟩:=List.mem_map.mp hm
 have:=w.lt e he
 have e2':e.f=u.length:=e2
 omega
theorem W.addT {z:Str} {a b:Int} {kvs:List (Str×M)} (w:W pl tl np nt B u) (h0:0≤nt) (f:Fl kvs) (hl:kvs.length≤B):W pl (tl++[⟨nt,[.str z, .int a, .int b],u.length,kvs⟩]) np (nt+1) B (u++[.dct (AN kvs)]):=by
 refine⟨w.tp.ext,w.tt.add h0 ⟨z,a,b,rfl⟩ f hl,?_⟩
 rw[←List.append_assoc,List.map_append,List.nodup_append]
 refine⟨w.nd,by simp,fun x hx y hy e=> ?_⟩
 simp only[List.map_cons,List.map_nil,List.mem_singleton]at hy
 obtain⟨e',he,e2⟩:=List.mem_map.mp hx
 have:=w.lt e' he
 have e2':e'.f=x:=e2
 omega
theorem W.setP {e:En} {kvs:List (Str×M)} (w:W pl tl np nt B u) (he:e∈pl) (f:Fl kvs) (hl:kvs.length≤B') (hB:B≤B'):W (HP e.n kvs pl) tl np nt B' (u.set e.f (.dct (AN kvs))):=by
 have nd:=w.nd
 rw[List.map_append,List.nodup_append]at nd
 refine⟨w.tp.upd he nd.1 f hl hB,w.tt.off (fun x hx z=>nd.2.2 e.f (List.mem_map_of_mem he) x.f (List.mem_map_of_mem hx) z.symm) hB,?_⟩
 rw[List.map_append,eN,←List.map_append]
 exact w.nd
theorem W.setT {e:En} {kvs:List (Str×M)} (w:W pl tl np nt B u) (he:e∈tl) (f:Fl kvs) (hl:kvs.length≤B') (hB:B≤B'):W pl (HP e.n kvs tl) np nt B' (u.set e.f (.dct (AN kvs))):=by
 have nd:=w.nd
 rw[List.map_append,List.nodup_append]at nd
 refine⟨w.tp.off (fun x hx z=>nd.2.2 x.f (List.mem_map_of_mem hx) e.f (List.mem_map_of_mem he) z) hB,w.tt.upd he nd.2.1 f hl hB,?_⟩
 rw[List.map_append,eN,←List.map_append]
 exact w.nd
end
theorem aW {kvs:List (Str×M)} {y:Str} (hy:y∈kvs.map (·.1)):(kvs.filter fun kv=> !(kv.1==y)).length<kvs.length:=by
 obtain⟨kv,hk,rfl⟩:=List.mem_map.mp hy
 exact List.length_filter_lt_length_iff_exists.mpr ⟨kv,hk,by simp⟩
theorem Fl.filt {kvs:List (Str×M)} {p:Str×M→Bool} (f:Fl kvs):Fl (kvs.filter p):=⟨(List.Sublist.map _ List.filter_sublist).nodup f.nd,fun kv hk=>f.nm kv (List.mem_filter.mp hk).1,fun kv hk=>f.val kv (List.mem_filter.mp hk).1⟩
theorem bI {kvs:List (Str×M)} {z:Str} {v:M}:z∈(JY kvs z v).map (·.1):=by
 unfold JY
 split
 ·rename_i h
  obtain⟨kv,hk,e⟩:=List.any_eq_true.mp h
  have e':kv.1=z:=of_decide_eq_true e
  exact List.mem_map.mpr ⟨_,List.mem_map.mpr ⟨kv,hk,rfl⟩,by rw[if_pos e'];exact e'⟩
 ·simp
theorem NE {ρ:B4} {h:A7} {g:Nat} {kvs:List (Str×M)} {S:Out→A7→Prop} (hv:ρ[6]? =some (some (.ref g))) (hg:h[g]? =some (.dct (AN kvs))) (f:Fl kvs) (hl:kvs.length≤9)
 (k:∀kvs',Fl kvs'→kvs'.length≤9→S (.nx ρ) (h.set g (.dct (AN kvs')))):
 Ens (GC (A3 6) (mC (.str "more")) (mC (.int 5)) ρ h) (SQ (ET (ZR aP MM (A3 6) (A2 (AM B7 (HK IE (A2 (A3 6) AB)) (mC (.int 0))) AB))) S):=by
 have hgl:g<h.length:=(List.getElem?_eq_some_iff.mp hg).1
 have hmore:Nm "more":=eZ (by decide+kernel)
 obtain⟨f2,l2⟩:=f.put (z:= "more") (v:= .int 5) hmore (.inl ⟨_,rfl,by decide⟩)
 walk_at "y"
 refine G7 ?_
 walk_at "y"
 refine N0 hv ?_
 walk_at "y"
 refine⟨g, .inr "more",AN kvs,rfl,rfl,hg,by rw[DD];omega,?_⟩
 rw[YA]
 walk_at "y"
 refine WX (N0 hv ?_)
 have hg2:=List.getElem?_set_self (a:=MO.dct (AN (JY kvs "more" (.int 5)))) hgl
 refine⟨O4 hg2,?_⟩
 walk_at "y"
 refine N0 hv ?_
 walk_at "y"
 refine PD (BA hg2) GH (by rw[DD];omega) ?_
 have hne:∃y,L1 ((CI ((JY kvs "more" (.int 5)).map (·.1))).map M.str) 0=some (.str y)∧y∈(JY kvs "more" (.int 5)).map (·.1):=by
  cases e:CI ((JY kvs "more" (.int 5)).map (·.1)) with
  |nil=>
   have:=EF.mpr (bI (kvs:=kvs) (z:= "more") (v:= .int 5))
   rw[e]at this;cases this
  |cons y r=>exact⟨y,HH (j:=0) rfl,EF.mp (by rw[e];exact List.mem_cons_self)⟩
 obtain⟨y,ey,hy⟩:=hne
 walk_at "y"
 refine YH ey ?_
 walk_at "y"
 obtain⟨w,hw⟩:∃w,B6 (AN (JY kvs "more" (.int 5))) (.inr y)=some w:=⟨_,(PH f2 hy).1⟩
 refine kB rfl hg2 hw ?_
 rw[YD,List.set_set]
 walk_at "y"
 have:=aW hy
 exact k _ f2.filt (by omega)
theorem ZD {h:A7} {kvs:List (Str×M)} (f:Fl kvs) (hl:kvs.length≤9):FN [.tup (C2 kvs)] h=some (HS (AN (HN kvs))):=VF f.sk (by rw[HF];omega)
theorem rG {L:List En} {np:Int} {z:Str} {f:Nat} {kvs:List (Str×M)}:L.map BP++[(.inl np, .tup [.str z, .tup (C2 kvs)])]=(L++[(⟨np,[.str z],f,kvs⟩:En)]).map BP:=by rw[List.map_append];rfl
theorem qI {L:List En} {np:Int} {z:Str} {f:Nat} {kvs:List (Str×M)}:L.map BC++[(.inl np, .tup [.str z, .ref (f+7)])]=(L++[(⟨np,[.str z],f,kvs⟩:En)]).map BC:=by rw[List.map_append];rfl
theorem gF {L:List En} {np a b:Int} {z:Str} {f:Nat} {kvs:List (Str×M)}:L.map BP++[(.inl np, .tup [.str z, .int a, .int b, .tup (C2 kvs)])]=(L++[(⟨np,[.str z, .int a, .int b],f,kvs⟩:En)]).map BP:=by rw[List.map_append];rfl
theorem lV {L:List En} {np a b:Int} {z:Str} {f:Nat} {kvs:List (Str×M)}:L.map BC++[(.inl np, .tup [.str z, .int a, .int b, .ref (f+7)])]=(L++[(⟨np,[.str z, .int a, .int b],f,kvs⟩:En)]).map BC:=by rw[List.map_append];rfl
theorem bP {L:List En} {row:En→AI×M} (hr:∀e,(row e).1= .inl e.n) (nd:(L.map (·.n)).Nodup) {n:Int} (h:∃e∈L,e.n=n):(B6 (L.map row) (.inl n)).isSome=true:=by
 obtain⟨e,he,rfl⟩:=h
 rw[CU hr nd he];rfl
theorem KW {x:M} (h:Sm 11 x):Sm 12 (.tup [.str "told",x]):=LK (n:=11) (by simp) fun y hy=>by
 simp only[List.mem_cons,List.not_mem_nil,or_false]at hy
 rcases hy with rfl|rfl
 ·exact LR
 ·exact h
structure Mk (pl tl:List En) (np nt places:Int) (i:Nat) (ks:List (Str×M)) (u:A7):Prop where
 w:W pl tl np nt 9 u
 p0:0≤np
 t0:0≤nt
 has:∀j:Int,0≤j→j<np→∃e∈pl,e.n=j
 lp:pl.length=np
 lt:tl.length≤i
 at_:(i:Int)<places→np=i
 full:places≤(i:Int)→np=places
 sh:u[0]? =some (.dct (AN ks))
 sf:Fl ks
 sl:ks.length≤9
 s0:∀e∈pl++tl,e.f≠0
theorem cG {o:MO} {np nt mp mt c most:Int} {dP dT dp dq:List (AI×M)} {u:A7} {R:M→A7→Prop} (hh:Hd o c) (m3:c<800000000) (h0:0≤most) (h9:most≤9)
 (k:∀kvs o',Fl kvs→kvs.length≤most→Hd o' (c+200)→R (.ref (u.length+7)) (H7 o' np nt dP dT dp dq mp mt (u++[.dct (AN kvs)]))):Ens (mLfields [.ref 0, .int most] (H7 o np nt dP dT dp dq mp mt u)) R:=
 UB hh m3 h0 h9 k
theorem Y8 {o:MO} {np nt mp mt c:Int} {dP dT dp dq:List (AI×M)} {u:A7} {R:M→A7→Prop} (hh:Hd o c) (m3:c<900000000) (k:∀z o',Nm z→Hd o' (c+11)→R (.str z) (H7 o' np nt dP dT dp dq mp mt u)):Ens (mLword [.ref 0] (H7 o np nt dP dT dp dq mp mt u)) R:=
 fF hh m3 k
theorem Mk.ext {pl tl:List En} {np nt places:Int} {i:Nat} {ks:List (Str×M)} {u x:A7} (m:Mk pl tl np nt places i ks u):Mk pl tl np nt places i ks (u++x):=
 ⟨m.w.ext,m.p0,m.t0,m.has,m.lp,m.lt,m.at_,m.full,D6 m.sh,m.sf,m.sl,m.s0⟩
theorem aS {c:Bool} {x y:Option (Out×A7)} {S:Out→A7→Prop} (J:Out→A7→Prop) (h1:c=true→Ens x J) (h2:c=false→Ens y J) (h3:∀o h,J o h→S o h):if c=true then Ens x S else Ens y S:=EJ (fun q=>(h1 q).mono h3) (fun q=>(h2 q).mono h3)
theorem YS {a b c:M}:ID [a,b,c] none (some (-1))=[a,b]:=by with_unfolding_all rfl
theorem VO {a b c d e:M}:ID [a,b,c,d,e] none (some (-1))=[a,b,c,d]:=by with_unfolding_all rfl
theorem Mk.step {pl tl:List En} {np nt places:Int} {i:Nat} {ks kvs':List (Str×M)} {u:A7} {g:Nat} (m:Mk pl tl np nt places i ks u) (hg:∀e∈pl++tl,e.f≠g) (hl:g<u.length) (f:Fl kvs') (hl9:kvs'.length≤9):
 ∃ks',Mk pl tl np nt places i ks' (u.set g (.dct (AN kvs'))):=by
 by_cases h:g=0
 ·subst h
  exact⟨kvs',m.w.off hg (Nat.le_refl _),m.p0,m.t0,m.has,m.lp,m.lt,m.at_,m.full,List.getElem?_set_self hl,f,hl9,m.s0⟩
 ·exact⟨ks,m.w.off hg (Nat.le_refl _),m.p0,m.t0,m.has,m.lp,m.lt,m.at_,m.full,by rw[List.getElem?_set_ne h];exact m.sh,m.sf,m.sl,m.s0⟩
theorem Mk.addP {pl tl:List En} {np nt places:Int} {i:Nat} {ks kvs:List (Str×M)} {u:A7} {z:Str} (m:Mk pl tl np nt places i ks u) (hi:(i:Int)<places) (f:Fl kvs) (hl:kvs.length≤9):
 Mk (pl++[⟨np,[.str z],u.length,kvs⟩]) tl (np+1) nt places (i+1) ks (u++[.dct (AN kvs)]):=by
 have hnp:=m.at_ hi
 have hu:0<u.length:=(List.getElem?_eq_some_iff.mp m.sh).1
 refine⟨m.w.addP m.p0 f hl,by have:=m.p0;omega,m.t0,fun j h0 h1=> ?_,by have:=m.lp;simp;omega,by have:=m.lt;omega,fun h=>by rw[hnp];simp,fun h=>by omega,D6 m.sh,m.sf,m.sl,fun e he=> ?_⟩
 ·by_cases h:j<np
  ·obtain⟨e,he,q⟩:=m.has j h0 h
   exact⟨e,List.mem_append_left _ he,q⟩
  ·exact⟨_,List.mem_append_right _ (List.mem_singleton.mpr rfl),by show np=j;omega⟩
 ·rw[List.append_assoc]at he
  rcases List.mem_append.mp he with he|he
  ·exact m.s0 e (List.mem_append_left _ he)
  ·rcases List.mem_append.mp he with he|he
   ·rw[List.mem_singleton.mp he];show u.length≠0;omega
   ·exact m.s0 e (List.mem_append_right _ he)
theorem Mk.addT {pl tl:List En} {np nt places a b:Int} {i:Nat} {ks kvs:List (Str×M)} {u:A7} {z:Str} (m:Mk pl tl np nt places i ks u) (hi:places≤(i:Int)) (f:Fl kvs) (hl:kvs.length≤9):
 Mk pl (tl++[⟨nt,[.str z, .int a, .int b],u.length,kvs⟩]) np (nt+1) places (i+1) ks (u++[.dct (AN kvs)]):=by
 have hu:0<u.length:=(List.getElem?_eq_some_iff.mp m.sh).1
 refine⟨m.w.addT m.t0 f hl,m.p0,by have:=m.t0;omega,m.has,m.lp,by have:=m.lt;simp;omega,fun h=>by omega,fun h=>m.full hi,D6 m.sh,m.sf,m.sl,fun e he=> ?_⟩
 rw[←List.append_assoc]at he
 rcases List.mem_append.mp he with he|he
 ·exact m.s0 e he
 ·rw[List.mem_singleton.mp he];show u.length≠0;omega
theorem ZW {o:MO} {c:Int} {R:M→A7→Prop} (ho:Hd o c) (hc:c<1000) (k:∀pl tl np nt u o',W pl tl np nt 9 u→0<pl.length→pl.length≤30→tl.length≤30→Hd o' (c+20000)→R (.bl true) (H7 o' np nt (pl.map BP) (tl.map BP) (pl.map BC) (tl.map BC) np nt u)):
 Ens (mLmade [.ref 0, .ref 1,EO] (H7 o 0 0 [] [] [] [] 0 0 [])) R:=by
 refine BI rfl ?_
 unfold bLmade
 walk_at "w"
 refine UB ho (by omega) (by omega) (by omega) fun ks o1 fs ls ho1=> ?_
 walk_at "w"
 rename_i r o2 r0 r1 ho2
 walk_at "w"
 refine TN ?_
 walk_at "w"
 rename_i r' o3 r0' r1' ho3
 refine⟨by omega,?_⟩
 refine LA (fun i ρ h'=>∃v5 v6 v7 v8 v9 v10 pl tl np nt ks u o',ρ=[some (.ref 0),some (.ref 1),some EO,some (.ref 7),some (.int (1+r)),v5,v6,v7,v8,v9,v10]∧h'=H7 o' np nt (pl.map BP) (tl.map BP) (pl.map BC) (tl.map BC) np nt u∧Mk pl tl np nt (1+r) i ks u∧Hd o' (c+300+400*i))
  ⟨_,_,_,_,_,_,[],[],0,0,ks,[.dct (AN ks)],o3,rfl,rfl,⟨⟨⟨by simp,by simp,by simp,by simp⟩,⟨by simp,by simp,by simp,by simp⟩,by simp⟩,by omega,by omega,fun j h0 h1=>by omega,rfl,by simp,fun _=>rfl,fun h=>by omega,rfl,fs,by omega,by simp⟩,ho3.mono (by omega)⟩ ?_ ?_
 ·rintro i x ρ h' hx ⟨v5,v6,v7,v8,v9,v10,pl,tl,np,nt,ks,u,o',rfl,rfl,mk,ho'⟩
  have hi:i<16:=by have:=(List.getElem?_eq_some_iff.mp hx).1;simp at this;omega
  have hx':x= .int (i:Int):=by
   rw[List.getElem?_map]at hx
   cases q:(List.range (1+r+r').toNat)[i]?with
   |none=>rw[q]at hx;cases hx
   |some j=>
    rw[q]at hx
    have:=List.getElem?_eq_some_iff.mp q
    obtain⟨_,e⟩:=this
    rw[List.getElem_range]at e
    subst e
    exact(Option.some.inj hx).symm
  subst hx'
  walk_at "w"
  refine GR (by assumption) (by assumption) fun x hx=> ?_
  have hx':∃j,x= .int j∧0≤j∧j≤9:=by
   simp only[List.mem_cons,List.not_mem_nil,or_false]at hx
   rcases hx with rfl|rfl<;>exact⟨_,rfl,by decide,by decide⟩
  obtain⟨j,rfl,j0,j9⟩:=hx'
  walk_at "w"
  refine cG (by assumption) (by omega) j0 j9 fun kv1 o4 f1 l1 ho4=> ?_
  walk_at "w"
  refine GR (by assumption) (by assumption) fun x hx=> ?_
  obtain⟨g,kvs,rfl,hg,fk,lk,gf⟩:∃g kvs,x= .ref (g+7)∧(u++[MO.dct (AN kv1)])[g]? =some (.dct (AN kvs))∧Fl kvs∧kvs.length≤9∧∀e∈pl++tl,e.f≠g:=by
   simp only[List.mem_cons,List.not_mem_nil,or_false]at hx
   rcases hx with rfl|rfl
   ·exact⟨0,ks,rfl,D6 mk.sh,mk.sf,mk.sl,mk.s0⟩
   ·exact⟨u.length,kv1,rfl,by simp,f1,by omega,fun e he=>by have:=mk.w.lt e he;omega⟩
  have mk1:=mk.ext (x:=[MO.dct (AN kv1)])
  generalize u++[MO.dct (AN kv1)]=u1 at hg mk1⊢
  have hgl:g<u1.length:=(List.getElem?_eq_some_iff.mp hg).1
  clear mk
  walk_at "w"
  refine Y8 (by assumption) (by omega) fun z o5 hz ho5=> ?_
  walk_at "w"
  refine aS (fun s h2=>∃d o6,s= .nx [some (.ref 0),some (.ref 1),some EO,some (.ref 7),some (.int (1+r)),some (.int (i:Int)),some (.ref (g+7)),some d,v8,v9,v10]∧h2=H7 o6 np nt (pl.map BP) (tl.map BP) (pl.map BC) (tl.map BC) np nt u1∧Hd o6 (c+300+400*i+300)∧
   (((i:Int)<1+r∧∃z,d= .tup [.str "add_place", .str z, .ref (g+7)])∨(1+r≤(i:Int)∧∃z a b,0≤a∧a<1+r∧0≤b∧b<1+r∧d= .tup [.str "add_tie", .str z, .int a, .int b, .ref (g+7)]))) (fun hq=> ?_) (fun hq=> ?_) ?_
  ·have hq':1+r≤(i:Int):=of_decide_eq_true hq
   walk_at "w"
   refine Y8 ho5 (by omega) fun z2 o7 hz2 ho7=> ?_
   walk_at "w"
   exact⟨_,_,rfl,rfl,Hd.mono (by assumption) (by omega), .inr ⟨hq',z2,_,_,by assumption,by assumption,by assumption,by assumption,rfl⟩⟩
  ·have hq':¬1+r≤(i:Int):=of_decide_eq_false hq
   walk_at "w"
   exact⟨_,_,rfl,rfl,ho5.mono (by omega), .inl ⟨by omega,z,rfl⟩⟩
  rintro s h2 ⟨d,o6,rfl,rfl,ho6,hd⟩
  walk_at "w"
  refine vV (HE (kvs:=AN kvs) hg) ?_
  walk_at "w"
  refine IZ (HE (kvs:=AN kvs) hg) (by omega) ?_
  walk_at "w"
  refine GR (by assumption) (by assumption) fun x hx=> ?_
  rename_i r8 o8 _ _ ho8
  obtain⟨kv2,hb,he,hl2⟩:∃kv2,FN [x] (H7 o8 np nt (pl.map BP) (tl.map BP) (pl.map BC) (tl.map BC) np nt u1)=some (HS (AN kv2))∧C2 kv2=C2 kvs∧kv2.length<64:=by
   simp only[List.mem_cons,List.not_mem_nil,or_false]at hx
   rcases hx with rfl|rfl|rfl
   ·exact⟨kvs,HE (kvs:=AN kvs) hg,rfl,by omega⟩
   ·exact⟨HN kvs,ZD fk lk,by unfold C2;rw[oK fk],by rw[HF];omega⟩
   ·exact⟨kvs,HE (kvs:=AN kvs) hg,rfl,by omega⟩
  have hlp:=mk1.lp
  have hlt:=mk1.lt
  rcases hd with⟨hq,z,rfl⟩|⟨hq,z,a,b,a0,a1,b0,b1,rfl⟩
  ·have hnp:=mk1.at_ hq
   walk_at "w"
   rw[YS]
   refine SR (by simp) ?_
   walk_at "w"
   refine L4 (aY rfl (OL hb hl2 (by rw[List.length_map];omega) (mk1.w.tp.fresh fun _=>rfl) ?_))
   walk_at "w"
   refine rH (kvs:=kvs) hg (by rw[List.length_map];omega) (mk1.w.tp.fresh fun _=>rfl) ?_
   walk_at "w"
   refine KW ME _ _ ?_
   walk_at "w"
   refine eP (BA (D6 hg)) DU fk (by omega) ?_
   walk_at "w"
   refine NE (g:=g+7) (kvs:=kvs) rfl ?_ fk lk fun kvs' f' l'=> ?_
   ·exact(D6 hg:(u1++[MO.dct (AN kvs)])[g]? =_)
   rw[he,rG (f:=u1.length),qI]
   have mk2:=mk1.addP (z:=z) hq fk lk
   obtain⟨ks',mk3⟩:=mk2.step (g:=g) (kvs':=kvs') (fun e he'=>by
    rw[List.append_assoc]at he'
    rcases List.mem_append.mp he' with h|h
    ·exact gf e (List.mem_append_left _ h)
    ·rcases List.mem_append.mp h with h|h
     ·rw[List.mem_singleton.mp h];show u1.length≠g;omega
     ·exact gf e (List.mem_append_right _ h)) (by simp;omega) f' l'
   exact⟨_,_,_,_,_,_,_,_,_,_,ks',_,_,rfl,rfl,mk3,Hd.mono ho8 (by omega)⟩
  ·have hfull:=mk1.full hq
   walk_at "w"
   rw[VO]
   refine SR (by simp) ?_
   walk_at "w"
   have hA:∀{row:En→AI×M},(∀e,(row e).1= .inl e.n)→∀j:Int,0≤j→j<1+r→(B6 (pl.map row) (.inl j)).isSome=true:=fun hr j j0 j1=>bP hr mk1.w.tp.nd (mk1.has j j0 (by omega))
   refine L4 (eK rfl (S9 (hA (fun _=>rfl) a a0 a1) (hA (fun _=>rfl) b b0 b1) hb hl2 (by rw[List.length_map];omega) (mk1.w.tt.fresh fun _=>rfl) ?_))
   walk_at "w"
   refine qU (kvs:=kvs) (hA (fun _=>rfl) a a0 a1) (hA (fun _=>rfl) b b0 b1) hg (by rw[List.length_map];omega) (mk1.w.tt.fresh fun _=>rfl) ?_
   walk_at "w"
   refine KW ME _ _ ?_
   walk_at "w"
   refine eP (BA (D6 hg)) DU fk (by omega) ?_
   walk_at "w"
   refine NE (g:=g+7) (kvs:=kvs) rfl ?_ fk lk fun kvs' f' l'=> ?_
   ·exact(D6 hg:(u1++[MO.dct (AN kvs)])[g]? =_)
   rw[he,gF (f:=u1.length),lV]
   have mk2:=mk1.addT (z:=z) (a:=a) (b:=b) hq fk lk
   obtain⟨ks',mk3⟩:=mk2.step (g:=g) (kvs':=kvs') (fun e he'=>by
    rw[←List.append_assoc]at he'
    rcases List.mem_append.mp he' with h|h
    ·exact gf e h
    ·rw[List.mem_singleton.mp h];show u1.length≠g;omega) (by simp;omega) f' l'
   exact⟨_,_,_,_,_,_,_,_,_,_,ks',_,_,rfl,rfl,mk3,Hd.mono ho8 (by omega)⟩
 ·rintro ρ h' ⟨v5,v6,v7,v8,v9,v10,pl,tl,np,nt,ks,u,o',rfl,rfl,mk,ho'⟩
  rw[List.length_map,List.length_range]at mk ho'
  walk_at "w"
  have hfull:=mk.full (by omega)
  have:=mk.lp
  have:=mk.lt
  exact k pl tl np nt u o' mk.w (by omega) (by omega) (by omega) (ho'.mono (by omega))
theorem Y1 {i:Int} (h:i.natAbs<1000000000000000):(toString i:Str).length≤16:=by
 show(Str.ofString (Int.repr i)).length≤16
 have hl:∀s:String,(Str.ofString s).length=s.length:=fun s=>by
  rw[Str.ofString_eq_toList];unfold Str.length
  simp only[List.size_toArray,List.length_map]
  exact String.length_toList
 rw[hl]
 cases i with
 |ofNat m=>
  show(Nat.repr m).length≤16
  exact(Nat.length_repr_le_iff (by decide)).mpr (by have:m<1000000000000000:=h;omega)
 |negSucc m=>
  have e:(Int.repr (Int.negSucc m))= "-" ++Nat.repr (m+1):=rfl
  rw[e,String.length_append]
  have:(Nat.repr (m+1)).length≤15:=(Nat.length_repr_le_iff (by decide)).mpr (by have:m+1<1000000000000000:=h;omega)
  have h1: "-".length=1:=rfl
  omega
theorem g9 {v:M} {h:A7} {R:M→Prop} (hv:IsVal v) (k:∀z:Str,z.length≤100→R (.str z)):Enp (UJ [v] h) R:=by
 rcases hv with⟨i,rfl,hi⟩|⟨z,rfl,hz⟩
 ·have hlog:i.natAbs.log2<1920:=by
   have:i.natAbs<2^50:=Nat.lt_of_lt_of_le hi (by decide)
   by_cases h0:i.natAbs=0
   ·rw[h0];decide
   ·exact Nat.lt_trans ((Nat.log2_lt h0).mpr this) (by decide)
  exact⟨_,by show(if _ then _ else _)=_;rw[if_pos hlog],k _ (Nat.le_trans (Y1 hi) (by decide))⟩
 ·exact⟨_,rfl,k z hz⟩
theorem i4 {h:A7} {xs:List M} {x:M} {R:M→Prop} (k:R x):Enp (B7 (.tup (xs++[x])) (.int (-1)) h) R:=⟨x,by
 show L1 (xs++[x]) (-1)=_
 unfold L1 W5
 rw[if_neg (by decide),if_pos (by simp;omega),Option.bind_some]
 rw[show((-1:Int)+((xs++[x]).length:Nat)).toNat=xs.length by simp;omega]
 simp,k⟩
theorem NF:∀{L:List En},QA (L.map BC)=some (L.map (·.n))
 |[]=>rfl
 |e::L=>by
  show(QA (L.map BC)).map (e.n:: ·)=_
  rw[NF];rfl
theorem Z7 {x:M} {h:A7} {L:List En} {R:M→Prop} (e:BK h x=some (L.map BC)) (hl:L.length<64) (k:R (.lst ((KK (L.map (·.n))).map .int))):Enp (KZ [x] h) R:=⟨_,by
 show(BK h x).bind _=_
 rw[e,Option.bind_some,NF,Option.bind_some,if_pos (by rw[List.length_map];exact hl)],k⟩
theorem cD {o:MO} {R:M→A7→Prop} (k:R .non [o, .ins "Store" (IH 0 0), .dct [], .dct []]):Ens (DQ [.ref 1] [o, .ins "Store" []]) R:=by
 refine BI rfl ?_
 unfold b_Store___init__
 walk_at "y"
 refine JT ?_
 refine J6 ?_
 walk_at "y"
 refine⟨1,_,rfl,rfl,by simp,?_⟩
 walk_at "y"
 refine JT ?_
 refine J6 ?_
 walk_at "y"
 refine⟨1,_,rfl,rfl,by simp[OH],?_⟩
 walk_at "y"
 refine JT ?_
 walk_at "y"
 refine⟨1,_,rfl,rfl,by with_unfolding_all (show 2<1000;decide),?_⟩
 walk_at "y"
 refine JT ?_
 walk_at "y"
 refine⟨1,_,rfl,rfl,by with_unfolding_all (show 3<1000;decide),?_⟩
 walk_at "y"
 exact k
theorem ZF {a b c d:MO} {R:M→A7→Prop} (k:R EO [a,b,c,d, .dct [], .dct [], .lst [.int 0, .int 0]]):Ens (mLbegun [] [a,b,c,d]) R:=by
 refine BI rfl ?_
 unfold bLbegun
 walk_at "y"
 refine oG ?_
 walk_at "y"
 refine J6 ?_
 walk_at "y"
 refine J6 ?_
 walk_at "y"
 refine⟨by show 3≤15;decide,?_⟩
 walk_at "y"
 have e:DG [] WZ=WZ:=MJ (by unfold WZ;decide+kernel)
 refine(?_:R (HS (DG [] WZ)) _)
 rw[e]
 exact k
theorem PX {o:MO} {np nt mp mt c many:Int} {dP dT dp dq:List (AI×M)} {u:A7} {R:M→A7→Prop} (hh:Hd o c) (m1:0<many) (m2:many<1073741824) (m3:c<1000000000)
 (k:∀r o',0≤r→r<many→Hd o' (c+1)→R (.int r) (H7 o' np nt dP dT dp dq mp mt u)):Ens (mLdraw [.ref 0, .int many] (H7 o np nt dP dT dp dq mp mt u)) R:=X7 hh m1 m2 m3 k
theorem jT {o:MO} {np nt mp mt c:Int} {dP dT dp dq:List (AI×M)} {u:A7} {R:M→A7→Prop} (hh:Hd o c) (m3:c<900000000) (k:∀v o',IsVal v→Hd o' (c+6)→R v (H7 o' np nt dP dT dp dq mp mt u)):Ens (mLvalue [.ref 0] (H7 o np nt dP dT dp dq mp mt u)) R:=XG hh m3 k
structure So (s:Str) (q:Nat) (L:List En) (n:Int) (B:Nat) (u:A7) (Pre:List M→Prop):Prop where
 own:∀(h:A7) (R:M→Prop),R (.ref q)→Enp (B7 EO (.str (s++ "s")) h) R
 tb:Tb L n B u Pre
 ne:0<L.length
 le:L.length≤30
theorem RF {L:List En} {n:Int} {B:Nat} {u:A7} {Pre:List M→Prop} (t:Tb L n B u Pre) {e:En} (he:e∈L) {kvs:List (Str×M)} {xs:List M} (hx:e.pre=xs):FY (L.map BP) (.inl e.n) (.tup (xs++[.tup (C2 kvs)]))=(HP e.n kvs L).map BP:=by
 subst hx;exact Z2 t.nd he
theorem Z8 (ns:List Int) (hl:ns.length≤63):∃h',m_law [.scr ns] []=some (.bl true,h'):=by
 suffices z:Ens (m_law [.scr ns] []) fun d _=>d= .bl true by
  obtain⟨d,h',e,rfl⟩:=z
  exact⟨h',e⟩
 refine BI rfl ?_
 unfold UK
 walk_at "y"
 refine pR hl fun o ho=> ?_
 walk_at "y"
 refine qH ?_
 walk_at "y"
 refine lB ?_
 walk_at "y"
 refine cD ?_
 refine⟨rfl,?_⟩
 walk_at "y"
 refine ZF ?_
 walk_at "y"
 refine⟨_,_,rfl,?_⟩
 walk_at "y"
 refine ZW ho (by decide) fun pl tl np nt u o1 w0 hp hp30 ht30 ho1=> ?_
 walk_at "y"
 refine LM w0.tp w0.tt (by decide) ?_
 walk_at "y"
 refine TN ?_
 walk_at "y"
 refine PX ho1 (by decide) (by decide) (by decide) fun r o2 r0 r1 ho2=> ?_
 walk_at "y"
 refine⟨by omega,?_⟩
 refine LA (fun i ρ h'=>∃v4 v5 v6 v7 v8 v9 v10 v11 pl tl u o',ρ=[some (.scr ns),some (.ref 0),some (.ref 1),some EO,v4,v5,v6,v7,v8,v9,v10,v11]∧h'=H7 o' np nt (pl.map BP) (tl.map BP) (pl.map BC) (tl.map BC) np nt u∧W pl tl np nt (9+i) u∧0<pl.length∧pl.length≤30∧tl.length≤30∧Hd o' (20001+400*i))
  ⟨_,_,_,_,_,_,_,_,pl,tl,u,o2,rfl,rfl,w0,hp,hp30,ht30,ho2.mono (by omega)⟩ ?_ ?_
 ·clear w0 hp hp30 ht30
  rintro i x ρ h' hx ⟨v4,v5,v6,v7,v8,v9,v10,v11,pl,tl,u,o',rfl,rfl,w,hp,hp30,ht30,ho'⟩
  have hi:i<41:=by have:=(List.getElem?_eq_some_iff.mp hx).1;simp at this;omega
  refine Z4 ?_
  refine pN ?_
  refine fN ?_
  refine join (fun s h2=>∃s0 o3,s= .nx [some (.scr ns),some (.ref 0),some (.ref 1),some EO,some x,some (.str s0),v6,v7,v8,v9,v10,v11]∧h2=H7 o3 np nt (pl.map BP) (tl.map BP) (pl.map BC) (tl.map BC) np nt u∧Hd o3 (20001+400*i+1)∧(s0= "place" ∨(s0= "tie"∧0<tl.length))) ?_ ?_
  ·walk_at "y"
   refine i9 ?_
   refine qM (BA (kvs:=tl.map BC) rfl) ?_
   walk_at "y"
   refine EJ (fun hq=> ?_) (fun hq=> ?_)
   ·have hq':0<tl.length:=by
     rw[List.length_map]at hq
     simp at hq
     cases tl with
     |nil=>simp at hq
     |cons _ _=>simp
    walk_at "y"
    refine PX ho' (by decide) (by decide) (by omega) fun r3 o3 _ _ ho3=> ?_
    walk_at "y"
    cases r3==0 with
    |false=>
     walk_at "y"
     rw[if_neg (by decide)]
     walk_at "y"
     exact⟨_,_,rfl,rfl,ho3, .inl rfl⟩
    |true=>
     walk_at "y"
     rw[if_pos rfl]
     walk_at "y"
     exact⟨_,_,rfl,rfl,ho3, .inr ⟨rfl,hq'⟩⟩
   ·walk_at "y"
    rw[if_neg (by decide)]
    walk_at "y"
    exact⟨_,_,rfl,rfl,ho'.mono (by omega), .inl rfl⟩
  rintro s h2 ⟨s0,o3,rfl,rfl,ho3,hs⟩
  obtain⟨q,L,n0,Pre,so,hq⟩:∃q L n0 Pre,So s0 q L n0 (9+i) u Pre∧∀o',(H7 o' np nt (pl.map BP) (tl.map BP) (pl.map BC) (tl.map BC) np nt u)[q]? =some (.dct (L.map BC))∧((s0= "place"∧pl=L)∨(s0= "tie"∧tl=L)):=by
   rcases hs with rfl|⟨rfl,hq'⟩
   ·exact⟨4,pl,np,gS,⟨fun h R k=>by rw[show(("place":Str)++("s":Str))= "places" by decide+kernel];exact RH k,w.tp,hp,hp30⟩,fun o'=>⟨rfl, .inl ⟨rfl,rfl⟩⟩⟩
   ·exact⟨5,tl,nt,i5,⟨fun h R k=>by rw[show(("tie":Str)++("s":Str))= "ties" by decide+kernel];exact RS k,w.tt,hq',ht30⟩,fun o'=>⟨rfl, .inr ⟨rfl,rfl⟩⟩⟩
  have hs5:s0.length≤100:=by rcases hs with rfl|⟨rfl,_⟩<;>decide+kernel
  have hpl:=so.le
  have hne:=so.ne
  walk_at "y"
  refine RX (by have:("s":Str).length=1:=rfl;omega) ?_
  refine so.own _ _ ?_
  walk_at "y"
  refine Z7 (BA (hq _).1) (by omega) ?_
  walk_at "y"
  have hsl:(((KK (L.map (·.n))).map M.int)).length=L.length:=by unfold KK;rw[List.length_map,(List.mergeSort_perm _ _).length_eq,List.length_map]
  refine PX ho3 (by rw[hsl];omega) (by rw[hsl];omega) (by omega) fun r4 o4 r40 r41 ho4=> ?_
  refine GR r40 r41 fun y hy=> ?_
  obtain⟨e,he,rfl⟩:∃e∈L,y= .int e.n:=by
   obtain⟨n,hn,rfl⟩:=List.mem_map.mp hy
   obtain⟨e,he,rfl⟩:=List.mem_map.mp ((List.mergeSort_perm _ _).mem_iff.mp hn)
   exact⟨e,he,rfl⟩
  obtain⟨fe,le,ge⟩:=so.tb.fl e he
  walk_at "y"
  refine RX (by have:("s":Str).length=1:=rfl;omega) ?_
  refine so.own _ _ ?_
  walk_at "y"
  refine GM rfl (BA (hq _).1) (CU (row:=BC) (fun _=>rfl) so.tb.nd he) ?_
  rw[show(BC e).2= .tup (e.pre++[.ref (e.f+7)]) from rfl]
  walk_at "y"
  refine i4 ?_
  walk_at "y"
  have hfd:∀o',(H7 o' np nt (pl.map BP) (tl.map BP) (pl.map BC) (tl.map BC) np nt u)[e.f+7]? =some (.dct (AN e.kvs)):=fun _=>ge
  refine PD (BA (hfd _)) GH (by rw[DD];omega) ?_
  walk_at "y"
  refine Y8 ho4 (by omega) fun z o5 hz ho5=> ?_
  walk_at "y"
  have hnl:((CI (e.kvs.map (·.1))).map M.str).length=e.kvs.length:=by rw[List.length_map,M9,List.length_map]
  refine gA (by rw[hnl];simp;omega) ?_
  walk_at "y"
  refine PX ho5 (by simp<;>omega) (by rw[List.length_append,hnl];simp;omega) (by omega) fun r6 o6 r60 r61 ho6=> ?_
  refine GR r60 r61 fun y hy=> ?_
  obtain⟨w1,rfl,hw1⟩:∃w1,y= .str w1∧Nm w1:=by
   rcases List.mem_append.mp hy with h|h
   ·obtain⟨n,hn,rfl⟩:=List.mem_map.mp h
    obtain⟨kv,hk,rfl⟩:=List.mem_map.mp (EF.mp hn)
    exact⟨_,rfl,fe.nm kv hk⟩
   ·exact⟨z,List.mem_singleton.mp h,hz⟩
  walk_at "y"
  refine RX (by have:("set_":Str).length=4:=rfl;omega) ?_
  walk_at "y"
  refine jT ho6 (by omega) fun v7' o7 hv7 ho7=> ?_
  walk_at "y"
  refine WX ?_
  walk_at "y"
  refine⟨O4 (hfd _),?_⟩
  walk_at "y"
  refine kH (key:= .inr w1) rfl (BA (hfd _)) ?_
  walk_at "y"
  have hgv:IsVal ((B6 (AN e.kvs) (.inr w1)).getD (.str "")):=by
   cases q:B6 (AN e.kvs) (.inr w1) with
   |none=>exact .inr ⟨_,rfl,by decide+kernel⟩
   |some m=>
    unfold B6 at q
    obtain⟨kv,hk,rfl⟩:=Option.map_eq_some_iff.mp q
    obtain⟨kv',h',rfl⟩:=List.mem_map.mp (List.mem_of_find?_eq_some hk)
    exact fe.val kv' h'
  refine g9 hgv fun zz hzz=> ?_
  walk_at "y"
  refine oH (by omega) ?_
  walk_at "y"
  refine PX ho7 (by decide) (by decide) (by omega) fun r8 o8 r80 r81 ho8=> ?_
  refine GR r80 (by simpa using r81) fun v hv=> ?_
  have hv':v= .non∨IsVal v:=by
   simp only[List.mem_cons,List.not_mem_nil,or_false]at hv
   rcases hv with rfl|rfl|rfl
   ·exact .inl rfl
   ·exact .inr hv7
   ·exact .inr (.inr ⟨_,rfl,slice_le hzz⟩)
  walk_at "y"
  rcases(hq o8).2 with⟨rfl,rfl⟩|⟨rfl,rfl⟩
  ·obtain⟨zk,hzk⟩:=w.tp.pre e he
   rw[show(("set_":Str)++("place":Str))= "set_place" by decide+kernel]
   have vS:B6 (pl.map BP) (.inl e.n)=some (.tup [.str zk, .tup (C2 e.kvs)]):=by
    rw[CU (row:=BP) (fun _=>rfl) w.tp.nd he];unfold BP;rw[hzk];rfl
   have vO:B6 (pl.map BC) (.inl e.n)=some (.tup [.str zk, .ref (e.f+7)]):=by
    rw[CU (row:=BC) (fun _=>rfl) w.tp.nd he];unfold BC;rw[hzk];rfl
   refine L4 (eB rfl (OU vS fe hw1 hv' (by omega) (by rw[List.length_map];omega) fun gb=> ?_))
   rw[show([M.str zk, .tup (C2 (DZ e.kvs w1 v))]:List M)=[.str zk]++[.tup (C2 (DZ e.kvs w1 v))] from rfl,RF w.tp he hzk]
   walk_at "y"
   refine sD (f:=e.f) (kvs:=e.kvs) vO (D6 ge) (by omega) ?_
   walk_at "y"
   refine KW XD _ _ ?_
   walk_at "y"
   have w2:=(w.ext (x:=[gb])).setP (B':=9+(i+1)) he (KR fe hw1 hv') (by have:=MG (kvs:=e.kvs) (z:=w1) (v:=v);omega) (by omega)
   rw[←rT (L:=pl) (n:=e.n) (kvs:=DZ e.kvs w1 v)]
   refine LM w2.tp w2.tt (by omega) ?_
   walk_at "y"
   exact⟨_,_,_,_,_,_,_,_,_,tl,_,o8,rfl,rfl,w2,by unfold HP;rw[List.length_map];exact hp,by unfold HP;rw[List.length_map];exact hp30,ht30,ho8.mono (by omega)⟩
  ·obtain⟨zk,a,b,hzk⟩:=w.tt.pre e he
   rw[show(("set_":Str)++("tie":Str))= "set_tie" by decide+kernel]
   have vS:B6 (tl.map BP) (.inl e.n)=some (.tup [.str zk, .int a, .int b, .tup (C2 e.kvs)]):=by
    rw[CU (row:=BP) (fun _=>rfl) w.tt.nd he];unfold BP;rw[hzk];rfl
   have vO:B6 (tl.map BC) (.inl e.n)=some (.tup [.str zk, .int a, .int b, .ref (e.f+7)]):=by
    rw[CU (row:=BC) (fun _=>rfl) w.tt.nd he];unfold BC;rw[hzk];rfl
   refine L4 (eG rfl (SK vS fe hw1 hv' (by omega) (by rw[List.length_map];omega) fun gb=> ?_))
   rw[show([M.str zk, .int a, .int b, .tup (C2 (DZ e.kvs w1 v))]:List M)=[.str zk, .int a, .int b]++[.tup (C2 (DZ e.kvs w1 v))] from rfl,RF w.tt he hzk]
   walk_at "y"
   refine qR (f:=e.f) (kvs:=e.kvs) vO (D6 ge) (by omega) ?_
   walk_at "y"
   refine KW XD _ _ ?_
   walk_at "y"
   have w2:=(w.ext (x:=[gb])).setT (B':=9+(i+1)) he (KR fe hw1 hv') (by have:=MG (kvs:=e.kvs) (z:=w1) (v:=v);omega) (by omega)
   rw[←rT (L:=tl) (n:=e.n) (kvs:=DZ e.kvs w1 v)]
   refine LM w2.tp w2.tt (by omega) ?_
   walk_at "y"
   exact⟨_,_,_,_,_,_,_,_,pl,_,_,o8,rfl,rfl,w2,hp,hp30,by unfold HP;rw[List.length_map];exact ht30,ho8.mono (by omega)⟩
 ·rintro ρ h' ⟨v4,v5,v6,v7,v8,v9,v10,v11,pl,tl,u,o',rfl,rfl,w,_⟩
  walk_at "y"
  rfl
end K10
namespace L2
open PySem PySem.W PyProof.Rows
abbrev zD:Drawn:=⟨0,0,0,0⟩
abbrev zT (T:Params→BT) (n k:Nat) (w:World) (os:OsState):SharedT:=⟨T w.params,n,{},Array.mk [],zD,k,os⟩
abbrev zQ:Pos:=⟨0,0,0,0⟩
theorem LeftO.own {p q:Program} {loose:List Str} {Xt:Shared→Bool} {α:Type} {Yf:Shared→α} {Ya:World→α} {N:Nat} {g0:Bool}
 (T:Params→BT) (n k n1 n2 N1:Nat) (ann:Option Value) (b:List Stmt) (ev:Env) (c:Code) (ps:Pos) (Ha:Params→Heap)
 (e:opening p=plainProg p.main.scope.names) (hN:Nat.ble 600 N=true) (f:∀s,fenceModules? p s=some s)
 (size:∀w:World,((boot_heap w.params).isNs mainGlobals&&(Array.mk []:Array GenState).size==0,(boot_heap w.params).objs.size,(boot_heap w.params).nsMap mainGlobals "__annotations__")=(true,11,ann))
 (hc:c= .body b ev)
 (pre:∀(w:World) (os:OsState),topGo treeTable p w 11 ann n1 ⟨boot_heap w.params,Array.mk [],boot_drawn,boot_toks,os⟩ (topStub p)=some (⟨Ha w.params,Array.mk [],zD,k,os⟩,⟨denote treeTable c,c,zQ,[topFrame zQ]⟩))
 (blk:∀(w:World) (os:OsState),segRun treeTable p w 11 ann 1 n2 ⟨Ha w.params,Array.mk [],zD,k,os⟩ (blockOf b ev c zQ [topFrame zQ])=some (.next,(zT T n k w os).abs,c,zQ))
 (le:Nat.ble (n1+(n2+(N1+3))) N=true)
 (last:∀w:World,(fun os=>(segRunT treeTable p w 11 ann 1 N1 (zT T n k w os) (piecesOf b ev c zQ [topFrame zQ])).map fun r=>((r.1,r.2.2),
   (staticsOk (importedModules p.main.body) (boot_heap w.params) r.2.1.abs.heap&&namesBound p r.2.1.abs.heap&&gensDone r.2.1.abs&&laidKept (boot_heap w.params) r.2.1.abs.heap),
   openSeen q loose (importedModules p.main.body) Xt g0 r.2.1.abs,Yf r.2.1.abs))=fun _=>some ((.next,(c,ps)),true,openGood q loose,Ya w)):LeftO p q loose Xt Yf Ya N g0:=fun w=>by
 subst hc
 obtain⟨⟨h,gs,d,k',os⟩,e0,e'⟩:=Option.map_eq_some_iff.mp (boot_open e hN f w)
 obtain⟨rfl,rfl,rfl,rfl⟩:h=boot_heap w.params∧gs=Array.mk []∧d=boot_drawn∧k'=boot_toks:=by simpa using e'
 obtain⟨z1,z2,z3⟩:_∧_∧_:=by simpa only[Prod.mk.injEq]using size w
 obtain⟨⟨f1,s1,c1,p1⟩,r0,r1⟩:=Option.map_eq_some_iff.mp (congrFun (last w) os)
 simp only[Prod.mk.injEq]at r1
 obtain⟨⟨rfl,rfl,rfl⟩,l1,l2,l3⟩:=r1
 have k0:topRun treeTable p w 11 ann 3 s1.abs (restOf [] ev (.body b ev) p1 [topFrame zQ])=some s1.abs:=rfl
 have k1:=piece_app (rest:=[]) (segRun_of r0) k0
 rw[List.append_nil]at k1
 have k2:=piece_block (blk w os) k1
 have r:=go_top (pre w os) k2
 have r:=topRun_mono (N-(n1+(n2+(N1+3)))) _ _ _ _ r
 rw[show n1+(n2+(N1+3))+(N-(n1+(n2+(N1+3))))=N by have:=Nat.le_of_ble_eq_true le;omega]at r
 have t:topFrom treeTable p w N ⟨boot_heap w.params,Array.mk [],boot_drawn,boot_toks,os⟩=some s1.abs:=by
  unfold topFrom
  dsimp only
  rw[z1,z2,z3,r]
  show(match staticsOk (importedModules p.main.body) (boot_heap w.params) s1.abs.heap&&namesBound p s1.abs.heap&&gensDone s1.abs&&laidKept (boot_heap w.params) s1.abs.heap with|true=>_|false=>_)=_
  rw[l1]
 unfold openEnds
 rw[e0]
 show(topFrom treeTable p w N _).map _=_
 rw[t]
 exact congrArg some (Prod.ext l2 l3)
end L2
set_option maxHeartbeats 0
namespace K10
open PySem PySem.W PyProof.Rows
noncomputable section
abbrev S (s:String) (t:Nat):Value:= .str (Str.ofString s) t
abbrev I (n:Int) (t:Nat):Value:= .int n t
abbrev R (a:Nat):Value:= .ref a
abbrev E (P:Params) (s:String) (t:Nat) (v:Value):DictEntry:=⟨PyData.keyHash P (Str.ofString s), .str (Str.ofString s) t,v⟩
abbrev cO (n n2:String) (k l g f a:Nat) (bo:Bool) (q b:Nat) (x y c:Value) (e:Nat):Obj:={cls:= .type "code",data:= .fields #[S n k,S n2 (k+1),S "/claim/cut.py" (k+2),I l 0,I g 0,I 0 0,I 0 0,I f 0,R a, .bool bo,I q 0,R b, .none,x,y,c,I e 0,I l 0,S "/claim/cut.py" (e+1)]}
abbrev gO (c:Value) (n q:String) (s:Stmt) (gl:Nat) (df kw doc pm:Value) (an:Option Nat) (cd ct:Value):Obj:={cls:=c,data:= .func {name:=Str.ofString n,qualname:=Str.ofString q,params:=L2.AQ s,body:= .stmts (L2.AO s),scope:=L2.A0 s,globals:=gl,closure:=[],defaults:=df,kwdefaults:=kw,doc:=doc,pyModule:=pm,annotations:=an,code:=cd,closureTuple:=ct}}
def vw:Program:={PySem.Challenge.pw_webstore_k10_fields_set_and_gone with main:={(PySem.Challenge.pw_webstore_k10_fields_set_and_gone).main with body:=[CH 1,CH 2,CH 3,CH 4,CH 5,CH 6,CH 7,CH 8,CH 9,CH 10,CH 11,CH 12,CH 13,CH 14,CH 16,CH 18,CH 19,CH 21,CH 22,CH 23,CH 24,CH 25,CH 26,CH 27,CH 28,CH 29,CH 30,CH 31,CH 32,CH 33,CH 34,CH 35,CH 36,CH 37,CH 38,CH 39]}}
def kk:Params→Frag:=fun P=>
 (nat_lit 3,{cls:= .type "dict",data:=Data.dict (E P "__name__" 165 (S "law_webstore_k10_fields_set_and_gone" 634)::E P "__doc__" 166 .none::E P "__package__" 167 .none::E P "__loader__" 168 (.builtin "__main__.__loader__#opaque")::E P "__spec__" 169 .none::E P "__annotations__" 170 (R 6)::E P "__builtins__" 171 (R 4)::E P "__file__" 173 (S "/claim/cut.py" 172)::E P "__cached__" 174 .none::E P "WebError" 206 (R 24)::E P "NoPlace" 222 (R 37)::E P "NoTie" 238 (R 49)::E P "Tied" 254 (R 61)::E P "NoWalk" 270 (R 73)::E P "TooMany" 286 (R 85)::E P "NoColumn" 302 (R 97)::E P "NoPlan" 318 (R 109)::E P "Taken" 334 (R 121)::E P "Endless" 359 (R 140)::E P "NoEnd" 384 (R 159)::E P "Broken" 411 (R 178)::E P "BadDeed" 438 (R 197)::E P "BadRow" 463 (R 216)::E P "fields_told" 472 (R 225)::E P "Store" 627 (R 336)::E P "with_value" 633 (R 345)::E P "_law_hand" 641 (R 350)::E P "_law_draw" 653 (R 357)::E P "_law_word" 659 (R 362)::E P "_law_value" 669 (R 369)::E P "_law_fields" 679 (R 376)::E P "_law_begun" 685 (R 383)::E P "_law_told" 691 (R 388)::E P "_law_rows" 697 (R 393)::E P "_law_tied" 706 (R 400)::E P "_law_refusal" 712 (R 405)::E P "_law_set" 721 (R 412)::E P "_law_do" 731 (R 419)::E P "_law_call" 739 (R 426)::E P "_law_word_of" 748 (R 433)::E P "_law_done" 759 (R 440)::E P "_law_same" 765 (R 445)::E P "_law_made" 782 (R 452)::E P "_law_all_right" 795 (R 459)::E P "law" 813 (R 466)::[]).toArray 45})::
 (nat_lit 15,{cls:= .type "tuple",data:=Data.seq #[.type "ValueError"]})::
 (nat_lit 22,{cls:= .type "tuple",data:=Data.seq #[]})::
 (nat_lit 23,{cls:= .type "dict",data:=Data.dict (E P "__module__" 196 (S "webstore.errors" 187)::E P "__firstlineno__" 200 (I 2 199)::E P "__static_attributes__" 201 (R 22)::E P "__weakref__" 203 (R 25)::E P "__doc__" 204 .none::[]).toArray 3})::
 (nat_lit 24,{cls:= .type "type",data:=Data.cls {name:=Str.ofString "WebError",bases:=[.type "ValueError"],mro:=[R 24, .type "ValueError", .type "Exception", .type "BaseException", .type "object"],ns:=23,qualname:=Str.ofString "WebError",subclasses:=[R 37,R 49,R 61,R 73,R 85,R 97,R 109,R 121,R 140,R 159,R 178,R 197,R 216]},slots:= #[some (R 15),none,some (S "WebError" 189),some (S "WebError" 197),some (.builtin "ValueError.__new__"),some (.bool true)]})::
 (nat_lit 25,{cls:= .type "getset_descriptor",data:=Data.fields #[S "__weakref__" 202,R 24, .builtin "ExceptionGroup.__weakref__", .none]})::
 (nat_lit 28,{cls:= .type "tuple",data:=Data.seq #[R 24]})::
 (nat_lit 35,{cls:= .type "tuple",data:=Data.seq #[]})::
 (nat_lit 36,{cls:= .type "dict",data:=Data.dict (E P "__module__" 214 (S "webstore.errors" 187)::E P "__firstlineno__" 218 (I 4 217)::E P "__static_attributes__" 219 (R 35)::E P "__doc__" 220 .none::[]).toArray 2})::
 (nat_lit 37,{cls:= .type "type",data:=Data.cls {name:=Str.ofString "NoPlace",bases:=[R 24],mro:=[R 37,R 24, .type "ValueError", .type "Exception", .type "BaseException", .type "object"],ns:=36,qualname:=Str.ofString "NoPlace"},slots:= #[some (R 28),none,some (S "NoPlace" 207),some (S "NoPlace" 215),some (.builtin "ValueError.__new__"),some (.bool true)]})::
 (nat_lit 40,{cls:= .type "tuple",data:=Data.seq #[R 24]})::
 (nat_lit 47,{cls:= .type "tuple",data:=Data.seq #[]})::
 (nat_lit 48,{cls:= .type "dict",data:=Data.dict (E P "__module__" 230 (S "webstore.errors" 187)::E P "__firstlineno__" 234 (I 6 233)::E P "__static_attributes__" 235 (R 47)::E P "__doc__" 236 .none::[]).toArray 2})::
 (nat_lit 49,{cls:= .type "type",data:=Data.cls {name:=Str.ofString "NoTie",bases:=[R 24],mro:=[R 49,R 24, .type "ValueError", .type "Exception", .type "BaseException", .type "object"],ns:=48,qualname:=Str.ofString "NoTie"},slots:= #[some (R 40),none,some (S "NoTie" 223),some (S "NoTie" 231),some (.builtin "ValueError.__new__"),some (.bool true)]})::
 (nat_lit 52,{cls:= .type "tuple",data:=Data.seq #[R 24]})::
 (nat_lit 59,{cls:= .type "tuple",data:=Data.seq #[]})::
 (nat_lit 60,{cls:= .type "dict",data:=Data.dict (E P "__module__" 246 (S "webstore.errors" 187)::E P "__firstlineno__" 250 (I 8 249)::E P "__static_attributes__" 251 (R 59)::E P "__doc__" 252 .none::[]).toArray 2})::
 (nat_lit 61,{cls:= .type "type",data:=Data.cls {name:=Str.ofString "Tied",bases:=[R 24],mro:=[R 61,R 24, .type "ValueError", .type "Exception", .type "BaseException", .type "object"],ns:=60,qualname:=Str.ofString "Tied"},slots:= #[some (R 52),none,some (S "Tied" 239),some (S "Tied" 247),some (.builtin "ValueError.__new__"),some (.bool true)]})::
 (nat_lit 64,{cls:= .type "tuple",data:=Data.seq #[R 24]})::
 (nat_lit 71,{cls:= .type "tuple",data:=Data.seq #[]})::
 (nat_lit 72,{cls:= .type "dict",data:=Data.dict (E P "__module__" 262 (S "webstore.errors" 187)::E P "__firstlineno__" 266 (I 10 265)::E P "__static_attributes__" 267 (R 71)::E P "__doc__" 268 .none::[]).toArray 2})::
 (nat_lit 73,{cls:= .type "type",data:=Data.cls {name:=Str.ofString "NoWalk",bases:=[R 24],mro:=[R 73,R 24, .type "ValueError", .type "Exception", .type "BaseException", .type "object"],ns:=72,qualname:=Str.ofString "NoWalk"},slots:= #[some (R 64),none,some (S "NoWalk" 255),some (S "NoWalk" 263),some (.builtin "ValueError.__new__"),some (.bool true)]})::
 (nat_lit 76,{cls:= .type "tuple",data:=Data.seq #[R 24]})::
 (nat_lit 83,{cls:= .type "tuple",data:=Data.seq #[]})::
 (nat_lit 84,{cls:= .type "dict",data:=Data.dict (E P "__module__" 278 (S "webstore.errors" 187)::E P "__firstlineno__" 282 (I 12 281)::E P "__static_attributes__" 283 (R 83)::E P "__doc__" 284 .none::[]).toArray 2})::
 (nat_lit 85,{cls:= .type "type",data:=Data.cls {name:=Str.ofString "TooMany",bases:=[R 24],mro:=[R 85,R 24, .type "ValueError", .type "Exception", .type "BaseException", .type "object"],ns:=84,qualname:=Str.ofString "TooMany"},slots:= #[some (R 76),none,some (S "TooMany" 271),some (S "TooMany" 279),some (.builtin "ValueError.__new__"),some (.bool true)]})::
 (nat_lit 88,{cls:= .type "tuple",data:=Data.seq #[R 24]})::
 (nat_lit 95,{cls:= .type "tuple",data:=Data.seq #[]})::
 (nat_lit 96,{cls:= .type "dict",data:=Data.dict (E P "__module__" 294 (S "webstore.errors" 187)::E P "__firstlineno__" 298 (I 14 297)::E P "__static_attributes__" 299 (R 95)::E P "__doc__" 300 .none::[]).toArray 2})::
 (nat_lit 97,{cls:= .type "type",data:=Data.cls {name:=Str.ofString "NoColumn",bases:=[R 24],mro:=[R 97,R 24, .type "ValueError", .type "Exception", .type "BaseException", .type "object"],ns:=96,qualname:=Str.ofString "NoColumn"},slots:= #[some (R 88),none,some (S "NoColumn" 287),some (S "NoColumn" 295),some (.builtin "ValueError.__new__"),some (.bool true)]})::
 (nat_lit 100,{cls:= .type "tuple",data:=Data.seq #[R 24]})::
 (nat_lit 107,{cls:= .type "tuple",data:=Data.seq #[]})::
 (nat_lit 108,{cls:= .type "dict",data:=Data.dict (E P "__module__" 310 (S "webstore.errors" 187)::E P "__firstlineno__" 314 (I 16 313)::E P "__static_attributes__" 315 (R 107)::E P "__doc__" 316 .none::[]).toArray 2})::
 (nat_lit 109,{cls:= .type "type",data:=Data.cls {name:=Str.ofString "NoPlan",bases:=[R 24],mro:=[R 109,R 24, .type "ValueError", .type "Exception", .type "BaseException", .type "object"],ns:=108,qualname:=Str.ofString "NoPlan"},slots:= #[some (R 100),none,some (S "NoPlan" 303),some (S "NoPlan" 311),some (.builtin "ValueError.__new__"),some (.bool true)]})::
 (nat_lit 112,{cls:= .type "tuple",data:=Data.seq #[R 24]})::
 (nat_lit 119,{cls:= .type "tuple",data:=Data.seq #[]})::
 (nat_lit 120,{cls:= .type "dict",data:=Data.dict (E P "__module__" 326 (S "webstore.errors" 187)::E P "__firstlineno__" 330 (I 18 329)::E P "__static_attributes__" 331 (R 119)::E P "__doc__" 332 .none::[]).toArray 2})::
 (nat_lit 121,{cls:= .type "type",data:=Data.cls {name:=Str.ofString "Taken",bases:=[R 24],mro:=[R 121,R 24, .type "ValueError", .type "Exception", .type "BaseException", .type "object"],ns:=120,qualname:=Str.ofString "Taken"},slots:= #[some (R 112),none,some (S "Taken" 319),some (S "Taken" 327),some (.builtin "ValueError.__new__"),some (.bool true)]})::
 (nat_lit 124,{cls:= .type "tuple",data:=Data.seq #[R 24]})::
 (nat_lit 136,cO "__init__" "Endless.__init__" 347 22 2 3 131 true 181 132 (R 133) (R 134) (R 135) 352)::
 (nat_lit 137,gO (.type "function") "__init__" "Endless.__init__" (mt 10 0) 3 .none .none .none (S "webstore.errors" 187) (none) (R 136) .none)::
 (nat_lit 138,{cls:= .type "tuple",data:=Data.seq #[S "loop" 355]})::
 (nat_lit 139,{cls:= .type "dict",data:=Data.dict (E P "__module__" 342 (S "webstore.errors" 187)::E P "__firstlineno__" 346 (I 20 345)::E P "__init__" 354 (R 137)::E P "__static_attributes__" 356 (R 138)::E P "__doc__" 357 .none::[]).toArray 2})::
 (nat_lit 140,{cls:= .type "type",data:=Data.cls {name:=Str.ofString "Endless",bases:=[R 24],mro:=[R 140,R 24, .type "ValueError", .type "Exception", .type "BaseException", .type "object"],ns:=139,qualname:=Str.ofString "Endless"},slots:= #[some (R 124),none,some (S "Endless" 335),some (S "Endless" 343),some (.builtin "ValueError.__new__"),some (.bool true)]})::
 (nat_lit 143,{cls:= .type "tuple",data:=Data.seq #[R 24]})::
 (nat_lit 155,cO "__init__" "NoEnd.__init__" 372 26 2 3 150 true 181 151 (R 152) (R 153) (R 154) 377)::
 (nat_lit 156,gO (.type "function") "__init__" "NoEnd.__init__" (mt 11 0) 3 .none .none .none (S "webstore.errors" 187) (none) (R 155) .none)::
 (nat_lit 157,{cls:= .type "tuple",data:=Data.seq #[S "row" 380]})::
 (nat_lit 158,{cls:= .type "dict",data:=Data.dict (E P "__module__" 367 (S "webstore.errors" 187)::E P "__firstlineno__" 371 (I 24 370)::E P "__init__" 379 (R 156)::E P "__static_attributes__" 381 (R 157)::E P "__doc__" 382 .none::[]).toArray 2})::
 (nat_lit 159,{cls:= .type "type",data:=Data.cls {name:=Str.ofString "NoEnd",bases:=[R 24],mro:=[R 159,R 24, .type "ValueError", .type "Exception", .type "BaseException", .type "object"],ns:=158,qualname:=Str.ofString "NoEnd"},slots:= #[some (R 143),none,some (S "NoEnd" 360),some (S "NoEnd" 368),some (.builtin "ValueError.__new__"),some (.bool true)]})::
 (nat_lit 162,{cls:= .type "tuple",data:=Data.seq #[R 24]})::
 (nat_lit 174,cO "__init__" "Broken.__init__" 397 30 3 3 169 true 181 170 (R 171) (R 172) (R 173) 403)::
 (nat_lit 175,gO (.type "function") "__init__" "Broken.__init__" (mt 12 0) 3 .none .none .none (S "webstore.errors" 187) (none) (R 174) .none)::
 (nat_lit 176,{cls:= .type "tuple",data:=Data.seq #[S "breach" 406,S "rule" 407]})::
 (nat_lit 177,{cls:= .type "dict",data:=Data.dict (E P "__module__" 392 (S "webstore.errors" 187)::E P "__firstlineno__" 396 (I 28 395)::E P "__init__" 405 (R 175)::E P "__static_attributes__" 408 (R 176)::E P "__doc__" 409 .none::[]).toArray 2})::
 (nat_lit 178,{cls:= .type "type",data:=Data.cls {name:=Str.ofString "Broken",bases:=[R 24],mro:=[R 178,R 24, .type "ValueError", .type "Exception", .type "BaseException", .type "object"],ns:=177,qualname:=Str.ofString "Broken"},slots:= #[some (R 162),none,some (S "Broken" 385),some (S "Broken" 393),some (.builtin "ValueError.__new__"),some (.bool true)]})::
 (nat_lit 181,{cls:= .type "tuple",data:=Data.seq #[R 24]})::
 (nat_lit 193,cO "__init__" "BadDeed.__init__" 424 35 3 3 188 true 181 189 (R 190) (R 191) (R 192) 430)::
 (nat_lit 194,gO (.type "function") "__init__" "BadDeed.__init__" (mt 13 0) 3 .none .none .none (S "webstore.errors" 187) (none) (R 193) .none)::
 (nat_lit 195,{cls:= .type "tuple",data:=Data.seq #[S "deed" 433,S "word" 434]})::
 (nat_lit 196,{cls:= .type "dict",data:=Data.dict (E P "__module__" 419 (S "webstore.errors" 187)::E P "__firstlineno__" 423 (I 33 422)::E P "__init__" 432 (R 194)::E P "__static_attributes__" 435 (R 195)::E P "__doc__" 436 .none::[]).toArray 2})::
 (nat_lit 197,{cls:= .type "type",data:=Data.cls {name:=Str.ofString "BadDeed",bases:=[R 24],mro:=[R 197,R 24, .type "ValueError", .type "Exception", .type "BaseException", .type "object"],ns:=196,qualname:=Str.ofString "BadDeed"},slots:= #[some (R 181),none,some (S "BadDeed" 412),some (S "BadDeed" 420),some (.builtin "ValueError.__new__"),some (.bool true)]})::
 (nat_lit 200,{cls:= .type "tuple",data:=Data.seq #[R 24]})::
 (nat_lit 212,cO "__init__" "BadRow.__init__" 451 40 2 3 207 true 181 208 (R 209) (R 210) (R 211) 456)::
 (nat_lit 213,gO (.type "function") "__init__" "BadRow.__init__" (mt 14 0) 3 .none .none .none (S "webstore.errors" 187) (none) (R 212) .none)::
 (nat_lit 214,{cls:= .type "tuple",data:=Data.seq #[S "row" 459]})::
 (nat_lit 215,{cls:= .type "dict",data:=Data.dict (E P "__module__" 446 (S "webstore.errors" 187)::E P "__firstlineno__" 450 (I 38 449)::E P "__init__" 458 (R 213)::E P "__static_attributes__" 460 (R 214)::E P "__doc__" 461 .none::[]).toArray 2})::
 (nat_lit 216,{cls:= .type "type",data:=Data.cls {name:=Str.ofString "BadRow",bases:=[R 24],mro:=[R 216,R 24, .type "ValueError", .type "Exception", .type "BaseException", .type "object"],ns:=215,qualname:=Str.ofString "BadRow"},slots:= #[some (R 200),none,some (S "BadRow" 439),some (S "BadRow" 447),some (.builtin "ValueError.__new__"),some (.bool true)]})::
 (nat_lit 224,cO "fields_told" "fields_told" 466 43 1 3 219 true 181 220 (R 221) (R 222) (R 223) 470)::
 (nat_lit 225,gO (.type "function") "fields_told" "fields_told" (CH 16) 3 .none .none .none (S "webstore.values" 464) (none) (R 224) .none)::
 (nat_lit 238,cO "__init__" "Store.__init__" 487 48 1 3 233 true 181 234 (R 235) (R 236) (R 237) 491)::
 (nat_lit 239,gO (.type "function") "__init__" "Store.__init__" (mt 18 0) 3 .none .none .none (S "webstore.store" 473) (none) (R 238) .none)::
 (nat_lit 245,cO "add_place" "Store.add_place" 494 54 3 3 240 true 181 241 (R 242) (R 243) (R 244) 501)::
 (nat_lit 246,gO (.type "function") "add_place" "Store.add_place" (mt 18 1) 3 .none .none .none (S "webstore.store" 473) (none) (R 245) .none)::
 (nat_lit 252,cO "add_tie" "Store.add_tie" 504 60 5 3 247 true 181 248 (R 249) (R 250) (R 251) 513)::
 (nat_lit 253,gO (.type "function") "add_tie" "Store.add_tie" (mt 18 2) 3 .none .none .none (S "webstore.store" 473) (none) (R 252) .none)::
 (nat_lit 259,cO "take_place" "Store.take_place" 516 68 2 3 254 true 181 255 (R 256) (R 257) (R 258) 521)::
 (nat_lit 260,gO (.type "function") "take_place" "Store.take_place" (mt 18 3) 3 .none .none .none (S "webstore.store" 473) (none) (R 259) .none)::
 (nat_lit 266,cO "take_tie" "Store.take_tie" 524 74 2 3 261 true 181 262 (R 263) (R 264) (R 265) 529)::
 (nat_lit 267,gO (.type "function") "take_tie" "Store.take_tie" (mt 18 4) 3 .none .none .none (S "webstore.store" 473) (none) (R 266) .none)::
 (nat_lit 273,cO "set_place" "Store.set_place" 532 78 4 3 268 true 181 269 (R 270) (R 271) (R 272) 541)::
 (nat_lit 274,gO (.type "function") "set_place" "Store.set_place" (mt 18 5) 3 .none .none .none (S "webstore.store" 473) (none) (R 273) .none)::
 (nat_lit 280,cO "set_tie" "Store.set_tie" 544 82 4 3 275 true 181 276 (R 277) (R 278) (R 279) 555)::
 (nat_lit 281,gO (.type "function") "set_tie" "Store.set_tie" (mt 18 6) 3 .none .none .none (S "webstore.store" 473) (none) (R 280) .none)::
 (nat_lit 287,cO "place" "Store.place" 558 86 2 3 282 true 181 283 (R 284) (R 285) (R 286) 563)::
 (nat_lit 288,gO (.type "function") "place" "Store.place" (mt 18 7) 3 .none .none .none (S "webstore.store" 473) (none) (R 287) .none)::
 (nat_lit 294,cO "tie" "Store.tie" 566 90 2 3 289 true 181 290 (R 291) (R 292) (R 293) 571)::
 (nat_lit 295,gO (.type "function") "tie" "Store.tie" (mt 18 8) 3 .none .none .none (S "webstore.store" 473) (none) (R 294) .none)::
 (nat_lit 301,cO "places" "Store.places" 574 94 1 3 296 true 181 297 (R 298) (R 299) (R 300) 578)::
 (nat_lit 302,gO (.type "function") "places" "Store.places" (mt 18 9) 3 .none .none .none (S "webstore.store" 473) (none) (R 301) .none)::
 (nat_lit 308,cO "ties" "Store.ties" 581 97 1 3 303 true 181 304 (R 305) (R 306) (R 307) 585)::
 (nat_lit 309,gO (.type "function") "ties" "Store.ties" (mt 18 10) 3 .none .none .none (S "webstore.store" 473) (none) (R 308) .none)::
 (nat_lit 313,cO "out_of" "Store.out_of" 588 100 2 3 310 true 181 311 .none .none (R 312) 591)::
 (nat_lit 314,gO (.type "function") "out_of" "Store.out_of" (mt 18 11) 3 .none .none .none (S "webstore.store" 473) (none) (R 313) .none)::
 (nat_lit 318,cO "into" "Store.into" 594 104 2 3 315 true 181 316 .none .none (R 317) 597)::
 (nat_lit 319,gO (.type "function") "into" "Store.into" (mt 18 12) 3 .none .none .none (S "webstore.store" 473) (none) (R 318) .none)::
 (nat_lit 325,cO "need_place" "Store.need_place" 600 108 2 3 320 true 181 321 (R 322) (R 323) (R 324) 605)::
 (nat_lit 326,gO (.type "function") "need_place" "Store.need_place" (mt 18 13) 3 .none .none .none (S "webstore.store" 473) (none) (R 325) .none)::
 (nat_lit 332,cO "need_tie" "Store.need_tie" 608 112 2 3 327 true 181 328 (R 329) (R 330) (R 331) 613)::
 (nat_lit 333,gO (.type "function") "need_tie" "Store.need_tie" (mt 18 14) 3 .none .none .none (S "webstore.store" 473) (none) (R 332) .none)::
 (nat_lit 334,{cls:= .type "tuple",data:=Data.seq #[S "next_place" 616,S "next_tie" 617,S "place_rows" 618,S "tie_rows" 619]})::
 (nat_lit 335,{cls:= .type "dict",data:=Data.dict (E P "__module__" 482 (S "webstore.store" 473)::E P "__firstlineno__" 486 (I 46 485)::E P "__init__" 493 (R 239)::E P "add_place" 503 (R 246)::E P "add_tie" 515 (R 253)::E P "take_place" 523 (R 260)::E P "take_tie" 531 (R 267)::E P "set_place" 543 (R 274)::E P "set_tie" 557 (R 281)::E P "place" 565 (R 288)::E P "tie" 573 (R 295)::E P "places" 580 (R 302)::E P "ties" 587 (R 309)::E P "out_of" 593 (R 314)::E P "into" 599 (R 319)::E P "need_place" 607 (R 326)::E P "need_tie" 615 (R 333)::E P "__static_attributes__" 620 (R 334)::E P "__dict__" 622 (R 337)::E P "__weakref__" 624 (R 338)::E P "__doc__" 625 .none::[]).toArray 4})::
 (nat_lit 336,{cls:= .type "type",data:=Data.cls {name:=Str.ofString "Store",bases:=[.type "object"],mro:=[R 336, .type "object"],ns:=335,qualname:=Str.ofString "Store"},slots:= #[none,none,some (S "Store" 475),some (S "Store" 483),some (.builtin "object.__new__"),some (.bool true)]})::
 (nat_lit 337,{cls:= .type "getset_descriptor",data:=Data.fields #[S "__dict__" 621,R 336, .builtin "function.__dict__", .builtin "function.__dict__#set"]})::
 (nat_lit 338,{cls:= .type "getset_descriptor",data:=Data.fields #[S "__weakref__" 623,R 336, .builtin "ExceptionGroup.__weakref__", .none]})::
 (nat_lit 344,cO "with_value" "with_value" 628 115 3 3 341 true 181 342 .none .none (R 343) 631)::
 (nat_lit 345,gO (.type "function") "with_value" "with_value" (CH 19) 3 .none .none .none (S "webstore.store" 473) (none) (R 344) .none)::
 (nat_lit 349,cO "_law_hand" "_law_hand" 636 121 1 3 346 true 181 347 .none .none (R 348) 639)::
 (nat_lit 350,gO (.type "function") "_law_hand" "_law_hand" (CH 21) 3 .none .none .none (S "law_webstore_k10_fields_set_and_gone" 634) (none) (R 349) .none)::
 (nat_lit 356,cO "_law_draw" "_law_draw" 642 123 2 3 351 true 181 352 (R 353) (R 354) (R 355) 651)::
 (nat_lit 357,gO (.type "function") "_law_draw" "_law_draw" (CH 22) 3 .none .none .none (S "law_webstore_k10_fields_set_and_gone" 634) (none) (R 356) .none)::
 (nat_lit 361,cO "_law_word" "_law_word" 654 139 1 3 358 true 181 359 .none .none (R 360) 657)::
 (nat_lit 362,gO (.type "function") "_law_word" "_law_word" (CH 23) 3 .none .none .none (S "law_webstore_k10_fields_set_and_gone" 634) (none) (R 361) .none)::
 (nat_lit 368,cO "_law_value" "_law_value" 660 144 1 3 363 true 181 364 (R 365) (R 366) (R 367) 667)::
 (nat_lit 369,gO (.type "function") "_law_value" "_law_value" (CH 24) 3 .none .none .none (S "law_webstore_k10_fields_set_and_gone" 634) (none) (R 368) .none)::
 (nat_lit 375,cO "_law_fields" "_law_fields" 670 149 2 3 370 true 181 371 (R 372) (R 373) (R 374) 677)::
 (nat_lit 376,gO (.type "function") "_law_fields" "_law_fields" (CH 25) 3 .none .none .none (S "law_webstore_k10_fields_set_and_gone" 634) (none) (R 375) .none)::
 (nat_lit 382,cO "_law_begun" "_law_begun" 680 154 0 3 377 true 181 378 (R 379) (R 380) (R 381) 683)::
 (nat_lit 383,gO (.type "function") "_law_begun" "_law_begun" (CH 26) 3 .none .none .none (S "law_webstore_k10_fields_set_and_gone" 634) (none) (R 382) .none)::
 (nat_lit 387,cO "_law_told" "_law_told" 686 156 1 3 384 true 181 385 .none .none (R 386) 689)::
 (nat_lit 388,gO (.type "function") "_law_told" "_law_told" (CH 27) 3 .none .none .none (S "law_webstore_k10_fields_set_and_gone" 634) (none) (R 387) .none)::
 (nat_lit 399,cO "_law_tied" "_law_tied" 698 164 1 3 394 true 181 395 (R 396) (R 397) (R 398) 704)::
 (nat_lit 400,gO (.type "function") "_law_tied" "_law_tied" (CH 29) 3 .none .none .none (S "law_webstore_k10_fields_set_and_gone" 634) (none) (R 399) .none)::
 (nat_lit 404,cO "_law_refusal" "_law_refusal" 707 169 2 3 401 true 181 402 .none .none (R 403) 710)::
 (nat_lit 405,gO (.type "function") "_law_refusal" "_law_refusal" (CH 30) 3 .none .none .none (S "law_webstore_k10_fields_set_and_gone" 634) (none) (R 404) .none)::
 (nat_lit 411,cO "_law_set" "_law_set" 713 181 3 3 406 true 181 407 (R 408) (R 409) (R 410) 719)::
 (nat_lit 412,gO (.type "function") "_law_set" "_law_set" (CH 31) 3 .none .none .none (S "law_webstore_k10_fields_set_and_gone" 634) (none) (R 411) .none)::
 (nat_lit 418,cO "_law_do" "_law_do" 722 185 2 3 413 true 181 414 (R 415) (R 416) (R 417) 729)::
 (nat_lit 419,gO (.type "function") "_law_do" "_law_do" (CH 32) 3 .none .none .none (S "law_webstore_k10_fields_set_and_gone" 634) (none) (R 418) .none)::
 (nat_lit 425,cO "_law_call" "_law_call" 732 207 2 3 420 true 181 421 (R 422) (R 423) (R 424) 737)::
 (nat_lit 426,gO (.type "function") "_law_call" "_law_call" (CH 33) 3 .none .none .none (S "law_webstore_k10_fields_set_and_gone" 634) (none) (R 425) .none)::
 (nat_lit 432,cO "_law_word_of" "_law_word_of" 740 219 1 3 427 true 181 428 (R 429) (R 430) (R 431) 746)::
 (nat_lit 433,gO (.type "function") "_law_word_of" "_law_word_of" (CH 34) 3 .none .none .none (S "law_webstore_k10_fields_set_and_gone" 634) (none) (R 432) .none)::
 (nat_lit 439,cO "_law_done" "_law_done" 749 226 2 3 434 true 181 435 (R 436) (R 437) (R 438) 757)::
 (nat_lit 440,gO (.type "function") "_law_done" "_law_done" (CH 35) 3 .none .none .none (S "law_webstore_k10_fields_set_and_gone" 634) (none) (R 439) .none)::
 (nat_lit 444,cO "_law_same" "_law_same" 760 235 2 3 441 true 181 442 .none .none (R 443) 763)::
 (nat_lit 445,gO (.type "function") "_law_same" "_law_same" (CH 36) 3 .none .none .none (S "law_webstore_k10_fields_set_and_gone" 634) (none) (R 444) .none)::
 (nat_lit 451,cO "_law_made" "_law_made" 766 243 3 3 446 true 181 447 (R 448) (R 449) (R 450) 780)::
 (nat_lit 452,gO (.type "function") "_law_made" "_law_made" (CH 37) 3 .none .none .none (S "law_webstore_k10_fields_set_and_gone" 634) (none) (R 451) .none)::
 (nat_lit 458,cO "_law_all_right" "_law_all_right" 783 259 2 3 453 true 181 454 (R 455) (R 456) (R 457) 793)::
 (nat_lit 459,gO (.type "function") "_law_all_right" "_law_all_right" (CH 38) 3 .none .none .none (S "law_webstore_k10_fields_set_and_gone" 634) (none) (R 458) .none)::
 (nat_lit 465,cO "law" "law" 796 269 1 3 460 true 181 461 (R 462) (R 463) (R 464) 811)::
 (nat_lit 466,gO (.type "function") "law" "law" (CH 39) 3 .none .none .none (S "law_webstore_k10_fields_set_and_gone" 634) (none) (R 465) .none)::[]
def ka:List Addr:=3::15::22::23::24::25::28::35::36::37::40::47::48::49::52::59::60::61::64::71::72::73::76::83::84::85::88::95::96::97::100::107::108::109::112::119::120::121::124::136::137::138::139::140::143::155::156::157::158::159::162::174::175::176::177::178::181::193::194::195::196::197::200::212::213::214::215::216::224::225::238::239::245::246::252::253::259::260::266::267::273::274::280::281::287::288::294::295::301::302::308::309::313::314::318::319::325::326::332::333::334::335::336::337::338::344::345::349::350::356::357::361::362::368::369::375::376::382::383::387::388::399::400::404::405::411::412::418::419::425::426::432::433::439::440::444::445::451::452::458::459::465::466::[]
theorem kp:∀P,ka=(kk P).map (·.1):=fun _=>by kernel_rfl
abbrev xt:Shared→Bool:=fun s=>xlAt vw [] s&&recOk (RowW.records (PySem.Challenge.rw_webstore_k10_fields_set_and_gone).row.toRowW) s
def T0 (P:Params):BT:= .node (boot_o_0 P) (.node (boot_o_1 P) (.node (boot_o_3 P) (.node (boot_o_7 P) .nil .nil) (.node ({cls:= .type "tuple",data:=Data.seq #[]}) .nil .nil)) (.node (boot_o_5 P) (.node (boot_o_9 P) .nil .nil) (.node (cO "<module>" "<module>" 182 1 0 0 11 false 181 12 .none .none .none 185) .nil .nil))) (.node (boot_o_2 P) (.node (boot_o_4 P) (.node (boot_o_8 P) .nil .nil) (.node ({cls:= .none,data:=Data.fields #[]}) .nil .nil)) (.node (boot_o_6 P) (.node (boot_o_10 P) .nil .nil) (.node ({cls:= .type "frame",slots:= #[some (R 13),some (R 3),some (R 3),none,some (S "__main__" 164),none,some (R 0)]}) .nil .nil)))
def H0 (P:Params):Heap:=⟨Array.mk ((boot_o_0 P)::(boot_o_1 P)::(boot_o_2 P)::(boot_o_3 P)::(boot_o_4 P)::(boot_o_5 P)::(boot_o_6 P)::(boot_o_7 P)::(boot_o_8 P)::(boot_o_9 P)::(boot_o_10 P)::({cls:= .type "tuple",data:=Data.seq #[]})::({cls:= .none,data:=Data.fields #[]})::(cO "<module>" "<module>" 182 1 0 0 11 false 181 12 .none .none .none 185)::({cls:= .type "frame",slots:= #[some (R 13),some (R 3),some (R 3),none,some (S "__main__" 164),none,some (R 0)]})::[]),{}⟩
def bb:List Stmt:=behindTheImports PySem.Challenge.pw_webstore_k10_fields_set_and_gone
def ev:Env:={scope:=(PySem.Challenge.pw_webstore_k10_fields_set_and_gone).main.scope,locals:=mainNs,globals:=mainNs,cells:=[],code:= .ref 13,frame:=some 14}
def cE:Code:= .body bb ev
theorem hl:LeftO (PySem.Challenge.rw_webstore_k10_fields_set_and_gone).row.toRowW.prog vw [] xt (Hook.obs (kHook kk ka kp)) (Hook.val (kHook kk ka kp)) 9670:=
 L2.LeftO.own T0 15 187 12 1 4473 (some (.ref 6)) bb ev cE ⟨269,0,284,15⟩ H0 (by rfl) (by rfl) (fun _=>rfl) (fun _=>by kernel_rfl) rfl (fun _ _=>by kernel_rfl) (fun _ _=>by kernel_rfl) (by rfl)
  fun w=>by rewrite [PySem.W.Fast.te10110043849684766642,PySem.W.Fast.te4187177175401517315,PySem.W.Fast.te5923862056798008813,PySem.W.Fast.te2368527892694137696,PySem.W.Fast.te14364793385576792824];kernel_rfl
theorem xF:(PySem.Challenge.rw_webstore_k10_fields_set_and_gone).wellSaid=true:=by rewrite [PySem.W.Fast.te9446332074065402090];kernel_rfl
end
end K10
set_option maxHeartbeats 8000000
namespace K10
open PySem L2
section
variable {P:Program} {w:World} {K:PySem.W.Frag} {mg:Str→Option Value} {base:Heap} {t:Adr}
theorem aQ (T:Txt P w K mg t):FnOk P w K mg base EW 14 t.f_law t.d_law ["_law_script"] (TF K):=(i7 T).imp fun vs H Q E q=>VC Z8 q
end
theorem kQ (P:Program) (w:World) {K:PySem.W.Frag} {h:Heap} {mg:Str→Option Value} {f0 f1 f2 f3 f4 f5 f6 f7 f8 f9 f10 f11 f12 f13 f14 f15 f16 f17 f18 f19 f20 f21 f22 f23 f24 f25 f26 f27 f28 f29 f30:Addr} (X:K.In h) (G:h.Ns mainGlobals mg)
 {od0 an0 od1 an1 od2 an2 od3 an3 od4 an4 od5 an5 od6 an6 od7 an7 od8 an8 od9 an9 od10 an10 od11 an11 od12 an12 od13 an13 od14 an14 od15 an15 od16 an16 od17 an17 od18 an18 od19 an19 od20 an20 od21 an21 od22 an22 od23 an23 od24 an24 od25 an25 od26 an26 od27 an27 od28 an28 od29 an29 od30 an30:Option Addr} {sl0 sl1 sl2 sl3 sl4 sl5 sl6 sl7 sl8 sl9 sl10 sl11 sl12 sl13 sl14 sl15 sl16 sl17 sl18 sl19 sl20 sl21 sl22 sl23 sl24 sl25 sl26 sl27 sl28 sl29 sl30:Array (Option Value)} {oc0 kV0 dc0 pm0 cd0 ct0 oc1 kV1 dc1 pm1 cd1 ct1 oc2 kV2 dc2 pm2 cd2 ct2 oc3 kV3 dc3 pm3 cd3 ct3 oc4 kV4 dc4 pm4 cd4 ct4 oc5 kV5 dc5 pm5 cd5 ct5 oc6 kV6 dc6 pm6 cd6 ct6 oc7 kV7 dc7 pm7 cd7 ct7 oc8 kV8 dc8 pm8 cd8 ct8 oc9 kV9 dc9 pm9 cd9 ct9 oc10 kV10 dc10 pm10 cd10 ct10 oc11 kV11 dc11 pm11 cd11 ct11 oc12 kV12 dc12 pm12 cd12 ct12 oc13 kV13 dc13 pm13 cd13 ct13 oc14 kV14 dc14 pm14 cd14 ct14 oc15 kV15 dc15 pm15 cd15 ct15 oc16 kV16 dc16 pm16 cd16 ct16 oc17 kV17 dc17 pm17 cd17 ct17 oc18 kV18 dc18 pm18 cd18 ct18 oc19 kV19 dc19 pm19 cd19 ct19 oc20 kV20 dc20 pm20 cd20 ct20 oc21 kV21 dc21 pm21 cd21 ct21 oc22 kV22 dc22 pm22 cd22 ct22 oc23 kV23 dc23 pm23 cd23 ct23 oc24 kV24 dc24 pm24 cd24 ct24 oc25 kV25 dc25 pm25 cd25 ct25 oc26 kV26 dc26 pm26 cd26 ct26 oc27 kV27 dc27 pm27 cd27 ct27 oc28 kV28 dc28 pm28 cd28 ct28 oc29 kV29 dc29 pm29 cd29 ct29 oc30 kV30 dc30 pm30 cd30 ct30:Value}
 {A_Store:Addr} (ga_Store:PySem.W.nsIn K mainGlobals "Store"=some (some (.ref A_Store))) (ac_Store:DI K "Store"=some A_Store) (lc_Store:Cls K A_Store) (mk_Store:PySem.W.makesIn K A_Store=true) (kc_Store:PySem.W.keepIn K (.ref A_Store)=true)
 (na_next_place:NoAttr K A_Store "next_place")
 (na_next_tie:NoAttr K A_Store "next_tie")
 (na_place_rows:NoAttr K A_Store "place_rows")
 (na_tie_rows:NoAttr K A_Store "tie_rows")
 (a0:PySem.W.nsIn K mainGlobals "fields_told"=some (some (.ref f0)))
  (l0:K.lookup f0=some ⟨oc0,od0, .func (PySem.W.fnOf "fields_told" "fields_told" (AQ BG) (AO BG) (A0 BG) .none kV0 dc0 pm0 an0 cd0 ct0),sl0⟩) (c0:PySem.W.codeIn K cd0 "fields_told"=true) (k0:PySem.W.keepIn K (.ref f0)=true)
 (a1:PySem.W.nsIn K mainGlobals "with_value"=some (some (.ref f1)))
  (l1:K.lookup f1=some ⟨oc1,od1, .func (PySem.W.fnOf "with_value" "with_value" (AQ BH) (AO BH) (A0 BH) .none kV1 dc1 pm1 an1 cd1 ct1),sl1⟩) (c1:PySem.W.codeIn K cd1 "with_value"=true) (k1:PySem.W.keepIn K (.ref f1)=true)
 (a2:PySem.W.nsIn K mainGlobals "_law_hand"=some (some (.ref f2)))
  (l2:K.lookup f2=some ⟨oc2,od2, .func (PySem.W.fnOf "_law_hand" "_law_hand" (AQ IL) (AO IL) (A0 IL) .none kV2 dc2 pm2 an2 cd2 ct2),sl2⟩) (c2:PySem.W.codeIn K cd2 "_law_hand"=true) (k2:PySem.W.keepIn K (.ref f2)=true)
 (a3:PySem.W.nsIn K mainGlobals "_law_draw"=some (some (.ref f3)))
  (l3:K.lookup f3=some ⟨oc3,od3, .func (PySem.W.fnOf "_law_draw" "_law_draw" (AQ DT) (AO DT) (A0 DT) .none kV3 dc3 pm3 an3 cd3 ct3),sl3⟩) (c3:PySem.W.codeIn K cd3 "_law_draw"=true) (k3:PySem.W.keepIn K (.ref f3)=true)
 (a4:PySem.W.nsIn K mainGlobals "_law_word"=some (some (.ref f4)))
  (l4:K.lookup f4=some ⟨oc4,od4, .func (PySem.W.fnOf "_law_word" "_law_word" (AQ EZ) (AO EZ) (A0 EZ) .none kV4 dc4 pm4 an4 cd4 ct4),sl4⟩) (c4:PySem.W.codeIn K cd4 "_law_word"=true) (k4:PySem.W.keepIn K (.ref f4)=true)
 (a5:PySem.W.nsIn K mainGlobals "_law_value"=some (some (.ref f5)))
  (l5:K.lookup f5=some ⟨oc5,od5, .func (PySem.W.fnOf "_law_value" "_law_value" (AQ DJ) (AO DJ) (A0 DJ) .none kV5 dc5 pm5 an5 cd5 ct5),sl5⟩) (c5:PySem.W.codeIn K cd5 "_law_value"=true) (k5:PySem.W.keepIn K (.ref f5)=true)
 (a6:PySem.W.nsIn K mainGlobals "_law_fields"=some (some (.ref f6)))
  (l6:K.lookup f6=some ⟨oc6,od6, .func (PySem.W.fnOf "_law_fields" "_law_fields" (AQ C8) (AO C8) (A0 C8) .none kV6 dc6 pm6 an6 cd6 ct6),sl6⟩) (c6:PySem.W.codeIn K cd6 "_law_fields"=true) (k6:PySem.W.keepIn K (.ref f6)=true)
 (a7:PySem.W.nsIn K mainGlobals "_law_begun"=some (some (.ref f7)))
  (l7:K.lookup f7=some ⟨oc7,od7, .func (PySem.W.fnOf "_law_begun" "_law_begun" (AQ HC) (AO HC) (A0 HC) .none kV7 dc7 pm7 an7 cd7 ct7),sl7⟩) (c7:PySem.W.codeIn K cd7 "_law_begun"=true) (k7:PySem.W.keepIn K (.ref f7)=true)
 (a8:PySem.W.nsIn K mainGlobals "_law_told"=some (some (.ref f8)))
  (l8:K.lookup f8=some ⟨oc8,od8, .func (PySem.W.fnOf "_law_told" "_law_told" (AQ G9) (AO G9) (A0 G9) .none kV8 dc8 pm8 an8 cd8 ct8),sl8⟩) (c8:PySem.W.codeIn K cd8 "_law_told"=true) (k8:PySem.W.keepIn K (.ref f8)=true)
 (a9:PySem.W.nsIn K mainGlobals "_law_tied"=some (some (.ref f9)))
  (l9:K.lookup f9=some ⟨oc9,od9, .func (PySem.W.fnOf "_law_tied" "_law_tied" (AQ L8) (AO L8) (A0 L8) .none kV9 dc9 pm9 an9 cd9 ct9),sl9⟩) (c9:PySem.W.codeIn K cd9 "_law_tied"=true) (k9:PySem.W.keepIn K (.ref f9)=true)
 (a10:PySem.W.nsIn K mainGlobals "_law_refusal"=some (some (.ref f10)))
  (l10:K.lookup f10=some ⟨oc10,od10, .func (PySem.W.fnOf "_law_refusal" "_law_refusal" (AQ C4) (AO C4) (A0 C4) .none kV10 dc10 pm10 an10 cd10 ct10),sl10⟩) (c10:PySem.W.codeIn K cd10 "_law_refusal"=true) (k10:PySem.W.keepIn K (.ref f10)=true)
 (a11:PySem.W.nsIn K mainGlobals "_law_set"=some (some (.ref f11)))
  (l11:K.lookup f11=some ⟨oc11,od11, .func (PySem.W.fnOf "_law_set" "_law_set" (AQ J8) (AO J8) (A0 J8) .none kV11 dc11 pm11 an11 cd11 ct11),sl11⟩) (c11:PySem.W.codeIn K cd11 "_law_set"=true) (k11:PySem.W.keepIn K (.ref f11)=true)
 (a12:PySem.W.nsIn K mainGlobals "_law_do"=some (some (.ref f12)))
  (l12:K.lookup f12=some ⟨oc12,od12, .func (PySem.W.fnOf "_law_do" "_law_do" (AQ K4) (AO K4) (A0 K4) .none kV12 dc12 pm12 an12 cd12 ct12),sl12⟩) (c12:PySem.W.codeIn K cd12 "_law_do"=true) (k12:PySem.W.keepIn K (.ref f12)=true)
 (a13:PySem.W.nsIn K mainGlobals "_law_call"=some (some (.ref f13)))
  (l13:K.lookup f13=some ⟨oc13,od13, .func (PySem.W.fnOf "_law_call" "_law_call" (AQ GP) (AO GP) (A0 GP) .none kV13 dc13 pm13 an13 cd13 ct13),sl13⟩) (c13:PySem.W.codeIn K cd13 "_law_call"=true) (k13:PySem.W.keepIn K (.ref f13)=true)
 (a14:PySem.W.nsIn K mainGlobals "_law_word_of"=some (some (.ref f14)))
  (l14:K.lookup f14=some ⟨oc14,od14, .func (PySem.W.fnOf "_law_word_of" "_law_word_of" (AQ FR) (AO FR) (A0 FR) .none kV14 dc14 pm14 an14 cd14 ct14),sl14⟩) (c14:PySem.W.codeIn K cd14 "_law_word_of"=true) (k14:PySem.W.keepIn K (.ref f14)=true)
 (a15:PySem.W.nsIn K mainGlobals "_law_done"=some (some (.ref f15)))
  (l15:K.lookup f15=some ⟨oc15,od15, .func (PySem.W.fnOf "_law_done" "_law_done" (AQ E5) (AO E5) (A0 E5) .none kV15 dc15 pm15 an15 cd15 ct15),sl15⟩) (c15:PySem.W.codeIn K cd15 "_law_done"=true) (k15:PySem.W.keepIn K (.ref f15)=true)
 (a16:PySem.W.nsIn K mainGlobals "_law_same"=some (some (.ref f16)))
  (l16:K.lookup f16=some ⟨oc16,od16, .func (PySem.W.fnOf "_law_same" "_law_same" (AQ CT) (AO CT) (A0 CT) .none kV16 dc16 pm16 an16 cd16 ct16),sl16⟩) (c16:PySem.W.codeIn K cd16 "_law_same"=true) (k16:PySem.W.keepIn K (.ref f16)=true)
 (a17:PySem.W.nsIn K mainGlobals "_law_made"=some (some (.ref f17)))
  (l17:K.lookup f17=some ⟨oc17,od17, .func (PySem.W.fnOf "_law_made" "_law_made" (AQ BM) (AO BM) (A0 BM) .none kV17 dc17 pm17 an17 cd17 ct17),sl17⟩) (c17:PySem.W.codeIn K cd17 "_law_made"=true) (k17:PySem.W.keepIn K (.ref f17)=true)
 (a18:PySem.W.nsIn K mainGlobals "_law_all_right"=some (some (.ref f18)))
  (l18:K.lookup f18=some ⟨oc18,od18, .func (PySem.W.fnOf "_law_all_right" "_law_all_right" (AQ B3) (AO B3) (A0 B3) .none kV18 dc18 pm18 an18 cd18 ct18),sl18⟩) (c18:PySem.W.codeIn K cd18 "_law_all_right"=true) (k18:PySem.W.keepIn K (.ref f18)=true)
 (a19:PySem.W.nsIn K mainGlobals "law"=some (some (.ref f19)))
  (l19:K.lookup f19=some ⟨oc19,od19, .func (PySem.W.fnOf "law" "law" (AQ BF) (AO BF) (A0 BF) .none kV19 dc19 pm19 an19 cd19 ct19),sl19⟩) (c19:PySem.W.codeIn K cd19 "law"=true) (k19:PySem.W.keepIn K (.ref f19)=true)
 (a20:PySem.W.findIn K (.ref A_Store) "__init__"=some (some (.ref f20))) (i20:PySem.W.isFn K (.ref f20)=true)
  (l20:K.lookup f20=some ⟨oc20,od20, .func (PySem.W.fnOf "__init__" "Store.__init__" (AQ BN) (AO BN) (A0 BN) .none kV20 dc20 pm20 an20 cd20 ct20),sl20⟩) (c20:PySem.W.codeIn K cd20 "Store.__init__"=true) (k20:PySem.W.keepIn K (.ref f20)=true)
 (a21:PySem.W.findIn K (.ref A_Store) "add_place"=some (some (.ref f21))) (i21:PySem.W.isFn K (.ref f21)=true)
  (l21:K.lookup f21=some ⟨oc21,od21, .func (PySem.W.fnOf "add_place" "Store.add_place" (AQ AU) (AO AU) (A0 AU) .none kV21 dc21 pm21 an21 cd21 ct21),sl21⟩) (c21:PySem.W.codeIn K cd21 "Store.add_place"=true) (k21:PySem.W.keepIn K (.ref f21)=true)
 (a22:PySem.W.findIn K (.ref A_Store) "add_tie"=some (some (.ref f22))) (i22:PySem.W.isFn K (.ref f22)=true)
  (l22:K.lookup f22=some ⟨oc22,od22, .func (PySem.W.fnOf "add_tie" "Store.add_tie" (AQ AT) (AO AT) (A0 AT) .none kV22 dc22 pm22 an22 cd22 ct22),sl22⟩) (c22:PySem.W.codeIn K cd22 "Store.add_tie"=true) (k22:PySem.W.keepIn K (.ref f22)=true)
 (a23:PySem.W.findIn K (.ref A_Store) "take_place"=some (some (.ref f23))) (i23:PySem.W.isFn K (.ref f23)=true)
  (l23:K.lookup f23=some ⟨oc23,od23, .func (PySem.W.fnOf "take_place" "Store.take_place" (AQ BZ) (AO BZ) (A0 BZ) .none kV23 dc23 pm23 an23 cd23 ct23),sl23⟩) (c23:PySem.W.codeIn K cd23 "Store.take_place"=true) (k23:PySem.W.keepIn K (.ref f23)=true)
 (a24:PySem.W.findIn K (.ref A_Store) "take_tie"=some (some (.ref f24))) (i24:PySem.W.isFn K (.ref f24)=true)
  (l24:K.lookup f24=some ⟨oc24,od24, .func (PySem.W.fnOf "take_tie" "Store.take_tie" (AQ CB) (AO CB) (A0 CB) .none kV24 dc24 pm24 an24 cd24 ct24),sl24⟩) (c24:PySem.W.codeIn K cd24 "Store.take_tie"=true) (k24:PySem.W.keepIn K (.ref f24)=true)
 (a25:PySem.W.findIn K (.ref A_Store) "set_place"=some (some (.ref f25))) (i25:PySem.W.isFn K (.ref f25)=true)
  (l25:K.lookup f25=some ⟨oc25,od25, .func (PySem.W.fnOf "set_place" "Store.set_place" (AQ AK) (AO AK) (A0 AK) .none kV25 dc25 pm25 an25 cd25 ct25),sl25⟩) (c25:PySem.W.codeIn K cd25 "Store.set_place"=true) (k25:PySem.W.keepIn K (.ref f25)=true)
 (a26:PySem.W.findIn K (.ref A_Store) "set_tie"=some (some (.ref f26))) (i26:PySem.W.isFn K (.ref f26)=true)
  (l26:K.lookup f26=some ⟨oc26,od26, .func (PySem.W.fnOf "set_tie" "Store.set_tie" (AQ AL) (AO AL) (A0 AL) .none kV26 dc26 pm26 an26 cd26 ct26),sl26⟩) (c26:PySem.W.codeIn K cd26 "Store.set_tie"=true) (k26:PySem.W.keepIn K (.ref f26)=true)
 (a27:PySem.W.findIn K (.ref A_Store) "place"=some (some (.ref f27))) (i27:PySem.W.isFn K (.ref f27)=true)
  (l27:K.lookup f27=some ⟨oc27,od27, .func (PySem.W.fnOf "place" "Store.place" (AQ BW) (AO BW) (A0 BW) .none kV27 dc27 pm27 an27 cd27 ct27),sl27⟩) (c27:PySem.W.codeIn K cd27 "Store.place"=true) (k27:PySem.W.keepIn K (.ref f27)=true)
 (a28:PySem.W.findIn K (.ref A_Store) "tie"=some (some (.ref f28))) (i28:PySem.W.isFn K (.ref f28)=true)
  (l28:K.lookup f28=some ⟨oc28,od28, .func (PySem.W.fnOf "tie" "Store.tie" (AQ CD) (AO CD) (A0 CD) .none kV28 dc28 pm28 an28 cd28 ct28),sl28⟩) (c28:PySem.W.codeIn K cd28 "Store.tie"=true) (k28:PySem.W.keepIn K (.ref f28)=true)
 (a29:PySem.W.findIn K (.ref A_Store) "need_place"=some (some (.ref f29))) (i29:PySem.W.isFn K (.ref f29)=true)
  (l29:K.lookup f29=some ⟨oc29,od29, .func (PySem.W.fnOf "need_place" "Store.need_place" (AQ B0) (AO B0) (A0 B0) .none kV29 dc29 pm29 an29 cd29 ct29),sl29⟩) (c29:PySem.W.codeIn K cd29 "Store.need_place"=true) (k29:PySem.W.keepIn K (.ref f29)=true)
 (a30:PySem.W.findIn K (.ref A_Store) "need_tie"=some (some (.ref f30))) (i30:PySem.W.isFn K (.ref f30)=true)
  (l30:K.lookup f30=some ⟨oc30,od30, .func (PySem.W.fnOf "need_tie" "Store.need_tie" (AQ BD) (AO BD) (A0 BD) .none kV30 dc30 pm30 an30 cd30 ct30),sl30⟩) (c30:PySem.W.codeIn K cd30 "Store.need_tie"=true) (k30:PySem.W.keepIn K (.ref f30)=true)
 (z_abs:PySem.W.nsIn K mainGlobals "abs"=some none)
 (z_all:PySem.W.nsIn K mainGlobals "all"=some none)
 (z_bool:PySem.W.nsIn K mainGlobals "bool"=some none)
 (z_dict:PySem.W.nsIn K mainGlobals "dict"=some none)
 (z_int:PySem.W.nsIn K mainGlobals "int"=some none)
 (z_isinstance:PySem.W.nsIn K mainGlobals "isinstance"=some none)
 (z_len:PySem.W.nsIn K mainGlobals "len"=some none)
 (z_list:PySem.W.nsIn K mainGlobals "list"=some none)
 (z_range:PySem.W.nsIn K mainGlobals "range"=some none)
 (z_sorted:PySem.W.nsIn K mainGlobals "sorted"=some none)
 (z_str:PySem.W.nsIn K mainGlobals "str"=some none)
 (z_tuple:PySem.W.nsIn K mainGlobals "tuple"=some none)
 (z_zip:PySem.W.nsIn K mainGlobals "zip"=some none)
 :∃t,Txt P w K mg t∧t.f_law=f19∧t.d_law=PySem.W.fnOf "law" "law" (AQ BF) (AO BF) (A0 BF) .none kV19 dc19 pm19 an19 cd19 ct19:=by
 have F0:=BB (st:=BG) l0 c0 k0
 have b0:=F0.binds (ps:=["fields"]) fun _ _ _ _ _ _ us hl=>match us,hl with|[_],_=>rfl
 have F1:=BB (st:=BH) l1 c1 k1
 have b1:=F1.binds (ps:=["fields","name","value"]) fun _ _ _ _ _ _ us hl=>match us,hl with|[_,_,_],_=>rfl
 have F2:=BB (st:=IL) l2 c2 k2
 have b2:=F2.binds (ps:=["_law_script"]) fun _ _ _ _ _ _ us hl=>match us,hl with|[_],_=>rfl
 have F3:=BB (st:=DT) l3 c3 k3
 have b3:=F3.binds (ps:=["_law_hand_here","_law_many"]) fun _ _ _ _ _ _ us hl=>match us,hl with|[_,_],_=>rfl
 have F4:=BB (st:=EZ) l4 c4 k4
 have b4:=F4.binds (ps:=["_law_hand_here"]) fun _ _ _ _ _ _ us hl=>match us,hl with|[_],_=>rfl
 have F5:=BB (st:=DJ) l5 c5 k5
 have b5:=F5.binds (ps:=["_law_hand_here"]) fun _ _ _ _ _ _ us hl=>match us,hl with|[_],_=>rfl
 have F6:=BB (st:=C8) l6 c6 k6
 have b6:=F6.binds (ps:=["_law_hand_here","_law_most"]) fun _ _ _ _ _ _ us hl=>match us,hl with|[_,_],_=>rfl
 have F7:=BB (st:=HC) l7 c7 k7
 have b7:=F7.binds (ps:=[]) fun _ _ _ _ _ _ us hl=>match us,hl with|[],_=>rfl
 have F8:=BB (st:=G9) l8 c8 k8
 have b8:=F8.binds (ps:=["_law_fields_here"]) fun _ _ _ _ _ _ us hl=>match us,hl with|[_],_=>rfl
 have F9:=BB (st:=L8) l9 c9 k9
 have b9:=F9.binds (ps:=["_law_own"]) fun _ _ _ _ _ _ us hl=>match us,hl with|[_],_=>rfl
 have F10:=BB (st:=C4) l10 c10 k10
 have b10:=F10.binds (ps:=["_law_own","_law_deed"]) fun _ _ _ _ _ _ us hl=>match us,hl with|[_,_],_=>rfl
 have F11:=BB (st:=J8) l11 c11 k11
 have b11:=F11.binds (ps:=["_law_fields_here","_law_name","_law_value_here"]) fun _ _ _ _ _ _ us hl=>match us,hl with|[_,_,_],_=>rfl
 have F12:=BB (st:=K4) l12 c12 k12
 have b12:=F12.binds (ps:=["_law_own","_law_deed"]) fun _ _ _ _ _ _ us hl=>match us,hl with|[_,_],_=>rfl
 have F13:=BB (st:=GP) l13 c13 k13
 have b13:=F13.binds (ps:=["_law_store","_law_deed"]) fun _ _ _ _ _ _ us hl=>match us,hl with|[_,_],_=>rfl
 have F14:=BB (st:=FR) l14 c14 k14
 have b14:=F14.binds (ps:=["_law_caught"]) fun _ _ _ _ _ _ us hl=>match us,hl with|[_],_=>rfl
 have F15:=BB (st:=E5) l15 c15 k15
 have b15:=F15.binds (ps:=["_law_store","_law_deed"]) fun _ _ _ _ _ _ us hl=>match us,hl with|[_,_],_=>rfl
 have F16:=BB (st:=CT) l16 c16 k16
 have b16:=F16.binds (ps:=["_law_found","_law_due"]) fun _ _ _ _ _ _ us hl=>match us,hl with|[_,_],_=>rfl
 have F17:=BB (st:=BM) l17 c17 k17
 have b17:=F17.binds (ps:=["_law_hand_here","_law_store","_law_own"]) fun _ _ _ _ _ _ us hl=>match us,hl with|[_,_,_],_=>rfl
 have F18:=BB (st:=B3) l18 c18 k18
 have b18:=F18.binds (ps:=["_law_store","_law_own"]) fun _ _ _ _ _ _ us hl=>match us,hl with|[_,_],_=>rfl
 have F19:=BB (st:=BF) l19 c19 k19
 have b19:=F19.binds (ps:=["_law_script"]) fun _ _ _ _ _ _ us hl=>match us,hl with|[_],_=>rfl
 have F20:=BB (st:=BN) l20 c20 k20
 have b20:=F20.binds (ps:=["self"]) fun _ _ _ _ _ _ us hl=>match us,hl with|[_],_=>rfl
 have F21:=BB (st:=AU) l21 c21 k21
 have b21:=F21.binds (ps:=["self","kind","fields"]) fun _ _ _ _ _ _ us hl=>match us,hl with|[_,_,_],_=>rfl
 have F22:=BB (st:=AT) l22 c22 k22
 have b22:=F22.binds (ps:=["self","kind","start","end","fields"]) fun _ _ _ _ _ _ us hl=>match us,hl with|[_,_,_,_,_],_=>rfl
 have F23:=BB (st:=BZ) l23 c23 k23
 have b23:=F23.binds (ps:=["self","n"]) fun _ _ _ _ _ _ us hl=>match us,hl with|[_,_],_=>rfl
 have F24:=BB (st:=CB) l24 c24 k24
 have b24:=F24.binds (ps:=["self","n"]) fun _ _ _ _ _ _ us hl=>match us,hl with|[_,_],_=>rfl
 have F25:=BB (st:=AK) l25 c25 k25
 have b25:=F25.binds (ps:=["self","n","name","value"]) fun _ _ _ _ _ _ us hl=>match us,hl with|[_,_,_,_],_=>rfl
 have F26:=BB (st:=AL) l26 c26 k26
 have b26:=F26.binds (ps:=["self","n","name","value"]) fun _ _ _ _ _ _ us hl=>match us,hl with|[_,_,_,_],_=>rfl
 have F27:=BB (st:=BW) l27 c27 k27
 have b27:=F27.binds (ps:=["self","n"]) fun _ _ _ _ _ _ us hl=>match us,hl with|[_,_],_=>rfl
 have F28:=BB (st:=CD) l28 c28 k28
 have b28:=F28.binds (ps:=["self","n"]) fun _ _ _ _ _ _ us hl=>match us,hl with|[_,_],_=>rfl
 have F29:=BB (st:=B0) l29 c29 k29
 have b29:=F29.binds (ps:=["self","n"]) fun _ _ _ _ _ _ us hl=>match us,hl with|[_,_],_=>rfl
 have F30:=BB (st:=BD) l30 c30 k30
 have b30:=F30.binds (ps:=["self","n"]) fun _ _ _ _ _ _ us hl=>match us,hl with|[_,_],_=>rfl
 exact⟨⟨f0,_,f1,_,f2,_,f3,_,f4,_,f5,_,f6,_,f7,_,f8,_,f9,_,f10,_,f11,_,f12,_,f13,_,f14,_,f15,_,f16,_,f17,_,f18,_,f19,_,f20,_,f21,_,f22,_,f23,_,f24,_,f25,_,f26,_,f27,_,f28,_,f29,_,f30,_,A_Store⟩,⟨F0,b0,PySem.W.mg_of X G a0,F1,b1,PySem.W.mg_of X G a1,F2,b2,PySem.W.mg_of X G a2,F3,b3,PySem.W.mg_of X G a3,F4,b4,PySem.W.mg_of X G a4,F5,b5,PySem.W.mg_of X G a5,F6,b6,PySem.W.mg_of X G a6,F7,b7,PySem.W.mg_of X G a7,F8,b8,PySem.W.mg_of X G a8,F9,b9,PySem.W.mg_of X G a9,F10,b10,PySem.W.mg_of X G a10,F11,b11,PySem.W.mg_of X G a11,F12,b12,PySem.W.mg_of X G a12,F13,b13,PySem.W.mg_of X G a13,F14,b14,PySem.W.mg_of X G a14,F15,b15,PySem.W.mg_of X G a15,F16,b16,PySem.W.mg_of X G a16,F17,b17,PySem.W.mg_of X G a17,F18,b18,PySem.W.mg_of X G a18,F19,b19,PySem.W.mg_of X G a19,F20,b20,F21,b21,F22,b22,F23,b23,F24,b24,F25,b25,F26,b26,F27,b27,F28,b28,F29,b29,F30,b30,ac_Store,lc_Store,⟨mk_Store,a20,i20,kc_Store⟩,PySem.W.mg_of X G ga_Store,na_next_place,na_next_tie,na_place_rows,na_tie_rows,⟨a21,i21,k21⟩,⟨a22,i22,k22⟩,⟨a23,i23,k23⟩,⟨a24,i24,k24⟩,⟨a25,i25,k25⟩,⟨a26,i26,k26⟩,⟨a27,i27,k27⟩,⟨a28,i28,k28⟩,⟨a29,i29,k29⟩,⟨a30,i30,k30⟩,PySem.W.mg_none_of X G z_abs,PySem.W.mg_none_of X G z_all,PySem.W.mg_none_of X G z_bool,PySem.W.mg_none_of X G z_dict,PySem.W.mg_none_of X G z_int,PySem.W.mg_none_of X G z_isinstance,PySem.W.mg_none_of X G z_len,PySem.W.mg_none_of X G z_list,PySem.W.mg_none_of X G z_range,PySem.W.mg_none_of X G z_sorted,PySem.W.mg_none_of X G z_str,PySem.W.mg_none_of X G z_tuple,PySem.W.mg_none_of X G z_zip⟩,rfl,rfl⟩
end K10
open PySem PySem.W PyProof.Rows
set_option maxRecDepth 100000 in
set_option maxHeartbeats 0 in
theorem PySem.Challenge.cw_webstore_k10_fields_set_and_gone_holds : PySem.Challenge.rw_webstore_k10_fields_set_and_gone.Holds := by
 w_on
 refine holds_law K10.xF fun said=> ?_
 refine holds_open (q:=K10.vw) (loose:=[]) (Xt:=K10.xt) (XP:=XL K10.vw []) (Yf:=Hook.obs (kHook K10.kk K10.ka K10.kp)) (Ya:=Hook.val (kHook K10.kk K10.ka K10.kp)) (YP:=Hook.says (kHook K10.kk K10.ka K10.kp)) (N:=9670) K10.hl (Hook.of (kHook K10.kk K10.ka K10.kp)) (Hook.keeps (kHook K10.kk K10.ka K10.kp)) (fun s e=>xl_of s (Bool.and_eq_true_iff.mp e).1) XL.keeps (by rfl) (by rfl) (by rfl) (fun s e=>recFacts_of (Bool.and_eq_true_iff.mp e).2) (by rfl) (by first|assumption|decide+kernel) (by decide+kernel) ⟨rfl,rfl,rfl,rfl,rfl,by decide+kernel⟩ ?hw ?hc
 case hw=>w_witness2
 k_fill
 refine L2.WT (l:=PySem.Challenge.rw_webstore_k10_fields_set_and_gone) (n:=63) (k:=14) (x:= "_law_script") (CX:=L2.EW) (sp:=L2.TF) rfl (by decide) rfl ⟨rfl,by decide,by decide,rfl⟩ (fun w h Y=>PySem.W.kIn_of Y) ?F ?S ?C
 case F=>
  intro w mg fa h KX G hmg
  have Z:∃f kV dc pm an cd ct t,K10.Txt (PySem.Challenge.rw_webstore_k10_fields_set_and_gone).prog w (L2.wK KX) mg t∧t.f_law=f∧t.d_law=PySem.W.fnOf "law" "law" (L2.AQ K10.BF) (L2.AO K10.BF) (L2.A0 K10.BF) .none kV dc pm an cd ct:=by
   dsimp only[L2.wK]
   refine' ⟨_,_,_,_,_,_,_,K10.kQ _ w KX G ?ga_Store ?ac_Store ?lc_Store ?mk_Store ?kc_Store ?na_next_place ?na_next_tie ?na_place_rows ?na_tie_rows ?a0 ?l0 ?c0 ?k0 ?a1 ?l1 ?c1 ?k1 ?a2 ?l2 ?c2 ?k2 ?a3 ?l3 ?c3 ?k3 ?a4 ?l4 ?c4 ?k4 ?a5 ?l5 ?c5 ?k5 ?a6 ?l6 ?c6 ?k6 ?a7 ?l7 ?c7 ?k7 ?a8 ?l8 ?c8 ?k8 ?a9 ?l9 ?c9 ?k9 ?a10 ?l10 ?c10 ?k10 ?a11 ?l11 ?c11 ?k11 ?a12 ?l12 ?c12 ?k12 ?a13 ?l13 ?c13 ?k13 ?a14 ?l14 ?c14 ?k14 ?a15 ?l15 ?c15 ?k15 ?a16 ?l16 ?c16 ?k16 ?a17 ?l17 ?c17 ?k17 ?a18 ?l18 ?c18 ?k18 ?a19 ?l19 ?c19 ?k19 ?a20 ?i20 ?l20 ?c20 ?k20 ?a21 ?i21 ?l21 ?c21 ?k21 ?a22 ?i22 ?l22 ?c22 ?k22 ?a23 ?i23 ?l23 ?c23 ?k23 ?a24 ?i24 ?l24 ?c24 ?k24 ?a25 ?i25 ?l25 ?c25 ?k25 ?a26 ?i26 ?l26 ?c26 ?k26 ?a27 ?i27 ?l27 ?c27 ?k27 ?a28 ?i28 ?l28 ?c28 ?k28 ?a29 ?i29 ?l29 ?c29 ?k29 ?a30 ?i30 ?l30 ?c30 ?k30 ?z_abs ?z_all ?z_bool ?z_dict ?z_int ?z_isinstance ?z_len ?z_list ?z_range ?z_sorted ?z_str ?z_tuple ?z_zip⟩
   (case ga_Store=>k_is)
   (case ac_Store=>with_unfolding_all rfl)
   (case lc_Store=>exact⟨by with_unfolding_all rfl,by with_unfolding_all rfl,by with_unfolding_all rfl,by with_unfolding_all rfl⟩)
   (case mk_Store=>with_unfolding_all rfl)
   (case kc_Store=>with_unfolding_all rfl)
   (case na_next_place=>with_unfolding_all rfl)
   (case na_next_tie=>with_unfolding_all rfl)
   (case na_place_rows=>with_unfolding_all rfl)
   (case na_tie_rows=>with_unfolding_all rfl)
   (case a0=>k_is)
   (case l0=>k_is)
   (case c0=>k_is)
   (case k0=>k_is)
   (case a1=>k_is)
   (case l1=>k_is)
   (case c1=>k_is)
   (case k1=>k_is)
   (case a2=>k_is)
   (case l2=>k_is)
   (case c2=>k_is)
   (case k2=>k_is)
   (case a3=>k_is)
   (case l3=>k_is)
   (case c3=>k_is)
   (case k3=>k_is)
   (case a4=>k_is)
   (case l4=>k_is)
   (case c4=>k_is)
   (case k4=>k_is)
   (case a5=>k_is)
   (case l5=>k_is)
   (case c5=>k_is)
   (case k5=>k_is)
   (case a6=>k_is)
   (case l6=>k_is)
   (case c6=>k_is)
   (case k6=>k_is)
   (case a7=>k_is)
   (case l7=>k_is)
   (case c7=>k_is)
   (case k7=>k_is)
   (case a8=>k_is)
   (case l8=>k_is)
   (case c8=>k_is)
   (case k8=>k_is)
   (case a9=>k_is)
   (case l9=>k_is)
   (case c9=>k_is)
   (case k9=>k_is)
   (case a10=>k_is)
   (case l10=>k_is)
   (case c10=>k_is)
   (case k10=>k_is)
   (case a11=>k_is)
   (case l11=>k_is)
   (case c11=>k_is)
   (case k11=>k_is)
   (case a12=>k_is)
   (case l12=>k_is)
   (case c12=>k_is)
   (case k12=>k_is)
   (case a13=>k_is)
   (case l13=>k_is)
   (case c13=>k_is)
   (case k13=>k_is)
   (case a14=>k_is)
   (case l14=>k_is)
   (case c14=>k_is)
   (case k14=>k_is)
   (case a15=>k_is)
   (case l15=>k_is)
   (case c15=>k_is)
   (case k15=>k_is)
   (case a16=>k_is)
   (case l16=>k_is)
   (case c16=>k_is)
   (case k16=>k_is)
   (case a17=>k_is)
   (case l17=>k_is)
   (case c17=>k_is)
   (case k17=>k_is)
   (case a18=>k_is)
   (case l18=>k_is)
   (case c18=>k_is)
   (case k18=>k_is)
   (case a19=>k_is)
   (case l19=>k_is)
   (case c19=>k_is)
   (case k19=>k_is)
   (case a20=>with_unfolding_all rfl)
   (case i20=>with_unfolding_all rfl)
   (case l20=>k_is)
   (case c20=>k_is)
   (case k20=>k_is)
   (case a21=>with_unfolding_all rfl)
   (case i21=>with_unfolding_all rfl)
   (case l21=>k_is)
   (case c21=>k_is)
   (case k21=>k_is)
   (case a22=>with_unfolding_all rfl)
   (case i22=>with_unfolding_all rfl)
   (case l22=>k_is)
   (case c22=>k_is)
   (case k22=>k_is)
   (case a23=>with_unfolding_all rfl)
   (case i23=>with_unfolding_all rfl)
   (case l23=>k_is)
   (case c23=>k_is)
   (case k23=>k_is)
   (case a24=>with_unfolding_all rfl)
   (case i24=>with_unfolding_all rfl)
   (case l24=>k_is)
   (case c24=>k_is)
   (case k24=>k_is)
   (case a25=>with_unfolding_all rfl)
   (case i25=>with_unfolding_all rfl)
   (case l25=>k_is)
   (case c25=>k_is)
   (case k25=>k_is)
   (case a26=>with_unfolding_all rfl)
   (case i26=>with_unfolding_all rfl)
   (case l26=>k_is)
   (case c26=>k_is)
   (case k26=>k_is)
   (case a27=>with_unfolding_all rfl)
   (case i27=>with_unfolding_all rfl)
   (case l27=>k_is)
   (case c27=>k_is)
   (case k27=>k_is)
   (case a28=>with_unfolding_all rfl)
   (case i28=>with_unfolding_all rfl)
   (case l28=>k_is)
   (case c28=>k_is)
   (case k28=>k_is)
   (case a29=>with_unfolding_all rfl)
   (case i29=>with_unfolding_all rfl)
   (case l29=>k_is)
   (case c29=>k_is)
   (case k29=>k_is)
   (case a30=>with_unfolding_all rfl)
   (case i30=>with_unfolding_all rfl)
   (case l30=>k_is)
   (case c30=>k_is)
   (case k30=>k_is)
   (case z_abs=>k_is)
   (case z_all=>k_is)
   (case z_bool=>k_is)
   (case z_dict=>k_is)
   (case z_int=>k_is)
   (case z_isinstance=>k_is)
   (case z_len=>k_is)
   (case z_list=>k_is)
   (case z_range=>k_is)
   (case z_sorted=>k_is)
   (case z_str=>k_is)
   (case z_tuple=>k_is)
   (case z_zip=>k_is)
  obtain⟨f,kV,dc,pm,an,cd,ct,t,hT,hf,hd⟩:=Z
  have e:=hmg.symm.trans hT.m_law
  rw[hf]at e
  cases e
  subst hf
  refine⟨t.d_law,fun s u=>by rw[hd];exact .of_eq rfl,fun base kb nb=>(K10.aQ hT).mono (by decide)⟩
 case S=>exact fun K H a ns hl hO hS=>L2.WJ hl hS
 case C=>exact fun _ _ _ _ z=>z
