import PyProof.Rows.All
import Wide.All
import OpenK.KLine
import OpenK.KWalk
import KE.KxBytes
import KE.KIsAll
import KE.KItem
import KE.KDictOf
import OpenK.KEqL
import Wide.FinOn
import Lean
import PyProof.EqAt
import PyProof.EqKinds
import PyProof.TupleCall
import KE.KIntText
import KE.IntTextLaws
import PySem.Challenge.RW_corehouse_k39_whole_texts_speak
set_option Elab.async false
set_option linter.all false
set_option maxRecDepth 100000
namespace L2
open PySem PySem.Spec PyProof.Rows
abbrev Key:=Sum Int Str
def keyIs:Key→Value→Bool
 | .inl k,v=>Value.isInt k v
 | .inr x,v=>Value.isStrOf x v
def keyH (w:World):Key→Int
 | .inl k=>hashInt k
 | .inr x=>hashStr w x
theorem keyIs_shape:∀ {k:Key} {v:Value},keyIs k v = true→(∃ i t,k = Sum.inl i∧v = Value.int i t)∨(∃ x t,k = Sum.inr x∧v = Value.str x t)
 | .inl i,v,h=>by
  obtain ⟨t,e⟩:=Value.isInt_shape (k:=i) (v:=v) h
  exact .inl ⟨i,t,rfl,e⟩
 | .inr x,v,h=>by
  obtain ⟨t,e⟩:=Value.isStrOf_shape (x:=x) (v:=v) h
  exact .inr ⟨x,t,rfl,e⟩
theorem keyIs_int (i:Int) (t:Tok):keyIs (.inl i) (.int i t) = true:=by simp [keyIs,Value.isInt]
theorem keyIs_str (x:Str) (t:Tok):keyIs (.inr x) (.str x t) = true:=by simp [keyIs,Value.isStrOf]
theorem key_ll (a b:Int):decide ((Sum.inl a:Key) = Sum.inl b) = (a == b):=by
 by_cases e:a = b
 ·subst e;simp
 ·have h:¬ (Sum.inl a:Key) = Sum.inl b:=fun q=>e (Sum.inl.inj q)
  rw [decide_eq_false h]
  exact (beq_eq_false_iff_ne.mpr e).symm
theorem key_rr (a b:Str):decide ((Sum.inr a:Key) = Sum.inr b) = decide (a = b):=by
 by_cases e:a = b
 ·subst e;simp
 ·have h:¬ (Sum.inr a:Key) = Sum.inr b:=fun q=>e (Sum.inr.inj q)
  rw [decide_eq_false h,decide_eq_false e]
theorem key_lr (a:Int) (b:Str):decide ((Sum.inl a:Key) = Sum.inr b) = false:=decide_eq_false (fun q=>nomatch q)
theorem key_rl (a:Str) (b:Int):decide ((Sum.inr a:Key) = Sum.inl b) = false:=decide_eq_false (fun q=>nomatch q)
def mixKind (prog:Program) (w:World):PySem.KeyKind prog w Key where
 is:=keyIs
 hash:=keyH w
 inj:=fun v a b ha hb=>by
  rcases keyIs_shape ha with ⟨i,t,rfl,rfl⟩ | ⟨x,t,rfl,rfl⟩
  ·rcases keyIs_shape hb with ⟨j,u,rfl,e⟩ | ⟨y,u,rfl,e⟩
   ·injection e with e1 _;rw [e1]
   ·exact nomatch e
  ·rcases keyIs_shape hb with ⟨j,u,rfl,e⟩ | ⟨y,u,rfl,e⟩
   ·exact nomatch e
   ·injection e with e1 _;rw [e1]
 byValue:=fun k v h=>by
  rcases keyIs_shape h with ⟨i,t,rfl,rfl⟩ | ⟨x,t,rfl,rfl⟩ <;> rfl
 pyHash:=fun hv h=>by
  rcases keyIs_shape hv with ⟨i,t,rfl,rfl⟩ | ⟨x,t,rfl,rfl⟩
  ·exact wpAny_pyHash_int h
  ·exact wpAny_pyHash_str h
 eqBool:=fun hu hv h=>by
  rcases keyIs_shape hu with ⟨i,t,rfl,rfl⟩ | ⟨x,t,rfl,rfl⟩
  ·rcases keyIs_shape hv with ⟨j,u,rfl,rfl⟩ | ⟨y,u,rfl,rfl⟩
   ·rw [key_ll] at h;exact wpAny_eqBool_int h
   ·rw [key_lr] at h;exact SeqAt.EqAt.int_str i t y u _ _ _ _ h
  ·rcases keyIs_shape hv with ⟨j,u,rfl,rfl⟩ | ⟨y,u,rfl,rfl⟩
   ·rw [key_rl] at h;exact SeqAt.EqAt.str_int x t j u _ _ _ _ h
   ·rw [key_rr] at h;exact wpAny_eqBool_str h
 «strs»:=fun k x t v h=>by
  rcases keyIs_shape h with ⟨i,u,rfl,e⟩ | ⟨y,u,rfl,e⟩
  ·exact nomatch e
  ·injection e with e1 _
   subst e1
   cases v <;> rfl
theorem mixKind_int (prog:Program) (w:World) (i:Int) (t:Tok):(mixKind prog w).is (.inl i) (.int i t) = true:=keyIs_int i t
theorem mixKind_str (prog:Program) (w:World) (x:Str) (t:Tok):(mixKind prog w).is (.inr x) (.str x t) = true:=keyIs_str x t
end L2
namespace L2
open PySem PySem.Spec PyProof.Rows
inductive V where
 | non | bl (b:Bool) | int (i:Int) | str (x:Str) | byt (b:Array UInt8) | flt (b:UInt64) | ref (a:Addr) | ty (n:String)
 deriving DecidableEq
def RelV:V→Value→Prop
 | .non,u=>u = Value.none
 | .bl b,u=>u = Value.bool b
 | .int i,u=>∃ t,u = Value.int i t
 | .str x,u=>∃ t,u = Value.str x t
 | .byt b,u=>∃ t,u = Value.bytes b t
 | .flt b,u=>∃ t,u = Value.float b t
 | .ref a,u=>u = Value.ref a
 | .ty n,u=>u = Value.type n
abbrev Vals:List V→List Value→Prop:=Paired RelV
theorem Vals.length {xs:List V} {us:List Value} (r:Vals xs us):xs.length = us.length:=Paired.length r
theorem Vals.get:∀ {xs:List V} {us:List Value} {i:Nat} {x:V},Vals xs us→xs[i]? = some x→∃ u,us[i]? = some u∧RelV x u
 | _,_,_,_,.nil,e=>by simp at e
 | _,_,0,_,.cons r _,e=>by simp at e;subst e;exact ⟨_,rfl,r⟩
 | _,_,i + 1,x,.cons _ t,e=>by
  obtain ⟨u,h1,h2⟩:=Vals.get (i:=i) (x:=x) t (by simpa using e)
  exact ⟨u,by simpa using h1,h2⟩
theorem Vals.set {x:V} {u:Value} (r:RelV x u):∀ {xs:List V} {us:List Value} (i:Nat),Vals xs us→Vals (xs.set i x) (us.set i u)
 | _,_,_,.nil=>.nil
 | _,_,0,.cons _ t=>.cons r t
 | _,_,i + 1,.cons q t=>.cons q (Vals.set r i t)
theorem Vals.append:∀ {xs ys:List V} {us ws:List Value},Vals xs us→Vals ys ws→Vals (xs ++ ys) (us ++ ws)
 | _,_,_,_,.nil,s=>s
 | _,_,_,_,.cons r t,s=>.cons r (Vals.append t s)
theorem Vals.take:∀ {xs:List V} {us:List Value} (n:Nat),Vals xs us→Vals (xs.take n) (us.take n)
 | _,_,0,_=>.nil
 | _,_,_ + 1,.nil=>.nil
 | _,_,n + 1,.cons r t=>.cons r (Vals.take n t)
theorem Vals.drop:∀ {xs:List V} {us:List Value} (n:Nat),Vals xs us→Vals (xs.drop n) (us.drop n)
 | _,_,0,r=>r
 | _,_,_ + 1,.nil=>.nil
 | _,_,n + 1,.cons _ t=>Vals.drop n t
def RelO:Option V→Option Value→Prop
 | some v,some u=>RelV v u
 | none,none=>True
 | _,_=>False
def KV {κ:Type}:List (κ×V)→List (κ×Value)→Prop:=Paired fun (p:κ×V) (q:κ×Value)=>p.1 = q.1∧RelV p.2 q.2
def kV:Key→V
 | .inl i=>.int i
 | .inr x=>.str x
inductive HO where
  | lst (xs:List V)
  | tup (xs:List V)
  | dK (kvs:List (Key×V)) | dT (kvs:List (List Key×V))
  | set (S:Int→Bool) (n:Nat)
  | ins (C dx:Addr) (fs:List (Str×V))
  | own (x:Addr)
  | xd (fs:List (Str×V))
  | met (f x:Addr)
  | rng (lo hi:Int)
  | frz (o:Obj) (u:HO)
  | tbl (ps:Array Value)
  | ext (φ:Heap→Prop)
abbrev Hp:=Addr→Option HO
def upd (H:Hp) (a:Addr) (o:HO):Hp:=fun b=>if b = a then some o else H b
theorem upd_same {H:Hp} {a:Addr} {o:HO}:upd H a o a = some o:=by unfold upd;rw [if_pos rfl]
theorem upd_ne {H:Hp} {a b:Addr} {o:HO} (h:b≠a):upd H a o b = H b:=by unfold upd;rw [if_neg h]
theorem upd_upd {H:Hp} {a:Addr} {o u:HO}:upd (upd H a o) a u = upd H a u:=by
 funext b;unfold upd;split <;> rfl
theorem ne_of {H:Hp} {a b:Addr} {o u:HO} (h:H a = some o) (h':H b = some u) (d:o≠u):a≠b:=by
 intro e;subst e;rw [h] at h';exact d (Option.some.inj h')
theorem ne_of_none {H:Hp} {a b:Addr} {o:HO} (h:H a = some o) (h':H b = none):a≠b:=by
 intro e;subst e;rw [h] at h';cases h'
section
variable (P:Program) (w:World)
def ObjOk (H:Hp) (h:Heap) (a:Addr):HO→Prop
 | .lst xs=>xs.length≤sizeLine∧∃ (its:List Value) (n:Nat),Vals xs its∧h.get? a = some { cls:=.type "list",data:=.seq its.toArray n }
 | .tup xs=>xs.length≤sizeLine∧∃ its:List Value,Vals xs its∧IsTup h a its.toArray
 | .dK kvs=>kvs.length≤sizeLine∧(a == sysModules) = false∧∃ vs,KV kvs vs∧h.DictOf (mixKind P w) a vs
 | .dT kvs=>kvs.length≤sizeLine∧(a == sysModules) = false∧∃ xs:List (List Key×Addr×Value),
   Paired (fun (p:List Key×V) (q:List Key×Addr×Value)=>p.1 = q.1∧H q.2.1 = some (.tup (p.1.map kV))∧RelV p.2 q.2.2) kvs xs ∧
   ∃ o es ep,h.get? a = some o∧o.ExactDict∧o.data = .dict es ep∧es.toList = xs.map (entryOfKey (tupleKind (mixKind P w)))∧(xs.map (·.1)).Nodup
 | .set S n=>h.SetOf (intKind P w) a S n
 | .ins C dx fs=>H dx = some (.own a)∧fs.length≤1000∧dx≠a∧h.get? a = some (PySem.W.instObj C dx) ∧
   ∃ mA,h.Ns1 dx mA∧(∀ f,RelO (fs.lookup f) (mA f))∧PySem.Within mA (fs.map (·.1))
 | .own _=>∃ o,h.get? a = some o
 | .xd fs=>∃ mA,h.Ns1 a mA∧∀ f,RelO (fs.lookup f) (mA f)
 | .rng lo hi=>∃ t u v,h.get? a = some { cls:=.type "range",data:=.fields #[.int lo t,.int hi u,.int 1 v] }
 | .frz o u=>h.get? a = some o∧ObjOk H h a u
 | .tbl ps=>h.get? a = some { cls:=.none,data:=.fields ps }
 | .met f x=>h.get? a = some (PySem.W.methodObj (.ref f) (.ref x))
 | .ext φ=>φ h∧(∃ o,h.get? a = some o)∧∀ h1 h2:Heap,φ h1→(∀ o,h1.get? a = some o→h2.get? a = some o)→φ h2
def HOk (H:Hp) (h:Heap):Prop:=∀ a o,H a = some o→ObjOk P w H h a o
end
section
variable {P:Program} {w:World} {H H':Hp} {h h':Heap} {a:Addr} {o:HO}
theorem ObjOk.lt (x:ObjOk P w H h a o):a < h.objs.size:=by
 cases o with
 | lst xs=>obtain ⟨_,_,_,_,e⟩:=x;exact Heap.lt_size e
 | tup xs=>obtain ⟨_,_,_,p⟩:=x;exact p.lt
 | dK kvs=>obtain ⟨_,_,_,_,o,_,_,e,_⟩:=x;exact Heap.lt_size e
 | dT kvs=>obtain ⟨_,_,_,_,o,_,_,e,_⟩:=x;exact Heap.lt_size e
 | set S n=>obtain ⟨o,_,_,_,e,_⟩:=x;exact Heap.lt_size e
 | ins C dx fs=>obtain ⟨_,_,_,e,_⟩:=x;exact Heap.lt_size e
 | own y=>obtain ⟨_,e⟩:=x;exact Heap.lt_size e
 | xd fs=>obtain ⟨_,⟨_,_,_,e,_⟩,_⟩:=x;exact Heap.lt_size e
 | rng lo hi=>obtain ⟨_,_,_,e⟩:=x;exact Heap.lt_size e
 | frz ob u=>obtain ⟨e,_⟩:=x;exact Heap.lt_size e
 | tbl ps=>exact Heap.lt_size (show h.get? a = some _ from x)
 | met f y=>exact Heap.lt_size (show h.get? a = some _ from x)
 | ext φ=>obtain ⟨_,⟨_,e⟩,_⟩:=x;exact Heap.lt_size e
theorem Paired.mapP {α β:Type} {F G:α→β→Prop}:∀ {l₁:List α} {l₂:List β},Paired F l₁ l₂→(∀ a b,F a b→G a b)→Paired G l₁ l₂
 | _,_,.nil,_=>.nil
 | _,_,.cons r t,f=>.cons (f _ _ r) (Paired.mapP t f)
theorem ObjOk.stay (x:ObjOk P w H h a o) (k:∀ b u,(b = a∨H b = some (.own a))→h.get? b = some u→h'.get? b = some u)
  (ho:∀ b,H b = some (.own a)→H' b = some (.own a)) (ht:∀ b xs,H b = some (.tup xs)→H' b = some (.tup xs)):ObjOk P w H' h' a o:=by
 induction o with
 | lst xs=>obtain ⟨z,its,n,r,e⟩:=x;exact ⟨z,its,n,r,k _ _ (.inl rfl) e⟩
 | tup xs=>obtain ⟨z,its,r,ob,e,c⟩:=x;exact ⟨z,its,r,ob,k _ _ (.inl rfl) e,c⟩
 | dK kvs=>obtain ⟨z,y,vs,r,ob,es,ep,e,c⟩:=x;exact ⟨z,y,vs,r,ob,es,ep,k _ _ (.inl rfl) e,c⟩
 | dT kvs =>
  obtain ⟨z,y,xs,r,ob,es,ep,e,c⟩:=x
  exact ⟨z,y,xs,Paired.mapP r fun p q z=>⟨z.1,ht _ _ z.2.1,z.2.2⟩,ob,es,ep,k _ _ (.inl rfl) e,c⟩
 | set S n=>obtain ⟨ob,es,ep,t,e,c⟩:=x;exact ⟨ob,es,ep,t,k _ _ (.inl rfl) e,c⟩
 | ins C dx fs =>
  obtain ⟨d,z,ne,e,mA,⟨od,es,ep,e2,c⟩,r⟩:=x
  exact ⟨ho _ d,z,ne,k _ _ (.inl rfl) e,mA,⟨od,es,ep,k _ _ (.inr d) e2,c⟩,r⟩
 | own y=>obtain ⟨ob,e⟩:=x;exact ⟨ob,k _ _ (.inl rfl) e⟩
 | xd fs=>obtain ⟨mA,⟨od,es,ep,e,c⟩,r⟩:=x;exact ⟨mA,⟨od,es,ep,k _ _ (.inl rfl) e,c⟩,r⟩
 | rng lo hi=>obtain ⟨t,u,v,e⟩:=x;exact ⟨t,u,v,k _ _ (.inl rfl) e⟩
 | frz ob u ih=>obtain ⟨e,q⟩:=x;exact ⟨k _ _ (.inl rfl) e,ih q⟩
 | tbl ps =>
  have e:h.get? a = some { cls:=.none,data:=.fields ps }:=x
  show h'.get? a = some { cls:=.none,data:=.fields ps }
  exact k a _ (.inl rfl) e
 | met f y =>
  have e:h.get? a = some (PySem.W.methodObj (.ref f) (.ref y)):=x
  show h'.get? a = some (PySem.W.methodObj (.ref f) (.ref y))
  exact k a _ (.inl rfl) e
 | ext φ=>obtain ⟨p,⟨o,e⟩,st⟩:=x;exact ⟨st _ _ p fun o q=>k _ _ (.inl rfl) q,⟨o,k _ _ (.inl rfl) e⟩,st⟩
theorem HOk.lt (x:HOk P w H h) (e:H a = some o):a < h.objs.size:=(x a o e).lt
theorem HOk.fresh (x:HOk P w H h) (e:h.objs.size≤a):H a = none:=by
 cases q:H a with
 | none=>rfl
 | some u=>exact absurd (Nat.lt_of_lt_of_le (x.lt q) e) (Nat.lt_irrefl _)
theorem HOk.kept (x:HOk P w H h) (k:∀ b u,h.get? b = some u→h'.get? b = some u):HOk P w H h':=fun a o e =>
 (x a o e).stay (fun b u _ q=>k b u q) (fun _ q=>q) fun _ _ q=>q
theorem HOk.laid (x:HOk P w H h) (k:∀ b u,h.get? b = some u→h'.get? b = some u) (hp:h.objs.size≤a) (new:ObjOk P w (upd H a o) h' a o):HOk P w (upd H a o) h':=fun b u e=>by
 have hn:=x.fresh hp
 by_cases hb:b = a
 ·subst hb;rw [upd_same] at e;cases e;exact new
 ·rw [upd_ne hb] at e
  exact (x b u e).stay (fun c v _ q=>k c v q) (fun c q=>by rw [upd_ne (ne_of_none q hn)];exact q) fun c xs q=>by rw [upd_ne (ne_of_none q hn)];exact q
end
def Rd (H:Hp) (a:Addr) (u:HO):Prop:=H a = some u∨∃ o,H a = some (.frz o u)
theorem Rd.of {H:Hp} {a:Addr} {u:HO} (h:H a = some u):Rd H a u:=.inl h
theorem Rd.ok {P:Program} {w:World} {H:Hp} {h:Heap} {a:Addr} {u:HO} (r:Rd H a u) (x:HOk P w H h):ObjOk P w H h a u:=by
 rcases r with r | ⟨o,r⟩
 ·exact x a u r
 ·obtain ⟨_,q⟩:=x a _ r
  exact q
def Mut:Option HO→Prop
 | some (.lst _)=>True
 | some (.dK _)=>True
 | some (.dT _)=>True
 | some (.set _ _)=>True
 | some (.ins _ _ _)=>True
 | some (.ext _)=>True
 | _=>False
section
variable {P:Program} {w:World} {H:Hp} {h h':Heap} {x e:Addr} {o':HO}
theorem HOk.write (ok:HOk P w H h) (mu:Mut (H x)) (he:e = x∨H e = some (.own x)) (k:∀ b u,b≠e→h.get? b = some u→h'.get? b = some u) (heo:∃ u,h'.get? e = some u)
  (new:ObjOk P w (upd H x o') h' x o'):HOk P w (upd H x o') h':=fun b u q=>by
 have nown:∀ c y,H c = some (.own y)→c≠x:=fun c y r z=>by subst z;rw [r] at mu;exact mu
 have ntup:∀ c xs,H c = some (.tup xs)→c≠x:=fun c xs r z=>by subst z;rw [r] at mu;exact mu
 by_cases hb:b = x
 ·subst hb;rw [upd_same] at q;cases q;exact new
 ·rw [upd_ne hb] at q
  by_cases hbe:b = e
  ·have q':H b = some (.own x):=by
    rcases he with z | z
    ·exact absurd (hbe.trans z) hb
    ·rw [hbe];exact z
   rw [q] at q';cases q'
   obtain ⟨v,hv⟩:=heo
   exact ⟨v,by rw [hbe];exact hv⟩
  ·refine (ok b u q).stay (fun c v hc r=>k c v ?_ r) (fun c r=>by rw [upd_ne (nown c b r)];exact r) fun c xs r=>by rw [upd_ne (ntup c xs r)];exact r
   rcases hc with rfl | hc
   ·exact hbe
   ·rintro rfl
    rcases he with z | z
    ·exact nown c b hc z
    ·rw [hc] at z;cases z;exact hb rfl
end
structure Un (fs ex:List Addr) (H H':Hp) (h h':Heap):Prop where
 keep:∀ b o,h.get? b = some o→H b = none→b∉fs→b∉ex→h'.get? b = some o
 slot:∀ b o,h.get? b = some o→H b = none→b∈fs→b∉ex→∃ sl,h'.get? b = some { o with slots:=sl }
 free:∀ b o,h.get? b = some o→H b = none→b∉ex→H' b = none
 there:∀ b o,h.get? b = some o→b∉ex→∃ o',h'.get? b = some o'
 tups:∀ b xs,H b = some (.tup xs)→H' b = some (.tup xs)
 frzs:∀ b o u,H b = some (.frz o u)→H' b = some (.frz o u)
 tbls:∀ b ps,H b = some (.tbl ps)→∃ more,H' b = some (.tbl (ps ++ more))
section
variable {fs fs' ex ex':List Addr} {H H1 H2:Hp} {h h1 h2 h':Heap} {a x e:Addr} {o:HO}
theorem Un.any (u:Un fs ex H H1 h h1) {b:Addr} {ob:Obj} (q:h.get? b = some ob) (n:H b = none) (hx:b∉ex):∃ sl,h1.get? b = some { ob with slots:=sl }:=by
 by_cases hb:b∈fs
 ·exact u.slot b ob q n hb hx
 ·exact ⟨ob.slots,u.keep b ob q n hb hx⟩
theorem Un.kept (k:∀ b u,h.get? b = some u→h'.get? b = some u):Un fs ex H H h h' :=
 ⟨fun b ob q _ _ _=>k b ob q,fun b ob q _ _ _=>⟨ob.slots,k b ob q⟩,fun _ _ _ n _=>n,fun b ob q _=>⟨ob,k b ob q⟩,fun _ _ q=>q,fun _ _ _ q=>q,fun _ ps q=>⟨#[],by rw [q];simp⟩⟩
theorem Un.refl:Un fs ex H H h h:=Un.kept fun _ _ q=>q
theorem Un.laid (k:∀ b u,h.get? b = some u→h'.get? b = some u) (hp:h.objs.size≤a) (hn:H a = none):Un fs ex H (upd H a o) h h' where
 keep:=fun b u q _ _ _=>k b u q
 slot:=fun b u q _ _ _=>⟨u.slots,k b u q⟩
 free:=fun b u q n _=>by rw [upd_ne (Nat.ne_of_lt (Nat.lt_of_lt_of_le (Heap.lt_size q) hp))];exact n
 there:=fun b u q _=>⟨u,k b u q⟩
 tups:=fun b xs q=>by rw [upd_ne (ne_of_none q hn)];exact q
 frzs:=fun b u xs q=>by rw [upd_ne (ne_of_none q hn)];exact q
 tbls:=fun b ps q=>⟨#[],by rw [upd_ne (ne_of_none q hn),q];simp⟩
theorem Un.write (mu:Mut (H x)) (he:e = x∨H e = some (.own x)) (k:∀ b u,b≠e→h.get? b = some u→h'.get? b = some u) (heo:∃ u,h'.get? e = some u):Un fs ex H (upd H x o) h h':=by
 have hx:∀ b,H b = none→b≠x:=fun b n z=>by subst z;rw [n] at mu;exact mu
 have hb:∀ b,H b = none→b≠e:=fun b n z=>by
  subst z
  rcases he with r | r
  ·exact hx b n r
  ·rw [n] at r;cases r
 have hm:∀ b u,H b = some u→¬ Mut (some u)→b≠x:=fun b u q nm z=>by subst z;rw [q] at mu;exact nm mu
 refine ⟨fun b u q n _ _=>k b u (hb b n) q,fun b u q n _ _=>⟨u.slots,k b u (hb b n) q⟩,fun b u q n _=>by rw [upd_ne (hx b n)];exact n,fun b u q _=>?_,
  fun b xs q=>by rw [upd_ne (hm b _ q fun z=>z)];exact q,fun b u xs q=>by rw [upd_ne (hm b _ q fun z=>z)];exact q,fun b ps q=>⟨#[],by rw [upd_ne (hm b _ q fun z=>z),q];simp⟩⟩
 by_cases hbe:b = e
 ·subst hbe;exact heo
 ·exact ⟨u,k b u hbe q⟩
theorem Un.mono (u:Un fs ex H H1 h h1) (hs:∀ b∈fs,b∈fs') (hx:∀ b∈ex,b∈ex'):Un fs' ex' H H1 h h1 :=
 ⟨fun b ob q n hb he=>u.keep b ob q n (fun z=>hb (hs b z)) fun z=>he (hx b z),fun _ _ q n _ he=>u.any q n fun z=>he (hx _ z),fun b ob q n he=>u.free b ob q n fun z=>he (hx b z),fun b ob q he=>u.there b ob q fun z=>he (hx b z),u.tups,u.frzs,u.tbls⟩
end
def trk (h:Heap) (H:Hp):List Addr:=(List.range h.objs.size).filter fun a=>(H a).isSome
def hidT (h:Heap) (H:Hp):Heap:=PySem.W.hideAll h (trk h H)
theorem hidT_size (h:Heap) (H:Hp):(hidT h H).objs.size = h.objs.size:=PySem.W.hideAll_size _ _
theorem hidT_get {h:Heap} {H:Hp} {b:Addr} {o:Obj} (e:h.get? b = some o) (n:H b = none):(hidT h H).get? b = some o :=
 PySem.W.hideAll_get _ e fun hm=>by
  have q:(H b).isSome = true:=(List.mem_filter.mp hm).2
  rw [n] at q;simp at q
theorem of_hidT {h:Heap} {H:Hp} {b:Addr} {o:Obj} (e:(hidT h H).get? b = some o):h.get? b = some o∧H b = none:=by
 have e':h.get? b = some o:=PySem.W.of_hideAll (trk h H) e
 refine ⟨e',?_⟩
 cases q:H b with
 | none=>rfl
 | some x =>
  have hm:b∈trk h H:=List.mem_filter.mpr ⟨List.mem_range.mpr (Heap.lt_size e'),by simp [q]⟩
  have z:(hidT h H).get? b = none:=PySem.W.hideAll_none (trk h H) hm
  rw [z] at e;cases e
end L2
namespace L2
open PySem PySem.Spec PyProof.Rows
structure Mod (K:PySem.W.Frag) (mg:Str→Option Value) (base:Heap):Prop where
 kin:K.In base
 glob:base.Ns mainGlobals mg
 blt:∃ mb,base.Ns builtinsNs mb∧∀ x:Str,x≠"__name__"→mb x = bootBuiltins x
 nolimit:base.NoLimit
structure Cx where
 prog:Program
 w:World
 K:PySem.W.Frag
 mg:Str→Option Value
 base:Heap
 A:Around
 N:List Str
 s₀:Shared
 H₀:Hp
 env:Env
 outer:List Env
 stack:List Env
 ex:List Addr
 fn:Str→Bool
 calm:Bool
 pn:List (Addr×Obj)
 xe:Value→Shared→Prop
def frs (l:List Env):List Addr:=l.filterMap (·.frame)
abbrev Cx.fs (X:Cx):List Addr:=frs X.outer
def Vis (sc:Scope) (x:Str):Prop:=sc.names.lookup x = some .local∨sc.names.lookup x = some .cell∨sc.names.lookup x = some .free
def Loc (sc:Scope) (x:Str):Prop:=sc.names.lookup x = some .local∨sc.names.lookup x = some .cell
def Look (env:Env) (h:Heap) (m:Str→Option Value) (x:Str) (u:Value):Prop :=
 (env.kindOf x = some .local∧m x = some u)∨((env.kindOf x = some .cell∨env.kindOf x = some .free)∧∃ c,env.cells.lookup x = some c∧h.IsCell c (some u))
structure Cx.Ok (X:Cx):Prop where
 mod:Mod X.K X.mg X.base
 kind:X.env.scope.kind = .function
 glob:X.env.globals = mainGlobals
 blt:X.env.builtins = builtinsNs
 above:X.s₀.heap.objs.size≤X.env.locals
 inj:∀ x y c,X.env.cells.lookup x = some c→X.env.cells.lookup y = some c→x = y
 has:∀ x,(X.env.kindOf x = some .cell∨X.env.kindOf x = some .free)→∃ c,X.env.cells.lookup x = some c
 cab:∀ x c,X.fn x = true→X.env.cells.lookup x = some c→X.s₀.heap.objs.size≤c
 hd:X.calm = true→X.A.handled = none
 frames:X.A.frames = some X.stack
 stk:X.stack = X.outer∨(X.stack = X.env::X.outer∧X.env.frame = some X.env.locals)
 exf:∀ b∈X.ex,b≠X.env.locals∧∀ x c,X.env.cells.lookup x = some c→c≠b
 bs:∀ b o,X.base.get? b = some o→X.s₀.heap.get? b = some o∧X.H₀ b = none
 bsz:X.base.objs.size≤X.s₀.heap.objs.size
 noex:∀ b o,X.base.get? b = some o→b∉X.ex
 exfs:∀ b∈X.ex,b∉X.fs
 funs:X.s₀.heap.FunFrames X.base X.outer
 frf:∀ b∈X.fs,X.H₀ b = none
structure Inv (X:Cx) (pins:List (Addr×Obj)) (σ:List (Option V)) (H:Hp) (s:Shared):Prop where
 ok:X.Ok
 os:s.os = X.s₀.os
 bare:AllBare s.gens
 base:Un X.fs X.ex X.H₀ H X.s₀.heap s.heap
 loc:∃ m,s.heap.Ns X.env.locals m∧∀ (i:Nat) (x:Str) (v:V),X.N[i]? = some x→σ[i]? = some (some v)→Vis X.env.scope x→∃ u,RelV v u∧Look X.env s.heap m x u
 cell:∀ x c,X.env.cells.lookup x = some c→∃ v,s.heap.IsCell c v
 free:H X.env.locals = none
 freeC:∀ x c,X.env.cells.lookup x = some c→H c = none
 pin:∀ p∈X.pn ++ pins,s.heap.get? p.1 = some p.2∧H p.1 = none∧p.1≠X.env.locals∧p.1∉X.fs∧∀ v,p.2.data≠.cell v
 hok:HOk X.prog X.w H s.heap
 len:σ.length = X.N.length
section
variable {X:Cx} {pins:List (Addr×Obj)} {σ:List (Option V)} {H H':Hp} {s:Shared} {h':Heap}
theorem Cx.Ok.nofr (ok:X.Ok) {b:Addr} {o:Obj} (e:X.base.get? b = some o):b∉X.fs:=fun hb=>by
 have:=(ok.funs.mem hb).1
 rw [e] at this;cases this
theorem Inv.bs (I:Inv X pins σ H s):∀ b o,X.base.get? b = some o→s.heap.get? b = some o∧H b = none:=fun b o e =>
 ⟨I.base.keep b o (I.ok.bs b o e).1 (I.ok.bs b o e).2 (I.ok.nofr e) (I.ok.noex b o e),I.base.free b o (I.ok.bs b o e).1 (I.ok.bs b o e).2 (I.ok.noex b o e)⟩
theorem Inv.bk (I:Inv X pins σ H s):∀ b o,X.base.get? b = some o→s.heap.get? b = some o:=fun b o e=>(I.bs b o e).1
theorem Inv.mod (I:Inv X pins σ H s):Mod X.K X.mg X.base:=I.ok.mod
theorem Inv.kIn (I:Inv X pins σ H s):X.K.In s.heap:=I.ok.mod.kin.keeps I.bk
theorem Inv.lt (I:Inv X pins σ H s):X.env.locals < s.heap.objs.size:=let ⟨_,hn,_⟩:=I.loc;hn.lt
theorem Inv.sz (I:Inv X pins σ H s):X.s₀.heap.objs.size≤s.heap.objs.size:=Nat.le_trans I.ok.above (Nat.le_of_lt I.lt)
theorem Inv.nofs (I:Inv X pins σ H s) {a:Addr} (h:s.heap.objs.size≤a):a∉X.fs:=fun hb=>by
 obtain ⟨_,o,ho,_⟩:=I.ok.funs.mem hb
 exact absurd (Nat.lt_of_lt_of_le (Heap.lt_size ho) (Nat.le_trans I.sz h)) (Nat.lt_irrefl _)
theorem Inv.cne (I:Inv X pins σ H s):∀ x c,X.env.cells.lookup x = some c→c≠X.env.locals:=fun x c e z=>by
 obtain ⟨v,o,ho,hd⟩:=I.cell x c e
 obtain ⟨m,⟨o',es,ep,ho',hd',_⟩,_⟩:=I.loc
 rw [z,ho'] at ho;cases ho;rw [hd'] at hd;cases hd
theorem Inv.funs (I:Inv X pins σ H s):s.heap.FunFrames X.base X.outer:=by
 have all:∀ (l:List Env),(∀ b∈frs l,b∈X.fs)→X.s₀.heap.FunFrames X.base l→s.heap.FunFrames X.base l:=by
  intro l
  induction l with
  | nil=>intro _ _;trivial
  | cons env r ih =>
   intro hs hl
   obtain ⟨hk,⟨L,o,hf,hn,ho,hd⟩,hr⟩:=hl
   have hL:L∈X.fs:=hs L (by unfold frs;rw [List.filterMap_cons,hf];exact List.mem_cons_self)
   obtain ⟨sl,e⟩:=I.base.slot L o ho (I.ok.frf L hL) hL fun z=>I.ok.exfs L z hL
   exact ⟨hk,⟨L,_,hf,hn,e,hd⟩,ih (fun b hb=>hs b (by unfold frs;rw [List.filterMap_cons,hf];exact List.mem_cons_of_mem _ hb)) hr⟩
 exact all X.outer (fun _ hb=>hb) I.ok.funs
theorem Inv.stack (I:Inv X pins σ H s):s.heap.FunFrames X.base X.stack:=by
 rcases I.ok.stk with e | ⟨e,hf⟩
 ·rw [e];exact I.funs
 ·rw [e]
  obtain ⟨m,hn,_⟩:=I.loc
  refine .cons (by rw [I.ok.kind];decide) hf hn ?_ I.funs
  exact Heap.get?_none_of_le (Nat.le_trans I.ok.bsz I.ok.above)
theorem Inv.stkSub (I:Inv X pins σ H s):∀ b∈frs X.stack,b∈X.env.locals::X.fs:=fun b hb=>by
 rcases I.ok.stk with e | ⟨e,hf⟩
 ·rw [e] at hb;exact List.mem_cons_of_mem _ hb
 ·rw [e] at hb
  unfold frs at hb
  rw [List.filterMap_cons,hf] at hb
  exact hb
theorem Inv.stkFree (I:Inv X pins σ H s):∀ b∈frs X.stack,H b = none:=fun b hb=>by
 rcases List.mem_cons.mp (I.stkSub b hb) with e | hb
 ·rw [e];exact I.free
 ·obtain ⟨_,o,ho,_⟩:=I.ok.funs.mem hb
  exact I.base.free b o ho (I.ok.frf b hb) fun z=>I.ok.exfs b z hb
theorem Inv.step {g':Array GenState} {t':Nat} {d':Drawn} {ch:List Addr} (I:Inv X pins σ H s)
  (hch:∀ b∈ch,(b∈X.ex∨X.s₀.heap.objs.size≤b)∧b≠X.env.locals∧(∀ x c,X.env.cells.lookup x = some c→c≠b)∧∀ p∈X.pn ++ pins,p.1≠b)
  (keep:∀ b o,b≠X.env.locals→b∉X.fs→b∉ch→s.heap.get? b = some o→H b = none→h'.get? b = some o)
  (slot:∀ b o,b≠X.env.locals→b∈X.fs→b∉ch→s.heap.get? b = some o→H b = none→∃ sl,h'.get? b = some { o with slots:=sl }) (free:∀ b o,b∉ch→s.heap.get? b = some o→H b = none→H' b = none)
  (there:∀ b o,b∉ch→s.heap.get? b = some o→∃ o',h'.get? b = some o')
  (tups:∀ b xs,H b = some (.tup xs)→H' b = some (.tup xs)) (frzs:∀ b o u,H b = some (.frz o u)→H' b = some (.frz o u)) (tbls:∀ b ps,H b = some (.tbl ps)→∃ more,H' b = some (.tbl (ps ++ more)))
  (ns:∀ m,s.heap.Ns X.env.locals m→h'.Ns X.env.locals m) (hok:HOk X.prog X.w H' h') (hg:AllBare g') :
  Inv X pins σ H' { s with heap:=h',gens:=g',drawn:=d',toks:=t' }:=by
 have neL:∀ b o,X.s₀.heap.get? b = some o→b≠X.env.locals:=fun b o e=>Nat.ne_of_lt (Nat.lt_of_lt_of_le (Heap.lt_size e) I.ok.above)
 have neC:∀ b o,X.s₀.heap.get? b = some o→b∉X.ex→b∉ch:=fun b o e hx hb=>by
  rcases (hch b hb).1 with z | z
  ·exact hx z
  ·exact absurd (Nat.lt_of_lt_of_le (Heap.lt_size e) z) (Nat.lt_irrefl _)
 have cellK:∀ x c,X.env.cells.lookup x = some c→∀ v,s.heap.IsCell c v→h'.IsCell c v:=fun x c e v ⟨o,ho,hd⟩=>by
  have nch:c∉ch:=fun z=>(hch c z).2.2.1 x c e rfl
  by_cases hc:c∈X.fs
  ·obtain ⟨sl,q⟩:=slot c o (I.cne x c e) hc nch ho (I.freeC x c e)
   exact ⟨_,q,hd⟩
  ·exact ⟨o,keep c o (I.cne x c e) hc nch ho (I.freeC x c e),hd⟩
 refine ⟨I.ok,I.os,hg,⟨fun b o e n hb hx=>?_,fun b o e n hb hx=>?_,fun b o e n hx=>?_,fun b o e hx=>?_,fun b xs e=>tups b xs (I.base.tups b xs e),fun b o xs e=>frzs b o xs (I.base.frzs b o xs e),fun b ps e=>?_⟩,?_,fun x c e=>?_,?_,fun x c e=>?_,fun p hp=>?_,hok,I.len⟩
 ·exact keep b o (neL b o e) hb (neC b o e hx) (I.base.keep b o e n hb hx) (I.base.free b o e n hx)
 ·obtain ⟨sl,e1⟩:=I.base.slot b o e n hb hx
  obtain ⟨sl',e2⟩:=slot b _ (neL b o e) hb (neC b o e hx) e1 (I.base.free b o e n hx)
  exact ⟨sl',e2⟩
 ·obtain ⟨o',e1⟩:=I.base.there b o e hx
  exact free b o' (neC b o e hx) e1 (I.base.free b o e n hx)
 ·obtain ⟨o',e1⟩:=I.base.there b o e hx
  exact there b o' (neC b o e hx) e1
 ·obtain ⟨m1,e1⟩:=I.base.tbls b ps e
  obtain ⟨m2,e2⟩:=tbls b _ e1
  exact ⟨m1 ++ m2,by rw [e2,Array.append_assoc]⟩
 ·obtain ⟨m,hn,hl⟩:=I.loc
  refine ⟨m,ns m hn,fun i x v e1 e2 e3=>?_⟩
  obtain ⟨u,r,l⟩:=hl i x v e1 e2 e3
  refine ⟨u,r,?_⟩
  rcases l with l | ⟨k,c,e,z⟩
  ·exact .inl l
  ·exact .inr ⟨k,c,e,cellK x c e _ z⟩
 ·obtain ⟨v,z⟩:=I.cell x c e
  exact ⟨v,cellK x c e v z⟩
 ·obtain ⟨m,⟨o,_,_,ho,_⟩,_⟩:=I.loc
  exact free _ o (fun z=>(hch _ z).2.1 rfl) ho I.free
 ·obtain ⟨v,o,ho,hd⟩:=I.cell x c e
  exact free c o (fun z=>(hch c z).2.2.1 x c e rfl) ho (I.freeC x c e)
 ·obtain ⟨e,n,ne,nf,d⟩:=I.pin p hp
  have nch:p.1∉ch:=fun z=>(hch p.1 z).2.2.2 p hp rfl
  exact ⟨keep p.1 p.2 ne nf nch e n,free p.1 p.2 nch e n,ne,nf,d⟩
theorem Inv.un {t':Nat} (I:Inv X pins σ H s) (u:Un X.fs [] H H' s.heap h') (hok:HOk X.prog X.w H' h'):Inv X pins σ H' { s with heap:=h',toks:=t' }:=by
 obtain ⟨m,⟨o,es,ep,ho,r⟩,_⟩:=id I.loc
 obtain ⟨sl,hL⟩:=u.any ho I.free (by simp)
 exact I.step (g':=s.gens) (d':=s.drawn) (ch:=[]) (fun _ z=>nomatch z) (fun b o _ hb _ e n=>u.keep b o e n hb (by simp)) (fun b o _ hb _ e n=>u.slot b o e n hb (by simp)) (fun b o _ e n=>u.free b o e n (by simp)) (fun b o _ e=>u.there b o e (by simp)) u.tups u.frzs u.tbls (fun m' hm=>by
  obtain ⟨o',es',ep',ho',r'⟩:=hm
  rw [ho] at ho';cases ho'
  exact ⟨_,es',ep',hL,r'⟩) hok I.bare
theorem Inv.call {g':Array GenState} {t':Nat} {d':Drawn} {ch:List Addr} (I:Inv X pins σ H s) (u:Un (frs X.stack) ch H H' s.heap h') (hok:HOk X.prog X.w H' h') (hg:AllBare g')
  (hch:∀ b∈ch,(b∈X.ex∨X.s₀.heap.objs.size≤b)∧b≠X.env.locals∧(∀ x c,X.env.cells.lookup x = some c→c≠b)∧∀ p∈X.pn ++ pins,p.1≠b) :
  Inv X pins σ H' { s with heap:=h',gens:=g',drawn:=d',toks:=t' }:=by
 obtain ⟨m,⟨o,es,ep,ho,r⟩,_⟩:=id I.loc
 obtain ⟨sl,hL⟩:=u.any ho I.free fun z=>(hch _ z).2.1 rfl
 exact I.step (ch:=ch) hch (fun b o hL hb hc e n=>u.keep b o e n (fun z=>(List.mem_cons.mp (I.stkSub b z)).elim hL hb) hc) (fun b o _ _ hc e n=>u.any e n hc) (fun b o hc e n=>u.free b o e n hc) (fun b o hc e=>u.there b o e hc) u.tups u.frzs u.tbls (fun m' hm=>by
  obtain ⟨o',es',ep',ho',r'⟩:=hm
  rw [ho] at ho';cases ho'
  exact ⟨_,es',ep',hL,r'⟩) hok hg
theorem Inv.turned {t':Nat} {it:Addr} (I:Inv X pins σ H s) (k:∀ b o,b≠it→s.heap.get? b = some o→h'.get? b = some o) (hn:H it = none) (hL:it≠X.env.locals)
  (h1:it∈X.ex∨X.s₀.heap.objs.size≤it) (h2:∀ x c,X.env.cells.lookup x = some c→c≠it) (h3:∀ p∈X.pn ++ pins,p.1≠it):Inv X pins σ H { s with heap:=h',toks:=t' }:=by
 have nit:∀ b u,H b = some u→b≠it:=fun b u e z=>by rw [z,hn] at e;cases e
 refine I.step (g':=s.gens) (d':=s.drawn) (ch:=[it]) (fun b hb=>?_) (fun b o _ _ hc e _=>k b o (fun z=>hc (by simp [z])) e) (fun b o _ _ hc e _=>⟨o.slots,k b o (fun z=>hc (by simp [z])) e⟩) (fun _ _ _ _ n=>n)
  (fun b o hc e=>⟨o,k b o (fun z=>hc (by simp [z])) e⟩) (fun _ _ e=>e) (fun _ _ _ e=>e) (fun b ps e=>⟨#[],by rw [e];simp⟩) (fun m hm=>?_) (fun b u e=>?_) I.bare
 ·have e:b = it:=by simpa using hb
  subst e
  exact ⟨h1,hL,h2,h3⟩
 ·obtain ⟨o,es,ep,ho,r⟩:=hm
  exact ⟨o,es,ep,k _ o (Ne.symm hL) ho,r⟩
 ·refine (I.hok b u e).stay (fun c v hc q=>k c v ?_ q) (fun _ q=>q) fun _ _ q=>q
  rcases hc with z | z
  ·rw [z];exact nit b u e
  ·exact nit c _ z
theorem Inv.tok (I:Inv X pins σ H s) (t:Nat):Inv X pins σ H { s with toks:=t }:=I.un (h':=s.heap) (t':=t) Un.refl I.hok
theorem Inv.kept {t':Nat} (I:Inv X pins σ H s) (k:∀ b u,s.heap.get? b = some u→h'.get? b = some u):Inv X pins σ H { s with heap:=h',toks:=t' }:=I.un (Un.kept k) (I.hok.kept k)
theorem Inv.laid {a:Addr} {o:HO} {t':Nat} (I:Inv X pins σ H s) (k:∀ b u,s.heap.get? b = some u→h'.get? b = some u) (hp:s.heap.objs.size≤a) (new:ObjOk X.prog X.w (upd H a o) h' a o) :
  Inv X pins σ (upd H a o) { s with heap:=h',toks:=t' }:=I.un (Un.laid k hp (I.hok.fresh hp)) (I.hok.laid k hp new)
theorem Inv.write {x e:Addr} {o:HO} {t':Nat} (I:Inv X pins σ H s) (mu:Mut (H x)) (he:e = x∨H e = some (.own x)) (k:∀ b u,b≠e→s.heap.get? b = some u→h'.get? b = some u) (heo:∃ u,h'.get? e = some u)
  (new:ObjOk X.prog X.w (upd H x o) h' x o):Inv X pins σ (upd H x o) { s with heap:=h',toks:=t' }:=I.un (Un.write mu he k heo) (I.hok.write mu he k heo new)
theorem Inv.pins_of {pins':List (Addr×Obj)} (I:Inv X pins σ H s) (h:∀ p∈pins',s.heap.get? p.1 = some p.2∧H p.1 = none∧p.1≠X.env.locals∧p.1∉X.fs∧∀ v,p.2.data≠.cell v):Inv X pins' σ H s :=
 ⟨I.ok,I.os,I.bare,I.base,I.loc,I.cell,I.free,I.freeC,fun p hp=>(List.mem_append.mp hp).elim (fun z=>I.pin p (List.mem_append_left _ z)) (h p),I.hok,I.len⟩
theorem nodup_ix {N:List Str} (hN:N.Nodup) {i j:Nat} {x:Str} (a:N[i]? = some x) (b:N[j]? = some x):i = j:=by
 obtain ⟨h1,e1⟩:=List.getElem?_eq_some_iff.mp a
 obtain ⟨h2,e2⟩:=List.getElem?_eq_some_iff.mp b
 exact (List.getElem_inj hN).mp (e1.trans e2.symm)
theorem store_ok2 {M:Model} {A:Around} {E:Value→Shared→Prop} {i:Nat} {x:Str} {v:V} {u:Value} {Q:Unit→Shared→Prop} (I:Inv X pins σ H s) (hN:X.N.Nodup) (hi:X.N[i]? = some x) (hx:Loc X.env.scope x) (r:RelV v u)
  (h:∀ s',Inv X pins (σ.set i (some v)) H s'→(∃ a,Heap.SameBut a s.heap s'.heap∧(a = X.env.locals∨X.env.cells.lookup x = some a))→Q () s') (hf:X.fn x = true∨X.env.scope.names.lookup x = some .local:=by first | exact .inl rfl | exact .inr rfl | assumption):wpAny M A (storeName X.env x u) Q E s:=by
 obtain ⟨m,hn,hl⟩:=id I.loc
 have hcls:(X.env.scope.kind == .class || (X.env.scope.kind == .module && X.env.locals != X.env.globals)) = false:=by rw [I.ok.kind];rfl
 have hiσ:i < σ.length:=by rw [I.len];exact (List.getElem?_eq_some_iff.mp hi).1
 have cne:=I.cne
 have tracked:∀ {a:Addr} {h':Heap},(∃ o,s.heap.get? a = some o∧H a = none)→Heap.SameBut a s.heap h'→HOk X.prog X.w H h':=fun {a h'} ha hs b ob e=>by
  obtain ⟨_,_,hfree⟩:=ha
  refine (I.hok b ob e).stay (fun c w' hc q=>(hs.2 c ?_).trans q) (fun _ q=>q) fun _ _ q=>q
  rintro rfl
  rcases hc with rfl | hc
  ·rw [hfree] at e;cases e
  ·rw [hfree] at hc;cases hc
 rcases hx with hk | hk
 ·refine wpAny_storeName_local hk hn (fun h' hn' hs=>?_) hcls
  obtain ⟨oL,_,_,hoL,_⟩:=id hn
  refine h _ ⟨I.ok,I.os,I.bare,⟨fun b o e n hb hx=>?_,fun b o e n hb hx=>?_,I.base.free,fun b o e hx=>?_,I.base.tups,I.base.frzs,I.base.tbls⟩,⟨_,hn',fun j y v' e1 e2 e3=>?_⟩,fun y c e=>?_,I.free,I.freeC,fun p hp=>?_,tracked ⟨oL,hoL,I.free⟩ hs,by simpa using I.len⟩ ⟨_,hs,.inl rfl⟩
  ·exact (hs.2 b (Nat.ne_of_lt (Nat.lt_of_lt_of_le (Heap.lt_size e) I.ok.above))).trans (I.base.keep b o e n hb hx)
  ·obtain ⟨sl,e1⟩:=I.base.slot b o e n hb hx
   exact ⟨sl,(hs.2 b (Nat.ne_of_lt (Nat.lt_of_lt_of_le (Heap.lt_size e) I.ok.above))).trans e1⟩
  ·obtain ⟨o',e1⟩:=I.base.there b o e hx
   exact ⟨o',(hs.2 b (Nat.ne_of_lt (Nat.lt_of_lt_of_le (Heap.lt_size e) I.ok.above))).trans e1⟩
  ·by_cases hj:j = i
   ·subst hj
    rw [hi] at e1;cases e1
    rw [List.getElem?_set_self hiσ] at e2
    cases e2
    exact ⟨u,r,.inl ⟨hk,by simp⟩⟩
   ·rw [List.getElem?_set_ne (Ne.symm hj)] at e2
    obtain ⟨u',r',q⟩:=hl j y v' e1 e2 e3
    refine ⟨u',r',?_⟩
    rcases q with ⟨k,e⟩ | ⟨k,c,e,z⟩
    ·refine .inl ⟨k,?_⟩
     have:y≠x:=fun e=>hj (nodup_ix hN e1 (e ▸ hi))
     simp [this,e]
    ·exact .inr ⟨k,c,e,z.sameBut hs (cne y c e)⟩
  ·obtain ⟨w',z⟩:=I.cell y c e
   exact ⟨w',z.sameBut hs (cne y c e)⟩
  ·obtain ⟨e,n,ne,nf,d⟩:=I.pin p hp
   exact ⟨(hs.2 p.1 ne).trans e,n,ne,nf,d⟩
 ·have hfn:X.fn x = true:=by
   rcases hf with z | z
   ·exact z
   ·rw [z] at hk;cases hk
  obtain ⟨c,hc⟩:=I.ok.has x (.inl hk)
  obtain ⟨w',z⟩:=I.cell x c hc
  refine wpAny_storeName_cell I.ok.kind hk hc z (fun h' hc' hs=>?_)
  obtain ⟨oc,hoc,hocd⟩:=id z
  refine h { s with heap:=h' } ⟨I.ok,I.os,I.bare,⟨fun b o e n hb hx=>?_,fun b o e n hb hx=>?_,I.base.free,fun b o e hx=>?_,I.base.tups,I.base.frzs,I.base.tbls⟩,⟨m,hn.sameBut hs (Ne.symm (cne x c hc)),fun j y v' e1 e2 e3=>?_⟩,fun y c' e=>?_,I.free,I.freeC,fun p hp=>?_,tracked ⟨oc,hoc,I.freeC x c hc⟩ hs,by simpa using I.len⟩ ⟨c,hs,.inr hc⟩
  ·exact (hs.2 b (Nat.ne_of_lt (Nat.lt_of_lt_of_le (Heap.lt_size e) (I.ok.cab x c hfn hc)))).trans (I.base.keep b o e n hb hx)
  ·obtain ⟨sl,e1⟩:=I.base.slot b o e n hb hx
   exact ⟨sl,(hs.2 b (Nat.ne_of_lt (Nat.lt_of_lt_of_le (Heap.lt_size e) (I.ok.cab x c hfn hc)))).trans e1⟩
  ·obtain ⟨o',e1⟩:=I.base.there b o e hx
   exact ⟨o',(hs.2 b (Nat.ne_of_lt (Nat.lt_of_lt_of_le (Heap.lt_size e) (I.ok.cab x c hfn hc)))).trans e1⟩
  ·by_cases hj:j = i
   ·subst hj
    rw [hi] at e1;cases e1
    rw [List.getElem?_set_self hiσ] at e2
    cases e2
    exact ⟨u,r,.inr ⟨.inl hk,c,hc,hc'⟩⟩
   ·rw [List.getElem?_set_ne (Ne.symm hj)] at e2
    obtain ⟨u',r',q⟩:=hl j y v' e1 e2 e3
    refine ⟨u',r',?_⟩
    rcases q with q | ⟨k,c',e,z'⟩
    ·exact .inl q
    ·refine .inr ⟨k,c',e,z'.sameBut hs ?_⟩
     rintro rfl
     exact hj (nodup_ix hN e1 (I.ok.inj _ _ _ e hc ▸ hi))
  ·by_cases hcc:c' = c
   ·subst hcc;exact ⟨_,hc'⟩
   ·obtain ⟨w2,z2⟩:=I.cell y c' e
    exact ⟨w2,z2.sameBut hs hcc⟩
  ·obtain ⟨e,n,ne,nf,d⟩:=I.pin p hp
   refine ⟨(hs.2 p.1 ?_).trans e,n,ne,nf,d⟩
   intro q
   rw [q,hoc] at e
   have q':oc = p.2:=Option.some.inj e
   exact d w' (by rw [← q'];exact hocd)
theorem store_ok {M:Model} {A:Around} {E:Value→Shared→Prop} {i:Nat} {x:Str} {v:V} {u:Value} {Q:Unit→Shared→Prop} (I:Inv X pins σ H s) (hN:X.N.Nodup) (hi:X.N[i]? = some x) (hx:Loc X.env.scope x) (r:RelV v u)
  (h:∀ s',Inv X pins (σ.set i (some v)) H s'→Q () s') (hf:X.fn x = true∨X.env.scope.names.lookup x = some .local:=by first | exact .inl rfl | exact .inr rfl | assumption):wpAny M A (storeName X.env x u) Q E s :=
 store_ok2 I hN hi hx r (fun s' I' _=>h s' I') hf
theorem Inv.call' {s':Shared} {ch:List Addr} (I:Inv X pins σ H s) (ho:s'.os = s.os) (u:Un (frs X.stack) ch H H' s.heap s'.heap) (hok:HOk X.prog X.w H' s'.heap) (hg:AllBare s'.gens)
  (hch:∀ b∈ch,(b∈X.ex∨X.s₀.heap.objs.size≤b)∧b≠X.env.locals∧(∀ x c,X.env.cells.lookup x = some c→c≠b)∧∀ p∈X.pn ++ pins,p.1≠b):Inv X pins σ H' s':=by
 obtain ⟨h',g',d',t',o'⟩:=s'
 have e:o' = s.os:=ho
 subst e
 exact I.call (g':=g') (t':=t') (d':=d') u hok hg hch
end
abbrev XK:=Value→Option Addr→Hp→Prop
abbrev St:=List (Option V)
abbrev VK:=V→Hp→Prop
abbrev TE:=St→Hp→VK→Prop
abbrev TT:=St→Hp→(Bool→Hp→Prop)→Prop
abbrev TA:=St→Hp→(List V→Hp→Prop)→Prop
structure Ends where
 nx:St→Hp→Prop
 rt:VK
 bk:St→Hp→Prop:=fun _ _=>False
 ct:St→Hp→Prop:=fun _ _=>False
abbrev TS:=Ends→St→Hp→Prop
def EP (X:Cx) (pins:List (Addr×Obj)) (σ:St) (Q:VK) (u:Value) (s':Shared):Prop:=∃ v H',Inv X pins σ H' s'∧RelV v u∧Q v H'
def TP (X:Cx) (pins:List (Addr×Obj)) (σ:St) (Q:Bool→Hp→Prop) (b:Bool) (s':Shared):Prop:=∃ H',Inv X pins σ H' s'∧Q b H'
def AP (X:Cx) (pins:List (Addr×Obj)) (σ:St) (Q:List V→Hp→Prop) (us:List Value) (s':Shared):Prop:=∃ vs H',Inv X pins σ H' s'∧Vals vs us∧Q vs H'
def SP (X:Cx) (pins:List (Addr×Obj)) (D:Ends) (f:Flow) (s':Shared):Prop :=
 match f with
 | .next=>∃ σ' H',Inv X pins σ' H' s'∧D.nx σ' H'
 | .brk=>∃ σ' H',Inv X pins σ' H' s'∧D.bk σ' H'
 | .cont=>∃ σ' H',Inv X pins σ' H' s'∧D.ct σ' H'
 | .ret u=>∃ v σ' H',Inv X pins σ' H' s'∧RelV v u∧D.rt v H'
def PE (X:Cx) (e:Expr) (t:TE):Prop :=
 ∀ (pins:List (Addr×Obj)) (s:Shared) (σ:St) (H:Hp) (Q:VK),Inv X pins σ H s→t σ H Q→wpAny (model X.prog X.w) X.A (eval e X.env) (EP X pins σ Q) X.xe s
def PT (X:Cx) (e:Expr) (t:TT):Prop :=
 ∀ (pins:List (Addr×Obj)) (s:Shared) (σ:St) (H:Hp) (Q:Bool→Hp→Prop),Inv X pins σ H s→t σ H Q→wpAny (model X.prog X.w) X.A (isTrue e X.env (eval e X.env)) (TP X pins σ Q) X.xe s
def PW (X:Cx) (e:Expr) (t:TT):Prop :=
 ∀ (whole:Sem Value) (pins:List (Addr×Obj)) (s:Shared) (σ:St) (H:Hp) (Q:Bool→Hp→Prop),Inv X pins σ H s→t σ H Q→wpAny (model X.prog X.w) X.A (isTrue e X.env whole) (TP X pins σ Q) X.xe s
theorem PW.pt {X:Cx} {e:Expr} {t:TT} (h:PW X e t):PT X e t:=h _
def PA (X:Cx) (es:List Expr) (t:TA):Prop :=
 ∀ (pos:Pos) (pins:List (Addr×Obj)) (s:Shared) (σ:St) (H:Hp) (Q:List V→Hp→Prop),Inv X pins σ H s→t σ H Q→wpAny (model X.prog X.w) X.A (spliced (backTo pos (starEach es X.env))) (AP X pins σ Q) X.xe s
def PS (X:Cx) (st:Stmt) (t:TS):Prop :=
 ∀ (pins:List (Addr×Obj)) (s:Shared) (σ:St) (H:Hp) (D:Ends),Inv X pins σ H s→t D σ H→wpAny (model X.prog X.w) X.A (exec st X.env) (SP X pins D) X.xe s
def PSs (X:Cx) (st:List Stmt) (t:TS):Prop :=
 ∀ (pins:List (Addr×Obj)) (s:Shared) (σ:St) (H:Hp) (D:Ends),Inv X pins σ H s→t D σ H→wpAny (model X.prog X.w) X.A (execs st X.env) (SP X pins D) X.xe s
theorem thn {α:Type} {t:Sem α} {Q Q':α→Shared→Prop} {M:Model} {A:Around} {E:Value→Shared→Prop} {s:Shared} (h:wpAny M A t Q E s) (hQ:∀ a s,Q a s→Q' a s):wpAny M A t Q' E s:=wpAny_mono h hQ fun _ _ x=>x
end L2
namespace L2
open PySem PySem.Spec PyProof.Rows
section
variable {X:Cx}
def tVar (i:Nat):TE:=fun σ H Q=>∃ v,σ[i]? = some (some v)∧Q v H
def tC (v:V):TE:=fun _ H Q=>Q v H
theorem pe_var {i:Nat} {x:Str} {pos:Pos} (hN:X.N[i]? = some x) (hv:Vis X.env.scope x) (hd:(x == ("__debug__" : Str)) = false:=by decide) (hcd:(x == ("__classdict__" : Str)) = false:=by decide):PE X (.Name x pos) (tVar i):=by
 intro pins s σ H Q I h
 obtain ⟨v,e,h⟩:=h
 obtain ⟨m,hn,hl⟩:=I.loc
 obtain ⟨u,r,l⟩:=hl i x v hN e hv
 have fin:EP X pins σ Q u s:=⟨v,H,I,r,h⟩
 rcases l with ⟨hk,hm⟩ | ⟨hk,c,hc,hcell⟩
 ·exact wpAny_Name (wpAny_loadName_local I.ok.kind hk hn hm fin) hd
 ·rcases hk with hk | hk
  ·exact wpAny_Name (wpAny_loadName_cell I.ok.kind hk hc hcell fin) hd
  ·exact wpAny_Name (wpAny_loadName_free I.ok.kind hk hc hcell fin hcd) hd
theorem pe_int {i j pos}:PE X (.Constant (.int i) j pos) (tC (.int i)):=fun _ _ _ H _ I h=>wpAny_Constant_int ⟨.int i,H,I.tok _,⟨_,rfl⟩,h⟩
theorem pe_bl {b j pos}:PE X (.Constant (.bool b) j pos) (tC (.bl b)):=fun _ _ _ H _ I h=>Constant_bool ⟨.bl b,H,I,rfl,h⟩
theorem pe_non {j pos}:PE X (.Constant .none j pos) (tC .non):=fun _ _ _ H _ I h=>Constant_none ⟨.non,H,I,rfl,h⟩
theorem pe_str {x j pos}:PE X (.Constant (.str x) j pos) (tC (.str x)):=fun _ _ _ H _ I h=>Calls.Constant_str ⟨.str x,H,I.tok _,⟨_,rfl⟩,h⟩
def Gl (X:Cx) (x:Str):Prop:=X.env.kindOf x = some .globalImplicit
theorem ld_glob {E:Value→Shared→Prop} {pins:List (Addr×Obj)} {s:Shared} {σ:St} {H:Hp} {x:Str} {u:Value} {pos:Pos} {Q:Value→Shared→Prop} (I:Inv X pins σ H s) (hg:Gl X x) (hm:X.mg x = some u) (h:Q u s)
  (hd:(x == ("__debug__" : Str)) = false:=by decide):wpAny (model X.prog X.w) X.A (eval (.Name x pos) X.env) Q E s :=
 Calls.Name_function_global I.ok.kind hg (Calls.loadGlobal_global (by rw [I.ok.glob];exact I.mod.glob.keeps I.bk) hm h) hd
theorem ld_blt {E:Value→Shared→Prop} {pins:List (Addr×Obj)} {s:Shared} {σ:St} {H:Hp} {x:Str} {u:Value} {pos:Pos} {Q:Value→Shared→Prop} (I:Inv X pins σ H s) (hg:Gl X x) (hm:X.mg x = none) (hv:bootBuiltins x = some u) (h:Q u s)
  (hn:x≠"__name__":=by decide) (hd:(x == ("__debug__" : Str)) = false:=by decide):wpAny (model X.prog X.w) X.A (eval (.Name x pos) X.env) Q E s:=by
 obtain ⟨mb,h1,h2⟩:=I.mod.blt
 exact Calls.Name_function_global I.ok.kind hg (Calls.loadGlobal_builtin (by rw [I.ok.glob];exact I.mod.glob.keeps I.bk) hm (by rw [I.ok.blt];exact h1.keeps I.bk) ((h2 x hn).trans hv) h) hd
theorem pe_glob {x:Str} {v:V} {u:Value} {pos:Pos} (hg:Gl X x) (hm:X.mg x = some u) (r:RelV v u) (hd:(x == ("__debug__" : Str)) = false:=by decide):PE X (.Name x pos) (tC v) :=
 fun _ _ _ H _ I h=>ld_glob I hg hm ⟨v,H,I,r,h⟩ hd
variable {a b:Expr} {ta tb:TE} {pos:Pos}
def tB (t:TE):TT:=fun σ H Q=>t σ H fun x H1=>∃ c,x = .bl c∧Q c H1
theorem pt_val {e:Expr} {t:TE} (h:PE X e t) (he:∀ whole,isTrue e X.env whole = (do let v ← whole;standAt e.pos;holding [v] (truthy v)):=by intro _;rfl):PT X e (tB t):=by
 intro pins s σ H Q I hw
 refine isTrue_plain (thn (h pins s σ H _ I hw) fun v s1 ⟨x,H1,I1,r1,q1⟩=>?_) (he _)
 obtain ⟨d,rfl,q⟩:=q1
 cases r1
 exact wpAny_truthy_bool ⟨H1,I1,q⟩
variable {tA tB':TT} {rest:List Expr}
def tAnd (t u:TT):TT:=fun σ H Q=>t σ H fun c H1=>if c = true then u σ H1 Q else Q false H1
def tOr (t u:TT):TT:=fun σ H Q=>t σ H fun c H1=>if c = true then Q true H1 else u σ H1 Q
def tNot (t:TT):TT:=fun σ H Q=>t σ H fun c H1=>Q (!c) H1
theorem pw_and1 (ha:PT X a tA):PW X (.BoolOp .And [a] pos) tA:=by
 intro wh pins s σ H Q I h
 refine isTrue_and (thn (ha pins s σ H Q I h) fun c s1 e=>?_)
 cases c with
 | true=>exact isTrue_and_nil e
 | false=>exact e
theorem pw_or1 (ha:PT X a tA):PW X (.BoolOp .Or [a] pos) tA:=by
 intro wh pins s σ H Q I h
 refine isTrue_or (thn (ha pins s σ H Q I h) fun c s1 e=>?_)
 cases c with
 | false=>exact isTrue_or_nil e
 | true=>exact e
theorem pw_and (ha:PT X a tA) (hb:PW X (.BoolOp .And (b::rest) pos) tB'):PW X (.BoolOp .And (a::b::rest) pos) (tAnd tA tB'):=by
 intro wh pins s σ H Q I h
 refine isTrue_and (thn (ha pins s σ H _ I h) fun c s1 ⟨H1,I1,q1⟩=>?_)
 cases c with
 | true=>exact hb wh pins s1 σ H1 Q I1 q1
 | false=>exact ⟨H1,I1,q1⟩
theorem pw_or (ha:PT X a tA) (hb:PW X (.BoolOp .Or (b::rest) pos) tB'):PW X (.BoolOp .Or (a::b::rest) pos) (tOr tA tB'):=by
 intro wh pins s σ H Q I h
 refine isTrue_or (thn (ha pins s σ H _ I h) fun c s1 ⟨H1,I1,q1⟩=>?_)
 cases c with
 | true=>exact ⟨H1,I1,q1⟩
 | false=>exact hb wh pins s1 σ H1 Q I1 q1
theorem pt_not (ha:PT X a tA):PT X (.UnaryOp .Not a pos) (tNot tA):=by
 intro pins s σ H Q I h
 exact isTrue_not (ha pins s σ H (fun c H1=>Q (!c) H1) I h)
def tAndV (ta tb:TE):TE:=fun σ H Q=>ta σ H fun x H1=>∃ c,x = .bl c∧if c = true then tb σ H1 Q else Q (.bl false) H1
def tOrV (ta tb:TE):TE:=fun σ H Q=>ta σ H fun x H1=>∃ c,x = .bl c∧if c = true then Q (.bl true) H1 else tb σ H1 Q
def tNotV (ta:TE):TE:=fun σ H Q=>ta σ H fun x H1=>∃ c,x = .bl c∧Q (.bl (!c)) H1
theorem pe_one {op} {t:TE} (h:PE X a t):PE X (.BoolOp op [a] pos) t:=fun pins s σ H Q I hw=>BoolOp_one (h pins s σ H Q I hw)
theorem pe_and (ha:PE X a ta) (hb:PE X (.BoolOp .And (b::rest) pos) tb):PE X (.BoolOp .And (a::b::rest) pos) (tAndV ta tb):=by
 intro pins s σ H Q I h
 refine BoolOp_and (thn (ha pins s σ H _ I h) fun v s1 ⟨x,H1,I1,r1,q1⟩=>?_)
 obtain ⟨c,rfl,q1⟩:=q1
 cases r1
 refine wpAny_truthy_bool ?_
 cases c with
 | true=>exact hb pins s1 σ H1 Q I1 q1
 | false=>exact ⟨.bl false,H1,I1,rfl,q1⟩
theorem pe_or (ha:PE X a ta) (hb:PE X (.BoolOp .Or (b::rest) pos) tb):PE X (.BoolOp .Or (a::b::rest) pos) (tOrV ta tb):=by
 intro pins s σ H Q I h
 refine BoolOp_or (thn (ha pins s σ H _ I h) fun v s1 ⟨x,H1,I1,r1,q1⟩=>?_)
 obtain ⟨c,rfl,q1⟩:=q1
 cases r1
 refine wpAny_truthy_bool ?_
 cases c with
 | false=>exact hb pins s1 σ H1 Q I1 q1
 | true=>exact ⟨.bl true,H1,I1,rfl,q1⟩
theorem pe_not (ha:PE X a ta):PE X (.UnaryOp .Not a pos) (tNotV ta):=by
 intro pins s σ H Q I h
 refine UnaryOp_ (thn (ha pins s σ H _ I h) fun v s1 ⟨x,H1,I1,r1,q1⟩=>?_)
 obtain ⟨c,rfl,q1⟩:=q1
 cases r1
 exact not_of (wpAny_truthy_bool ⟨.bl (!c),H1,I1,rfl,q1⟩)
def tIf (t:TT) (ta tb:TE):TE:=fun σ H Q=>t σ H fun c H1=>if c = true then ta σ H1 Q else tb σ H1 Q
theorem pe_ifExp {c:Expr} (hc:PT X c tA) (ha:PE X a ta) (hb:PE X b tb):PE X (.IfExp c a b pos) (tIf tA ta tb):=by
 intro pins s σ H Q I h
 refine wpAny_IfExp (thn (hc pins s σ H _ I h) fun d s1 ⟨H1,I1,q1⟩=>?_)
 cases d with
 | true=>exact ha pins s1 σ H1 Q I1 q1
 | false=>exact hb pins s1 σ H1 Q I1 q1
end
end L2
namespace L2
open PySem PySem.Spec PyProof.Rows
def SqL (K:PySem.W.Frag) (H:Hp) (a:Addr) (xs:List V):Prop :=
 Rd H a (.lst xs) ∨
  ∃ (o:Obj) (its:Array Value) (n:Nat),K.lookup a = some o∧o.cls = .type "list"∧o.dict = none∧o.data = .seq its n∧its.size≤sizeLine∧Vals xs its.toList
def SqT (K:PySem.W.Frag) (H:Hp) (a:Addr) (xs:List V):Prop :=
 Rd H a (.tup xs) ∨
  ∃ (o:Obj) (its:Array Value) (n:Nat),K.lookup a = some o∧o.cls = .type "tuple"∧o.data = .seq its n∧its.size≤sizeLine∧Vals xs its.toList
def absV:Value→Option V
 | .none=>some .non
 | .bool b=>some (.bl b)
 | .int i _=>some (.int i)
 | .str x _=>some (.str x)
 | .bytes b _=>some (.byt b)
 | .float b _=>some (.flt b)
 | .ref a=>some (.ref a)
 | .type n=>some (.ty n)
 | _=>none
theorem RelV.abs {x:V} {u:Value} (r:RelV x u):absV u = some x:=by
 cases x with
 | non=>cases r;rfl
 | bl _=>cases r;rfl
 | int _=>obtain ⟨t,rfl⟩:=r;rfl
 | str _=>obtain ⟨t,rfl⟩:=r;rfl
 | byt _=>obtain ⟨t,rfl⟩:=r;rfl
 | flt _=>obtain ⟨t,rfl⟩:=r;rfl
 | ref _=>cases r;rfl
 | ty _=>cases r;rfl
theorem RelV.inj {x y:V} {u:Value} (r:RelV x u) (q:RelV y u):x = y:=Option.some.inj (r.abs.symm.trans q.abs)
theorem Vals.inj:∀ {xs ys:List V} {us:List Value},Vals xs us→Vals ys us→xs = ys
 | _,_,_,.nil,.nil=>rfl
 | _,_,_,.cons r t,.cons r' t'=>by rw [r.inj r',Vals.inj t t']
section
variable {X:Cx} {pins:List (Addr×Obj)} {σ:St} {H:Hp} {s:Shared} {a:Addr} {xs ys:List V}
theorem SqL.of {K:PySem.W.Frag} (h:H a = some (.lst xs)):SqL K H a xs:=.inl (.inl h)
theorem SqT.of {K:PySem.W.Frag} (h:H a = some (.tup xs)):SqT K H a xs:=.inl (.inl h)
theorem Inv.list (I:Inv X pins σ H s) (h:SqL X.K H a xs):∃ its:List Value,Vals xs its∧PlainL s.heap a its.toArray∧xs.length≤sizeLine:=by
 rcases h with h | ⟨o,its,n,hk,hc,hd,hs,hz,r⟩
 ·obtain ⟨z,its,n,r,e⟩:=h.ok I.hok
  exact ⟨its,r,⟨_,n,e,rfl,rfl,rfl⟩,z⟩
 ·refine ⟨its.toList,r,⟨o,n,I.kIn a o hk,hc,hd,by simpa using hs⟩,?_⟩
  have e:=r.length
  simp only [Array.length_toList] at e
  omega
theorem Inv.tuple (I:Inv X pins σ H s) (h:SqT X.K H a xs):∃ its:List Value,Vals xs its∧IsTup s.heap a its.toArray∧xs.length≤sizeLine:=by
 rcases h with h | ⟨o,its,n,hk,hc,hs,hz,r⟩
 ·obtain ⟨z,its,r,p⟩:=h.ok I.hok
  exact ⟨its,r,p,z⟩
 ·refine ⟨its.toList,r,⟨o,I.kIn a o hk,hc,n,by simpa using hs⟩,?_⟩
  have e:=r.length
  simp only [Array.length_toList] at e
  omega
theorem Inv.list_inj (I:Inv X pins σ H s) (h:SqL X.K H a xs) (h':SqL X.K H a ys):xs = ys:=by
 obtain ⟨its,r,⟨o,n,e,_,_,d⟩,_⟩:=I.list h
 obtain ⟨its',r',⟨o',n',e',_,_,d'⟩,_⟩:=I.list h'
 rw [e] at e';cases e'
 rw [d] at d'
 injection d' with d1 _
 have:its = its':=by simpa using congrArg Array.toList d1
 subst this
 exact r.inj r'
end
abbrev Cx.wish (X:Cx) (E:Value→Shared→Prop):Cx:={ X with xe:=E }
abbrev Cx.nox (X:Cx):Cx:=X.wish fun _ _=>False
theorem Cx.Ok.wish {X:Cx} (ok:X.Ok) (E:Value→Shared→Prop):(X.wish E).Ok :=
 ⟨ok.mod,ok.kind,ok.glob,ok.blt,ok.above,ok.inj,ok.has,ok.cab,ok.hd,ok.frames,ok.stk,ok.exf,ok.bs,ok.bsz,ok.noex,ok.exfs,ok.funs,ok.frf⟩
theorem Cx.Ok.unwish {X:Cx} {E:Value→Shared→Prop} (ok:(X.wish E).Ok):X.Ok :=
 ⟨ok.mod,ok.kind,ok.glob,ok.blt,ok.above,ok.inj,ok.has,ok.cab,ok.hd,ok.frames,ok.stk,ok.exf,ok.bs,ok.bsz,ok.noex,ok.exfs,ok.funs,ok.frf⟩
section
variable {X:Cx} {pins:List (Addr×Obj)} {σ:St} {H:Hp} {s:Shared} {E:Value→Shared→Prop}
theorem Inv.wish (I:Inv X pins σ H s) (E:Value→Shared→Prop):Inv (X.wish E) pins σ H s:=⟨I.ok.wish E,I.os,I.bare,I.base,I.loc,I.cell,I.free,I.freeC,I.pin,I.hok,I.len⟩
theorem Inv.unwish (I:Inv (X.wish E) pins σ H s):Inv X pins σ H s:=⟨I.ok.unwish,I.os,I.bare,I.base,I.loc,I.cell,I.free,I.freeC,I.pin,I.hok,I.len⟩
theorem SP.unwish {D:Ends} {f:Flow} {s':Shared} (h:SP (X.wish E) pins D f s'):SP X pins D f s':=by
 cases f with
 | next=>obtain ⟨σ',H',I,q⟩:=h;exact ⟨σ',H',I.unwish,q⟩
 | brk=>obtain ⟨σ',H',I,q⟩:=h;exact ⟨σ',H',I.unwish,q⟩
 | cont=>obtain ⟨σ',H',I,q⟩:=h;exact ⟨σ',H',I.unwish,q⟩
 | ret u=>obtain ⟨v,σ',H',I,r,q⟩:=h;exact ⟨v,σ',H',I.unwish,r,q⟩
theorem PSs.nox {st:List Stmt} {t:TS} (h:PSs X.nox st t):PSs X st t:=fun pins s σ H D I hw =>
 wpAny_mono (h pins s σ H D (I.wish _) hw) (fun _ _ q=>q.unwish) fun _ _ z=>False.elim z
end
section
variable {X:Cx} {st:Stmt} {rest:List Stmt} {t u:TS} {e:Expr} {te:TE} {pos:Pos}
def tNext:TS:=fun D σ H=>D.nx σ H
def tSeq (t u:TS):TS:=fun D σ H=>t { D with nx:=u D } σ H
theorem pss_nil:PSs X [] tNext:=fun _ _ σ H _ I h=>wpAny_execs_nil ⟨σ,H,I,h⟩
theorem pss_cons (h1:PS X st t) (h2:PSs X rest u):PSs X (st::rest) (tSeq t u):=by
 intro pins s σ H D I h
 refine wpAny_execs_cons (thn (h1 pins s σ H { D with nx:=u D } I h) fun f s1 q=>?_)
 cases f with
 | next =>
  obtain ⟨σ',H',I',q⟩:=q
  exact h2 pins s1 σ' H' D I' q
 | ret v=>exact q
 | brk=>exact q
 | cont=>exact q
theorem pss_one (h1:PS X st t):PSs X [st] t:=by
 intro pins s σ H D I h
 refine wpAny_execs_cons (thn (h1 pins s σ H D I h) fun f s1 q=>?_)
 cases f with
 | next=>exact wpAny_execs_nil q
 | ret v=>exact q
 | brk=>exact q
 | cont=>exact q
theorem Inv.quiet {pins:List (Addr×Obj)} {σ:St} {H:Hp} {s:Shared} (I:Inv X pins σ H s):interactive X.env = false:=by simp [interactive,I.ok.kind]
def tDrop (te:TE):TS:=fun D σ H=>te σ H fun _ H1=>D.nx σ H1
theorem ps_expr (he:PE X e te) (hs:swapsWith e none pos.line X.env = pure false:=by rfl):PS X (.Expr e pos) (tDrop te):=by
 intro pins s σ H D I h
 exact wpAny_Expr_any (thn (he pins s σ H _ I h) fun v s1 ⟨x,H1,I1,r1,q1⟩=>⟨σ,H1,I1,q1⟩) I.quiet hs
def tRet (te:TE):TS:=fun D σ H=>te σ H D.rt
theorem ps_ret (he:PE X e te):PS X (.Return (some e) pos) (tRet te):=by
 intro pins s σ H D I h
 exact wpAny_Return_some (thn (he pins s σ H _ I h) fun v s1 ⟨x,H1,I1,r1,q1⟩=>⟨x,σ,H1,I1,r1,q1⟩)
def tRetN:TS:=fun D _ H=>D.rt .non H
theorem ps_retN:PS X (.Return none pos) tRetN:=fun _ _ σ H _ I h=>wpAny_Return_none ⟨.non,σ,H,I,rfl,h⟩
def tIfS (c:TT) (t u:TS):TS:=fun D σ H=>c σ H fun b H1=>if b = true then t D σ H1 else u D σ H1
theorem ps_if {c:Expr} {a b:List Stmt} {tc:TT} (hc:PT X c tc) (ha:PSs X a t) (hb:PSs X b u):PS X (.If c a b pos) (tIfS tc t u):=by
 intro pins s σ H D I h
 refine wpAny_If (thn (hc pins s σ H _ I h) fun d s1 ⟨H1,I1,q1⟩=>?_)
 cases d with
 | true=>exact ha pins s1 σ H1 D I1 q1
 | false=>exact hb pins s1 σ H1 D I1 q1
def tNever:TS:=fun _ _ _=>False
theorem ps_never:PS X st tNever:=fun _ _ _ _ _ _ h=>h.elim
end
abbrev TG:=V→St→Hp→(St→Hp→Prop)→Prop
abbrev TGs:=List V→St→Hp→(St→Hp→Prop)→Prop
def PG (X:Cx) (target:Expr) (t:TG):Prop :=
 ∀ (pins:List (Addr×Obj)) (s:Shared) (σ:St) (H:Hp) (v:V) (u:Value) (Q:St→Hp→Prop),Inv X pins σ H s→RelV v u→t v σ H Q →
  wpAny (model X.prog X.w) X.A (assign target X.env u) (fun _ s'=>∃ σ' H',Inv X pins σ' H' s'∧Q σ' H') X.xe s
def PGs (X:Cx) (ts:List Expr) (t:TGs):Prop :=
 ∀ (pins:List (Addr×Obj)) (s:Shared) (σ:St) (H:Hp) (vs:List V) (us:List Value) (Q:St→Hp→Prop),Inv X pins σ H s→Vals vs us→t vs σ H Q →
  wpAny (model X.prog X.w) X.A (assignInOrder ((assignEach ts X.env).map (·.2)) us) (fun _ s'=>∃ σ' H',Inv X pins σ' H' s'∧Q σ' H') X.xe s
abbrev TSet:=V→V→V→Hp→(Hp→Prop)→Prop
def PSet (X:Cx) (t:TSet):Prop :=
 ∀ (pins:List (Addr×Obj)) (s:Shared) (σ:St) (H:Hp) (o i v:V) (ov iv u:Value) (Q:Hp→Prop),Inv X pins σ H s→RelV o ov→RelV i iv→RelV v u→t o i v H Q →
  wpAny (model X.prog X.w) X.A (setItem ov iv u) (fun _ s'=>∃ H',Inv X pins σ H' s'∧Q H') X.xe s
section
variable {X:Cx} {pos:Pos}
def gName (i:Nat):TG:=fun v σ H Q=>Q (σ.set i (some v)) H
theorem pg_name {i:Nat} {x:Str} (hN:X.N.Nodup) (hi:X.N[i]? = some x) (hx:Loc X.env.scope x) (hf:X.fn x = true∨X.env.scope.names.lookup x = some .local:=by first | exact .inl rfl | exact .inr rfl | assumption):PG X (.Name x pos) (gName i):=by
 intro pins s σ H v u Q I r h
 exact wpAny_assign_Name (store_ok I hN hi hx r (fun s' I'=>⟨_,H,I',h⟩) hf)
def gNil:TGs:=fun vs σ H Q=>vs = []∧Q σ H
def gCons (t:TG) (u:TGs):TGs:=fun vs σ H Q=>∃ v r,vs = v::r∧t v σ H fun σ' H'=>u r σ' H' Q
theorem pgs_nil:PGs X [] gNil:=by
 intro pins s σ H vs us Q I r h
 obtain ⟨e,h⟩:=h
 subst e
 cases r
 exact assignInOrder_nil ⟨σ,H,I,h⟩
theorem pgs_cons {e:Expr} {es:List Expr} {t:TG} {u:TGs} (h1:PG X e t) (h2:PGs X es u)
  (hs:(assignEach (e::es) X.env).map (·.2) = assign e X.env::(assignEach es X.env).map (·.2):=by rfl):PGs X (e::es) (gCons t u):=by
 intro pins s σ H vs us Q I r h
 obtain ⟨v,vr,e1,h⟩:=h
 subst e1
 cases r with
 | cons r rr =>
  rw [hs]
  refine assignInOrder_cons (thn (h1 pins s σ H _ _ _ I r h) fun _ s1 ⟨σ1,H1,I1,q1⟩=>?_)
  exact h2 pins s1 σ1 H1 _ _ Q I1 rr q1
def gTup (K:PySem.W.Frag) (n:Nat) (t:TGs):TG:=fun v σ H Q=>∃ a xs,v = .ref a∧SqT K H a xs∧xs.length = n∧t xs σ H Q
theorem pg_tup {es:List Expr} {k:Nat} {t:TGs} {n:Nat} (hc:X.calm = true) (h:PGs X es t)
  (hn:(assignEach es X.env).length = n:=by rfl) (hst:(assignEach es X.env).findIdx? (·.1) = none:=by rfl):PG X (.Tuple es k pos) (gTup X.K n t):=by
 intro pins s σ H v u Q I r hw
 obtain ⟨a,xs,e1,hq,hl,hw⟩:=hw
 subst e1
 cases r
 obtain ⟨its,rv,ht,hz⟩:=I.tuple hq
 refine assign_Tuple_tuple (I.ok.hd hc) ht (by simp [hn,← hl,rv.length]) hst fun h' hx=>?_
 have I1:Inv X pins σ H { s with heap:=h' }:=I.kept (t':=s.toks) fun b o e=>hx b o (Nat.ne_of_lt (Heap.lt_size e)) e
 exact h pins _ σ H xs _ Q I1 (by simpa using rv) hw
def gSub (to ti:TE) (t:TSet):TG:=fun v σ H Q=>to σ H fun o H1=>ti σ H1 fun i H2=>t o i v H2 fun H3=>Q σ H3
theorem pg_sub {o i:Expr} {to ti:TE} {t:TSet} (ho:PE X o to) (hi:PE X i ti) (hs:PSet X t)
  (ha:∀ v,assign (.Subscript o i pos) X.env v = (do
   let ov ← holding [v] (eval o X.env)
   let iv ← holding [v,ov] (eval i X.env)
   standAt pos
   holding [v,ov,iv] (setItem ov iv v)
   release [v,ov,iv] []):=by intro _;rfl):PG X (.Subscript o i pos) (gSub to ti t):=by
 intro pins s σ H v u Q I r h
 rw [ha]
 refine wpAny_bind (wpAny_holding (thn (ho pins s σ H _ I h) fun ov s1 ⟨x,H1,I1,r1,q1⟩=>?_))
 refine wpAny_bind (wpAny_holding (thn (hi pins s1 σ H1 _ I1 q1) fun iv s2 ⟨y,H2,I2,r2,q2⟩=>?_))
 refine wpAny_bind (wpAny_standAt (wpAny_bind (wpAny_holding (thn (hs pins s2 σ H2 x y v ov iv u _ I2 r1 r2 r q2) fun _ s3 ⟨H3,I3,q3⟩=>?_))))
 exact wpAny_release ⟨σ,H3,I3,q3⟩
def tAsg (te:TE) (g:TG):TS:=fun D σ H=>te σ H fun x H1=>g x σ H1 D.nx
theorem ps_asg {tg e:Expr} {te:TE} {g:TG} (he:PE X e te) (hg:PG X tg g) (hs:swapsWithSole [tg] e pos.line X.env = pure false:=by rfl) (hw:swappedStores [tg] e X.env = pure none:=by rfl)
  (h1:(assignEach [tg] X.env).map (·.2) = [assign tg X.env]:=by rfl):PS X (.Assign [tg] e pos) (tAsg te g):=by
 intro pins s σ H D I h
 refine wpAny_Assign_stores (thn (he pins s σ H _ I h) fun v s1 ⟨x,H1,I1,r1,q1⟩=>?_) hs hw
 rw [h1]
 exact thn (hg pins s1 σ H1 x v _ I1 r1 q1) fun _ s2 q=>q
theorem ps_set {i:Nat} {x:Str} {e:Expr} {te:TE} {pos':Pos} (hN:X.N.Nodup) (hi:X.N[i]? = some x) (hx:Loc X.env.scope x) (he:PE X e te) (hs:swapsWith e (some (.Name x pos')) pos.line X.env = pure false:=by rfl) (hf:X.fn x = true∨X.env.scope.names.lookup x = some .local:=by first | exact .inl rfl | exact .inr rfl | assumption) :
  PS X (.Assign [.Name x pos'] e pos) (tAsg te (gName i)):=by
 intro pins s σ H D I h
 refine wpAny_Assign_Name (thn (he pins s σ H _ I h) fun v s1 ⟨y,H1,I1,r1,q1⟩=>?_) hs
 exact store_ok I1 hN hi hx r1 (fun s2 I2=>⟨_,H1,I2,q1⟩) hf
end
section
variable {X:Cx} {pos:Pos}
end
structure It where
 go:Nat→Hp→Prop
 yld:Nat→Hp→V→Hp→Prop
 stop:Nat→Hp→Prop
def FpOk (X:Cx) (pins:List (Addr×Obj)) (H:Hp) (b:Addr):Prop :=
 H b = none∧b≠X.env.locals∧b∉X.fs∧(b∈X.ex∨X.s₀.heap.objs.size≤b)∧(∀ x c,X.env.cells.lookup x = some c→c≠b)∧∀ p∈X.pn ++ pins,p.1≠b
theorem Inv.fpOk {X:Cx} {pins:List (Addr×Obj)} {σ:St} {H H':Hp} {s:Shared} {b:Addr} (I:Inv X pins σ H s) (hb:s.heap.objs.size≤b) (hn:H' b = none):FpOk X pins H' b:=by
 refine ⟨hn,Nat.ne_of_gt (Nat.lt_of_lt_of_le I.lt hb),I.nofs hb,.inr (Nat.le_trans I.sz hb),fun x c e z=>?_,fun p hp z=>?_⟩
 ·obtain ⟨v,q⟩:=I.cell x c e
  exact absurd (Nat.lt_of_lt_of_le q.lt (by rw [z];exact hb)) (Nat.lt_irrefl _)
 ·exact absurd (Nat.lt_of_lt_of_le (Heap.lt_size (I.pin p hp).1) (by rw [z];exact hb)) (Nat.lt_irrefl _)
structure Turn (P:Program) (w:World) (K:PySem.W.Frag) (tg:Expr) (J:It) (fp:List Addr) (it:Addr) (tn:Nat→Heap→Prop):Prop where
 mem:it∈fp
 obj:∀ i h,tn i h→∀ b∈fp,∃ o,h.get? b = some o∧∀ v,o.data≠.cell v
 keep:∀ i h h',tn i h→(∀ b∈fp,∀ o,h.get? b = some o→h'.get? b = some o)→tn i h'
 item:∀ (X:Cx),X.prog = P→X.w = w→X.K = K→X.calm = true→∀ (i:Nat) (pins:List (Addr×Obj)) (s:Shared) (σ:St) (H:Hp) (E:Value→Shared→Prop),Inv X pins σ H s→(∀ b∈fp,FpOk X pins H b)→tn i s.heap→J.go i H →
  wpAny (model P w) X.A (pyNext (.ref it)) (fun r s1=>∃ u,r = some u ∧
   wpAny (model P w) X.A (letOwnedTupleGo tg (.ref it) u) (fun _ s2=>∃ x H',Inv X pins σ H' s2∧RelV x u∧J.yld i H x H'∧tn (i + 1) s2.heap∧∀ b∈fp,H' b = none) E s1) E s
 done:∀ (X:Cx),X.prog = P→X.w = w→X.K = K→X.calm = true→∀ (i:Nat) (pins:List (Addr×Obj)) (s:Shared) (σ:St) (H:Hp) (E:Value→Shared→Prop),Inv X pins σ H s→(∀ b∈fp,FpOk X pins H b)→tn i s.heap→J.stop i H →
  wpAny (model P w) X.A (pyNext (.ref it)) (fun r s1=>r = none∧Inv X pins σ H s1) E s
 self:∀ (A:Around) (i:Nat) (s:Shared) (Q:Value→Shared→Prop) (E:Value→Shared→Prop),tn i s.heap→Q (.ref it) s→wpAny (model P w) A (pyIter (.ref it)) Q E s
abbrev TI:=St→Hp→(It→Hp→Prop)→Prop
def PIE (X:Cx) (pins:List (Addr×Obj)) (σ:St) (tg:Expr) (R:It→Hp→Prop) (itv:Value) (s2:Shared):Prop :=
 ∃ (it:Addr) (fp:List Addr) (tn:Nat→Heap→Prop) (J:It) (H':Hp),itv = .ref it∧Inv X pins σ H' s2∧Turn X.prog X.w X.K tg J fp it tn∧tn 0 s2.heap∧(∀ b∈fp,FpOk X pins H' b)∧R J H'
def PI (X:Cx) (tg iter:Expr) (wi:TI):Prop :=
 ∀ (pins:List (Addr×Obj)) (s:Shared) (σ:St) (H:Hp) (R:It→Hp→Prop),Inv X pins σ H s→wi σ H R →
  wpAny (model X.prog X.w) X.A (eval iter X.env) (fun v s1=>wpAny (model X.prog X.w) X.A (pyIter v) (PIE X pins σ tg R) X.xe s1) X.xe s
theorem go_of {M:Model} {A:Around} {E:Value→Shared→Prop} {s:Shared} {tg:Expr} {it:Addr} {u:Value} {o:Obj} {n:String} {vs:Array Value} {Q:Unit→Shared→Prop} (ho:s.heap.get? it = some o) (hc:o.cls = .type n) (hd:o.data = .fields vs)
  (hn:["enumerate","zip","dict_itemiterator","dict_reverseitemiterator","odict_iterator","itertools.zip_longest","itertools.pairwise"].contains n = false) (hQ:Q () s):wpAny M A (letOwnedTupleGo tg (.ref it) u) Q E s:=by
 unfold letOwnedTupleGo
 cases tg <;> first
  | exact wpAny_pure hQ
  | (cases u <;> first
    | exact wpAny_pure hQ
    | (refine wpAny_bind (wpAny_load ho ?_)
       rw [hc,hd]
       show wpAny M A (if (["enumerate","zip","dict_itemiterator","dict_reverseitemiterator","odict_iterator","itertools.zip_longest","itertools.pairwise"].contains n && vs[0]? == some (rawInt _)) = true then _ else _) Q E s
       rw [if_neg (by intro h;rw [hn,Bool.false_and] at h;cases h)]
       exact wpAny_pure hQ))
def Itl (K:PySem.W.Frag) (a:Addr):It :=
 ⟨fun i H=>∃ xs x,SqL K H a xs∧xs[i]? = some x,fun i H x H'=>H' = H∧∀ xs,SqL K H a xs→xs[i]? = some x,fun i H=>∃ xs,SqL K H a xs∧xs.length≤i⟩
def Itr (lo:Int) (n:Nat):It:=⟨fun i _=>i < n,fun i H x H'=>H' = H∧x = .int (lo + i),fun i _=>n≤i⟩
theorem turn_list {P:Program} {w:World} {K:PySem.W.Frag} {tg:Expr} (a it:Addr):Turn P w K tg (Itl K a) [it] it (fun i h=>h.IsListIter it a i) where
 mem:=by simp
 obj:=fun i h st b hb=>by
  have e:b = it:=by simpa using hb
  subst e
  obtain ⟨o,e,c,d⟩:=st
  exact ⟨o,e,fun v z=>by rw [d] at z;cases z⟩
 keep:=fun i h h' st k=>st.at fun o e=>k it (by simp) o e
 item:=by
  intro X hP hw hK hc i pins s σ H E I hf st hg
  subst hP hw hK
  obtain ⟨xs,x,hq,hx⟩:=hg
  obtain ⟨its,rv,p,hz⟩:=I.list hq
  obtain ⟨u,hu,ru⟩:=rv.get hx
  obtain ⟨f0,f1,f2,f3,f4,f5⟩:=hf it (by simp)
  refine wpAny_pyNext_list_item st p.isList (x:=u) (by simpa using hu) fun h' st' sb=>?_
  have I1:Inv X pins σ H { s with heap:=h' }:=I.turned (t':=s.toks) (fun b o hb e=>(sb.2 b hb).trans e) f0 f1 f3 f4 f5
  obtain ⟨o,e,c,d⟩:=id st'
  exact ⟨u,rfl,go_of (s:={ s with heap:=h' }) e c d (by decide) ⟨x,H,I1,ru,⟨rfl,fun ys hy=>by rw [I.list_inj hy hq];exact hx⟩,st',fun b hb=>(hf b hb).1⟩⟩
 done:=by
  intro X hP hw hK hc i pins s σ H E I hf st hg
  subst hP hw hK
  obtain ⟨xs,hq,hx⟩:=hg
  obtain ⟨its,rv,p,hz⟩:=I.list hq
  obtain ⟨f0,f1,f2,f3,f4,f5⟩:=hf it (by simp)
  have hl:=rv.length
  exact wpAny_pyNext_list_end (I.ok.hd hc) st p.isList (by simp;omega) fun h' eb=>⟨rfl,I.turned (t':=s.toks) (fun b o hb e=>eb b o hb e) f0 f1 f3 f4 f5⟩
 self:=fun _ _ _ _ _ st h=>wpAny_pyIter_listiter st h
theorem turn_range {P:Program} {w:World} {K:PySem.W.Frag} {tg:Expr} (it:Addr) (lo:Int) (n:Nat):Turn P w K tg (Itr lo n) [it] it (fun i h=>IsRangeIter h it (lo + (i:Nat) * 1) ((n:Int) - (i:Nat)) 1) where
 mem:=by simp
 obj:=fun i h st b hb=>by
  have e:b = it:=by simpa using hb
  subst e
  exact ⟨_,st,fun v z=>by
   have z':Data.fields _ = Data.cell v:=z
   cases z'⟩
 keep:=fun i h h' st k=>k it (by simp) _ st
 item:=by
  intro X hP hw hK hc i pins s σ H E I hf st hg
  subst hP hw hK
  obtain ⟨f0,f1,f2,f3,f4,f5⟩:=hf it (by simp)
  have W:=Walks.range (prog:=X.prog) (w:=X.w) (I.ok.hd hc) it lo 1 n
  refine W.item i s _ _ hg st fun v h' tk hv st' kk=>?_
  obtain ⟨t,rfl⟩:=hv
  have I1:Inv X pins σ H { s with heap:=h',toks:=tk }:=I.turned (fun b o hb e=>kk b o (by simpa using hb) e) f0 f1 f3 f4 f5
  refine ⟨_,rfl,go_of (s:={ s with heap:=h',toks:=tk }) (n:="range_iterator") st' rfl rfl (by decide) ⟨.int (lo + i),H,I1,⟨t,?_⟩,⟨rfl,rfl⟩,st',fun b hb=>(hf b hb).1⟩⟩
  rw [Int.mul_one]
 done:=by
  intro X hP hw hK hc i pins s σ H E I hf st hg
  subst hP hw hK
  obtain ⟨f0,f1,f2,f3,f4,f5⟩:=hf it (by simp)
  exact wpAny_pyNext_range_end (I.ok.hd hc) st (by have:n≤i:=hg;omega) fun h' eb=>⟨rfl,I.turned (t':=s.toks) (fun b o hb e=>eb b o hb e) f0 f1 f3 f4 f5⟩
 self:=fun _ _ _ _ _ st h=>wpAny_pyIter_rangeiter st h
end L2
namespace L2
open PySem PySem.Spec PyProof.Rows
section
variable {X:Cx} {tg:Expr}
def iList (K:PySem.W.Frag) (tl:TE):TI:=fun σ H R=>tl σ H fun x H1=>∃ a,x = .ref a∧(∃ xs,SqL K H1 a xs)∧R (Itl K a) H1
theorem pi_list {l:Expr} {tl:TE} (hl:PE X l tl):PI X tg l (iList X.K tl):=by
 intro pins s σ H R I h
 refine thn (hl pins s σ H _ I h) fun v s1 ⟨x,H1,I1,r1,q1⟩=>?_
 obtain ⟨a,e,⟨xs,hq⟩,q⟩:=q1
 subst e
 cases r1
 obtain ⟨its,rv,p,hz⟩:=I1.list hq
 refine wpAny_pyIter_list p.isList ?_
 refine ⟨s1.heap.objs.size,[s1.heap.objs.size],_,_,H1,rfl,I1.kept (t':=s1.toks) fun b o e=>Heap.get?_push_of_some _ e,turn_list a _,⟨_,Heap.get?_push_size _ rfl,rfl,rfl⟩,fun b hb=>?_,q⟩
 have e:b = s1.heap.objs.size:=by simpa using hb
 subst e
 exact I1.fpOk (Nat.le_refl _) (I1.hok.fresh (Nat.le_refl _))
theorem range_it {pins:List (Addr×Obj)} {σ:St} {H:Hp} {s:Shared} {R:It→Hp→Prop} {E:Value→Shared→Prop} {lo hi:Int} {t u v:Tok} {tk:Nat} (I:Inv X pins σ H s) (h1:-(2 ^ 62)≤lo) (h2:lo < 2 ^ 62) (h3:-(2 ^ 62)≤hi) (h4:hi < 2 ^ 62)
  (q:R (Itr lo (hi - lo).toNat) H):wpAny (model X.prog X.w) X.A (pyIter (.ref s.heap.objs.size)) (PIE X pins σ tg R) E { s with heap:=s.heap.push { cls:=.type "range",data:=.fields #[.int lo t,.int hi u,.int 1 v] },toks:=tk }:=by
 refine wpAny_pyIter_range (IsRange.new ..) (small_one h1 h2 h3 h4) ?_
 have I1:Inv X pins σ H { s with heap:=s.heap.push { cls:=.type "range",data:=.fields #[.int lo t,.int hi u,.int 1 v] },toks:=tk }:=I.kept fun b o e=>Heap.get?_push_of_some _ e
 refine ⟨(s.heap.push { cls:=.type "range",data:=.fields #[.int lo t,.int hi u,.int 1 v] }).objs.size,[(s.heap.push { cls:=.type "range",data:=.fields #[.int lo t,.int hi u,.int 1 v] }).objs.size],_,_,H,rfl,
  I1.kept (t':=tk) fun b o e=>Heap.get?_push_of_some _ e,turn_range _ lo (hi - lo).toNat,?_,fun b hb=>?_,q⟩
 ·have e1:lo + ((0:Nat):Int) * 1 = lo:=by simp
  have e2:(((hi - lo).toNat:Nat):Int) - ((0:Nat):Int) = Builtin.Range.rangeSize lo hi 1:=by rw [rangeSize_one];split <;> omega
  show IsRangeIter _ _ (lo + ((0:Nat):Int) * 1) ((((hi - lo).toNat:Nat):Int) - ((0:Nat):Int)) 1
  rw [e1,e2]
  exact Heap.get?_push_size _ rfl
 ·have e:b = (s.heap.push { cls:=.type "range",data:=.fields #[.int lo t,.int hi u,.int 1 v] }).objs.size:=by simpa using hb
  subst e
  exact I1.fpOk (Nat.le_refl _) (I1.hok.fresh (Nat.le_refl _))
def iRng1 (ta:TA):TI:=fun σ H R=>ta σ H fun vs H1=>∃ j:Int,vs = [.int j]∧-(2 ^ 62)≤j∧j < 2 ^ 62∧R (Itr 0 j.toNat) H1
theorem pi_range1 {a:Expr} {ta:TA} {p pos:Pos} (hg:Gl X "range") (hm:X.mg "range" = none) (ha:PA X [a] ta) (hs:starEach [a] X.env = [(false,eval a X.env)]:=by rfl):PI X tg (.Call (.Name "range" p) [a] [] pos) (iRng1 ta):=by
 intro pins s σ H R I h
 refine Call_ (ld_blt I hg hm boot_range (PyProof.Rows.callWith_type1 (thn (ha pos pins s σ H _ I h) fun us s1 ⟨vs,H1,I1,r1,q1⟩=>?_) hs rfl))
 obtain ⟨j,e,q1,q2,q⟩:=q1
 subst e
 cases r1 with
 | cons r rr =>
  cases rr
  obtain ⟨t,rfl⟩:=r
  exact call_range_1 (range_it I1 (by omega) (by omega) q1 q2 (by simpa using q))
def tFor (wi:TI) (g:TG) (tb:TS):TS:=fun D σ H=>wi σ H fun J H1=>∃ W:Nat→Nat→St→Hp→Prop,(∃ m,W 0 m σ H1)∧∀ i m σ H,W i m σ H →
 (J.stop i H∧D.nx σ H)∨(J.go i H∧∃ N:St→Hp→Prop,(∀ σ' H',N σ' H'→∃ m',m' < m∧W (i + 1) m' σ' H')∧∀ x H',J.yld i H x H'→g x σ H' fun σ2 H2=>tb { D with nx:=N,ct:=N,bk:=D.nx } σ2 H2)
def pinsAt (fp:List Addr) (h:Heap):List (Addr×Obj):=fp.filterMap fun b=>(h.get? b).map fun o=>(b,o)
theorem mem_pinsAt {fp:List Addr} {h:Heap} {b:Addr} {o:Obj} (hb:b∈fp) (e:h.get? b = some o):(b,o)∈pinsAt fp h:=List.mem_filterMap.mpr ⟨b,hb,by rw [e];rfl⟩
theorem of_pinsAt {fp:List Addr} {h:Heap} {p:Addr×Obj} (hp:p∈pinsAt fp h):p.1∈fp∧h.get? p.1 = some p.2:=by
 obtain ⟨b,hb,e⟩:=List.mem_filterMap.mp hp
 cases q:h.get? b with
 | none=>rw [q] at e;cases e
 | some o =>
  rw [q] at e
  have e':(b,o) = p:=Option.some.inj e
  subst e'
  exact ⟨hb,q⟩
theorem Inv.pinned {pins:List (Addr×Obj)} {σ:St} {H:Hp} {s:Shared} {fp:List Addr} (I:Inv X pins σ H s) (hf:∀ b∈fp,FpOk X pins H b) (ho:∀ b∈fp,∃ o,s.heap.get? b = some o∧∀ v,o.data≠.cell v):Inv X (pins ++ pinsAt fp s.heap) σ H s :=
 I.pins_of fun p hp=>(List.mem_append.mp hp).elim (fun z=>I.pin p (List.mem_append_right _ z)) fun z=>by
  obtain ⟨hb,e⟩:=of_pinsAt z
  obtain ⟨f0,f1,f2,_⟩:=hf p.1 hb
  obtain ⟨o,e',d⟩:=ho p.1 hb
  rw [e] at e';cases e'
  exact ⟨e,f0,f1,f2,d⟩
theorem Inv.unpinned {pins pl:List (Addr×Obj)} {σ:St} {H:Hp} {s:Shared} (I:Inv X (pins ++ pl) σ H s):Inv X pins σ H s:=I.pins_of fun p hp=>I.pin p (List.mem_append_right _ (List.mem_append_left _ hp))
theorem ps_for {iter:Expr} {body:List Stmt} {wi:TI} {g:TG} {tb:TS} {pos:Pos} (hp:PassesOwn (model X.prog X.w) X.A X.env X.xe) (hc:X.calm = true) (hi:PI X tg iter wi) (hg:PG X tg g) (hb:PSs X body tb)
  (hs:∀ x,foldedSetIterable iter X.env x = pure x:=by intro _;rfl):PS X (.For tg iter body [] pos) (tFor wi g tb):=by
 intro pins s σ H D I h
 refine wpAny_For (thn (hi pins s σ H _ I h) fun v s1 h1=>thn h1 fun itv s2 h2=>?_) hs
 obtain ⟨it,fp,tn,J,H2,e,I2,T,st2,f2,W,⟨m0,w0⟩,turn⟩:=h2
 subst e
 have stat:∀ {H':Hp},(∀ b∈fp,H' b = none)→∀ b∈fp,FpOk X pins H' b:=fun hn b hb=>⟨hn b hb,(f2 b hb).2⟩
 refine codeAny_forLoop_any (fun n s'=>∃ i σ' H',Inv X pins σ' H' s'∧tn i s'.heap∧(∀ b∈fp,H' b = none)∧W i n σ' H') ?_ m0 ⟨0,σ,H2,I2,st2,fun b hb=>(f2 b hb).1,w0⟩
 rintro n s3 ⟨i,σ3,H3,I3,st3,fr3,w3⟩
 rcases turn i n σ3 H3 w3 with ⟨stop,qn⟩ | ⟨go,N,hN,step⟩
 ·refine wpAny_passesOwn hp (thn (T.done X rfl rfl rfl hc i pins s3 σ3 H3 X.xe I3 (stat fr3) st3 stop) fun r s4 ⟨hr,I4⟩=>?_)
  subst hr
  exact wpAny_execs_nil ⟨σ3,H3,I4,qn⟩
 ·refine wpAny_passesOwn hp (thn (T.item X rfl rfl rfl hc i pins s3 σ3 H3 X.xe I3 (stat fr3) st3 go) fun r s4 ⟨u,hr,h4⟩=>?_)
  subst hr
  refine wpAny_passesOwn hp (thn h4 fun _ s5 ⟨x,H5,I5,r5,y5,st5,fr5⟩=>?_)
  have I5':=I5.pinned (stat fr5) (T.obj _ _ st5)
  refine wpAny_passesOwn hp (thn (hg _ s5 σ3 H5 x u _ I5' r5 (step x H5 y5)) fun _ s6 ⟨σ6,H6,I6,q6⟩=>?_)
  refine wpAny_passesOwn hp (thn (hb _ s6 σ6 H6 _ I6 q6) fun f s7 q7=>?_)
  have again:∀ {σ7:St} {H7:Hp},Inv X (pins ++ pinsAt fp s5.heap) σ7 H7 s7→N σ7 H7→∃ m,m < n∧∃ i σ' H',Inv X pins σ' H' s7∧tn i s7.heap∧(∀ b∈fp,H' b = none)∧W i m σ' H':=fun {σ7 H7} I7 n7=>by
   obtain ⟨m',hm,w7⟩:=hN σ7 H7 n7
   refine ⟨m',hm,i + 1,σ7,H7,I7.unpinned,T.keep _ _ _ st5 fun b hb o e=>(I7.pin (b,o) (List.mem_append_right _ (List.mem_append_right _ (mem_pinsAt hb e)))).1,fun b hb=>?_,w7⟩
   obtain ⟨o,e,d⟩:=T.obj _ _ st5 b hb
   exact (I7.pin (b,o) (List.mem_append_right _ (List.mem_append_right _ (mem_pinsAt hb e)))).2.1
  cases f with
  | next=>obtain ⟨σ7,H7,I7,n7⟩:=q7;exact again I7 n7
  | cont=>obtain ⟨σ7,H7,I7,n7⟩:=q7;exact again I7 n7
  | brk=>obtain ⟨σ7,H7,I7,q7⟩:=q7;exact ⟨σ7,H7,I7.unpinned,q7⟩
  | ret v=>obtain ⟨x7,σ7,H7,I7,r7,q7⟩:=q7;exact ⟨x7,σ7,H7,I7.unpinned,r7,q7⟩
end
theorem for_list {K:PySem.W.Frag} {a:Addr} {xs:List V} {g:TG} {tb:TS} {D:Ends} {σ:St} {H:Hp} (Pv:Nat→St→Hp→Prop) (h0:Pv 0 σ H) (hl:∀ i σ H,i≤xs.length→Pv i σ H→SqL K H a xs)
  (hs:∀ i x σ H,xs[i]? = some x→Pv i σ H→g x σ H fun σ2 H2=>tb { D with nx:=Pv (i + 1),ct:=Pv (i + 1),bk:=D.nx } σ2 H2) (hd:∀ σ H,Pv xs.length σ H→D.nx σ H) :
  ∃ W:Nat→Nat→St→Hp→Prop,(∃ m,W 0 m σ H)∧∀ i m σ H,W i m σ H →
   ((Itl K a).stop i H∧D.nx σ H)∨((Itl K a).go i H∧∃ N:St→Hp→Prop,(∀ σ' H',N σ' H'→∃ m',m' < m∧W (i + 1) m' σ' H')∧∀ x H',(Itl K a).yld i H x H'→g x σ H' fun σ2 H2=>tb { D with nx:=N,ct:=N,bk:=D.nx } σ2 H2):=by
 refine ⟨fun i m σ H=>m = xs.length - i∧i≤xs.length∧Pv i σ H,⟨xs.length,by simp,Nat.zero_le _,h0⟩,?_⟩
 rintro i m σ H ⟨rfl,hi,p⟩
 have q:=hl i σ H hi p
 by_cases hlt:i < xs.length
 ·refine .inr ⟨⟨xs,xs[i],q,by simp [hlt]⟩,Pv (i + 1),fun σ' H' p'=>⟨xs.length - (i + 1),by omega,rfl,hlt,p'⟩,fun x H' y=>?_⟩
  obtain ⟨e,y⟩:=y
  subst e
  exact hs i x σ _ (y xs q) p
 ·have e:i = xs.length:=by omega
  subst e
  exact .inl ⟨⟨xs,q,Nat.le_refl _⟩,hd σ H p⟩
theorem for_range {lo:Int} {n:Nat} {g:TG} {tb:TS} {D:Ends} {σ:St} {H:Hp} (Pv:Nat→St→Hp→Prop) (h0:Pv 0 σ H)
  (hs:∀ i σ H,i < n→Pv i σ H→g (.int (lo + i)) σ H fun σ2 H2=>tb { D with nx:=Pv (i + 1),ct:=Pv (i + 1),bk:=D.nx } σ2 H2) (hd:∀ σ H,Pv n σ H→D.nx σ H) :
  ∃ W:Nat→Nat→St→Hp→Prop,(∃ m,W 0 m σ H)∧∀ i m σ H,W i m σ H →
   ((Itr lo n).stop i H∧D.nx σ H)∨((Itr lo n).go i H∧∃ N:St→Hp→Prop,(∀ σ' H',N σ' H'→∃ m',m' < m∧W (i + 1) m' σ' H')∧∀ x H',(Itr lo n).yld i H x H'→g x σ H' fun σ2 H2=>tb { D with nx:=N,ct:=N,bk:=D.nx } σ2 H2):=by
 refine ⟨fun i m σ H=>m = n - i∧i≤n∧Pv i σ H,⟨n,by simp,Nat.zero_le _,h0⟩,?_⟩
 rintro i m σ H ⟨rfl,hi,p⟩
 by_cases hlt:i < n
 ·refine .inr ⟨hlt,Pv (i + 1),fun σ' H' p'=>⟨n - (i + 1),by omega,rfl,hlt,p'⟩,fun x H' y=>?_⟩
  obtain ⟨e,y⟩:=y
  subst e y
  exact hs i σ _ hlt p
 ·have e:i = n:=by omega
  subst e
  exact .inl ⟨Nat.le_refl _,hd σ H p⟩
end L2
namespace L2
open PySem PySem.Spec PyProof.Rows
abbrev R2:=V→V→Hp→VK→Prop
def OpR (X:Cx) (f:Value→Value→Sem Value) (r:R2):Prop :=
 ∀ (pins:List (Addr×Obj)) (s:Shared) (σ:St) (H:Hp) (x y:V) (v u:Value) (Q:VK),Inv X pins σ H s→RelV x v→RelV y u→r x y H Q →
  wpAny (model X.prog X.w) X.A (f v u) (EP X pins σ Q) X.xe s
def UnR (X:Cx) (f:Value→Sem Value) (r:V→Hp→VK→Prop):Prop :=
 ∀ (pins:List (Addr×Obj)) (s:Shared) (σ:St) (H:Hp) (x:V) (v:Value) (Q:VK),Inv X pins σ H s→RelV x v→r x H Q →
  wpAny (model X.prog X.w) X.A (f v) (EP X pins σ Q) X.xe s
def CallR (X:Cx) (f:Value) (r:List V→Hp→VK→Prop):Prop :=
 ∀ (pins:List (Addr×Obj)) (s:Shared) (σ:St) (H:Hp) (xs:List V) (us:List Value) (Q:VK),Inv X pins σ H s→Vals xs us→r xs H Q →
  wpAny (model X.prog X.w) X.A (call f us) (EP X pins σ Q) X.xe s
def tOp (r:R2) (ta tb:TE):TE:=fun σ H Q=>ta σ H fun x H1=>tb σ H1 fun y H2=>r x y H2 Q
def tUn (r:V→Hp→VK→Prop) (ta:TE):TE:=fun σ H Q=>ta σ H fun x H1=>r x H1 Q
def rI (C:Int→Int→Prop) (g:Int→Int→V):R2:=fun x y H Q=>∃ i j,x = .int i∧y = .int j∧C i j∧Q (g i j) H
def rI0 (g:Int→Int→V):R2:=fun x y H Q=>∃ i j,x = .int i∧y = .int j∧Q (g i j) H
def rU (g:Int→V):V→Hp→VK→Prop:=fun x H Q=>∃ i,x = .int i∧Q (g i) H
section
variable {X:Cx} {a b c:Expr} {ta tb tc:TE} {pos:Pos}
theorem binT (ha:PE X a ta) (hb:PE X b tb) {pins:List (Addr×Obj)} {s:Shared} {σ:St} {H:Hp} {R:V→V→Hp→Prop} (I:Inv X pins σ H s)
  (h:ta σ H fun x H1=>tb σ H1 fun y H2=>R x y H2) {Q:Value→Shared→Prop} {f:Value→Value→Sem Value}
  (hf:∀ v u s2 x y H2,Inv X pins σ H2 s2→RelV x v→RelV y u→R x y H2→wpAny (model X.prog X.w) X.A (f v u) Q X.xe s2) :
  wpAny (model X.prog X.w) X.A (eval a X.env) (fun v s₁=>wpAny (model X.prog X.w) X.A (eval b X.env) (fun u s₂=>wpAny (model X.prog X.w) X.A (f v u) Q X.xe s₂) X.xe s₁) X.xe s:=by
 refine thn (ha pins s σ H _ I h) fun v s1 ⟨x,H1,I1,r1,q1⟩=>?_
 refine thn (hb pins s1 σ H1 _ I1 q1) fun u s2 ⟨y,H2,I2,r2,q2⟩=>?_
 exact hf v u s2 x y H2 I2 r1 r2 q2
theorem pe_op {op:Operator} {r:R2} (ho:OpR X (binaryOp op) r) (ha:PE X a ta) (hb:PE X b tb):PE X (.BinOp a op b pos) (tOp r ta tb):=by
 intro pins s σ H Q I h
 exact wpAny_BinOp (binT ha hb I h fun v u s2 x y H2 I2 rx ry q=>ho pins s2 σ H2 x y v u Q I2 rx ry q)
theorem pe_un {op:UnaryOp} {r:V→Hp→VK→Prop} (ho:UnR X (unaryOp op) r) (ha:PE X a ta):PE X (.UnaryOp op a pos) (tUn r ta):=by
 intro pins s σ H Q I h
 exact UnaryOp_ (thn (ha pins s σ H _ I h) fun v s1 ⟨x,H1,I1,r1,q1⟩=>ho pins s1 σ H1 x v Q I1 r1 q1)
theorem opI {f:Value→Value→Sem Value} {C:Int→Int→Prop} {g:Int→Int→Int}
  (rule:∀ (i j:Int) (t u:Tok) (s:Shared) (Q:Value→Shared→Prop) (E:Value→Shared→Prop),C i j→Q (.int (g i j) s.toks) { s with toks:=s.toks + 1 }→wpAny (model X.prog X.w) X.A (f (.int i t) (.int j u)) Q E s) :
  OpR X f (rI C fun i j=>.int (g i j)):=by
 intro pins s σ H x y v u Q I rx ry h
 obtain ⟨i,j,rfl,rfl,hc,q⟩:=h
 obtain ⟨t,rfl⟩:=rx
 obtain ⟨t',rfl⟩:=ry
 exact rule i j t t' s _ _ hc ⟨.int (g i j),H,I.tok _,⟨_,rfl⟩,q⟩
theorem opI0 {f:Value→Value→Sem Value} {g:Int→Int→Int}
  (rule:∀ (i j:Int) (t u:Tok) (s:Shared) (Q:Value→Shared→Prop) (E:Value→Shared→Prop),Q (.int (g i j) s.toks) { s with toks:=s.toks + 1 }→wpAny (model X.prog X.w) X.A (f (.int i t) (.int j u)) Q E s) :
  OpR X f (rI0 fun i j=>.int (g i j)):=by
 intro pins s σ H x y v u Q I rx ry h
 obtain ⟨i,j,rfl,rfl,q⟩:=h
 obtain ⟨t,rfl⟩:=rx
 obtain ⟨t',rfl⟩:=ry
 exact rule i j t t' s _ _ ⟨.int (g i j),H,I.tok _,⟨_,rfl⟩,q⟩
theorem opB0 {f:Value→Value→Sem Value} {g:Int→Int→Bool}
  (rule:∀ (i j:Int) (t u:Tok) (s:Shared) (Q:Value→Shared→Prop) (E:Value→Shared→Prop),Q (.bool (g i j)) s→wpAny (model X.prog X.w) X.A (f (.int i t) (.int j u)) Q E s) :
  OpR X f (rI0 fun i j=>.bl (g i j)):=by
 intro pins s σ H x y v u Q I rx ry h
 obtain ⟨i,j,rfl,rfl,q⟩:=h
 obtain ⟨t,rfl⟩:=rx
 obtain ⟨t',rfl⟩:=ry
 exact rule i j t t' s _ _ ⟨.bl (g i j),H,I,rfl,q⟩
def CDiv (i j:Int):Prop:=0 < j∧j < 1073741824
def CMul (i j:Int):Prop:=(-(2 ^ 64) < i∧i < 2 ^ 64)∨(-(2 ^ 64) < j∧j < 2 ^ 64)
theorem CMul.ok {i j:Int} (h:CMul i j):IntMulOk i j:=by
 rcases h with ⟨h1,h2⟩ | ⟨h1,h2⟩
 ·exact .of_left (intBits_le_64 h1 h2)
 ·exact .of_right (intBits_le_64 h1 h2)
theorem op_add:OpR X (binaryOp .Add) (rI0 fun i j=>.int (i + j)):=opI0 fun _ _ _ _ _ _ _ q=>add_int q
theorem op_sub:OpR X (binaryOp .Sub) (rI0 fun i j=>.int (i - j)):=opI0 fun _ _ _ _ _ _ _ q=>sub_int q
theorem op_mul:OpR X (binaryOp .Mult) (rI CMul fun i j=>.int (i * j)):=opI fun _ _ _ _ _ _ _ hc q=>mul_int q hc.ok
theorem op_fdiv:OpR X (binaryOp .FloorDiv) (rI CDiv fun i j=>.int (i / j)):=opI fun i j _ _ _ _ _ hc q=>by
 have h1:(0:Int) < j:=hc.1
 have h2:j < 1073741824:=hc.2
 exact floordiv_int (by omega) (by rw [Int.fdiv_eq_ediv_of_nonneg i (by omega)];exact q) (.inl (PyProof.noPylong_small (by omega)))
theorem op_mod:OpR X (binaryOp .Mod) (rI (fun _ j=>0 < j) fun i j=>.int (i % j)):=opI fun i j _ _ _ _ _ hc q=>by
 have h1:(0:Int) < j:=hc
 exact mod_int' (by omega) (by rw [Int.fmod_eq_emod_of_nonneg i (by omega)];exact q)
theorem op_and:OpR X (binaryOp .BitAnd) (rI0 fun i j=>.int (Builtin.bitAnd i j)):=opI0 fun _ _ _ _ _ _ _ q=>and_int q
theorem unI {f:Value→Sem Value} {g:Int→Int}
  (rule:∀ (i:Int) (t:Tok) (s:Shared) (Q:Value→Shared→Prop) (E:Value→Shared→Prop),Q (.int (g i) s.toks) { s with toks:=s.toks + 1 }→wpAny (model X.prog X.w) X.A (f (.int i t)) Q E s) :
  UnR X f (rU fun i=>.int (g i)):=by
 intro pins s σ H x v Q I rx h
 obtain ⟨i,rfl,q⟩:=h
 obtain ⟨t,rfl⟩:=rx
 exact rule i t s _ _ ⟨.int (g i),H,I.tok _,⟨_,rfl⟩,q⟩
theorem un_neg:UnR X (unaryOp .USub) (rU fun i=>.int (-i)):=unI fun _ _ _ _ _ q=>neg_int q
end
def scal:V→V→Bool
 | .non,.non=>true | .non,.int _=>true | .int _,.non=>true | .non,.bl _=>true | .bl _,.non=>true | .non,.str _=>true | .str _,.non=>true
 | .int _,.int _=>true | .bl _,.bl _=>true | .str _,.str _=>true | .byt _,.byt _=>true
 | .int _,.str _=>true | .str _,.int _=>true | .bl _,.str _=>true | .str _,.bl _=>true
 | _,_=>false
def rEq:R2:=fun x y H Q=>scal x y = true∧Q (.bl (decide (x = y))) H
def rNe:R2:=fun x y H Q=>scal x y = true∧Q (.bl (!decide (x = y))) H
theorem dec_int {i j:Int}:decide (V.int i = V.int j) = (i == j):=by
 rw [Bool.eq_iff_iff]
 simp
theorem dec_bl {i j:Bool}:decide (V.bl i = V.bl j) = (i == j):=by
 rw [Bool.eq_iff_iff]
 simp
theorem dec_str {i j:Str}:decide (V.str i = V.str j) = (i == j):=by
 rw [Bool.eq_iff_iff]
 simp
theorem dec_byt {i j:Array UInt8}:decide (V.byt i = V.byt j) = (i.toList == j.toList):=by
 rw [Bool.eq_iff_iff]
 cases i
 cases j
 simp
section
variable {X:Cx} {a b c:Expr} {ta tb tc:TE} {pos:Pos}
theorem fin_bl {pins:List (Addr×Obj)} {σ:St} {H:Hp} {s:Shared} {Q:VK} {k k':Bool} (I:Inv X pins σ H s) (q:Q (.bl k) H) (e:k = k'):EP X pins σ Q (.bool k') s:=by
 subst e
 exact ⟨.bl k,H,I,rfl,q⟩
theorem op_eq:OpR X (compareOp .Eq) rEq:=by
 intro pins s σ H x y v u Q I rx ry h
 obtain ⟨hs,q⟩:=h
 cases x with
 | non =>
  cases rx
  cases y with
  | non=>cases ry;exact PySem.EqNone.eq_none_none (fin_bl I q (by simp))
  | bl j=>cases ry;exact PySem.EqNone.eq_none_bool (fin_bl I q (by simp))
  | int j=>obtain ⟨t',rfl⟩:=ry;exact PySem.EqNone.eq_none_int (fin_bl I q (by simp))
  | str j=>obtain ⟨t',rfl⟩:=ry;exact PySem.EqNone.eq_none_str (fin_bl I q (by simp))
  | _=>exact absurd (show false = true from hs) Bool.false_ne_true
 | bl i =>
  cases rx
  cases y with
  | non=>cases ry;exact PySem.EqNone.eq_bool_none (fin_bl I q (by simp))
  | bl j=>cases ry;exact eq_bool (fin_bl I q dec_bl)
  | str j=>obtain ⟨t',rfl⟩:=ry;exact PySem.EqMixed.eq_bool_str (fin_bl I q (by simp))
  | _=>exact absurd (show false = true from hs) Bool.false_ne_true
 | int i =>
  obtain ⟨t,rfl⟩:=rx
  cases y with
  | non=>cases ry;exact PySem.EqNone.eq_int_none (fin_bl I q (by simp))
  | int j=>obtain ⟨t',rfl⟩:=ry;exact eq_int (fin_bl I q dec_int)
  | str j=>obtain ⟨t',rfl⟩:=ry;exact PySem.EqMixed.eq_int_str (fin_bl I q (by simp))
  | _=>exact absurd (show false = true from hs) Bool.false_ne_true
 | str i =>
  obtain ⟨t,rfl⟩:=rx
  cases y with
  | non=>cases ry;exact PySem.EqNone.eq_str_none (fin_bl I q (by simp))
  | bl j=>cases ry;exact PySem.EqMixed.eq_str_bool (fin_bl I q (by simp))
  | int j=>obtain ⟨t',rfl⟩:=ry;exact PySem.EqMixed.eq_str_int (fin_bl I q (by simp))
  | str j=>obtain ⟨t',rfl⟩:=ry;exact eq_str (fin_bl I q dec_str)
  | _=>exact absurd (show false = true from hs) Bool.false_ne_true
 | byt i =>
  obtain ⟨t,rfl⟩:=rx
  cases y with
  | byt j=>obtain ⟨t',rfl⟩:=ry;exact PySem.W.eq_bytes (fin_bl I q dec_byt)
  | _=>exact absurd (show false = true from hs) Bool.false_ne_true
 | _=>cases y <;> exact absurd (show false = true from hs) Bool.false_ne_true
theorem op_ne:OpR X (compareOp .NotEq) rNe:=by
 intro pins s σ H x y v u Q I rx ry h
 obtain ⟨hs,q⟩:=h
 cases x with
 | non =>
  cases rx
  cases y with
  | non=>cases ry;exact PySem.EqNone.ne_none_none (fin_bl I q (by simp))
  | bl j=>cases ry;exact PySem.EqNone.ne_none_bool (fin_bl I q (by simp))
  | int j=>obtain ⟨t',rfl⟩:=ry;exact PySem.EqNone.ne_none_int (fin_bl I q (by simp))
  | str j=>obtain ⟨t',rfl⟩:=ry;exact PySem.EqNone.ne_none_str (fin_bl I q (by simp))
  | _=>exact absurd (show false = true from hs) Bool.false_ne_true
 | bl i =>
  cases rx
  cases y with
  | non=>cases ry;exact PySem.EqNone.ne_bool_none (fin_bl I q (by simp))
  | bl j=>cases ry;exact ne_bool (fin_bl I q (congrArg not dec_bl))
  | str j=>obtain ⟨t',rfl⟩:=ry;exact PySem.EqMixed.ne_bool_str (fin_bl I q (by simp))
  | _=>exact absurd (show false = true from hs) Bool.false_ne_true
 | int i =>
  obtain ⟨t,rfl⟩:=rx
  cases y with
  | non=>cases ry;exact PySem.EqNone.ne_int_none (fin_bl I q (by simp))
  | int j=>obtain ⟨t',rfl⟩:=ry;exact ne_int (fin_bl I q (congrArg not dec_int))
  | str j=>obtain ⟨t',rfl⟩:=ry;exact PySem.EqMixed.ne_int_str (fin_bl I q (by simp))
  | _=>exact absurd (show false = true from hs) Bool.false_ne_true
 | str i =>
  obtain ⟨t,rfl⟩:=rx
  cases y with
  | non=>cases ry;exact PySem.EqNone.ne_str_none (fin_bl I q (by simp))
  | bl j=>cases ry;exact PySem.EqMixed.ne_str_bool (fin_bl I q (by simp))
  | int j=>obtain ⟨t',rfl⟩:=ry;exact PySem.EqMixed.ne_str_int (fin_bl I q (by simp))
  | str j=>obtain ⟨t',rfl⟩:=ry;exact ne_str (fin_bl I q (congrArg not dec_str))
  | _=>exact absurd (show false = true from hs) Bool.false_ne_true
 | byt i =>
  obtain ⟨t,rfl⟩:=rx
  cases y with
  | byt j=>obtain ⟨t',rfl⟩:=ry;exact PySem.W.ne_bytes (fin_bl I q (congrArg not dec_byt))
  | _=>exact absurd (show false = true from hs) Bool.false_ne_true
 | _=>cases y <;> exact absurd (show false = true from hs) Bool.false_ne_true
theorem op_lt:OpR X (compareOp .Lt) (rI0 fun i j=>.bl (decide (i < j))):=opB0 fun _ _ _ _ _ _ _ q=>lt_int q
theorem op_le:OpR X (compareOp .LtE) (rI0 fun i j=>.bl (decide (i≤j))):=opB0 fun _ _ _ _ _ _ _ q=>le_int q
theorem op_gt:OpR X (compareOp .Gt) (rI0 fun i j=>.bl (decide (j < i))):=opB0 fun _ _ _ _ _ _ _ q=>gt_int q
theorem op_ge:OpR X (compareOp .GtE) (rI0 fun i j=>.bl (decide (j≤i))):=opB0 fun _ _ _ _ _ _ _ q=>ge_int q
theorem op_in_str:OpR X (compareOp .In) (fun x y H Q=>∃ i j,x = .str i∧y = .str j∧Q (.bl (!(Builtin.Str.occurrences j i 0 j.length 1).isEmpty)) H):=by
 intro pins s σ H x y v u Q I rx ry h
 obtain ⟨i,j,rfl,rfl,q⟩:=h
 obtain ⟨t,rfl⟩:=rx
 obtain ⟨t',rfl⟩:=ry
 exact in_str (fin_bl I q rfl)
theorem op_isN:OpR X (compareOp .Is) (fun x y H Q=>y = .non∧Q (.bl (decide (x = .non))) H):=by
 intro pins s σ H x y v u Q I rx ry h
 obtain ⟨rfl,q⟩:=h
 cases ry
 refine is_none_gen (fin_bl I q ?_)
 cases x <;> first
  | (cases rx;rfl)
  | (obtain ⟨t,rfl⟩:=rx;rfl)
theorem op_notN:OpR X (compareOp .IsNot) (fun x y H Q=>y = .non∧Q (.bl (!decide (x = .non))) H):=by
 intro pins s σ H x y v u Q I rx ry h
 obtain ⟨rfl,q⟩:=h
 cases ry
 refine isnot_none_gen (fin_bl I q ?_)
 cases x <;> first
  | (cases rx;rfl)
  | (obtain ⟨t,rfl⟩:=rx;rfl)
theorem nomark (b:Expr) {op:CmpOp} (h:op≠.In:=by decide) (h2:op≠.NotIn:=by decide):behindInMarks op b = false:=by
 have e1:(op == CmpOp.In) = false:=by cases op <;> first | rfl | exact absurd rfl h
 have e2:(op == CmpOp.NotIn) = false:=by cases op <;> first | rfl | exact absurd rfl h2
 cases b <;> simp [behindInMarks,e1,e2]
theorem pe_cmpR {op:CmpOp} {r:R2} (ho:OpR X (compareOp op) r) (ha:PE X a ta) (hb:PE X b tb) (hm:behindInMarks op b = false):PE X (.Compare a [op] [b] pos) (tOp r ta tb):=by
 intro pins s σ H Q I h
 exact wpAny_Compare1 (binT ha hb I h fun v u s2 x y H2 I2 rx ry q=>ho pins s2 σ H2 x y v u Q I2 rx ry q) hm
def tTest (t:TE):TT:=fun σ H Q=>t σ H fun x H'=>∃ k,x = .bl k∧Q k H'
theorem pt_cmpR {op:CmpOp} {r:R2} (ho:OpR X (compareOp op) r) (ha:PE X a ta) (hb:PE X b tb) (hm:behindInMarks op b = false):PT X (.Compare a [op] [b] pos) (tTest (tOp r ta tb)):=by
 intro pins s σ H Q I h
 refine wpAny_isTrue_Compare1 (thn (ha pins s σ H _ I h) fun v s1 ⟨x,H1,I1,r1,q1⟩=>thn (hb pins s1 σ H1 _ I1 q1) fun u s2 ⟨y,H2,I2,r2,q2⟩ =>
  thn (ho pins s2 σ H2 x y v u _ I2 r1 r2 q2) fun c s3 ⟨z,H3,I3,r3,k,e,q3⟩=>?_) hm
 subst e
 cases r3
 exact wpAny_truthy_bool ⟨H3,I3,q3⟩
def tChain (r r':R2) (ta tb tc:TE):TE:=fun σ H Q=>ta σ H fun x H1=>tb σ H1 fun y H2=>r x y H2 fun z H3=>∃ k,z = .bl k ∧
 (if k = true then tc σ H3 fun w' H4=>r' y w' H4 Q else Q (.bl false) H3)
theorem pe_chain {op op':CmpOp} {r r':R2} (ho:OpR X (compareOp op) r) (ho':OpR X (compareOp op') r') (ha:PE X a ta) (hb:PE X b tb) (hc:PE X c tc)
  (hm:lastMarks [op,op'] [b,c] = false:=by with_unfolding_all rfl):PE X (.Compare a [op,op'] [b,c] pos) (tChain r r' ta tb tc):=by
 intro pins s σ H Q I h
 refine Compare_chain (thn (ha pins s σ H _ I h) fun v s1 ⟨x,H1,I1,r1,q1⟩=>chain_link (thn (hb pins s1 σ H1 _ I1 q1) fun u s2 ⟨y,H2,I2,r2,q2⟩ =>
  thn (ho pins s2 σ H2 x y v u _ I2 r1 r2 q2) fun d s3 ⟨z,H3,I3,r3,k,e,q3⟩=>?_)) hm
 subst e
 cases r3
 refine wpAny_truthy_bool ?_
 cases k with
 | false=>exact ite_ff ⟨.bl false,H3,I3,rfl,q3⟩
 | true=>exact ite_tt (chain_last (thn (hc pins s3 σ H3 _ I3 q3) fun w' s4 ⟨z',H4,I4,r4,q4⟩=>ho' pins s4 σ H4 y z' u w' Q I4 r2 r4 q4))
theorem pt_chain {op op':CmpOp} {r r':R2} (ho:OpR X (compareOp op) r) (ho':OpR X (compareOp op') r') (ha:PE X a ta) (hb:PE X b tb) (hc:PE X c tc)
  (hm:lastMarks [op,op'] [b,c] = false:=by with_unfolding_all rfl):PT X (.Compare a [op,op'] [b,c] pos) (tTest (tChain r r' ta tb tc)):=by
 intro pins s σ H Q I h
 refine isTrue_chain (thn (ha pins s σ H _ I h) fun v s1 ⟨x,H1,I1,r1,q1⟩=>test_link (thn (hb pins s1 σ H1 _ I1 q1) fun u s2 ⟨y,H2,I2,r2,q2⟩ =>
  thn (ho pins s2 σ H2 x y v u _ I2 r1 r2 q2) fun d s3 ⟨z,H3,I3,r3,k,e,q3⟩=>?_)) hm
 subst e
 cases r3
 refine wpAny_truthy_bool ?_
 cases k with
 | false =>
  obtain ⟨k',e',q'⟩:=q3
  cases e'
  exact ite_ff ⟨H3,I3,q'⟩
 | true =>
  refine ite_tt (test_last (thn (hc pins s3 σ H3 _ I3 q3) fun w' s4 ⟨z',H4,I4,r4,q4⟩=>thn (ho' pins s4 σ H4 y z' u w' _ I4 r2 r4 q4) fun d' s5 ⟨z2,H5,I5,r5,k2,e2,q5⟩=>?_))
  subst e2
  cases r5
  exact wpAny_truthy_bool ⟨H5,I5,q5⟩
theorem line63:(sizeLine:Nat) < 2 ^ 63:=by rw [sizeLine_eq];decide
theorem op_add_str:OpR X (binaryOp .Add) (fun x y H Q=>∃ i j,x = .str i∧y = .str j∧i.length + j.length≤sizeLine∧Q (.str (i ++ j)) H):=by
 intro pins s σ H x y v u Q I rx ry h
 obtain ⟨i,j,rfl,rfl,hz,q⟩:=h
 obtain ⟨t,rfl⟩:=rx
 obtain ⟨t',rfl⟩:=ry
 exact add_str (fun t' tk=>⟨.str (i ++ j),H,I.tok _,⟨_,rfl⟩,q⟩) hz
theorem vals1 {x:V} {us:List Value} (r:Vals [x] us):∃ u,us = [u]∧RelV x u:=by
 cases r with
 | cons r1 r2=>cases r2;exact ⟨_,rfl,r1⟩
theorem call_str_int:CallR X (.type "str") (fun xs H Q=>∃ i,xs = [.int i]∧i.natAbs.log2 < 1920∧Q (.str (toString i)) H):=by
 intro pins s σ H xs us Q I r h
 obtain ⟨i,rfl,hz,q⟩:=h
 obtain ⟨u,rfl,t,rfl⟩:=vals1 r
 exact PySem.P.str_of_int hz ⟨.str _,H,I.tok _,⟨_,rfl⟩,q⟩
end
end L2
namespace L2
open PySem PySem.Spec PyProof.Rows
structure ObjM (h:Heap) (x dx C:Addr) (mA:Str→Option Value):Prop where
 obj:h.get? x = some (PySem.W.instObj C dx)
 ns:h.Ns1 dx mA
 ne:dx≠x
theorem lookIn_ns {h:Heap} {dx:Addr} {mA:Str→Option Value} (n:h.Ns1 dx mA):∃ od,h.get? dx = some od∧∀ name,PySem.W.lookIn name od = some (mA name):=by
 obtain ⟨o,es,ep,ho,hd,hk,_,hm⟩:=n
 refine ⟨o,ho,fun name=>?_⟩
 have e:=hm name
 unfold nsFind findBy at e
 rw [← Array.find?_toList] at e
 unfold PySem.W.lookIn
 rw [hd]
 dsimp only
 split
 ·rename_i y q
  rw [q] at e
  exact congrArg some e
 ·rename_i q
  rw [q] at e
  have a:es.toList.any (·.refKey) = false:=by
   rw [List.any_eq_false]
   intro y hy
   obtain ⟨z,t,hkey⟩:=hk y (Array.mem_toList_iff.mp hy)
   simp [DictEntry.refKey,hkey]
  have a':¬ es.toList.any (·.refKey) = true:=by rw [a];exact Bool.false_ne_true
  rw [if_neg a']
  exact congrArg some e
theorem ObjM.look {h:Heap} {x dx C:Addr} {mA:Str→Option Value} (I:ObjM h x dx C mA):∃ od,PySem.W.InstAt h x (PySem.W.instObj C dx) C (some od)∧∀ name,PySem.W.lookIn name od = some (mA name) :=
 let ⟨od,ho,hl⟩:=lookIn_ns I.ns
 ⟨od,⟨I.obj,rfl,rfl,ho⟩,hl⟩
section
variable {prog:Program} {w:World} {A:Around} {E:Value→Shared→Prop} {s:Shared} {K:PySem.W.Frag} {x dx C f:Addr} {mA:Str→Option Value} {name:Str} {v:Value}
theorem get_map {expr:Bool} {Q:Value→Shared→Prop} (X:K.In s.heap) (I:ObjM s.heap x dx C mA) (hg:PySem.W.plainGet K C name = true) (hh:PySem.W.hasDictIn K C = true)
  (ha:PySem.W.findIn K (.ref C) name = some none) (hv:mA name = some v) (hv':PySem.W.handedIn v = true) (h:Q v { s with toks:=s.toks + 1 }) :
  wpAny (model prog w) A (getAttr (.ref x) name expr) Q E s:=by
 obtain ⟨od,J,hl⟩:=I.look
 exact PySem.W.get_value X J (PySem.W.plainGet_of hg).1 (PySem.W.findObj_own hh ha rfl (by rw [hl,hv])) hv' h
theorem set_map {ns:List Str} {Q:Unit→Shared→Prop} (X:K.In s.heap) (I:ObjM s.heap x dx C mA)
  (hs:PySem.W.findIn K (.ref C) "__setattr__" = some (some (.builtin "object.__setattr__"))) (hp:PySem.W.plainOver K C = true) (ht:PySem.W.takerIn K C name = some none) (hh:PySem.W.hasDictIn K C = true)
  (hw:PySem.Within mA ns) (hsz:ns.length≤sizeLine)
  (h:∀ h',ObjM h' x dx C (fun y=>if y = name then some v else mA y)→Heap.SameBut dx s.heap h'→Q () { s with heap:=h',toks:=s.toks + 2 }) :
  wpAny (model prog w) A (setAttr (.ref x) name v) Q E s:=by
 obtain ⟨od,J,hl⟩:=I.look
 refine PySem.W.set_plain X J hs (PySem.W.osa_open (s:={ s with toks:=s.toks + 1 }) (r:=none) X J hp ht fun b=>?_)
 obtain ⟨cd,hc,hd'⟩:=PySem.W.any_some hh
 have hx:s.heap.get? x = some ⟨.ref C,some dx,.plain,#[]⟩:=I.obj
 refine wpAny_bind (wpAny_pure (wpAny_bind (wpAny_bind (wpAny_loadPart hx (wpAny_bind (PySem.W.Looks.here (s:={ s with toks:=s.toks + 1 }) (PySem.W.looks_clsIn X hc) ?_))))))
 rw [hd']
 refine wpAny_pure (a:=some dx) (wpAny_bind (wpAny_pure (wpAny_bind ?_)))
 refine wpAny_nsSet1 (s:={ s with toks:=s.toks + 1 }) I.ns fun h' hn2 hs2=>?_
 obtain ⟨oD,esD,epD,hoD,hdD,hcD⟩:=hn2.count (PySem.Within.cons name v hw)
 refine wpAny_bind (wpAny_lookBehind hoD (by rw [hdD];exact pastItsLine_dict (Nat.le_trans hcD (by rw [List.length_cons];omega))) ?_)
 exact wpAny_pure (h _ ⟨(hs2.2 _ (Ne.symm I.ne)).trans I.obj,hn2,I.ne⟩ hs2)
theorem make_map {R:Result→Shared→Prop} {vs:List Value} {kw:List (Str×Value)} (X:K.In s.heap) (hm:PySem.W.makesIn K C = true)
  (hi:PySem.W.findIn K (.ref C) "__init__" = some (some (.ref f))) (hf:PySem.W.typeIn K (.ref f) = some (.type "function"))
  (h:codeAny (model prog w) (A.under (.builtin "type.__call__" ⟨.ref C::vs,kw⟩)) (.call (.ref f) ⟨.ref (s.heap.objs.size + 1)::vs,kw⟩) (PySem.W.InitBack (s.heap.objs.size + 1) R)
   { s with heap:=(s.heap.push PySem.W.emptyDict).push (PySem.W.instObj C s.heap.objs.size) }) :
  codeAny (model prog w) A (.call (.ref C) ⟨vs,kw⟩) R s:=by
 obtain ⟨hh,g,d,t,os⟩:=s
 exact PySem.W.make_core (PySem.W.makes_of X hm) (PySem.W.looks_findIn X hi) (fun self=>PySem.W.bind_fn X self hf) (.inl rfl) h
end
def putF (f:Str) (v:V):List (Str×V)→List (Str×V)
 | []=>[(f,v)]
 | (g,x)::r=>if g = f then (g,v)::r else (g,x)::putF f v r
theorem lookup_putF (f g:Str) (v:V):∀ fs:List (Str×V),(putF f v fs).lookup g = if g = f then some v else fs.lookup g
 | []=>by
  show List.lookup g [(f,v)] = _
  by_cases h:g = f
  ·have hb:(g == f) = true:=beq_iff_eq.mpr h
   simp only [List.lookup,hb,if_pos h]
  ·have hb:(g == f) = false:=beq_eq_false_iff_ne.mpr h
   simp only [List.lookup,hb,if_neg h]
 | (k,x)::r=>by
  have ih:=lookup_putF f g v r
  rw [show putF f v ((k,x)::r) = (if k = f then (k,v)::r else (k,x)::putF f v r) from rfl]
  by_cases hk:k = f
  ·rw [if_pos hk]
   by_cases h:g = k
   ·have hb:(g == k) = true:=beq_iff_eq.mpr h
    simp only [List.lookup,hb,if_pos (h.trans hk)]
   ·have hb:(g == k) = false:=beq_eq_false_iff_ne.mpr h
    simp only [List.lookup,hb,if_neg (fun e:g = f=>h (e.trans hk.symm))]
  ·rw [if_neg hk]
   by_cases h:g = k
   ·have hb:(g == k) = true:=beq_iff_eq.mpr h
    simp only [List.lookup,hb,if_neg (fun e:g = f=>hk (h.symm.trans e))]
   ·have hb:(g == k) = false:=beq_eq_false_iff_ne.mpr h
    simp only [List.lookup,hb]
    exact ih
theorem keys_putF (f:Str) (v:V):∀ fs:List (Str×V),f∈(putF f v fs).map (·.1)∧∀ g,g∈fs.map (·.1)→g∈(putF f v fs).map (·.1)
 | []=>⟨by simp [putF],fun g h=>by simp at h⟩
 | (k,x)::r=>by
  obtain ⟨i1,i2⟩:=keys_putF f v r
  rw [show putF f v ((k,x)::r) = (if k = f then (k,v)::r else (k,x)::putF f v r) from rfl]
  by_cases hk:k = f
  ·rw [if_pos hk]
   subst hk
   exact ⟨by simp,fun g h=>by simpa using h⟩
  ·rw [if_neg hk]
   refine ⟨?_,fun g h=>?_⟩
   ·rw [List.map_cons]
    exact List.mem_cons_of_mem _ i1
   ·rw [List.map_cons] at h ⊢
    rcases List.mem_cons.mp h with e | e
    ·exact List.mem_cons.mpr (.inl e)
    ·exact List.mem_cons_of_mem _ (i2 g e)
theorem length_putF (f:Str) (v:V):∀ fs:List (Str×V),(putF f v fs).length≤fs.length + 1
 | []=>by simp [putF]
 | (k,x)::r=>by
  have ih:=length_putF f v r
  rw [show putF f v ((k,x)::r) = (if k = f then (k,v)::r else (k,x)::putF f v r) from rfl]
  by_cases hk:k = f
  ·rw [if_pos hk,List.length_cons,List.length_cons];omega
  ·rw [if_neg hk,List.length_cons,List.length_cons];omega
theorem RelO.some_of {v:V} {o:Option Value} (r:RelO (some v) o):∃ u,o = some u∧RelV v u:=by
 cases o with
 | none=>exact (show False from r).elim
 | some u=>exact ⟨u,rfl,r⟩
theorem handed_of {v:V} {u:Value} (r:RelV v u):PySem.W.handedIn u = true:=by
 cases v with
 | non=>cases (show u = Value.none from r);rfl
 | bl b=>cases (show u = Value.bool b from r);rfl
 | int i=>obtain ⟨t,e⟩:=(show ∃ t,u = Value.int i t from r);cases e;rfl
 | str x=>obtain ⟨t,e⟩:=(show ∃ t,u = Value.str x t from r);cases e;rfl
 | byt b=>obtain ⟨t,e⟩:=(show ∃ t,u = Value.bytes b t from r);cases e;rfl
 | flt b=>obtain ⟨t,e⟩:=(show ∃ t,u = Value.float b t from r);cases e;rfl
 | ref a=>cases (show u = Value.ref a from r);rfl
 | ty n=>cases (show u = Value.type n from r);rfl
section
variable {P:Program} {w:World} {H H':Hp} {h h':Heap} {a C dx:Addr} {fs fs':List (Str×V)}
theorem ins_get (hok:HOk P w H h) (e:H a = some (.ins C dx fs)):∃ mA,ObjM h a dx C mA∧(∀ f,RelO (fs.lookup f) (mA f))∧PySem.Within mA (fs.map (·.1))∧fs.length≤1000∧H dx = some (.own a):=by
 obtain ⟨d,z,ne,ob,mA,n,r,q⟩:=(show ObjOk P w H h a (.ins C dx fs) from hok a _ e)
 exact ⟨mA,⟨ob,n,ne⟩,r,q,z,d⟩
end
structure Cls (K:PySem.W.Frag) (C:Addr):Prop where
 pg:PySem.W.plainGet K C Str.empty = true
 hd:PySem.W.hasDictIn K C = true
 po:PySem.W.plainOver K C = true
 sa:PySem.W.findIn K (.ref C) "__setattr__" = some (some (.builtin "object.__setattr__"))
theorem Cls.get {K:PySem.W.Frag} {C:Addr} (c:Cls K C) (f:Str):PySem.W.plainGet K C f = true:=c.pg
def NoAttr (K:PySem.W.Frag) (C:Addr) (f:Str):Prop:=PySem.W.findIn K (.ref C) f = some none
theorem NoAttr.taker {K:PySem.W.Frag} {C:Addr} {f:Str} (n:NoAttr K C f):PySem.W.takerIn K C f = some none:=by
 unfold PySem.W.takerIn
 rw [show PySem.W.findIn K (.ref C) f = some none from n]
 rfl
section
variable {X:Cx} {pins:List (Addr×Obj)} {σ:St} {H:Hp} {s:Shared} {a C dx:Addr} {fs:List (Str×V)} {f:Str} {v:V} {A:Around} {E:Value→Shared→Prop}
theorem getattr_ok {b:Bool} {Q:Value→Shared→Prop} (I:Inv X pins σ H s) (e:H a = some (.ins C dx fs)) (c:Cls X.K C) (n:NoAttr X.K C f) (l:fs.lookup f = some v)
  (h:∀ u s',Inv X pins σ H s'→RelV v u→Q u s'):wpAny (model X.prog X.w) A (getAttr (.ref a) f b) Q E s:=by
 obtain ⟨mA,O,r,_,_,_⟩:=ins_get I.hok e
 obtain ⟨u,hu,ru⟩:=RelO.some_of (v:=v) (o:=mA f) (by rw [← l];exact r f)
 exact get_map I.kIn O (c.get f) c.hd n hu (handed_of ru) (h u _ (I.tok _) ru)
theorem setattr_ok {y:V} {u:Value} {Q:Unit→Shared→Prop} (I:Inv X pins σ H s) (e:H a = some (.ins C dx fs)) (c:Cls X.K C) (n:NoAttr X.K C f) (hl:fs.length < 1000) (ry:RelV y u)
  (h:∀ s',Inv X pins σ (upd H a (.ins C dx (putF f y fs))) s'→Q () s'):wpAny (model X.prog X.w) A (setAttr (.ref a) f u) Q E s:=by
 obtain ⟨mA,O,r,wi,_,ho⟩:=ins_get I.hok e
 have hz:(fs.map (·.1)).length≤sizeLine:=by rw [List.length_map,sizeLine_eq];omega
 refine set_map I.kIn O c.sa c.po n.taker c.hd wi hz fun h' O' sb=>h _ ?_
 have hd:∃ o,h'.get? dx = some o:=let ⟨o,_,_,e',_⟩:=O'.ns;⟨o,e'⟩
 refine I.write (x:=a) (e:=dx) (by rw [e];exact True.intro) (.inr ho) (fun b q hb z=>(sb.2 b hb).trans z) hd ?_
 refine ⟨by rw [upd_ne O.ne];exact ho,?_,O.ne,O'.obj,_,O'.ns,fun g=>?_,fun g hg=>?_⟩
 ·have:=length_putF f y fs;omega
 ·show RelO ((putF f y fs).lookup g) (if g = f then some u else mA g)
  rw [lookup_putF]
  by_cases q:g = f
  ·rw [if_pos q,if_pos q];exact ry
  ·rw [if_neg q,if_neg q];exact r g
 ·by_cases q:g = f
  ·rw [q];exact (keys_putF f y fs).1
  ·refine (keys_putF f y fs).2 g (wi g fun z=>hg ?_)
   show (if g = f then some u else mA g) = none
   rw [if_neg q];exact z
theorem Inv.made (I:Inv X pins σ H s):Inv X pins σ (upd (upd H s.heap.objs.size (.own (s.heap.objs.size + 1))) (s.heap.objs.size + 1) (.ins C s.heap.objs.size []))
  { s with heap:=(s.heap.push PySem.W.emptyDict).push (PySem.W.instObj C s.heap.objs.size) }:=by
 have e1:(s.heap.push PySem.W.emptyDict).get? s.heap.objs.size = some PySem.W.emptyDict:=Heap.get?_push_size s.heap rfl
 have e2:((s.heap.push PySem.W.emptyDict).push (PySem.W.instObj C s.heap.objs.size)).get? (s.heap.objs.size + 1) = some (PySem.W.instObj C s.heap.objs.size):=by
  have:=Heap.get?_push_size (s.heap.push PySem.W.emptyDict) (o:=PySem.W.instObj C s.heap.objs.size) rfl
  rwa [Heap.size_push] at this
 have e3:(s.heap.push PySem.W.emptyDict).Ns s.heap.objs.size (fun _=>none):=⟨PySem.W.emptyDict,#[],_,e1,rfl,(fun e he=>absurd he (by simp)),fun _=>rfl⟩
 have I1:=I.laid (a:=s.heap.objs.size) (o:=.own (s.heap.objs.size + 1)) (h':=s.heap.push PySem.W.emptyDict) (t':=s.toks) (fun b u q=>Heap.get?_push_of_some _ q) (Nat.le_refl _) ⟨_,e1⟩
 refine I1.laid (a:=s.heap.objs.size + 1) (o:=.ins C s.heap.objs.size []) (t':=s.toks) (fun b u q=>Heap.get?_push_of_some _ q) (Nat.le_of_eq (Heap.size_push _ _)) ?_
 have ne:s.heap.objs.size≠s.heap.objs.size + 1:=Nat.ne_of_lt (Nat.lt_succ_self _)
 refine ⟨by rw [upd_ne ne,upd_same],Nat.zero_le _,ne,e2,fun _=>none,(Heap.Ns1.of_empty e3).at fun o q=>Heap.get?_push_of_some _ q,fun _=>True.intro,fun y hy=>absurd rfl hy⟩
theorem attr_of {prog:Program} {w:World} {env:Env} {e:Expr} {f:Str} {pos:Pos} {s:Shared} {Q:Value→Shared→Prop} (hb:attributeBase e f env (eval e env) = eval e env)
  (h:wpAny (model prog w) A (eval e env) (fun o s₁=>wpAny (model prog w) A (getAttr o f true) Q E s₁) E s):wpAny (model prog w) A (eval (.Attribute e f pos) env) Q E s :=
 Attribute_any_ h (by rw [arm_eval_Attribute,hb])
end
def tFld (K:PySem.W.Frag) (ta:TE) (f:Str):TE:=fun σ H Q=>ta σ H fun x H1=>∃ a C dx fs v,x = .ref a∧H1 a = some (.ins C dx fs)∧Cls K C∧NoAttr K C f∧fs.lookup f = some v∧Q v H1
def sFld (K:PySem.W.Frag) (ta tv:TE) (f:Str):TS:=fun D σ H=>tv σ H fun y H1=>ta σ H1 fun x H2=>∃ a C dx fs,x = .ref a∧H2 a = some (.ins C dx fs)∧Cls K C∧NoAttr K C f∧fs.length < 1000 ∧
 D.nx σ (upd H2 a (.ins C dx (putF f y fs)))
section
variable {X:Cx} {o e value:Expr} {f:Str} {pos pos' tpos:Pos} {ta tv:TE}
theorem pe_fld (he:PE X e ta) (hb:attributeBase e f X.env (eval e X.env) = eval e X.env):PE X (.Attribute e f pos) (tFld X.K ta f):=by
 intro pins s σ H Q I h
 refine attr_of hb (thn (he pins s σ H _ I h) fun u s1 ⟨x,H1,I1,rx,a,C,dx,fs,v,ex,ea,c,n,l,q⟩=>?_)
 subst ex
 obtain rfl:u = Value.ref a:=rx
 exact getattr_ok I1 ea c n l fun u' s2 I2 ru=>⟨v,H1,I2,ru,q⟩
theorem ps_fld (ha:PE X o ta) (hv:PE X value tv) (hs:swapsWith value (some (.Attribute o f pos')) pos.line X.env = pure false):PS X (.Assign [.Attribute o f pos'] value pos) (sFld X.K ta tv f):=by
 intro pins s σ H D I h
 refine plainObj_wpAny_Assign_Attribute (thn (hv pins s σ H _ I h) fun u s1 ⟨y,H1,I1,ry,q⟩=>thn (ha pins s1 σ H1 _ I1 q) fun ov s2 ⟨x,H2,I2,rx,a,C,dx,fs,ex,ea,c,n,l,q2⟩=>?_) hs
 subst ex
 obtain rfl:ov = Value.ref a:=rx
 exact setattr_ok I2 ea c n l ry fun s3 I3=>⟨σ,_,I3,q2⟩
end
section
variable {X:Cx} {pins:List (Addr×Obj)} {σ:St} {H:Hp} {s:Shared} {A:Around} {E:Value→Shared→Prop} {Q:Value→Shared→Prop} {c:Value} {b:Bool}
end
end L2
namespace L2
open PySem PySem.Spec PyProof.Rows
structure Room (k:Nat) (A:Around):Prop where
 hd:A.handled = none
 dp:A.depth + 3 * k + 5 < recursionLimit
 un:A.units + 16 * k + 200 < cLine
theorem Room.mono {j k:Nat} {A:Around} (r:Room k A) (h:j≤k):Room j A:=⟨r.hd,by have:=r.dp;omega,by have:=r.un;omega⟩
theorem Room.deeper {k:Nat} {A:Around} (r:Room (k + 1) A) (env:Env):Room k (A.deeper env) :=
 ⟨r.hd,by have:=r.dp;show A.depth + 1 + 3 * k + 5 < _;omega,by have:=r.un;show A.units + 3 + 16 * k + 200 < _;omega⟩
theorem make_depth {A:Around} {C:Addr} {us:List Value} {kw:List (Str×Value)}:(A.under (.builtin "type.__call__" ⟨.ref C::us,kw⟩)).depth = A.depth + 1:=by
 first | rfl | simp [Around.under,Code.weight,Code.isCreation,Code.isGuard,Code.isCaller,Code.frames,Code.isFrame,guardIds]
theorem make_units {A:Around} {C:Addr} {us:List Value} {kw:List (Str×Value)}:(A.under (.builtin "type.__call__" ⟨.ref C::us,kw⟩)).units = A.units + 1:=by
 first | rfl | simp [Around.under,Code.cUnits,Code.frames,Code.isFrame]
theorem Room.make {k:Nat} {A:Around} (r:Room (k + 1) A) (C:Addr) (us:List Value) (kw:List (Str×Value)):Room k (A.under (.builtin "type.__call__" ⟨.ref C::us,kw⟩)) :=
 ⟨r.hd,by have:=r.dp;rw [make_depth];omega,by have:=r.un;rw [make_units];omega⟩
theorem Room.depth {k:Nat} {A:Around} (r:Room k A):A.depth < recursionLimit:=by have:=r.dp;omega
theorem Room.units {k:Nat} {A:Around} (r:Room k A):A.units + 64 < cLine:=by have:=r.un;omega
def tNil:TA:=fun _ H Q=>Q [] H
def tCons (ta:TE) (tr:TA):TA:=fun σ H Q=>ta σ H fun x H1=>tr σ H1 fun xs H2=>Q (x::xs) H2
section
variable {X:Cx} {e:Expr} {es:List Expr} {te:TE} {t:TA} {pos:Pos}
theorem pa_nil:PA X [] tNil:=fun _ _ _ _ H Q I h=>Calls.spliced_nil ⟨[],H,I,.nil,h⟩
theorem pa_cons (ha:PE X e te) (hr:PA X es t) (hs:starEach (e::es) X.env = (false,eval e X.env)::starEach es X.env:=by rfl):PA X (e::es) (tCons te t):=by
 intro pos pins s σ H Q I h
 rw [hs]
 show wpAny _ _ (spliced ((false,eval e X.env)::backTo pos (starEach es X.env))) _ _ s
 refine Calls.spliced_cons (thn (ha pins s σ H _ I h) fun u s1 ⟨x,H1,I1,r1,q1⟩=>?_)
 exact thn (hr pos pins s1 σ H1 _ I1 q1) fun us s2 ⟨xs,H2,I2,r2,q2⟩=>⟨x::xs,H2,I2,.cons r1 r2,q2⟩
def tTup (t:TA):TE:=fun σ H Q=>t σ H fun xs H1=>xs.length≤sizeLine∧∀ p,H1 p = none→Q (.ref p) (upd H1 p (.tup xs))
def tLst (t:TA):TE:=fun σ H Q=>t σ H fun xs H1=>xs.length≤sizeLine∧∀ p,H1 p = none→Q (.ref p) (upd H1 p (.lst xs))
theorem pe_tup {x1} (h:PA X es t):PE X (.Tuple es x1 pos) (tTup t):=by
 intro pins s σ H Q I hq
 refine wpAny_Tuple_spliced (thn (h pos pins s σ H _ I hq) fun us s1 ⟨xs,H1,I1,r,z,q⟩=>⟨by rw [← r.length];exact z,?_⟩)
 have hf:H1 s1.heap.objs.size = none:=I1.hok.fresh (Nat.le_refl _)
 refine ⟨.ref s1.heap.objs.size,upd H1 s1.heap.objs.size (.tup xs),I1.laid (t':=s1.toks) (fun b u e=>Heap.get?_push_of_some _ e) (Nat.le_refl _) ?_,rfl,q _ hf⟩
 exact ⟨z,us,r,⟨_,Heap.get?_push_size _ rfl,rfl,_,rfl⟩⟩
theorem pe_lst (h:PA X es t):PE X (.List es pos) (tLst t):=by
 intro pins s σ H Q I hq
 refine wpAny_List_spliced (thn (h pos pins s σ H _ I hq) fun us s1 ⟨xs,H1,I1,r,z,q⟩=>⟨by rw [← r.length];exact z,?_⟩)
 have hf:H1 s1.heap.objs.size = none:=I1.hok.fresh (Nat.le_refl _)
 refine ⟨.ref s1.heap.objs.size,upd H1 s1.heap.objs.size (.lst xs),I1.laid (t':=s1.toks) (fun b u e=>Heap.get?_push_of_some _ e) (Nat.le_refl _) ?_,rfl,q _ hf⟩
 exact ⟨z,us,0,r,Heap.get?_push_size _ rfl⟩
end
abbrev Sp:=List V→Hp→VK→XK→Prop
abbrev CXT:=List Env→Hp→Shared→XK→Value→Shared→Prop
structure Env0 (P:Program) (w:World) (K:PySem.W.Frag) (mg:Str→Option Value) (base:Heap) (A:Around) (outer:List Env) (s:Shared) (H:Hp):Prop where
 frames:A.frames = some outer
 mod:Mod K mg base
 bs:∀ b o,base.get? b = some o→s.heap.get? b = some o∧H b = none
 bsz:base.objs.size≤s.heap.objs.size
 funs:s.heap.FunFrames base outer
 frf:∀ b∈frs outer,H b = none
 hok:HOk P w H s.heap
 bare:AllBare s.gens
def CE (outer:List Env) (P:Program) (w:World) (H:Hp) (s:Shared) (Q:VK) (u:Value) (s':Shared):Prop :=
 ∃ v H',s'.os = s.os∧AllBare s'.gens∧Un (frs outer) [] H H' s.heap s'.heap∧HOk P w H' s'.heap∧RelV v u∧Q v H'
def CR (CX:CXT) (outer:List Env) (P:Program) (w:World) (H:Hp) (s:Shared) (Q:VK) (E:XK) (r:Result) (s':Shared):Prop :=
 match r with
 | .ok (.ret u)=>CE outer P w H s Q u s'
 | .ok _=>False
 | .error e=>CX outer H s E e s'
structure FnOk (P:Program) (w:World) (K:PySem.W.Frag) (mg:Str→Option Value) (base:Heap) (CX:CXT) (k:Nat) (f:Addr) (fd:FuncData) (ps:List Str) (sp:Sp):Prop where
 len:∀ vs H Q E,sp vs H Q E→vs.length = ps.length
 run:∀ (A:Around) (outer:List Env) (s:Shared) (H:Hp) (args:Args) (us:List Value) (vs:List V) (Q:VK) (E:XK),Room k A→Env0 P w K mg base A outer s H→BindsTo s fd args (ps.zip us)→Vals vs us→sp vs H Q E →
  codeAny (model P w) A (.call (.ref f) args) (CR CX outer P w H s Q E) s
theorem FnOk.mono {P:Program} {w:World} {K:PySem.W.Frag} {mg:Str→Option Value} {base:Heap} {CX:CXT} {j k:Nat} {f:Addr} {fd:FuncData} {ps:List Str} {sp:Sp} (F:FnOk P w K mg base CX j f fd ps sp) (h:j≤k) :
  FnOk P w K mg base CX k f fd ps sp:=⟨F.len,fun A outer s H args us vs Q E hr=>F.run A outer s H args us vs Q E (hr.mono h)⟩
theorem Env0.make {P:Program} {w:World} {K:PySem.W.Frag} {mg:Str→Option Value} {base:Heap} {A:Around} {outer:List Env} {s:Shared} {H:Hp} (e:Env0 P w K mg base A outer s H) (C:Addr) (us:List Value) (kw:List (Str×Value)) :
  Env0 P w K mg base (A.under (.builtin "type.__call__" ⟨.ref C::us,kw⟩)) outer s H:=⟨by first | exact e.frames | (simpa [Around.under,Code.envs,Code.isFrame,pushEnvs] using e.frames),e.mod,e.bs,e.bsz,e.funs,e.frf,e.hok,e.bare⟩
section
variable {X:Cx} {pins:List (Addr×Obj)} {σ:St} {H:Hp} {s s':Shared}
theorem Inv.env0 (I:Inv X pins σ H s):Env0 X.prog X.w X.K X.mg X.base X.A X.stack s H :=
 ⟨I.ok.frames,I.ok.mod,I.bs,Nat.le_trans I.ok.bsz I.sz,I.stack,I.stkFree,I.hok,I.bare⟩
theorem Inv.after {Q:VK} {u:Value} (I:Inv X pins σ H s) (h:CE X.stack X.prog X.w H s Q u s'):EP X pins σ Q u s':=by
 obtain ⟨v,H',os,bare,un,hok,r,q⟩:=h
 obtain ⟨hh,g,d,t,os'⟩:=s'
 obtain rfl:os' = s.os:=os
 exact ⟨v,H',I.call (h':=hh) (g':=g) (d':=d) (t':=t) (ch:=[]) un hok bare (fun b z=>absurd z (by simp)),r,q⟩
end
def tCall (sp:Sp) (dvs:List V) (E:XK) (t:TA):TE:=fun σ H Q=>t σ H fun vs H1=>sp (vs ++ dvs) H1 Q E
def tMake (C:Addr) (sp:Sp) (dvs:List V) (E:XK) (t:TA):TE:=fun σ H Q=>t σ H fun vs H1=>∀ x dx,H1 x = none→H1 dx = none→dx≠x →
 sp (.ref x::(vs ++ dvs)) (upd (upd H1 dx (.own x)) x (.ins C dx [])) (fun v H2=>v = .non∧Q (.ref x) H2) E
def Binds (K:PySem.W.Frag) (fd:FuncData) (ps:List Str) (ds:List Value):Prop :=
 ∀ (s:Shared) (us:List Value),K.In s.heap→(us ++ ds).length = ps.length→BindsTo s fd ⟨us,[]⟩ (ps.zip (us ++ ds))
theorem Binds.all {K:PySem.W.Frag} {fd:FuncData} {ps:List Str} (h:∀ us:List Value,us.length = ps.length→bindArgs fd ⟨us,[]⟩ = pure (ps.zip us)):Binds K fd ps []:=fun s us _ hl=>by
 rw [List.append_nil] at hl ⊢
 exact .of_eq (h us hl)
def Passes (CX:CXT) (X:Cx) (E:XK):Prop:=∀ (pins:List (Addr×Obj)) (σ:St) (H:Hp) (s:Shared) (e:Value) (s':Shared),Inv X pins σ H s→CX X.stack H s E e s'→X.xe e s'
section
variable {X:Cx} {CX:CXT} {k:Nat} {f C:Addr} {fd:FuncData} {ps:List Str} {sp:Sp} {dvs:List V} {ds:List Value} {E:XK} {x m:Str} {p pos apos:Pos} {e o:Expr} {es:List Expr} {ta:TE} {t:TA}
theorem run_fn {pins:List (Addr×Obj)} {σ:St} {H:Hp} {s:Shared} {Q:VK} {us:List Value} {vs:List V} (F:FnOk X.prog X.w X.K X.mg X.base CX k f fd ps sp) (hr:Room k X.A) (hb:Binds X.K fd ps ds) (hd:Vals dvs ds) (hx:Passes CX X E)
  (I:Inv X pins σ H s) (r:Vals vs us) (h:sp (vs ++ dvs) H Q E):wpAny (model X.prog X.w) X.A (call (.ref f) us) (EP X pins σ Q) X.xe s:=by
 have r2:Vals (vs ++ dvs) (us ++ ds):=r.append hd
 have hl:(us ++ ds).length = ps.length:=by rw [← r2.length];exact F.len _ _ _ _ h
 refine wpAny_call (codeAny_mono (F.run X.A X.stack s H ⟨us,[]⟩ (us ++ ds) (vs ++ dvs) Q E hr I.env0 (hb s us I.kIn hl) r2 h) fun r s' hq=>?_)
 cases r with
 | error e=>exact hx pins σ H s e s' I hq
 | ok fl =>
  cases fl with
  | ret u=>exact I.after hq
  | next=>exact False.elim hq
  | brk=>exact False.elim hq
  | cont=>exact False.elim hq
theorem pe_call (F:FnOk X.prog X.w X.K X.mg X.base CX k f fd ps sp) (hr:Room k X.A) (hg:Gl X x) (hm:X.mg x = some (.ref f)) (hk:PySem.W.keepIn X.K (.ref f) = true) (hb:Binds X.K fd ps ds) (hd:Vals dvs ds) (hx:Passes CX X E)
  (ha:PA X (e::es) t) (hdb:(x == ("__debug__" : Str)) = false:=by decide) (he:starEach (e::es) X.env = (false,eval e X.env)::starEach es X.env:=by rfl) (hpl:(backTo pos (starEach es X.env)).any (·.1) = false:=by rfl) :
  PE X (.Call (.Name x p) (e::es) [] pos) (tCall sp dvs E t):=by
 intro pins s σ H Q I h
 refine wpAny_Call_Name_kw (ld_glob I hg hm ?_ hdb)
 refine PySem.W.callWith_K (h₀:=X.base) I.ok.mod.kin hk (thn (ha pos pins s σ H _ I h) fun us s1 ⟨vs,H1,I1,r,q⟩=>⟨I1.kIn,?_⟩) he hpl
 exact run_fn F hr hb hd hx I1 r q
structure Mk (K:PySem.W.Frag) (C f:Addr):Prop where
 makes:PySem.W.makesIn K C = true
 init:PySem.W.findIn K (.ref C) "__init__" = some (some (.ref f))
 fn:PySem.W.isFn K (.ref f) = true
 kp:PySem.W.keepIn K (.ref C) = true
theorem run_make {pins:List (Addr×Obj)} {σ:St} {H:Hp} {s:Shared} {Q:VK} {us:List Value} {vs:List V} (M:Mk X.K C f) (F:FnOk X.prog X.w X.K X.mg X.base CX k f fd ps sp) (hr:Room (k + 1) X.A) (hb:Binds X.K fd ps ds) (hd:Vals dvs ds)
  (hx:Passes CX X E) (I:Inv X pins σ H s) (r:Vals vs us)
  (h:∀ x dx,H x = none→H dx = none→dx≠x→sp (.ref x::(vs ++ dvs)) (upd (upd H dx (.own x)) x (.ins C dx [])) (fun v H2=>v = .non∧Q (.ref x) H2) E) :
  wpAny (model X.prog X.w) X.A (call (.ref C) us) (EP X pins σ Q) X.xe s:=by
 have hq:=h (s.heap.objs.size + 1) s.heap.objs.size (I.hok.fresh (Nat.le_succ _)) (I.hok.fresh (Nat.le_refl _)) (Nat.ne_of_lt (Nat.lt_succ_self _))
 have I2:=Inv.made (C:=C) I
 have r2:Vals (V.ref (s.heap.objs.size + 1)::(vs ++ dvs)) (Value.ref (s.heap.objs.size + 1)::(us ++ ds)):=.cons rfl (r.append hd)
 have hl:(Value.ref (s.heap.objs.size + 1)::us ++ ds).length = ps.length:=by
  have e:=r2.length
  rw [F.len _ _ _ _ hq] at e
  exact e.symm
 refine wpAny_call (make_map (f:=f) I.kIn M.makes M.init (beq_iff_eq.mp M.fn) (codeAny_mono (F.run _ X.stack _ _ ⟨Value.ref (s.heap.objs.size + 1)::us,[]⟩ (Value.ref (s.heap.objs.size + 1)::(us ++ ds)) _ _ E (hr.make C us [])
  (I2.env0.make C us []) (hb _ (Value.ref (s.heap.objs.size + 1)::us) I2.kIn hl) r2 hq) fun r s' hq'=>?_))
 cases r with
 | error e=>exact hx pins σ _ _ e s' I2 hq'
 | ok fl =>
  cases fl with
  | ret u =>
   obtain ⟨v,H',I3,rv,ev,q3⟩:=I2.after hq'
   subst ev
   exact ⟨rv,⟨V.ref (s.heap.objs.size + 1),H',I3,rfl,q3⟩⟩
  | next=>exact False.elim hq'
  | brk=>exact False.elim hq'
  | cont=>exact False.elim hq'
theorem pe_make (M:Mk X.K C f) (F:FnOk X.prog X.w X.K X.mg X.base CX k f fd ps sp) (hr:Room (k + 1) X.A) (hg:Gl X x) (hm:X.mg x = some (.ref C)) (hb:Binds X.K fd ps ds) (hd:Vals dvs ds) (hx:Passes CX X E)
  (ha:PA X (e::es) t) (hdb:(x == ("__debug__" : Str)) = false:=by decide) (he:starEach (e::es) X.env = (false,eval e X.env)::starEach es X.env:=by rfl) (hpl:(backTo pos (starEach es X.env)).any (·.1) = false:=by rfl) :
  PE X (.Call (.Name x p) (e::es) [] pos) (tMake C sp dvs E t):=by
 intro pins s σ H Q I h
 refine wpAny_Call_Name_kw (ld_glob I hg hm ?_ hdb)
 refine PySem.W.callWith_K (h₀:=X.base) I.ok.mod.kin M.kp (thn (ha pos pins s σ H _ I h) fun us s1 ⟨vs,H1,I1,r,q⟩=>⟨I1.kIn,?_⟩) he hpl
 exact run_make M F hr hb hd hx I1 r q
theorem pe_make0 (M:Mk X.K C f) (F:FnOk X.prog X.w X.K X.mg X.base CX k f fd ps sp) (hr:Room (k + 1) X.A) (hg:Gl X x) (hm:X.mg x = some (.ref C)) (hb:Binds X.K fd ps ds) (hd:Vals dvs ds) (hx:Passes CX X E)
  (hdb:(x == ("__debug__" : Str)) = false:=by decide):PE X (.Call (.Name x p) [] [] pos) (tMake C sp dvs E tNil):=by
 intro pins s σ H Q I h
 refine wpAny_Call_Name_kw (ld_glob I hg hm ?_ hdb)
 exact PySem.W.callWith_K0 I.kIn M.kp (run_make (us:=[]) M F hr hb hd hx I .nil h)
end
section
variable {X:Cx} {CX:CXT} {k:Nat} {f C:Addr} {fd:FuncData} {ps ks:List Str} {sp:Sp} {E:XK} {x m:Str} {p pos apos kpos:Pos} {e o:Expr} {es:List Expr} {kws:List Keyword} {te ta:TE} {t tk:TA} {nm:Option Str}
variable {g:List Value→List Value→List Value} {gV:List V→List V→List V}
end
structure FnScope (N P:List Str) (sc:Scope):Prop where
 kind:sc.kind = .function
 co:sc.isCoroutine = false
 gen:sc.isGenerator = false
 nd:N.Nodup
 pre:N.take P.length = P
 par:∀ x∈P,sc.names.lookup x = some .local∨sc.names.lookup x = some .cell
 nofree:∀ y∈sc.names,y.2≠.free
theorem bindL_out {kindOf:Str→Option NameKind} {x:Str}:∀ {binds:List (Str×Value)} {m:Str→Option Value},(∀ v,(x,v)∉binds)→bindL kindOf binds m x = m x
 | [],_,_=>rfl
 | (n,v)::r,m,h=>by
  unfold bindL
  rw [bindL_out fun w hw=>h w (List.mem_cons_of_mem _ hw)]
  split
  ·have:x≠n:=by rintro rfl;exact h v List.mem_cons_self
   simp [this]
  ·rfl
theorem bindC_out {kindOf:Str→Option NameKind} {x:Str}:∀ {binds:List (Str×Value)} {m:Str→Option Value},(∀ v,(x,v)∉binds)→bindC kindOf binds m x = m x
 | [],_,_=>rfl
 | (n,v)::r,m,h=>by
  unfold bindC
  rw [bindC_out fun w hw=>h w (List.mem_cons_of_mem _ hw)]
  split
  ·rfl
  ·have:x≠n:=by rintro rfl;exact h v List.mem_cons_self
   simp [this]
theorem bindL_get {kindOf:Str→Option NameKind} {x:Str} {v:Value}:∀ {P:List Str} {vs:List Value} {i:Nat} {m:Str→Option Value},P.Nodup→P[i]? = some x→vs[i]? = some v→kindOf x = some .local →
  bindL kindOf (P.zip vs) m x = some v
 | [],_,_,_,_,h,_,_=>by simp at h
 | _::_,[],_,_,_,_,h,_=>by simp at h
 | p::P,w::vs,0,m,nd,h1,h2,hk=>by
  simp at h1 h2;subst h1;subst h2
  show bindL kindOf ((p,w)::P.zip vs) m p = _
  unfold bindL
  rw [bindL_out fun v hv=>(List.nodup_cons.mp nd).1 (List.of_mem_zip hv).1,if_pos hk]
  simp
 | p::P,w::vs,i + 1,m,nd,h1,h2,hk=>by
  show bindL kindOf ((p,w)::P.zip vs) m x = _
  unfold bindL
  exact bindL_get (i:=i) (List.nodup_cons.mp nd).2 (by simpa using h1) (by simpa using h2) hk
theorem bindC_get {kindOf:Str→Option NameKind} {x:Str} {v:Value}:∀ {P:List Str} {vs:List Value} {i:Nat} {m:Str→Option Value},P.Nodup→P[i]? = some x→vs[i]? = some v→kindOf x≠some .local →
  bindC kindOf (P.zip vs) m x = some v
 | [],_,_,_,_,h,_,_=>by simp at h
 | _::_,[],_,_,_,_,h,_=>by simp at h
 | p::P,w::vs,0,m,nd,h1,h2,hk=>by
  simp at h1 h2;subst h1;subst h2
  show bindC kindOf ((p,w)::P.zip vs) m p = _
  unfold bindC
  rw [bindC_out fun v hv=>(List.nodup_cons.mp nd).1 (List.of_mem_zip hv).1,if_neg hk]
  simp
 | p::P,w::vs,i + 1,m,nd,h1,h2,hk=>by
  show bindC kindOf ((p,w)::P.zip vs) m x = _
  unfold bindC
  exact bindC_get (i:=i) (List.nodup_cons.mp nd).2 (by simpa using h1) (by simpa using h2) hk
def start (N:List Str) (vs:List V):St:=vs.map some ++ List.replicate (N.length - vs.length) none
def cxOf (CX:CXT) (P:Program) (w:World) (K:PySem.W.Frag) (mg:Str→Option Value) (base:Heap) (N:List Str) (qual:Str) (scope:Scope) (f:Addr) (cd:Value) (A:Around) (outer:List Env) (s:Shared) (H:Hp) (E:XK):Cx where
 prog:=P
 w:=w
 K:=K
 mg:=mg
 base:=base
 A:=A.deeper (envOfC qual scope s.heap.objs.size f cd)
 N:=N
 s₀:=s
 H₀:=H
 env:=envOfC qual scope s.heap.objs.size f cd
 outer:=outer
 stack:=envOfC qual scope s.heap.objs.size f cd::outer
 ex:=[]
 calm:=true
 fn:=fun _=>true
 pn:=[]
 xe:=fun e s'=>wpAny (model P w) (A.deeper (envOfC qual scope s.heap.objs.size f cd)) (leaving (envOfC qual scope s.heap.objs.size f cd) e) (fun _ s''=>CX outer H s E e s'') (fun e' s''=>CX outer H s E e' s'') s'
theorem cell_has {sc:Scope} {n:Nat} {x:Str} (h:sc.names.lookup x = some .cell):∃ c,(cellsFrom n sc.names []).lookup x = some c:=by
 have q:=PySem.W.cellsFrom_some sc.names n [] (.inl h)
 exact Option.isSome_iff_exists.mp q
theorem inv_start {CX:CXT} {P:Program} {w:World} {K:PySem.W.Frag} {mg:Str→Option Value} {base:Heap} {N ps:List Str} {qual:Str} {scope:Scope} {f:Addr} {cd:Value} {A:Around} {outer:List Env} {s s1:Shared} {H:Hp} {E:XK} {us:List Value} {vs:List V}
  (S:FnScope N ps scope) (hd:A.handled = none) (e0:Env0 P w K mg base A outer s H) (hl:vs.length = ps.length) (r:Vals vs us)
  (x:InCallC s s.heap.objs.size (bindL (envOfC qual scope s.heap.objs.size f cd).kindOf (ps.zip us) fun _=>none) (cellsFrom (s.heap.objs.size + 1) scope.names []) (bindC (envOfC qual scope s.heap.objs.size f cd).kindOf (ps.zip us) fun _=>none) s1) :
  Inv (cxOf CX P w K mg base N qual scope f cd A outer s H E) [] (start N vs) H s1:=by
 have hpl:ps.length≤N.length:=by have:=congrArg List.length S.pre;rw [List.length_take] at this;omega
 obtain ⟨h1,tk,rfl,hk⟩:=x.done
 have noA:∀ b:Addr,b∉(cxOf CX P w K mg base N qual scope f cd A outer s H E).ex:=fun b z=>absurd (show b∈([]:List Addr) from z) (by simp)
 refine ⟨⟨e0.mod,S.kind,rfl,rfl,Nat.le_refl _,fun y z c h1 h2=>?_,fun y hy=>?_,fun y c _ h=>?_,fun _=>hd,Around.frames_deeper e0.frames,.inr ⟨rfl,rfl⟩,fun b z=>absurd z (noA b),e0.bs,e0.bsz,fun b _ _=>noA b,fun b z=>absurd z (noA b),e0.funs,e0.frf⟩,
  rfl,e0.bare,Un.kept hk,⟨_,x.toInCall.ns,fun i y v h1 h2 h3=>?_⟩,fun y c h=>⟨_,x.cell y c h⟩,e0.hok.fresh (Nat.le_refl _),fun y c h=>?_,fun p hp=>absurd (show p∈([]:List (Addr×Obj)) from hp) (by simp),e0.hok.kept hk,?_⟩
 ·exact name_of_addr x.apart (PySem.mem_of_lookup h1) (PySem.mem_of_lookup h2)
 ·have hy:scope.names.lookup y = some .cell∨scope.names.lookup y = some .free:=hy
  rcases hy with hy | hy
  ·exact cell_has hy
  ·exact absurd rfl (S.nofree _ (PySem.mem_of_lookup hy))
 ·exact Nat.le_of_lt (x.above y c (PySem.mem_of_lookup h))
 ·have hi:i < vs.length:=by
   unfold start at h2
   by_cases hi:i < vs.length
   ·exact hi
   ·rw [List.getElem?_append_right (by simpa using hi)] at h2
    rw [List.getElem?_replicate] at h2
    split at h2 <;> cases h2
  have ha:vs[i]? = some v:=by
   unfold start at h2
   rw [List.getElem?_append_left (by simpa using hi),List.getElem?_map] at h2
   cases e:vs[i]? with
   | none=>rw [e] at h2;cases h2
   | some a=>rw [e] at h2;cases h2;rfl
  obtain ⟨u,hu,rv⟩:=r.get ha
  have hp:ps[i]? = some y:=by
   rw [← S.pre,List.getElem?_take_of_lt (by omega)];exact h1
  have ndP:ps.Nodup:=by rw [← S.pre];exact S.nd.sublist (List.take_sublist _ _)
  refine ⟨u,rv,?_⟩
  rcases S.par y (List.mem_of_getElem? hp) with k | k
  ·exact .inl ⟨k,bindL_get ndP hp hu k⟩
  ·obtain ⟨c,e⟩:=cell_has (n:=s.heap.objs.size + 1) k
   refine .inr ⟨.inl k,c,e,?_⟩
   have q:=x.cell y c e
   rw [bindC_get ndP hp hu (by show scope.names.lookup y≠_;rw [k];decide)] at q
   exact q
 ·exact e0.hok.fresh (Nat.le_of_lt (x.above y c (PySem.mem_of_lookup h)))
 ·unfold start
  show _ = N.length
  rw [List.length_append,List.length_map,List.length_replicate]
  omega
theorem fn_of {CX:CXT} {P:Program} {w:World} {K:PySem.W.Frag} {mg:Str→Option Value} {base:Heap} {k:Nat} {f:Addr} {name qual:Str} {params:Arguments} {body:List Stmt} {scope:Scope} {dV kV doc pm cdv ct oc:Value} {an od:Option Addr}
  {osl:Array (Option Value)} {N ps:List Str} {sp:Sp} (lk:K.lookup f = some ⟨oc,od,.func (PySem.W.fnOf name qual params body scope dV kV doc pm an cdv ct),osl⟩) (hcd:PySem.W.codeIn K cdv qual = true) (S:FnScope N ps scope)
  (len:∀ vs H Q E,sp vs H Q E→vs.length = ps.length)
  (hbody:∀ (A:Around) (outer:List Env) (s:Shared) (H:Hp) (vs:List V) (Q:VK) (E:XK),Room k (A.deeper (envOfC qual scope s.heap.objs.size f cdv))→sp vs H Q E →
   ∃ t,PSs (cxOf CX P w K mg base N qual scope f cdv A outer s H E) body t∧t { nx:=fun _ H'=>Q .non H',rt:=Q } (start N vs) H) :
  FnOk P w K mg base CX (k + 1) f (PySem.W.fnOf name qual params body scope dV kV doc pm an cdv ct) ps sp:=by
 refine ⟨len,fun A outer s H args us vs Q E hr e0 hb r hsp=>?_⟩
 have hl:=len _ _ _ _ hsp
 have KX:K.In s.heap:=e0.mod.kin.keeps fun b o e=>(e0.bs b o e).1
 have lim:s.heap.NoLimit:=e0.mod.nolimit.keeps fun b o e=>(e0.bs b o e).1
 have hkind:∀ y∈ps.zip us,scope.names.lookup y.1 = some .local∨(scope.names.lookup y.1 = some .cell∧((cellsFrom (s.heap.objs.size + 1) scope.names []).lookup y.1).isSome = true):=fun ⟨n,v⟩ hy=>by
  rcases S.par n (List.of_mem_zip hy).1 with q | q
  ·exact .inl q
  ·exact .inr ⟨q,PySem.W.cellsFrom_some _ _ _ (.inl q)⟩
 refine codeAny_call_function hr.depth (KX _ _ lk) rfl S.co S.gen rfl (PySem.W.codeRec_of KX hcd) (hb _ _ _ _ ?_)
 refine wpAny_newFunctionEnv_cells S.kind hkind fun env he s1 x=>?_
 subst he
 refine ⟨lim.keeps x.toInCall.keep,codeAny_func ?_⟩
 obtain ⟨t,ht,hq⟩:=hbody A outer s H vs Q E (hr.deeper _) hsp
 have I:Inv (cxOf CX P w K mg base N qual scope f cdv A outer s H E) [] (start N vs) H s1:=inv_start S hr.hd e0 hl r x
 refine wpAny_mono (ht [] s1 (start N vs) H _ I hq) (fun fl s' hs=>?_) fun e s' hs=>hs
 have fin:∀ {σ':St} {H':Hp} {v:V} {u:Value},Inv (cxOf CX P w K mg base N qual scope f cdv A outer s H E) [] σ' H' s'→RelV v u→Q v H'→CE outer P w H s Q u s' :=
  fun {σ' H' v u} J rv q=>⟨v,H',J.os,J.bare,J.base,J.hok,rv,q⟩
 cases fl with
 | ret u =>
  obtain ⟨v,σ',H',J,rv,q⟩:=hs
  exact fin J rv q
 | next =>
  obtain ⟨σ',H',J,q⟩:=hs
  exact fin (v:=V.non) (u:=Value.none) J rfl q
 | brk =>
  obtain ⟨_,_,_,q⟩:=hs
  exact False.elim q
 | cont =>
  obtain ⟨_,_,_,q⟩:=hs
  exact False.elim q
end L2
namespace L2
open PySem PySem.Spec PyProof.Rows
section
variable {X:Cx} {x:Str} {p pos:Pos} {e:Expr} {es:List Expr} {t:TA} {id T:String} {r:List V→Hp→VK→Prop}
def tCB (r:List V→Hp→VK→Prop) (t:TA):TE:=fun σ H Q=>t σ H fun vs H1=>r vs H1 Q
theorem pe_callB (hc:CallR X (.builtin id) r) (hg:Gl X x) (hm:X.mg x = none) (hv:bootBuiltins x = some (.builtin id)) (ha:PA X (e::es) t) (hn:x≠"__name__":=by decide) (hdb:(x == ("__debug__" : Str)) = false:=by decide)
  (he:starEach (e::es) X.env = (false,eval e X.env)::starEach es X.env:=by rfl) (hpl:(backTo pos (starEach es X.env)).any (·.1) = false:=by rfl):PE X (.Call (.Name x p) (e::es) [] pos) (tCB r t):=by
 intro pins s σ H Q I h
 refine wpAny_Call_Name_kw (ld_blt I hg hm hv ?_ hn hdb)
 exact PyProof.Rows.callWith_builtin1 (thn (ha pos pins s σ H _ I h) fun us s1 ⟨vs,H1,I1,r1,q1⟩=>hc pins s1 σ H1 vs us Q I1 r1 q1) he hpl
theorem pe_callTy (hc:CallR X (.type T) r) (hg:Gl X x) (hm:X.mg x = none) (hv:bootBuiltins x = some (.type T)) (ha:PA X (e::es) t) (hn:x≠"__name__":=by decide) (hdb:(x == ("__debug__" : Str)) = false:=by decide)
  (he:starEach (e::es) X.env = (false,eval e X.env)::starEach es X.env:=by rfl) (hpl:(backTo pos (starEach es X.env)).any (·.1) = false:=by rfl):PE X (.Call (.Name x p) (e::es) [] pos) (tCB r t):=by
 intro pins s σ H Q I h
 refine wpAny_Call_Name_kw (ld_blt I hg hm hv ?_ hn hdb)
 exact PyProof.Rows.callWith_type1 (thn (ha pos pins s σ H _ I h) fun us s1 ⟨vs,H1,I1,r1,q1⟩=>hc pins s1 σ H1 vs us Q I1 r1 q1) he hpl
end
end L2
namespace HT
open PySem PyProof.Rows
section
open PySem.SeqAt
open PySem.AutoSeq1 (wpAny_loadPart')
open PySem.MeetsSeq PySem.MeetsSeq2 PySem.MeetsSeq3
end
section
variable {prog:Program} {w:World} {A:Around} {E:Value→Shared→Prop} {s:Shared}
def sIx (n d:Nat):Option Int→Nat
 | none=>d
 | some v=>if v < 0 then (v + (n:Int)).toNat else min v.toNat n
theorem sIx_none (n d:Nat):sIx n d none = d:=rfl
theorem sIx_nat (n d k:Nat):sIx n d (some (k:Int)) = min k n:=by
 show (if (k:Int) < 0 then ((k:Int) + (n:Int)).toNat else min (k:Int).toNat n) = min k n
 rw [if_neg (by omega),Int.toNat_natCast]
end
end HT
namespace L2
open PySem PySem.Spec PyProof.Rows
abbrev TO:=St→Hp→(Option Int→Hp→Prop)→Prop
def PO (X:Cx) (e:Option Expr) (t:TO):Prop :=
 ∀ (pins:List (Addr×Obj)) (s:Shared) (σ:St) (H:Hp) (Q:Option Int→Hp→Prop),Inv X pins σ H s→t σ H Q →
  wpAny (model X.prog X.w) X.A (evalPart e X.env) (fun u s'=>∃ o H',Inv X pins σ H' s'∧IsPart u o∧Q o H') X.xe s
def tNoPart:TO:=fun _ H Q=>Q none H
def tPart (t:TE):TO:=fun σ H Q=>t σ H fun x H1=>∃ i,x = .int i∧Q (some i) H1
theorem intsAre_of {ns:List Int}:∀ {us:List Value},Vals (ns.map V.int) us→IntsAre us ns:=by
 induction ns with
 | nil=>intro us r;rw [List.map_nil] at r;cases r;exact .nil
 | cons n ns ih =>
  intro us r
  rw [List.map_cons] at r
  cases r with
  | cons r1 r2 =>
   obtain ⟨t,e⟩:=r1
   subst e
   exact .cons n t (ih r2)
section
variable {X:Cx} {e:Expr} {te:TE} {lo hi:Option Expr} {tl th:TO} {pos p2:Pos}
theorem po_none:PO X none tNoPart:=by
 intro pins s σ H Q I h
 rw [evalPart_none]
 exact wpAny_pure ⟨none,H,I,.none,h⟩
theorem po_some (h:PE X e te):PO X (some e) (tPart te):=by
 intro pins s σ H Q I hw
 rw [evalPart_some]
 refine thn (h pins s σ H _ I hw) fun u s1 ⟨x,H1,I1,r1,q1⟩=>?_
 obtain ⟨i,rfl,q⟩:=q1
 obtain ⟨t,rfl⟩:=r1
 exact ⟨some i,H1,I1,.int i t,q⟩
def SlR (X:Cx) (r:V→Option Int→Option Int→Hp→VK→Prop):Prop :=
 ∀ (pins:List (Addr×Obj)) (s:Shared) (σ:St) (H:Hp) (x:V) (v vl vu:Value) (lo hi:Option Int) (sl:Addr) (Q:VK),Inv X pins σ H s→RelV x v→s.heap.IsSliceOf sl vl vu .none→IsPart vl lo→IsPart vu hi→r x lo hi H Q →
  ∃ T id,typeLookup (.type T) "__getitem__" = pure (some (.builtin id))∧s.TypeIs v T∧wpAny (model X.prog X.w) X.A (getItem v (.ref sl)) (EP X pins σ Q) X.xe s
def tSl (r:V→Option Int→Option Int→Hp→VK→Prop) (te:TE) (tl th:TO):TE:=fun σ H Q=>te σ H fun x H1=>tl σ H1 fun l H2=>th σ H2 fun u H3=>r x l u H3 Q
theorem pe_slice {r:V→Option Int→Option Int→Hp→VK→Prop} (hr:SlR X r) (he:PE X e te) (hl:PO X lo tl) (hu:PO X hi th):PE X (.Subscript e (.Slice lo hi none p2) pos) (tSl r te tl th):=by
 intro pins s σ H Q I h
 refine Subscript_ (thn (he pins s σ H _ I h) fun v s1 ⟨x,H1,I1,r1,q1⟩=>?_)
 refine wpAny_Slice (thn (hl pins s1 σ H1 _ I1 q1) fun vl s2 ⟨l,H2,I2,pl,q2⟩=>thn (hu pins s2 σ H2 _ I2 q2) fun vu s3 ⟨u,H3,I3,pu,q3⟩=>?_)
 rw [evalPart_none]
 refine wpAny_pure ?_
 have I4:Inv X pins σ H3 { s3 with heap:=s3.heap.push { cls:=.type "slice",data:=.fields #[vl,vu,.none] } }:=I3.kept (t':=s3.toks) fun b ob q=>Heap.get?_push_of_some _ q
 obtain ⟨T,id,hT,ht,hg⟩:=hr pins { s3 with heap:=s3.heap.push { cls:=.type "slice",data:=.fields #[vl,vu,.none] } } σ H3 x v vl vu l u s3.heap.objs.size Q I4 r1 (Heap.IsSliceOf.new ..) pl pu q3
 show wpAny (model X.prog X.w) X.A (subscriptTail e (.Slice lo hi none p2) v (.ref s3.heap.objs.size)) (EP X pins σ Q) X.xe { s3 with heap:=s3.heap.push { cls:=.type "slice",data:=.fields #[vl,vu,.none] } }
 exact tail_any (ops:=[.ref s3.heap.objs.size,v]) ht hT hg (by with_unfolding_all rfl)
def cutV (xs:List V) (lo hi:Option Int):List V:=(xs.drop (HT.sIx xs.length 0 lo)).take (HT.sIx xs.length xs.length hi - HT.sIx xs.length 0 lo)
theorem cutV_length (xs:List V) (lo hi:Option Int):(cutV xs lo hi).length≤xs.length:=by
 unfold cutV
 rw [List.length_take,List.length_drop]
 omega
end
end L2
namespace L2
open PySem PySem.Spec PyProof.Rows
def ixN (n:Nat) (i:Int):Option Nat:=if 0≤i then (if i < n then some i.toNat else none) else if -(n:Int)≤i then some (i + n).toNat else none
def atI {α:Type} (xs:List α) (i:Int):Option α:=(ixN xs.length i).bind fun j=>xs[j]?
theorem ixN_seq {n:Nat} {i:Int} {j:Nat} (h:ixN n i = some j):seqIndex? i n = some j∧j < n∧-(n:Int)≤i∧i < n:=by
 unfold ixN at h
 by_cases h0:0≤i
 ·rw [if_pos h0] at h
  by_cases h1:i < n
  ·rw [if_pos h1] at h
   have e:i.toNat = j:=Option.some.inj h
   exact ⟨by rw [seqIndex_of h0 h1,e],by omega,by omega,h1⟩
  ·rw [if_neg h1] at h;cases h
 ·rw [if_neg h0] at h
  by_cases h1:-(n:Int)≤i
  ·rw [if_pos h1] at h
   have e:(i + n).toNat = j:=Option.some.inj h
   exact ⟨by rw [seqIndex_neg (by omega) h1,e],by omega,h1,by omega⟩
  ·rw [if_neg h1] at h;cases h
theorem atI_get {α:Type} {xs:List α} {i:Int} {v:α} (h:atI xs i = some v):∃ j,seqIndex? i xs.length = some j∧xs[j]? = some v∧j < xs.length∧-(xs.length:Int)≤i∧i < xs.length:=by
 unfold atI at h
 cases e:ixN xs.length i with
 | none=>rw [e] at h;cases h
 | some j =>
  rw [e] at h
  obtain ⟨h1,h2,h3,h4⟩:=ixN_seq e
  exact ⟨j,h1,h,h2,h3,h4⟩
theorem atI_nat {α:Type} {xs:List α} {j:Nat} {v:α} (h:xs[j]? = some v):atI xs (j:Int) = some v:=by
 have hj:j < xs.length:=(List.getElem?_eq_some_iff.mp h).1
 have e:ixN xs.length (j:Int) = some j:=by
  unfold ixN
  rw [if_pos (by omega),if_pos (by omega)];simp
 unfold atI;rw [e];exact h
def PlainIx (b:Expr):Prop:=∀ o i,subscripted b false o i = operate [o,i] (getItem o i)
def IxR (X:Cx) (r:R2):Prop :=
 ∀ (value slice:Expr) (pins:List (Addr×Obj)) (s:Shared) (σ:St) (H:Hp) (x y:V) (v u:Value) (Q:VK),Inv X pins σ H s→RelV x v→RelV y u→r x y H Q →
  subscripted slice false v u = operate [v,u] (getItem v u)→wpAny (model X.prog X.w) X.A (subscriptTail value slice v u) (EP X pins σ Q) X.xe s
def MtR (X:Cx) (id:String) (r:V→List V→Hp→VK→Prop):Prop :=
 ∀ (pins:List (Addr×Obj)) (s:Shared) (σ:St) (H:Hp) (x:V) (xs:List V) (v:Value) (us:List Value) (Q:VK),Inv X pins σ H s→RelV x v→Vals xs us→r x xs H Q →
  wpAny (model X.prog X.w) X.A (call (.builtin id) (v::us)) (EP X pins σ Q) X.xe s
section
variable {X:Cx} {a b:Expr} {ta tb:TE} {pos:Pos}
theorem pe_ix {r:R2} (hr:IxR X r) (ha:PE X a ta) (hb:PE X b tb) (hs:PlainIx b):PE X (.Subscript a b pos) (tOp r ta tb):=by
 intro pins s σ H Q I h
 exact Subscript_ (binT ha hb I h fun v u s2 x y H2 I2 rx ry q=>hr a b pins s2 σ H2 x y v u Q I2 rx ry q (hs _ _))
def rIxL (K:PySem.W.Frag):R2:=fun x y H Q=>∃ p xs i v,x = .ref p∧y = .int i∧SqL K H p xs∧atI xs i = some v∧Q v H
def rIxT (K:PySem.W.Frag):R2:=fun x y H Q=>∃ p xs i v,x = .ref p∧y = .int i∧SqT K H p xs∧atI xs i = some v∧Q v H
def rIxS:R2:=fun x y H Q=>∃ z i c,x = .str z∧y = .int i∧z.length≤sizeLine∧atI z.cps.toList i = some c∧Q (.str ⟨#[c]⟩) H
theorem ix_list:IxR X (rIxL X.K):=by
 intro value slice pins s σ H x y v u Q I rx ry h hs
 obtain ⟨p,xs,i,z,rfl,rfl,hq,he,q⟩:=h
 cases rx
 obtain ⟨t,rfl⟩:=ry
 obtain ⟨its,r,pl,hz⟩:=I.list hq
 obtain ⟨j,h1,h2,h3,h4,h5⟩:=atI_get he
 obtain ⟨w,ew,rw'⟩:=r.get h2
 have hl:=r.length
 have hn:=line63
 have fin:EP X pins σ Q w s:=⟨z,H,I,rw',q⟩
 by_cases h0:0≤i
 ·have hj:i.toNat = j:=by
   rw [seqIndex_of h0 h5] at h1
   exact Option.some.inj h1
  exact item_listR pl.isList h0 (by omega) (by rw [hj];simpa using ew) fin hs
 ·have hj:(i + (its.toArray.size:Int)).toNat = j:=by
   rw [seqIndex_neg (by omega) h4] at h1
   rw [List.size_toArray,← hl]
   exact Option.some.inj h1
  exact subscriptTail_builtinR (x:=w) pl.isList.typeIs slot_list_getitem.lookup
   (wpAny_getItem_list_neg (Q:=fun r s'=>r = w∧EP X pins σ Q r s') pl.isList (by omega) (by rw [List.size_toArray] <;> omega) (by omega) (by rw [hj];simpa using ew) ⟨rfl,fin⟩) hs
theorem ix_tup:IxR X (rIxT X.K):=by
 intro value slice pins s σ H x y v u Q I rx ry h hs
 obtain ⟨p,xs,i,z,rfl,rfl,hq,he,q⟩:=h
 cases rx
 obtain ⟨t,rfl⟩:=ry
 obtain ⟨its,r,pl,hz⟩:=I.tuple hq
 obtain ⟨j,h1,h2,h3,h4,h5⟩:=atI_get he
 obtain ⟨w,ew,rw'⟩:=r.get h2
 have hl:=r.length
 have hn:=line63
 have fin:EP X pins σ Q w s:=⟨z,H,I,rw',q⟩
 exact subscriptTail_builtinR (x:=w) pl.typeIs slot_tuple_getitem.lookup
  (getItem_tuple (j:=j) (Q:=fun r s'=>r = w∧EP X pins σ Q r s') pl (by omega) (by omega) (by rw [List.size_toArray,← hl];exact h1) (by simpa using ew) ⟨rfl,fin⟩) hs
theorem ix_str:IxR X rIxS:=by
 intro value slice pins s σ H x y v u Q I rx ry h hs
 obtain ⟨z,i,c,rfl,rfl,hz,he,q⟩:=h
 obtain ⟨t,rfl⟩:=rx
 obtain ⟨t',rfl⟩:=ry
 obtain ⟨j,h1,h2,h3,h4,h5⟩:=atI_get he
 have hl:z.cps.toList.length = z.length:=by simp [Str.length]
 rw [hl] at h1 h4 h5
 have hn:=line63
 exact tail_any (typeIs_str s z t) slot_str_getitem.lookup (getItem_str (c:=c) (by
  have e1:decide (i < -(2 ^ 63:Int)) = false:=decide_eq_false (by omega)
  have e2:decide (i ≥ 2 ^ 63) = false:=decide_eq_false (by omega)
  rw [e1,e2,Bool.or_false]) (by rw [h1];simpa using h2) ⟨.str ⟨#[c]⟩,H,I.tok _,⟨_,rfl⟩,q⟩) hs
theorem mapSeq_set (its:List Value) (n j:Nat) (u:Value):Obj.mapSeq (·.setIfInBounds j u) { cls:=.type "list",data:=.seq its.toArray n } = { cls:=.type "list",data:=.seq (its.set j u).toArray n }:=by
 simp [Obj.mapSeq]
theorem Inv.lst {pins:List (Addr×Obj)} {σ:St} {H:Hp} {s:Shared} {p:Addr} {xs:List V} (I:Inv X pins σ H s) (h:H p = some (.lst xs)) :
  ∃ (its:List Value) (n:Nat),Vals xs its∧s.heap.get? p = some { cls:=.type "list",data:=.seq its.toArray n }∧xs.length≤sizeLine:=by
 obtain ⟨z,its,n,r,e⟩:=I.hok p _ h
 exact ⟨its,n,r,e,z⟩
theorem Inv.lstUpd {pins:List (Addr×Obj)} {σ:St} {H:Hp} {s:Shared} {p:Addr} {xs ys:List V} {its its':List Value} {n n':Nat} {f:Obj→Obj} (I:Inv X pins σ H s) (h:H p = some (.lst xs))
  (ho:s.heap.get? p = some { cls:=.type "list",data:=.seq its.toArray n }) (hf:f { cls:=.type "list",data:=.seq its.toArray n } = { cls:=.type "list",data:=.seq its'.toArray n' }) (r:Vals ys its') (hz:ys.length≤sizeLine) (t:Nat) :
  Inv X pins σ (upd H p (.lst ys)) { s with heap:=s.heap.update p f,toks:=t }:=by
 have e:(s.heap.update p f).get? p = some { cls:=.type "list",data:=.seq its'.toArray n' }:=by
  rw [Heap.get?_update_self f ho (by rw [hf] <;> rfl),hf]
 refine I.write (x:=p) (e:=p) (by rw [h];trivial) (.inl rfl) (fun b u hb q=>(Heap.get?_update_other _ _ (Ne.symm hb)).trans q) ⟨_,e⟩ ?_
 exact ⟨hz,its',n',r,e⟩
def rSetL:V→V→V→Hp→(Hp→Prop)→Prop:=fun o i v H Q=>∃ p xs k j,o = .ref p∧i = .int k∧H p = some (.lst xs)∧ixN xs.length k = some j∧Q (upd H p (.lst (xs.set j v)))
theorem set_list:PSet X rSetL:=by
 intro pins s σ H o i v ov iv u Q I ro ri rv h
 obtain ⟨p,xs,k,j,rfl,rfl,hp,hj,q⟩:=h
 cases ro
 obtain ⟨t,rfl⟩:=ri
 obtain ⟨its,n,r,ho,hz⟩:=I.lst hp
 obtain ⟨h1,h2,h3,h4⟩:=ixN_seq hj
 have hl:=r.length
 have hn:=line63
 have I':Inv X pins σ (upd H p (.lst (xs.set j v))) { s with heap:=s.heap.update p (Obj.mapSeq (·.setIfInBounds j u)) } :=
  I.lstUpd hp ho (mapSeq_set its n j u) (r.set rv j) (by rw [List.length_set];exact hz) s.toks
 by_cases h0:0≤k
 ·have hk:k.toNat = j:=by
   rw [seqIndex_of h0 h4] at h1
   exact Option.some.inj h1
  exact PySem.W.ki_setAt ho h0 (by omega) (by rw [List.size_toArray,← hl];exact h4) (by rw [hk];exact ⟨_,I',q⟩)
 ·have hk:(k + (its.toArray.size:Int)).toNat = j:=by
   rw [seqIndex_neg (by omega) h3] at h1
   rw [List.size_toArray,← hl]
   exact Option.some.inj h1
  exact PySem.W.ki_setBack ho (by omega) (by rw [List.size_toArray,← hl];exact h3) (by omega) (by rw [hk];exact ⟨_,I',q⟩)
theorem slice_bounds (lo hi:Option Int) (n:Nat):(sliceBounds lo hi none n).1 = ((HT.sIx n 0 lo:Nat):Int)∧(sliceBounds lo hi none n).2.1 = ((HT.sIx n n hi:Nat):Int)∧(sliceBounds lo hi none n).2.2 = 1:=by
 refine ⟨?_,?_,rfl⟩
 ·cases lo with
  | none=>simp [sliceBounds,HT.sIx]
  | some i =>
   simp only [sliceBounds,HT.sIx,Option.getD_none,show (1:Int) > 0 by decide,if_true]
   by_cases h:i < 0
   ·simp only [h,if_true] <;> omega
   ·simp only [h,if_false] <;> omega
 ·cases hi with
  | none=>simp [sliceBounds,HT.sIx]
  | some i =>
   simp only [sliceBounds,HT.sIx,Option.getD_none,show (1:Int) > 0 by decide,if_true]
   by_cases h:i < 0
   ·simp only [h,if_true] <;> omega
   ·simp only [h,if_false] <;> omega
theorem slicePick_cut (its:List Value) (lo hi:Option Int):slicePick its.toArray lo hi none = ((its.drop (HT.sIx its.length 0 lo)).take (HT.sIx its.length its.length hi - HT.sIx its.length 0 lo)).toArray:=by
 obtain ⟨h1,h2,h3⟩:=slice_bounds lo hi its.toArray.size
 unfold slicePick
 rw [h1,h2,h3]
 simp only [sliceRange_one,pick_run,List.size_toArray] <;> rfl
def rSlL (K:PySem.W.Frag):V→Option Int→Option Int→Hp→VK→Prop:=fun x lo hi H Q=>∃ a xs,x = .ref a∧SqL K H a xs∧∀ p,H p = none→Q (.ref p) (upd H p (.lst (cutV xs lo hi)))
theorem sl_list:SlR X (rSlL X.K):=by
 intro pins s σ H x v vl vu lo hi sl Q I rx hs pl pu h
 obtain ⟨a,xs,rfl,hx,q⟩:=h
 cases rx
 obtain ⟨its,r,ht,hz⟩:=I.list hx
 have hlen:=r.length
 refine ⟨"list",_,slot_list_getitem.lookup,ht.isList.typeIs,?_⟩
 refine wpAny_getItem_list_slice ht.isList hs pl pu .none (by simp) ?_ (by rw [List.size_toArray] <;> omega)
 rw [slicePick_cut,← hlen]
 refine ⟨.ref s.heap.objs.size,_,I.laid (t':=s.toks) (o:=.lst (cutV xs lo hi)) (fun b ob q=>Heap.get?_push_of_some _ q) (Nat.le_refl _) ?_,rfl,q _ (I.hok.fresh (Nat.le_refl _))⟩
 exact ⟨Nat.le_trans (cutV_length xs lo hi) hz,_,0,(r.drop (HT.sIx xs.length 0 lo)).take (HT.sIx xs.length xs.length hi - HT.sIx xs.length 0 lo),Heap.get?_push_size _ rfl⟩
def flatV:V→Bool
 | .non=>true
 | .bl _=>true
 | .int _=>true
 | .str _=>true
 | _=>false
def eqV:V→V→Bool
 | .non,.non=>true
 | .bl a,.bl b=>a == b
 | .bl a,.int b=>(if a then 1 else 0) == b
 | .int a,.bl b=>a == (if b then 1 else 0)
 | .int a,.int b=>a == b
 | .str a,.str b=>a == b
 | _,_=>false
theorem eqAt_V {A:Around} {s:Shared} {y x:V} {u v:Value} (ry:RelV y u) (rx:RelV x v) (fy:flatV y = true) (fx:flatV x = true):SeqAt.EqAt A s u v (eqV y x):=by
 cases y with
 | non =>
  cases ry
  cases x with
  | non=>cases rx;exact SeqAt.EqAt.same _
  | bl b=>cases rx;exact SeqAt.EqAt.none_bool b
  | int b=>obtain ⟨t,rfl⟩:=rx;exact SeqAt.EqAt.none_int b t
  | str b=>obtain ⟨t,rfl⟩:=rx;exact SeqAt.EqAt.none_str b t
  | _=>exact absurd (show false = true from fx) Bool.false_ne_true
 | bl a =>
  cases ry
  cases x with
  | non=>cases rx;exact SeqAt.EqAt.bool_none a
  | bl b=>cases rx;exact SeqAt.EqAt.bool_bool a b
  | int b=>obtain ⟨t,rfl⟩:=rx;exact SeqAt.EqAt.bool_int a b t
  | str b=>obtain ⟨t,rfl⟩:=rx;exact SeqAt.EqAt.bool_str a b t
  | _=>exact absurd (show false = true from fx) Bool.false_ne_true
 | int a =>
  obtain ⟨t',rfl⟩:=ry
  cases x with
  | non=>cases rx;exact SeqAt.EqAt.int_none a t'
  | bl b=>cases rx;exact SeqAt.EqAt.int_bool a t' b
  | int b=>obtain ⟨t,rfl⟩:=rx;exact SeqAt.EqAt.int_int a t' b t
  | str b=>obtain ⟨t,rfl⟩:=rx;exact SeqAt.EqAt.int_str a t' b t
  | _=>exact absurd (show false = true from fx) Bool.false_ne_true
 | str a =>
  obtain ⟨t',rfl⟩:=ry
  cases x with
  | non=>cases rx;exact SeqAt.EqAt.str_none a t'
  | bl b=>cases rx;exact SeqAt.EqAt.str_bool a t' b
  | int b=>obtain ⟨t,rfl⟩:=rx;exact SeqAt.EqAt.str_int a t' b t
  | str b=>obtain ⟨t,rfl⟩:=rx;exact SeqAt.EqAt.str_str a t' b t
  | _=>exact absurd (show false = true from fx) Bool.false_ne_true
 | _=>exact absurd (show false = true from fy) Bool.false_ne_true
def eqU (x:V) (u:Value):Bool:=match u with
 | .none=>eqV .non x
 | .bool b=>eqV (.bl b) x
 | .int i _=>eqV (.int i) x
 | .str z _=>eqV (.str z) x
 | _=>false
theorem eqU_of {x y:V} {u:Value} (r:RelV y u) (f:flatV y = true):eqU x u = eqV y x:=by
 cases y with
 | non=>cases r;rfl
 | bl b=>cases r;rfl
 | int i=>obtain ⟨t,rfl⟩:=r;rfl
 | str z=>obtain ⟨t,rfl⟩:=r;rfl
 | _=>exact absurd (show false = true from f) Bool.false_ne_true
theorem any_eqU {x:V}:∀ {xs:List V} {us:List Value},Vals xs us→xs.all flatV = true→us.any (eqU x) = xs.any fun y=>eqV y x
 | _,_,.nil,_=>rfl
 | y::xs,u::us,.cons r t,f=>by
  rw [List.all_cons,Bool.and_eq_true] at f
  rw [List.any_cons,List.any_cons,eqU_of r f.1,any_eqU t f.2]
theorem mem_eqAt {A:Around} {s:Shared} {x:V} {v:Value} (rx:RelV x v) (fx:flatV x = true):∀ {xs:List V} {us:List Value},Vals xs us→xs.all flatV = true→∀ u∈us,SeqAt.EqAt A s u v (eqU x u)
 | _,_,.nil,_=>fun u hu=>by cases hu
 | y::xs,u::us,.cons r t,f=>fun u' hu=>by
  rw [List.all_cons,Bool.and_eq_true] at f
  rcases List.mem_cons.mp hu with rfl | hu
  ·rw [eqU_of r f.1];exact eqAt_V r rx f.1 fx
  ·exact mem_eqAt rx fx t f.2 u' hu
def inV (x:V) (xs:List V):Bool:=xs.any fun y=>eqV y x
def rIn (K:PySem.W.Frag) (neg:Bool):R2:=fun x y H Q=>∃ p xs,y = .ref p∧(SqL K H p xs∨SqT K H p xs)∧flatV x = true∧xs.all flatV = true∧Q (.bl (if neg then !inV x xs else inV x xs)) H
theorem op_in_seq:OpR X (compareOp .In) (rIn X.K false):=by
 intro pins s σ H x y v u Q I rx ry h
 obtain ⟨p,xs,rfl,hq,fx,fs,q⟩:=h
 cases ry
 rcases hq with hq | hq
 ·obtain ⟨its,r,pl,hz⟩:=I.list hq
  refine SeqAt.in_listAt (eqU x) pl.isList (fun w hw=>mem_eqAt rx fx r fs w (by simpa using hw)) ⟨.bl _,H,I,rfl,?_⟩
  rw [show its.toArray.any (eqU x) = its.any (eqU x) by simp,any_eqU r fs]
  exact q
 ·obtain ⟨its,r,pl,hz⟩:=I.tuple hq
  refine SeqAt.in_tupleAt (eqU x) pl (fun w hw=>mem_eqAt rx fx r fs w (by simpa using hw)) ⟨.bl _,H,I,rfl,?_⟩
  rw [show its.toArray.any (eqU x) = its.any (eqU x) by simp,any_eqU r fs]
  exact q
theorem op_notIn_seq:OpR X (compareOp .NotIn) (rIn X.K true):=by
 intro pins s σ H x y v u Q I rx ry h
 obtain ⟨p,xs,rfl,hq,fx,fs,q⟩:=h
 cases ry
 rcases hq with hq | hq
 ·obtain ⟨its,r,pl,hz⟩:=I.list hq
  refine SeqAt.notIn_listAt (eqU x) pl.isList (fun w hw=>mem_eqAt rx fx r fs w (by simpa using hw)) ⟨.bl _,H,I,rfl,?_⟩
  rw [show its.toArray.any (eqU x) = its.any (eqU x) by simp,any_eqU r fs]
  exact q
 ·obtain ⟨its,r,pl,hz⟩:=I.tuple hq
  refine SeqAt.notIn_tupleAt (eqU x) pl (fun w hw=>mem_eqAt rx fx r fs w (by simpa using hw)) ⟨.bl _,H,I,rfl,?_⟩
  rw [show its.toArray.any (eqU x) = its.any (eqU x) by simp,any_eqU r fs]
  exact q
theorem call_len_seq:CallR X (.builtin "len") (fun xs H Q=>∃ p ys,xs = [.ref p]∧(SqL X.K H p ys∨SqT X.K H p ys)∧Q (.int ys.length) H):=by
 intro pins s σ H xs us Q I r h
 obtain ⟨p,ys,rfl,hq,q⟩:=h
 obtain ⟨u,rfl,rx⟩:=vals1 r
 cases rx
 have hn:=line63
 rcases hq with hq | hq
 ·obtain ⟨its,r',pl,hz⟩:=I.list hq
  have hlen:=r'.length
  exact Calls.call_len_list pl.isList (by simp only [List.size_toArray] <;> omega) ⟨.int ys.length,H,I.tok _,⟨s.toks + 1,by rw [List.size_toArray,hlen]⟩,q⟩
 ·obtain ⟨its,r',pl,hz⟩:=I.tuple hq
  have hlen:=r'.length
  exact len_tuple pl (by simp only [List.size_toArray] <;> omega) ⟨.int ys.length,H,I.tok _,⟨s.toks + 1,by rw [List.size_toArray,hlen]⟩,q⟩
theorem call_len_str:CallR X (.builtin "len") (fun xs H Q=>∃ z,xs = [.str z]∧z.length≤sizeLine∧Q (.int z.length) H):=by
 intro pins s σ H xs us Q I r h
 obtain ⟨z,rfl,hz,q⟩:=h
 obtain ⟨u,rfl,t,rfl⟩:=vals1 r
 have hn:=line63
 exact len_str (by omega) ⟨.int z.length,H,I.tok _,⟨_,rfl⟩,q⟩
theorem call_list_of:CallR X (.type "list") (fun xs H Q=>∃ p ys,xs = [.ref p]∧(SqL X.K H p ys∨SqT X.K H p ys)∧∀ l,H l = none→Q (.ref l) (upd H l (.lst ys))):=by
 intro pins s σ H xs us Q I r h
 obtain ⟨p,ys,rfl,hq,q⟩:=h
 obtain ⟨u,rfl,rx⟩:=vals1 r
 cases rx
 have fin:∀ (its:List Value),Vals ys its→ys.length≤sizeLine→∀ (h':Heap) (c':Nat),(∀ b o',s.heap.get? b = some o'→h'.get? b = some o') →
   h'.get? s.heap.objs.size = some { cls:=.type "list",dict:=none,data:=.seq its.toArray c',slots:=#[] }→EP X pins σ Q (.ref s.heap.objs.size) { s with heap:=h' }:=fun its r' hz h' c' kp e =>
  ⟨.ref s.heap.objs.size,_,I.laid (t':=s.toks) kp (Nat.le_refl _) (show ObjOk X.prog X.w _ h' _ (.lst ys) from ⟨hz,its,c',r',e⟩),rfl,q _ (I.hok.fresh (Nat.le_refl _))⟩
 rcases hq with hq | hq
 ·obtain ⟨its,r',pl,hz⟩:=I.list hq
  have hlen:=r'.length
  obtain ⟨o,ho,hc,n,hd⟩:=pl.isList
  exact call_list_seq p (.inl rfl) ho hc hd (fun h' c' kp e=>fin its r' hz h' c' kp e) (by simp only [List.size_toArray] <;> omega)
 ·obtain ⟨its,r',pl,hz⟩:=I.tuple hq
  have hlen:=r'.length
  obtain ⟨o,ho,hc,n,hd⟩:=pl
  exact call_list_seq p (.inr rfl) ho hc hd (fun h' c' kp e=>fin its r' hz h' c' kp e) (by simp only [List.size_toArray] <;> omega)
theorem call_tuple_of:CallR X (.type "tuple") (fun xs H Q=>∃ p ys,xs = [.ref p]∧((SqL X.K H p ys∧∀ l,H l = none→Q (.ref l) (upd H l (.tup ys)))∨(SqT X.K H p ys∧Q (.ref p) H))):=by
 intro pins s σ H xs us Q I r h
 obtain ⟨p,ys,rfl,h⟩:=h
 obtain ⟨u,rfl,rx⟩:=vals1 r
 cases rx
 rcases h with ⟨hq,q⟩ | ⟨hq,q⟩
 ·obtain ⟨its,r',pl,hz⟩:=I.list hq
  have hlen:=r'.length
  refine call_tuple_list pl.isList (fun h' kp=>?_) (by simp only [List.size_toArray] <;> omega)
  have I1:Inv X pins σ H { s with heap:=h' }:=I.kept (t':=s.toks) kp
  have I2:Inv X pins σ (upd H h'.objs.size (.tup ys)) { s with heap:=h'.push { cls:=.type "tuple",data:=.seq its.toArray } } :=
   I1.laid (t':=s.toks) (fun b o e=>Heap.get?_push_of_some _ e) (Nat.le_refl _) (show ObjOk X.prog X.w _ _ _ (.tup ys) from ⟨hz,its,r',IsTup.new _ _⟩)
  exact ⟨.ref h'.objs.size,_,I2,rfl,q _ (I1.hok.fresh (Nat.le_refl _))⟩
 ·obtain ⟨its,r',pl,hz⟩:=I.tuple hq
  exact call_tuple_same pl ⟨.ref p,H,I,rfl,q⟩
def tyV (K:PySem.W.Frag) (T:String) (x:V) (H:Hp):Prop:=match x with
 | .str _=>T = "str"
 | .int _=>T = "int"
 | .ref p=>(T = "list"∧∃ xs,SqL K H p xs)∨(T = "tuple"∧∃ o,K.lookup p = some o∧o.cls = .type "tuple"∧o.dict = none) ∨
   (T = "dict"∧((∃ kvs,H p = some (.dK kvs))∨∃ kvs,H p = some (.dT kvs)))∨(T = "set"∧∃ S n,H p = some (.set S n))
 | _=>False
theorem tyV_is {pins:List (Addr×Obj)} {σ:St} {H:Hp} {s:Shared} {T:String} {x:V} {v:Value} (I:Inv X pins σ H s) (r:RelV x v) (ty:tyV X.K T x H) :
  s.TypeIs v T∧∀ a,v = .ref a→∃ ob,s.heap.get? a = some ob∧ob.dict = none:=by
 cases x with
 | str z =>
  obtain ⟨t,rfl⟩:=r
  cases (show T = "str" from ty)
  exact ⟨typeIs_str s z t,fun _ e=>nomatch e⟩
 | int i =>
  obtain ⟨t,rfl⟩:=r
  cases (show T = "int" from ty)
  exact ⟨typeIs_int s i t,fun _ e=>nomatch e⟩
 | ref p =>
  cases r
  rcases ty with ⟨rfl,xs,hq⟩ | ⟨rfl,o,hk,hc,hd⟩ | ⟨rfl,hk⟩ | ⟨rfl,S,n,hk⟩
  ·obtain ⟨its,_,pl,_⟩:=I.list hq
   refine ⟨pl.isList.typeIs,fun a e=>?_⟩
   cases e
   obtain ⟨o,n,e,c,hd,_⟩:=pl
   exact ⟨o,e,hd⟩
  ·refine ⟨⟨o,I.kIn p o hk,hc⟩,fun a e=>?_⟩
   cases e
   exact ⟨o,I.kIn _ o hk,hd⟩
  ·have z:∃ o,s.heap.get? p = some o∧o.ExactDict:=by
    rcases hk with ⟨kvs,hk⟩ | ⟨kvs,hk⟩
    ·obtain ⟨_,_,_,_,o,_,_,e,ex,_⟩:=I.hok p _ hk
     exact ⟨o,e,ex⟩
    ·obtain ⟨_,_,_,_,o,_,_,e,ex,_⟩:=I.hok p _ hk
     exact ⟨o,e,ex⟩
   obtain ⟨o,e,ex⟩:=z
   refine ⟨⟨o,e,ex.1⟩,fun a e2=>?_⟩
   cases e2
   exact ⟨o,e,ex.2.1⟩
  ·obtain ⟨o,_,_,_,e,ex,_⟩:=I.hok p _ hk
   refine ⟨⟨o,e,ex.1⟩,fun a e2=>?_⟩
   cases e2
   exact ⟨o,e,ex.2.1⟩
 | _=>exact False.elim ty
def tBM (K:PySem.W.Frag) (T:String) (r:V→List V→Hp→VK→Prop) (to:TE) (t:TA):TE:=fun σ H Q=>to σ H fun x H1=>tyV K T x H1∧t σ H1 fun xs H2=>r x xs H2 Q
variable {o e:Expr} {es:List Expr} {to:TE} {t:TA} {name:Str} {apos cpos:Pos} {T id:String} {r:V→List V→Hp→VK→Prop}
theorem pe_bm (pa:PlainAttrs T) (slot:Slot T name id) (hty:typeOf (.builtin id) = pure (.type "method_descriptor")) (hm:MtR X id r) (ho:PE X o to) (ha:PA X (e::es) t)
  (hbase:attributeBase o name X.env (eval o X.env) = eval o X.env:=by rfl)
  (hfew:((backTo cpos (starEach (e::es) X.env)).all (fun x=>!x.1) && (backToKw cpos (keywordEach [] X.env)).all (fun x=>x.1.isSome)
   && decide ((e::es).length + ([]:List Keyword).length + (if ([]:List Keyword).isEmpty then 0 else 1) < 30)) = true:=by rfl)
  (hline:(apos.endLine == cpos.line) = true:=by rfl) (hs:starEach (e::es) X.env = (false,eval e X.env)::starEach es X.env:=by rfl) (hplain:(backTo cpos (starEach es X.env)).any (·.1) = false:=by rfl) :
  PE X (.Call (.Attribute o name apos) (e::es) [] cpos) (tBM X.K T r to t):=by
 intro pins s σ H Q I h
 refine wpAny_Call_method_late hbase hfew hline rfl (thn (ho pins s σ H _ I h) fun v s1 ⟨x,H1,I1,r1,ty,q1⟩=>?_)
 obtain ⟨h1,h2⟩:=tyV_is I1 r1 ty
 refine ⟨T,id,pa,slot,hty,h1,h2,?_⟩
 have hA:=ha cpos pins s1 σ H1 _ I1 q1
 rw [hs] at hA ⊢
 refine Calls.callWith_builtin (by show (false || (backTo cpos (starEach es X.env)).any (·.1)) = false;rw [hplain] <;> rfl) (Calls.evalArgs_plain ?_)
 exact thn hA fun us s2 ⟨vs,H2,I2,r2,q2⟩=>hm pins s2 σ H2 x vs v us Q I2 r1 r2 q2
end
end L2
namespace L2
open PySem PySem.Spec PyProof.Rows
def MtM (X:Cx) (id:String) (r:V→List V→Hp→VK→Prop):Prop :=
 ∀ (pins:List (Addr×Obj)) (s:Shared) (σ:St) (H:Hp) (x:V) (xs:List V) (v:Value) (us:List Value) (Q:VK),Inv X pins σ H s→RelV x v→Vals xs us→r x xs H Q →
  wpAny (model X.prog X.w) X.A (call (.builtin id) (v::us)) (EP X pins σ Q) X.xe s
theorem Vals.one:∀ {x:V} {us:List Value},Vals [x] us→∃ u,us = [u]∧RelV x u
 | _,_,.cons r .nil=>⟨_,rfl,r⟩
theorem Vals.two:∀ {x y:V} {us:List Value},Vals [x,y] us→∃ u v,us = [u,v]∧RelV x u∧RelV y v
 | _,_,_,.cons r (.cons q .nil)=>⟨_,_,rfl,r,q⟩
theorem Vals.zero:∀ {us:List Value},Vals [] us→us = []
 | _,.nil=>rfl
theorem Vals.eraseIdx:∀ {xs:List V} {us:List Value} (i:Nat),Vals xs us→Vals (xs.eraseIdx i) (us.eraseIdx i)
 | _,_,_,.nil=>.nil
 | _,_,0,.cons _ t=>t
 | _,_,i + 1,.cons r t=>.cons r (Vals.eraseIdx i t)
theorem Vals.rep {xs:List V} {us:List Value} (h:Vals xs us):∀ k:Nat,Vals (List.replicate k xs).flatten (List.replicate k us).flatten
 | 0=>.nil
 | k + 1=>by
  rw [List.replicate_succ,List.replicate_succ,List.flatten_cons,List.flatten_cons]
  exact Vals.append h (Vals.rep h k)
theorem len_erase {α:Type}:∀ (l:List α) (i:Nat),(l.eraseIdx i).length≤l.length
 | [],_=>Nat.le_refl _
 | _::_,0=>Nat.le_succ _
 | _::r,i + 1=>Nat.succ_le_succ (len_erase r i)
theorem foldl_rep (its:List Value):∀ (k:Nat) (acc:List Value),
  List.foldl (fun x1 x2=>x1 ++ x2) acc.toArray (List.replicate k its.toArray) = (acc ++ (List.replicate k its).flatten).toArray
 | 0,acc=>by simp
 | k + 1,acc=>by
  have e:acc.toArray ++ its.toArray = (acc ++ its).toArray:=by simp
  have e2:(acc ++ its) ++ (List.replicate k its).flatten = acc ++ (List.replicate (k + 1) its).flatten:=by
   rw [List.replicate_succ,List.flatten_cons,List.append_assoc]
  rw [← e2,← foldl_rep its k (acc ++ its),← e,List.replicate_succ,List.foldl_cons]
section
variable {X:Cx} {pins:List (Addr×Obj)} {σ:St} {H:Hp} {s:Shared} {l b:Addr} {xs ys zs:List V}
theorem Inv.lset {its its':List Value} {n:Nat} {f:Array Value→Array Value} {t':Nat} (I:Inv X pins σ H s) (hH:H l = some (.lst xs))
  (e:s.heap.get? l = some { cls:=.type "list",data:=.seq its.toArray n }) (hf:f its.toArray = its'.toArray) (hv:Vals ys its') (hz:ys.length≤sizeLine) :
  Inv X pins σ (upd H l (.lst ys)) { s with heap:=s.heap.update l (Obj.mapSeq f),toks:=t' }:=by
 have q:=PySem.IsL.update e f
 rw [hf] at q
 refine I.write (x:=l) (e:=l) (by rw [hH];exact trivial) (.inl rfl) (fun b' u hb hu=>(Heap.get?_update_other s.heap (Obj.mapSeq f) (Ne.symm hb)).trans hu) ⟨_,q⟩ ?_
 exact ⟨hz,its',_,hv,q⟩
theorem Inv.lnew {its:List Value} {t':Nat} (I:Inv X pins σ H s) (hv:Vals ys its) (hz:ys.length≤sizeLine) :
  Inv X pins σ (upd H s.heap.objs.size (.lst ys)) { s with heap:=s.heap.push { cls:=.type "list",data:=.seq its.toArray },toks:=t' } :=
 I.laid (fun _ _ q=>Heap.get?_push_of_some _ q) (Nat.le_refl _) ⟨hz,its,0,hv,Heap.get?_push_size _ rfl⟩
theorem Inv.fresh (I:Inv X pins σ H s):H s.heap.objs.size = none:=I.hok.fresh (Nat.le_refl _)
theorem Inv.lstM (I:Inv X pins σ H s) (hH:H l = some (.lst xs)):xs.length≤sizeLine∧∃ (its:List Value) (n:Nat),Vals xs its∧xs.length = its.length∧s.heap.get? l = some { cls:=.type "list",data:=.seq its.toArray n }:=by
 obtain ⟨z,its,n,r,e⟩:=I.hok l _ hH
 exact ⟨z,its,n,r,r.length,e⟩
theorem notLongL {n:Nat} (h:n≤sizeLine):Builtin.List.listTooLong n = false:=by
 unfold Builtin.List.listTooLong
 exact decide_eq_false (by omega)
end
section
variable {X:Cx}
def rAppend:V→List V→Hp→VK→Prop:=fun x vs H Q=>∃ l xs y,x = .ref l∧vs = [y]∧H l = some (.lst xs)∧xs.length < sizeLine∧Q .non (upd H l (.lst (xs ++ [y])))
theorem mt_append:MtM X "list.append" rAppend:=by
 intro pins s σ H x vs v us Q I rx rv h
 obtain ⟨l,xs,y,rfl,rfl,hH,hz,q⟩:=h
 cases rx
 obtain ⟨u,rfl,ru⟩:=rv.one
 obtain ⟨z,its,n,r,hl,e⟩:=I.lstM hH
 refine call_meets F.slot_list_append ⟨_,e,rfl⟩ F.entry_list_append (F.args_list_append_2 _ _) (PySem.list_append l its.toArray n u (by rw [List.size_toArray];omega)) ⟨e,?_⟩
 refine ⟨.non,_,I.lset (its':=its ++ [u]) hH e (by simp) (r.append (.cons ru .nil)) ?_,rfl,q⟩
 rw [List.length_append,List.length_singleton]
 omega
def rPopAt:V→List V→Hp→VK→Prop:=fun x vs H Q=>∃ l xs i k y,x = .ref l∧vs = [.int i]∧H l = some (.lst xs)∧-(2 ^ 63)≤i∧i < 2 ^ 63∧seqIndex? i xs.length = some k∧xs[k]? = some y∧Q y (upd H l (.lst (xs.eraseIdx k)))
theorem mt_popAt:MtM X "list.pop" rPopAt:=by
 intro pins s σ H x vs v us Q I rx rv h
 obtain ⟨l,xs,i,k,y,rfl,rfl,hH,h1,h2,hk,hy,q⟩:=h
 cases rx
 obtain ⟨u,rfl,ru⟩:=rv.one
 obtain ⟨t,rfl⟩:=ru
 obtain ⟨z,its,n,r,hl,e⟩:=I.lstM hH
 obtain ⟨w,hw,rw'⟩:=r.get hy
 refine call_meets F.slot_list_pop ⟨_,e,rfl⟩ F.entry_list_pop (F.args_list_pop_2 _ _)
  (MeetsSeq.list_pop_at l its.toArray n i t k w (fitsIndex_both h1 h2) (by rw [List.size_toArray,← hl];exact hk) (by rw [← Array.getElem?_toList];exact hw) (by rw [List.size_toArray];omega)) ⟨e,?_⟩
 refine ⟨y,_,I.lset (its':=its.eraseIdx k) hH e ?_ (r.eraseIdx k) ?_,rw',q⟩
 ·show its.toArray.eraseIdxIfInBounds k = (its.eraseIdx k).toArray
  rw [List.eraseIdxIfInBounds_toArray]
 ·have:=len_erase xs k
  omega
def rCat:R2:=fun x y H Q=>∃ l b xs zs,x = .ref l∧y = .ref b∧H l = some (.lst xs)∧H b = some (.lst zs)∧xs.length + zs.length≤sizeLine∧∀ p,H p = none→Q (.ref p) (upd H p (.lst (xs ++ zs)))
theorem op_cat:OpR X (binaryOp .Add) rCat:=by
 intro pins s σ H x y v u Q I rx ry h
 obtain ⟨l,b,xs,zs,rfl,rfl,hH,hB,hz,q⟩:=h
 cases rx
 cases ry
 obtain ⟨z,its,n,r,hl,e⟩:=I.lstM hH
 obtain ⟨z2,its2,n2,r2,hl2,e2⟩:=I.lstM hB
 refine PySem.P.add_list e e2 ?_ (by rw [List.size_toArray,List.size_toArray];omega)
 have ea:its.toArray ++ its2.toArray = (its ++ its2).toArray:=by simp
 rw [ea]
 exact ⟨.ref _,_,I.lnew (t':=s.toks) (r.append r2) (by rw [List.length_append];omega),rfl,q _ I.fresh⟩
def rRep:R2:=fun x y H Q=>∃ l k xs,x = .ref l∧y = .int k∧H l = some (.lst xs)∧-(2 ^ 63)≤k∧k < 2 ^ 63∧xs.length * k.toNat≤sizeLine ∧
 ∀ p,H p = none→Q (.ref p) (upd H p (.lst (List.replicate k.toNat xs).flatten))
theorem len_rep {α:Type} (xs:List α) (k:Nat):(List.replicate k xs).flatten.length = k * xs.length:=by
 induction k with
 | zero=>simp
 | succ k ih=>rw [List.replicate_succ,List.flatten_cons,List.length_append,ih,Nat.succ_mul,Nat.add_comm]
theorem op_rep:OpR X (binaryOp .Mult) rRep:=by
 intro pins s σ H x y v u Q I rx ry h
 obtain ⟨l,k,xs,rfl,rfl,hH,h1,h2,hz,q⟩:=h
 cases rx
 obtain ⟨t,rfl⟩:=ry
 obtain ⟨z,its,n,r,hl,e⟩:=I.lstM hH
 have hlen:its.toArray.size * k.toNat≤sizeLine:=by rw [List.size_toArray,← hl];exact hz
 have hcap:¬ its.toArray.size * k.toNat > (2 ^ 63 - 1) / 8:=by
  have:(sizeLine:Nat)≤(2 ^ 63 - 1) / 8:=by decide
  omega
 have hfit:¬ (!Builtin.List.listFitsIndex k) = true:=by
  rw [fitsIndex_both h1 h2]
  exact Bool.false_ne_true
 have hlong:¬ Builtin.List.listTooLong (its.toArray.size * k.toNat) = true:=by
  rw [notLongL hlen]
  exact Bool.false_ne_true
 have hnew:List.foldl (fun x1 x2=>x1 ++ x2) #[] (List.replicate (if its.toArray.isEmpty = true then 0 else k.toNat) its.toArray) = (List.replicate k.toNat its).flatten.toArray:=by
  have f0:∀ m:Nat,List.foldl (fun x1 x2=>x1 ++ x2) #[] (List.replicate m its.toArray) = (List.replicate m its).flatten.toArray:=fun m=>by
   have:=foldl_rep its m []
   rw [List.nil_append] at this
   exact this
  rw [f0]
  cases its with
  | nil=>simp
  | cons a r'=>rw [if_neg (by simp)]
 refine wpAny_binaryOp_repeat_ref (T:="list") (U:="int") (by decide) ⟨_,e,rfl⟩ (fun s'=>typeIs_int s' k t) noFill_list_mul F.fills_int_mul F.slot_int_rmul repeat_list F.slot_int_index.lookup
  (call_meets F.slot_int_rmul (typeIs_int s k t) F.entry_int_rmul (F.args_int_rmul_2 _ _) (int___rmul___int_list k t l its.toArray n)
   ⟨e,rfl,⟨_,e,rfl⟩,call_meets F.slot_list_mul ⟨_,e,rfl⟩ F.entry_list_mul (F.args_list_mul_2 _ _) (AutoListH.list___mul___list_int_3 l its.toArray n k t hfit hcap hlong) ⟨e,?_⟩⟩)
 rw [hnew]
 exact ⟨.ref _,_,I.lnew (t':=s.toks) (r.rep k.toNat) (by rw [len_rep,Nat.mul_comm];exact hz),rfl,q _ I.fresh⟩
end
section
variable {prog:Program} {w:World} {A:Around} {E:Value→Shared→Prop} {s:Shared}
set_option maxRecDepth 100000 in
end
section
variable {X:Cx}
end
end L2
namespace L2
open PySem PySem.Spec PyProof.Rows
section
variable {κ:Type} [DecidableEq κ]
def valV (kvs:List (κ×V)) (k:κ):Option V:=(kvs.find? fun kv=>decide (kv.1 = k)).map (·.2)
def putK (kvs:List (κ×V)) (k:κ) (v:V):List (κ×V) :=
 if (kvs.any fun kv=>decide (kv.1 = k)) = true then kvs.map (fun kv=>if kv.1 = k then (kv.1,v) else kv) else kvs ++ [(k,v)]
theorem valV_pos {p:κ×V} {r:List (κ×V)} {k:κ} (e:p.1 = k):valV (p::r) k = some p.2:=by simp [valV,List.find?_cons,e]
theorem valV_neg {p:κ×V} {r:List (κ×V)} {k:κ} (e:¬ p.1 = k):valV (p::r) k = valV r k:=by simp [valV,List.find?_cons,e]
theorem valV_any (k:κ):∀ kvs:List (κ×V),(kvs.any fun kv=>decide (kv.1 = k)) = (valV kvs k).isSome
 | []=>rfl
 | p::r=>by
  rw [List.any_cons]
  by_cases e:p.1 = k
  ·simp only [valV_pos e,decide_eq_true e,Bool.true_or,Option.isSome_some]
  ·rw [valV_neg e,decide_eq_false e,Bool.false_or];exact valV_any k r
theorem length_putK (kvs:List (κ×V)) (k:κ) (v:V):(putK kvs k v).length≤kvs.length + 1:=by
 unfold putK
 split
 ·rw [List.length_map];omega
 ·rw [List.length_append,List.length_cons,List.length_nil];omega
theorem RelO.isSome_eq {o:Option V} {u:Option Value} (r:RelO o u):o.isSome = u.isSome:=by
 cases o with
 | none=>cases u with
  | none=>rfl
  | some _=>exact (show False from r).elim
 | some _=>cases u with
  | none=>exact (show False from r).elim
  | some _=>rfl
theorem RelO.getD {o:Option V} {u:Option Value} {d:V} {d':Value} (r:RelO o u) (rd:RelV d d'):RelV (o.getD d) (u.getD d'):=by
 cases o with
 | none=>cases u with
  | none=>exact rd
  | some _=>exact (show False from r).elim
 | some _=>cases u with
  | none=>exact (show False from r).elim
  | some _=>exact r
theorem KV.val {kvs:List (κ×V)} {vs:List (κ×Value)} (r:KV kvs vs) (k:κ):RelO (valV kvs k) (valueAt vs k):=by
 unfold KV at r
 induction r with
 | nil=>exact True.intro
 | @cons p q ps qs h t ih =>
  obtain ⟨h1,h2⟩:=h
  by_cases e:p.1 = k
  ·have e':q.1 = k:=h1.symm.trans e
   have b:valueAt (q::qs) k = some q.2:=by simp [valueAt,List.find?_cons,e']
   rw [valV_pos e,b];exact h2
  ·have e':¬ q.1 = k:=fun z=>e (h1.trans z)
   have b:valueAt (q::qs) k = valueAt qs k:=by simp [valueAt,List.find?_cons,e']
   rw [valV_neg e,b];exact ih
theorem KV.any {kvs:List (κ×V)} {vs:List (κ×Value)} (r:KV kvs vs) (k:κ):(kvs.any fun kv=>decide (kv.1 = k)) = vs.any fun kv=>decide (kv.1 = k):=by
 unfold KV at r
 induction r with
 | nil=>rfl
 | cons h t ih=>rw [List.any_cons,List.any_cons,ih,h.1]
theorem KV.repl {kvs:List (κ×V)} {vs:List (κ×Value)} (r:KV kvs vs) (k:κ) {y:V} {u:Value} (ry:RelV y u) :
  KV (kvs.map fun kv=>if kv.1 = k then (kv.1,y) else kv) (vs.map fun kv=>if kv.1 = k then (kv.1,u) else kv):=by
 unfold KV at r ⊢
 induction r with
 | nil=>exact .nil
 | @cons p q ps qs h t ih =>
  rw [List.map_cons,List.map_cons]
  refine .cons ?_ ih
  obtain ⟨h1,h2⟩:=h
  by_cases e:p.1 = k
  ·rw [if_pos e,if_pos (h1.symm.trans e)];exact ⟨h1,ry⟩
  ·rw [if_neg e,if_neg (fun z=>e (h1.trans z))];exact ⟨h1,h2⟩
theorem KV.put {kvs:List (κ×V)} {vs:List (κ×Value)} (r:KV kvs vs) (k:κ) {y:V} {u:Value} (ry:RelV y u):KV (putK kvs k y) (stored vs k u):=by
 unfold putK stored
 rw [r.any k]
 by_cases e:(vs.any fun kv=>decide (kv.1 = k)) = true
 ·rw [if_pos e,if_pos e];exact r.repl k ry
 ·rw [if_neg e,if_neg e];exact Paired.snoc r ⟨rfl,ry⟩
theorem KV.length {kvs:List (κ×V)} {vs:List (κ×Value)} (r:KV kvs vs):kvs.length = vs.length:=Paired.length r
end
theorem kV_is {P:Program} {w:World} {k:Key} {u:Value} (r:RelV (kV k) u):(mixKind P w).is k u = true:=by
 cases k with
 | inl i=>obtain ⟨t,e⟩:=(show ∃ t,u = Value.int i t from r);subst e;exact mixKind_int P w i t
 | inr x=>obtain ⟨t,e⟩:=(show ∃ t,u = Value.str x t from r);subst e;exact mixKind_str P w x t
theorem items_are {P:Program} {w:World}:∀ {ks:List Key} {us:List Value},Vals (ks.map kV) us→ItemsAre (mixKind P w) ks us
 | [],_,r=>by rw [List.map_nil] at r;cases r;exact .nil
 | k::ks,_,r=>by
  rw [List.map_cons] at r
  cases r with
  | cons h t=>exact .cons (kV_is h) (items_are t)
abbrev KT (H:Hp):List (List Key×V)→List (List Key×Addr×Value)→Prop:=Paired fun p q=>p.1 = q.1∧H q.2.1 = some (.tup (p.1.map kV))∧RelV p.2 q.2.2
theorem KT.val {H:Hp} {kvs:List (List Key×V)} {xs:List (List Key×Addr×Value)} (r:KT H kvs xs) (k:List Key):RelO (valV kvs k) ((atKey xs k).map (·.2)):=by
 induction r with
 | nil=>exact True.intro
 | @cons p q ps qs h t ih =>
  obtain ⟨h1,_,h2⟩:=h
  by_cases e:p.1 = k
  ·have e':q.1 = k:=h1.symm.trans e
   have b:atKey (q::qs) k = some q.2:=by simp [atKey,List.find?_cons,e']
   rw [valV_pos e,b];exact h2
  ·have e':¬ q.1 = k:=fun z=>e (h1.trans z)
   have b:atKey (q::qs) k = atKey qs k:=by simp [atKey,List.find?_cons,e']
   rw [valV_neg e,b];exact ih
theorem KT.repl {H:Hp} {kvs:List (List Key×V)} {xs:List (List Key×Addr×Value)} (r:KT H kvs xs) (k:List Key) {y:V} {u:Value} (ry:RelV y u) :
  KT H (kvs.map fun kv=>if kv.1 = k then (kv.1,y) else kv) (xs.map (putAt k u)):=by
 induction r with
 | nil=>exact .nil
 | @cons p q ps qs h t ih =>
  rw [List.map_cons,List.map_cons]
  refine .cons ?_ ih
  obtain ⟨h1,h2,h3⟩:=h
  unfold putAt
  by_cases e:p.1 = k
  ·rw [if_pos e,if_pos (h1.symm.trans e)];exact ⟨h1,h2,ry⟩
  ·rw [if_neg e,if_neg (fun z=>e (h1.trans z))];exact ⟨h1,h2,h3⟩
theorem KT.put {H:Hp} {kvs:List (List Key×V)} {xs:List (List Key×Addr×Value)} (r:KT H kvs xs) (k:List Key) {b:Addr} {y:V} {u:Value} (hb:H b = some (.tup (k.map kV))) (ry:RelV y u) :
  KT H (putK kvs k y) (storedH xs k b u):=by
 have e:(kvs.any fun kv=>decide (kv.1 = k)) = (atKey xs k).isSome:=by
  rw [valV_any,(r.val k).isSome_eq,Option.isSome_map]
 unfold putK storedH
 rw [e]
 by_cases q:(atKey xs k).isSome = true
 ·rw [if_pos q,if_pos q];exact r.repl k ry
 ·rw [if_neg q,if_neg q];exact Paired.snoc r ⟨rfl,hb,ry⟩
theorem KT.keeps {H H':Hp} {kvs:List (List Key×V)} {xs:List (List Key×Addr×Value)} (r:KT H kvs xs) (ht:∀ b ys,H b = some (.tup ys)→H' b = some (.tup ys)):KT H' kvs xs :=
 Paired.mapP r fun _ _ z=>⟨z.1,ht _ _ z.2.1,z.2.2⟩
section
variable {P:Program} {w:World} {H:Hp} {h:Heap} {a:Addr}
theorem rd_of {u:HO} (ok:HOk P w H h) (e:Rd H a u):ObjOk P w H h a u:=e.ok ok
theorem dk_rd {kvs:List (Key×V)} (ok:HOk P w H h) (e:Rd H a (.dK kvs)):kvs.length≤sizeLine∧(a == sysModules) = false∧∃ vs,KV kvs vs∧h.DictOf (mixKind P w) a vs :=
 show ObjOk P w H h a (.dK kvs) from rd_of ok e
theorem dk_of {kvs:List (Key×V)} (ok:HOk P w H h) (e:H a = some (.dK kvs)):kvs.length≤sizeLine∧(a == sysModules) = false∧∃ vs,KV kvs vs∧h.DictOf (mixKind P w) a vs:=dk_rd ok (.inl e)
theorem key_of {ks:List Key} (ok:HOk P w H h) (e:H a = some (.tup (ks.map kV))):(tupleKind (mixKind P w)).is h ks a:=by
 obtain ⟨_,its,r,o,h1,h2,n,h3⟩:=(show ObjOk P w H h a (.tup (ks.map kV)) from ok a _ e)
 exact ⟨o,its.toArray,n,h1,h2,h3,by simpa using items_are r⟩
theorem dt_rd {kvs:List (List Key×V)} (ok:HOk P w H h) (e:Rd H a (.dT kvs)):kvs.length≤sizeLine∧(a == sysModules) = false ∧
  ∃ xs,KT H kvs xs∧h.DictOfH (tupleKind (mixKind P w)) a xs:=by
 obtain ⟨z,y,xs,r,o,es,ep,h1,h2,h3,h4,h5⟩:=(show ObjOk P w H h a (.dT kvs) from rd_of ok e)
 refine ⟨z,y,xs,r,o,es,ep,h1,h2,h3,h4,fun x hx=>?_,h5⟩
 have all:∀ {l:List (List Key×V)} {m:List (List Key×Addr×Value)},KT H l m→∀ x∈m,(tupleKind (mixKind P w)).is h x.1 x.2.1:=by
  intro l m q
  induction q with
  | nil=>intro x hx;exact nomatch hx
  | @cons p q ps qs hq t ih =>
   intro x hx
   rcases List.mem_cons.mp hx with e | hx
   ·subst e
    exact key_of ok (by rw [← hq.1];exact hq.2.1)
   ·exact ih x hx
 exact all r x hx
theorem dt_of {kvs:List (List Key×V)} (ok:HOk P w H h) (e:H a = some (.dT kvs)):kvs.length≤sizeLine∧(a == sysModules) = false ∧
  ∃ xs,KT H kvs xs∧h.DictOfH (tupleKind (mixKind P w)) a xs:=dt_rd ok (.inl e)
end
def DGet (H:Hp) (a:Addr) (y:V) (r:Option V):Prop :=
 (∃ kvs k,Rd H a (.dK kvs)∧y = kV k∧r = valV kvs k)∨∃ kvs k b,Rd H a (.dT kvs)∧y = .ref b∧H b = some (.tup (k.map kV))∧r = valV kvs k
def DPut (H:Hp) (a:Addr) (y v:V) (H':Hp):Prop :=
 (∃ kvs k,H a = some (.dK kvs)∧y = kV k∧kvs.length < sizeLine∧H' = upd H a (.dK (putK kvs k v))) ∨
 ∃ kvs k b,H a = some (.dT kvs)∧y = .ref b∧H b = some (.tup (k.map kV))∧kvs.length < sizeLine∧H' = upd H a (.dT (putK kvs k v))
theorem DGet.k {H:Hp} {a:Addr} {kvs:List (Key×V)} {k:Key} (e:H a = some (.dK kvs)):DGet H a (kV k) (valV kvs k):=.inl ⟨kvs,k,.inl e,rfl,rfl⟩
theorem DPut.k {H:Hp} {a:Addr} {kvs:List (Key×V)} {k:Key} {v:V} (e:H a = some (.dK kvs)) (hl:kvs.length < sizeLine):DPut H a (kV k) v (upd H a (.dK (putK kvs k v))):=.inl ⟨kvs,k,e,rfl,hl,rfl⟩
section
variable {X:Cx} {pins:List (Addr×Obj)} {σ:St} {H:Hp} {s:Shared} {a:Addr} {y v:V} {u r:Value} {o:Option V} {A:Around} {E:Value→Shared→Prop}
theorem Inv.big (I:Inv X pins σ H s):sysModules < s.heap.objs.size:=by
 have h:mainGlobals < s.heap.objs.size:=(I.mod.glob.keeps I.bk).lt
 exact Nat.lt_trans (by decide) h
theorem d_getItem {Q:Value→Shared→Prop} (hu:A.units + 1 < cLine) (I:Inv X pins σ H s) (g:DGet H a y (some v)) (ry:RelV y u) (h:∀ w' s',Inv X pins σ H s'→RelV v w'→Q w' s') :
  wpAny (model X.prog X.w) A (getItem (.ref a) u) Q E s:=by
 rcases g with ⟨kvs,k,e,ey,l⟩ | ⟨kvs,k,b,e,ey,eb,l⟩
 ·subst ey
  obtain ⟨z,hd,vs,rel,dd⟩:=dk_rd I.hok e
  obtain ⟨w',hw,rw'⟩:=RelO.some_of (v:=v) (o:=valueAt vs k) (by rw [l];exact rel.val k)
  exact wpAny_getItem_of (kV_is ry) dd.mapOf hw (h w' _ (I.tok _) rw')
 ·subst ey
  cases (show u = Value.ref b from ry)
  obtain ⟨z,hd,xs,rel,dd⟩:=dt_rd I.hok e
  obtain ⟨w',hw,rw'⟩:=RelO.some_of (v:=v) (o:=(atKey xs k).map (·.2)) (by rw [l];exact rel.val k)
  obtain ⟨p,hp,hp2⟩:=Option.map_eq_some_iff.mp hw
  refine wpAny_getItem_heap (tupleKind_room_in1 hu) (key_of I.hok eb) dd hp ?_
  rw [hp2]
  exact h w' _ (I.tok _) rw'
theorem d_in {Q:Value→Shared→Prop} (hu:A.units + 1 < cLine) (I:Inv X pins σ H s) (g:DGet H a y o) (ry:RelV y u) (h:∀ s',Inv X pins σ H s'→Q (.bool o.isSome) s') :
  wpAny (model X.prog X.w) A (compareOp .In u (.ref a)) Q E s:=by
 rcases g with ⟨kvs,k,e,ey,l⟩ | ⟨kvs,k,b,e,ey,eb,l⟩
 ·subst ey
  obtain ⟨z,hd,vs,rel,dd⟩:=dk_rd I.hok e
  refine wpAny_in_of (kV_is ry) hd dd.mapOf ?_
  rw [← (rel.val k).isSome_eq,← l]
  exact h _ (I.tok _)
 ·subst ey
  cases (show u = Value.ref b from ry)
  obtain ⟨z,hd,xs,rel,dd⟩:=dt_rd I.hok e
  refine wpAny_in_heap (tupleKind_room_in1 hu) (key_of I.hok eb) hd dd ?_
  have q:=(rel.val k).isSome_eq
  rw [Option.isSome_map] at q
  rw [← q,← l]
  exact h _ (I.tok _)
theorem d_notIn {Q:Value→Shared→Prop} (hu:A.units + 1 < cLine) (I:Inv X pins σ H s) (g:DGet H a y o) (ry:RelV y u) (h:∀ s',Inv X pins σ H s'→Q (.bool (!o.isSome)) s') :
  wpAny (model X.prog X.w) A (compareOp .NotIn u (.ref a)) Q E s:=by
 rcases g with ⟨kvs,k,e,ey,l⟩ | ⟨kvs,k,b,e,ey,eb,l⟩
 ·subst ey
  obtain ⟨z,hd,vs,rel,dd⟩:=dk_rd I.hok e
  refine wpAny_notIn_of (kV_is ry) hd dd.mapOf ?_
  rw [← (rel.val k).isSome_eq,← l]
  exact h _ (I.tok _)
 ·subst ey
  cases (show u = Value.ref b from ry)
  obtain ⟨z,hd,xs,rel,dd⟩:=dt_rd I.hok e
  refine wpAny_notIn_heap (tupleKind_room_in1 hu) (key_of I.hok eb) hd dd ?_
  have q:=(rel.val k).isSome_eq
  rw [Option.isSome_map] at q
  rw [← q,← l]
  exact h _ (I.tok _)
theorem d_write {h':Heap} {t':Nat} {ob:HO} (I:Inv X pins σ H s) (mu:Mut (H a)) (hs:Heap.SameBut a s.heap h') (he:∃ q,h'.get? a = some q) (new:ObjOk X.prog X.w (upd H a ob) h' a ob) :
  Inv X pins σ (upd H a ob) { s with heap:=h',toks:=t' } :=
 I.write (x:=a) (e:=a) mu (.inl rfl) (fun b q hb z=>(hs.2 b hb).trans z) he new
theorem dk_new {P:Program} {w:World} {H':Hp} {h':Heap} {kvs:List (Key×V)} {vs:List (Key×Value)} (z:kvs.length≤sizeLine) (hd:(a == sysModules) = false) (rel:KV kvs vs) (dd:h'.DictOf (mixKind P w) a vs) :
  ObjOk P w H' h' a (.dK kvs):=⟨z,hd,vs,rel,dd⟩
theorem d_setItem {H':Hp} {Q:Unit→Shared→Prop} (hu:A.units + 1 < cLine) (I:Inv X pins σ H s) (g:DPut H a y v H') (ry:RelV y u) (rv:RelV v r) (h:∀ s',Inv X pins σ H' s'→Q () s') :
  wpAny (model X.prog X.w) A (setItem (.ref a) u r) Q E s:=by
 rcases g with ⟨kvs,k,e,ey,l,eH⟩ | ⟨kvs,k,b,e,ey,eb,l,eH⟩
 ·subst ey eH
  obtain ⟨z,hd,vs,rel,dd⟩:=dk_of I.hok e
  have hz:vs.length≤sizeLine:=by rw [← rel.length];exact z
  have hl:(putK kvs k v).length≤sizeLine:=by have:=length_putK kvs k v;omega
  refine wpAny_setItem_pairs (hsz:=hz) (kV_is ry) dd fun h' dd' hs=>h _ ?_
  have he:∃ q,h'.get? a = some q:=let ⟨q,_,_,hq,_⟩:=dd';⟨q,hq⟩
  exact d_write I (by rw [e];exact True.intro) hs he (dk_new hl hd (rel.put k rv) dd')
 ·subst ey eH
  cases (show u = Value.ref b from ry)
  obtain ⟨z,hd,xs,rel,dd⟩:=dt_of I.hok e
  have hz:xs.length≤sizeLine:=by rw [← Paired.length rel];exact z
  have hl:(putK kvs k v).length≤sizeLine:=by have:=length_putK kvs k v;omega
  refine wpAny_setItem_heap (hsz:=hz) (tupleKind_room_in1 hu) (key_of I.hok eb) dd fun h' dd' hs=>h _ ?_
  obtain ⟨q,es,ep,hq,h2,h3,h4,_,h5⟩:=dd'
  refine d_write I (by rw [e];exact True.intro) hs ⟨q,hq⟩ ⟨hl,hd,_,(rel.put k eb rv).keeps fun c ys ec=>?_,q,es,ep,hq,h2,h3,h4,h5⟩
  rw [upd_ne (ne_of ec e (fun z=>nomatch z))]
  exact ec
end
section
variable {X:Cx} {pins:List (Addr×Obj)} {σ:St} {H:Hp} {s:Shared} {a:Addr} {kvs:List (Key×V)} {k:Key} {u:Value} {A:Around} {E:Value→Shared→Prop}
theorem d_len {Q:Value→Shared→Prop} (I:Inv X pins σ H s) (e:Rd H a (.dK kvs)) (h:∀ t s',Inv X pins σ H s'→Q (.int kvs.length t) s'):wpAny (model X.prog X.w) A (call (.builtin "len") [.ref a]) Q E s:=by
 obtain ⟨z,hd,vs,rel,dd⟩:=dk_rd I.hok e
 refine call_len_dict hd dd (by rw [← rel.length];rw [sizeLine_eq] at z;omega) ?_
 rw [← rel.length]
 exact h _ _ (I.tok _)
end
def NoSl (i:Expr):Prop:=∀ ov iv,subscripted i false ov iv = operate [ov,iv] (getItem ov iv)
theorem subD_of {prog:Program} {w:World} {A:Around} {E:Value→Shared→Prop} {s:Shared} {env:Env} {value slice:Expr} {pos:Pos} {T id:String} {Q:Value→Shared→Prop}
  (hl:typeLookup (.type T) "__getitem__" = pure (some (.builtin id))) (hs:NoSl slice)
  (h:wpAny (model prog w) A (eval value env) (fun o s₁=>wpAny (model prog w) A (eval slice env) (fun i s₂=>s₂.TypeIs o T∧wpAny (model prog w) A (getItem o i) Q E s₂) E s₁) E s) :
  wpAny (model prog w) A (eval (.Subscript value slice pos) env) Q E s:=by
 refine Subscript_ (wpAny_mono h (fun o s₁ h₁=>wpAny_mono h₁ (fun i s₂ h₂=>?_) fun _ _ x=>x) fun _ _ x=>x)
 obtain ⟨hT,h₂⟩:=h₂
 unfold subscriptTail
 refine wpAny_bind ?_
 rw [getitemInPython_of_ne hT.not_modules]
 refine wpAny_bind (wpAny_specialOf hT hl ?_)
 have fin:wpAny (model prog w) A (subscripted slice false o i) (fun r s₃=>wpAny (model prog w) A (letTemporaryGo value o r >>= fun _=>pure r) Q E s₃) E s₂:=by
  rw [hs o i]
  exact wpAny_operating (wpAny_mono h₂ (fun r s₃ h₃=>wpAny_bind (wpAny_letTemporaryGo (wpAny_pure h₃))) fun _ _ x=>x)
 first
  | exact wpAny_pure (wpAny_bind fin)
  | exact wpAny_bind (wpAny_pure (wpAny_bind fin))
  | exact wpAny_bind fin
theorem dict_typeIs {X:Cx} {pins:List (Addr×Obj)} {σ:St} {H:Hp} {s:Shared} {a:Addr} {y:V} {o:Option V} (I:Inv X pins σ H s) (g:DGet H a y o):s.TypeIs (.ref a) "dict":=by
 rcases g with ⟨kvs,k,e,_,_⟩ | ⟨kvs,k,b,e,_,_,_⟩
 ·obtain ⟨_,_,vs,_,dd⟩:=dk_rd I.hok e
  exact dd.typeIs
 ·obtain ⟨_,_,xs,_,dd⟩:=dt_rd I.hok e
  exact dd.typeIs
def tDGet (td ty:TE):TE:=fun σ H Q=>td σ H fun x H1=>ty σ H1 fun y H2=>∃ a v,x = .ref a∧DGet H2 a y (some v)∧Q v H2
def sDPut (td ty tv:TE):TS:=fun D σ H=>tv σ H fun v H1=>td σ H1 fun x H2=>ty σ H2 fun y H3=>∃ a H4,x = .ref a∧DPut H3 a y v H4∧D.nx σ H4
section
variable {X:Cx} {o i e value:Expr} {pos pos' tpos:Pos} {td ty tv:TE}
theorem pe_dget (hu:X.A.units + 1 < cLine) (ho:PE X o td) (hi:PE X i ty) (hs:NoSl i):PE X (.Subscript o i pos) (tDGet td ty):=by
 intro pins s σ H Q I h
 refine subD_of PySem.F.slot_dict_getitem.lookup hs (thn (ho pins s σ H _ I h) fun u s1 ⟨x,H1,I1,rx,q1⟩=>thn (hi pins s1 σ H1 _ I1 q1) fun iv s2 ⟨y,H2,I2,ry,a,v,ex,g,q2⟩=>?_)
 subst ex
 obtain rfl:u = Value.ref a:=rx
 exact ⟨dict_typeIs I2 g,d_getItem hu I2 g ry fun w' s3 I3 rw'=>⟨v,H2,I3,rw',q2⟩⟩
theorem ps_dput (hu:X.A.units + 1 < cLine) (ho:PE X o td) (hi:PE X i ty) (hv:PE X value tv) (hs:swapsWith value (some (.Subscript o i pos')) pos.line X.env = pure false) :
  PS X (.Assign [.Subscript o i pos'] value pos) (sDPut td ty tv):=by
 intro pins s σ H D I h
 refine wpAny_Assign_Subscript (thn (hv pins s σ H _ I h) fun r s1 ⟨v,H1,I1,rv,q1⟩=>thn (ho pins s1 σ H1 _ I1 q1) fun u s2 ⟨x,H2,I2,rx,q2⟩=>thn (hi pins s2 σ H2 _ I2 q2) fun iv s3 ⟨y,H3,I3,ry,a,H4,ex,g,q3⟩=>?_) hs
 subst ex
 obtain rfl:u = Value.ref a:=rx
 exact d_setItem hu I3 g ry rv fun s4 I4=>⟨σ,H4,I4,q3⟩
end
theorem dk_empty {P:Program} {w:World} {H:Hp} (h:Heap) (hb:sysModules < h.objs.size):ObjOk P w H (h.push { cls:=.type "dict",data:=.dict #[] }) h.objs.size (.dK []) :=
 ⟨Nat.zero_le _,beq_eq_false_iff_ne.mpr (Ne.symm (Nat.ne_of_lt hb)),[],.nil,Heap.DictOf.new h⟩
def tDNewK:TE:=fun _ H Q=>∀ p,H p = none→Q (.ref p) (upd H p (.dK []))
section
variable {X:Cx} {pos:Pos}
theorem pe_dnewK:PE X (.Dict [] [] pos) tDNewK:=fun pins s σ H Q I h =>
 wpAny_Dict_empty ⟨.ref s.heap.objs.size,_,I.laid (a:=s.heap.objs.size) (o:=.dK []) (t':=s.toks) (fun _ _ q=>Heap.get?_push_of_some _ q) (Nat.le_refl _) (dk_empty s.heap I.big),rfl,h _ (I.hok.fresh (Nat.le_refl _))⟩
end
structure M2 (X:Cx) (o:Expr) (m:Str) (apos:Pos) (e f:Expr) (cpos:Pos):Prop where
 base:attributeBase o m X.env (eval o X.env) = eval o X.env
 few:((backTo cpos (starEach [e,f] X.env)).all (fun x=>!x.1) && (backToKw cpos (keywordEach [] X.env)).all (fun x=>x.1.isSome)
  && decide (([e,f]:List Expr).length + ([]:List Keyword).length + (if ([]:List Keyword).isEmpty then 0 else 1) < 30)) = true
 line:(apos.endLine == cpos.line) = true
 trees:backTo cpos (starEach [e,f] X.env) = [(false,eval e X.env),(false,eval f X.env)]
def IsD (H:Hp) (a:Addr):Prop:=(∃ kvs,Rd H a (.dK kvs))∨∃ kvs,Rd H a (.dT kvs)
theorem isD_at {X:Cx} {pins:List (Addr×Obj)} {σ:St} {H:Hp} {s:Shared} {a:Addr} (I:Inv X pins σ H s) (d:IsD H a) :
  s.TypeIs (.ref a) "dict"∧(∀ b,Value.ref a = .ref b→∃ ob,s.heap.get? b = some ob∧ob.dict = none)∧(a == sysModules) = false:=by
 rcases d with ⟨kvs,e⟩ | ⟨kvs,e⟩
 ·obtain ⟨_,hd,vs,_,dd⟩:=dk_rd I.hok e
  refine ⟨dd.typeIs,fun b q=>?_,hd⟩
  cases q
  obtain ⟨ob,_,_,h1,h2,_⟩:=dd
  exact ⟨ob,h1,h2.2.1⟩
 ·obtain ⟨_,hd,xs,_,dd⟩:=dt_rd I.hok e
  refine ⟨dd.typeIs,fun b q=>?_,hd⟩
  cases q
  obtain ⟨ob,_,_,h1,h2,_⟩:=dd
  exact ⟨ob,h1,h2.2.1⟩
section
variable {X:Cx} {pins:List (Addr×Obj)} {σ:St} {H:Hp} {s:Shared} {a:Addr} {y d:V} {u r:Value} {o:Option V} {A:Around} {E:Value→Shared→Prop}
theorem d_get2 {Q:Value→Shared→Prop} (hu:A.units + 1 < cLine) (I:Inv X pins σ H s) (g:DGet H a y o) (ry:RelV y u) (rd:RelV d r) (h:∀ w' s',Inv X pins σ H s'→RelV (o.getD d) w'→Q w' s') :
  wpAny (model X.prog X.w) A (call (.builtin "dict.get") [.ref a,u,r]) Q E s:=by
 rcases g with ⟨kvs,k,e,ey,l⟩ | ⟨kvs,k,b,e,ey,eb,l⟩
 ·subst ey
  obtain ⟨z,hd,vs,rel,dd⟩:=dk_rd I.hok e
  refine call_meetsIn PySem.F.slot_dict_get dd.typeIs PySem.F.entry_dict_get (PySem.F.args_dict_get_3 _ _ _) (meets_dict_get_default (mixKind X.prog X.w) a (kV_is ry) hd r) ⟨_,dd.mapOf,h _ _ (I.tok _) ?_⟩
  rw [l]
  exact (rel.val k).getD rd
 ·subst ey
  cases (show u = Value.ref b from ry)
  obtain ⟨z,hd,xs,rel,dd⟩:=dt_rd I.hok e
  refine call_meetsIn PySem.F.slot_dict_get dd.typeIs PySem.F.entry_dict_get (PySem.F.args_dict_get_3 _ _ _) (meetsH_dict_get_default (tupleKind (mixKind X.prog X.w)) a b hd r) ⟨tupleKind_room_in1 hu,k,xs,key_of I.hok eb,dd,h _ _ (I.tok _) ?_⟩
  rw [l]
  exact (rel.val k).getD rd
end
def tDGet2 (td ty tx:TE):TE:=fun σ H Q=>td σ H fun x H1=>∃ a,x = .ref a∧IsD H1 a∧ty σ H1 fun y H2=>tx σ H2 fun z H3=>∃ o,DGet H3 a y o∧Q (o.getD z) H3
section
variable {X:Cx} {o e f:Expr} {apos cpos:Pos} {td ty tx:TE}
theorem pe_dget2 (hu:X.A.units + 1 < cLine) (ho:PE X o td) (he:PE X e ty) (hf:PE X f tx) (m:M2 X o "get" apos e f cpos):PE X (.Call (.Attribute o "get" apos) [e,f] [] cpos) (tDGet2 td ty tx):=by
 intro pins s σ H Q I h
 refine wpAny_Call_method m.base m.few m.line PySem.F.plainAttrs_dict PySem.F.slot_dict_get PySem.F.type_dict_get (thn (ho pins s σ H _ I h) fun u s1 ⟨x,H1,I1,rx,a,ex,d,q1⟩=>?_)
 subst ex
 obtain rfl:u = Value.ref a:=rx
 obtain ⟨t1,t2,_⟩:=isD_at I1 d
 refine ⟨t1,t2,?_⟩
 rw [m.trees]
 refine Calls.callWith_builtin rfl (Calls.evalArgs_plain (Calls.spliced_cons (thn (he pins s1 σ H1 _ I1 q1) fun iv s2 ⟨y,H2,I2,ry,q2⟩ =>
  Calls.spliced_cons (thn (hf pins s2 σ H2 _ I2 q2) fun fv s3 ⟨z,H3,I3,rz,ov,g,q3⟩=>Calls.spliced_nil ?_))))
 exact d_get2 hu I3 g ry rz fun w' s4 I4 rw'=>⟨_,H3,I4,rw',q3⟩
end
section
variable {X:Cx} {pins:List (Addr×Obj)} {σ:St} {H:Hp} {s:Shared} {a:Addr} {kvs:List (Key×V)} {A:Around} {E:Value→Shared→Prop}
end
section
variable {X:Cx} {pins:List (Addr×Obj)} {σ:St} {H:Hp} {s:Shared} {a:Addr} {y:V} {u:Value} {A:Around} {E:Value→Shared→Prop}
end
end L2
namespace Att
open PySem PySem.W PySem.Calls PyProof.Rows
theorem ints_of_wellAll {P:Params} {h:Heap}:∀ (ns:List Int) (vs:List Value),WellAll P h vs (ns.map WData.int)→IntsAre vs ns:=by
 intro ns
 induction ns with
 | nil =>
  intro vs w
  rw [List.map_nil] at w
  cases w
  exact .nil
 | cons n ns ih =>
  intro vs w
  rw [List.map_cons] at w
  cases w with
  | cons a b =>
   cases a
   exact .cons _ _ (ih _ b)
theorem script_of {l:OpenLaw} {n:Nat} (hn:l.most = some n) {P:Params} {h:Heap} {args:List WData} {vals:List Value}
  (hpre:l.row.toRowW.claim.pre args = true) (hwl:WellAll P h vals args) :
  ∃ a vs ns,vals = [Value.ref a]∧args = [WData.list (ns.map WData.int)]∧h.get? a = some { cls:=.type "list",data:=.seq vs.toArray }∧IntsAre vs ns∧ns.length≤n:=by
 have hsh:WShape.hasAll [] args [.list .int] = true:=(pre_splitW hpre).1
 have hc:l.pre.holds [] { args:=args } = true:=(pre_splitW hpre).2
 obtain ⟨d,r,rfl,h1,h2⟩:=hasAllW_cons hsh
 obtain rfl:=hasAllW_nil h2
 obtain ⟨xs,rfl,h3⟩:=hasW_list h1
 obtain ⟨ns,rfl⟩:=items_int h3
 have hlen:ns.length≤n:=by
  unfold OpenLaw.pre at hc
  have h4:(WTm.not (.lt (.lit (.int (n:Int))) (.len (.arg 0)))).holds [] { args:=[.list (ns.map .int)] } = true:=by
   have h4:=(holds_andW hc).1
   rw [hn] at h4
   exact h4
  have h5:=condW_of h4 (w_not (w_lt w_lit (w_len_list (w_arg rfl))))
  rw [List.length_map] at h5
  refine Nat.le_of_not_lt fun q=>?_
  have q':(n:Int) < ((ns.length:Nat):Int):=by omega
  first
   | (rw [decide_eq_true q'] at h5;exact absurd h5 (by decide))
   | (simp at h5;omega)
 cases hwl with
 | cons w1 w2 =>
  cases w2
  cases w1 with
  | list ho hall=>exact ⟨_,_,ns,rfl,rfl,ho,ints_of_wellAll ns _ hall,hlen⟩
theorem post_true (l:OpenLaw) (args:List WData):l.row.toRowW.claim.post args (.bool true) args = true :=
 postW_of (r:=l.row.toRowW) (X:=(true == true))
  (show WShape.has [] (.bool true) .bool = true by first | rfl | decide | simp [WShape.has,WShape.arms,WShape.armsAll])
  (show (WTm.eq .res (.lit (.bool true))).value [] { args:=args,res:=some (.bool true),after:=args } = some (.bool (true == true)) from w_eq_bool (w_res rfl) w_lit) rfl
theorem attach_call {l:OpenLaw} {n:Nat} {q:Program} {loose:List Str} {XP:(Str→Option Value)→Heap→Prop} {YP:World→Heap→Prop} {d:DefRec}
  (hn:l.most = some n) (hdf:d.params.defaults = [])
  (call:∀ (w:World) (s₀ s₁:Shared) (mg mb:Str→Option Value) (fa:Addr) (o:Obj) (pm cd doc:Value) (a:Addr) (vs:List Value) (ns:List Int),
   Ground q loose [] XP w s₀ mg mb s₁.heap→YP w s₁.heap →
   s₁.heap.get? fa = some o→o.data = .func (docDef d.name d.params d.body d.scope pm cd doc)→s₁.heap.CodeRec cd d.name→mg d.name = some (.ref fa) →
   s₁.heap.get? a = some { cls:=.type "list",data:=.seq vs.toArray }→IntsAre vs ns→ns.length≤n→s₁.gens = #[] →
   codeAny (model l.prog w) callerA (.call (.ref fa) ⟨[.ref a],[]⟩) (fun r s'=>r = .ok (.ret (.bool true))∧OldK s₁.heap s'.heap∧s'.os = s₁.os∧AllBare s'.gens) s₁) :
  WalkO q loose XP YP l.row.toRowW d [] (fun f vs=>PySem.call f vs):=by
 intro w s₀ s₁ mg mb G Y fa o pm cd doc dV kV ho hd hcd hD hmg hg args vals as hpre hlay hrd hwl hlo
 obtain rfl:dV = .none:=Dflts.none hD hdf
 obtain rfl:kV = .none:=Dflts.noKw hD
 obtain ⟨a,vs,ns,rfl,rfl,hobj,hints,hlen⟩:=script_of hn hpre hwl
 refine enter_call (codeAny_mono (call w s₀ s₁ mg mb fa o pm cd doc a vs ns G Y ho (fd_plain hd) hcd hmg hobj hints hlen hg) fun r s' hq=>?_)
 obtain ⟨rfl,h2,h3,h4⟩:=hq
 exact ⟨.inl ⟨.bool true,.bool true,[],rfl,fun _=>rfl,.bool true,post_true l _,fun _=>⟨List.Pairwise.nil,fun _ hm=>(nomatch hm)⟩⟩,h2,h3,h4⟩
section
variable {prog:Program} {w:World} {A:Around} {E:Value→Shared→Prop} {s:Shared} {K:Frag}
end
end Att
namespace L2
open PySem PySem.Spec PyProof.Rows
theorem vals_ints:∀ {vs:List Value} {ns:List Int},IntsAre vs ns→Vals (ns.map V.int) vs
 | _,_,.nil=>.nil
 | _,_,.cons n t h=>.cons ⟨t,rfl⟩ (vals_ints h)
def Only (H:Hp):Prop:=∀ b,H b = none∨∃ o xs,H b = some (.frz o (.lst xs))
theorem law_call {P:Program} {w:World} {K:PySem.W.Frag} {mg mb:Str→Option Value} {CX:CXT} {k:Nat} {fa a:Addr} {fd:FuncData} {x:Str} {sp:Sp} {s₁:Shared} {vs:List Value} {ns:List Int}
  (KX:K.In s₁.heap) (hns:s₁.heap.Ns mainGlobals mg) (hb:s₁.heap.Ns builtinsNs mb) (hbb:∀ x:Str,x≠"__name__"→mb x = bootBuiltins x) (hlim:s₁.heap.NoLimit) (hg:s₁.gens = #[])
  (ha:s₁.heap.get? a = some { cls:=.type "list",data:=.seq vs.toArray }) (hi:IntsAre vs ns) (hl:ns.length≤sizeLine) (hr:Room k callerA)
  (F:∀ base:Heap,K.In base→base.Ns mainGlobals mg→FnOk P w K mg base CX k fa fd [x] sp) (hbind:∀ (s:Shared) (u:Value),BindsTo s fd ⟨[u],[]⟩ [(x,u)])
  (hsp:∀ H:Hp,Only H→SqL K H a (ns.map V.int)→sp [.ref a] H (fun v _=>v = .bl true) fun _ _ _=>False)
  (hCX:∀ H e s',CX [] H s₁ (fun _ _ _=>False) e s'→False) :
  codeAny (model P w) callerA (.call (.ref fa) ⟨[.ref a],[]⟩) (fun r s'=>r = .ok (.ret (.bool true))∧OldK s₁.heap s'.heap∧s'.os = s₁.os∧AllBare s'.gens) s₁:=by
 have rv:=vals_ints hi
 have lenV:=hi.length
 have core:∀ H:Hp,Only H→SqL K H a (ns.map V.int)→HOk P w H s₁.heap→(∀ b,H b≠none→b = a)→(H a≠none→K.lookup a = none) →
   codeAny (model P w) callerA (.call (.ref fa) ⟨[.ref a],[]⟩) (fun r s'=>r = .ok (.ret (.bool true))∧OldK s₁.heap s'.heap∧s'.os = s₁.os∧AllBare s'.gens) s₁:=by
  intro H hO hS hok hA hK
  have base_of:∀ {b:Addr} {o:Obj},s₁.heap.get? b = some o→H b = none→(hidT s₁.heap H).get? b = some o:=fun e n=>hidT_get e n
  have noA:∀ {b:Addr} {o:Obj} {es:Array DictEntry} {ep:Nat},s₁.heap.get? b = some o→o.data = .dict es ep→H b = none:=fun {b o es ep} e d=>by
   cases q:H b with
   | none=>rfl
   | some u =>
    have e':b = a:=hA b (by rw [q];simp)
    subst e'
    rw [ha] at e;cases e
    have d':Data.seq vs.toArray _ = Data.dict es ep:=d
    cases d'
  have nsK:∀ {b:Addr} {m:Str→Option Value},s₁.heap.Ns b m→(hidT s₁.heap H).Ns b m:=fun {b m} ⟨o,es,ep,e,d,r⟩=>⟨o,es,ep,base_of e (noA e d),d,r⟩
  have hKb:K.In (hidT s₁.heap H):=fun b o e=>base_of (KX b o e) (by
   cases q:H b with
   | none=>rfl
   | some u =>
    have e':b = a:=hA b (by rw [q];simp)
    subst e'
    rw [hK (by rw [q];simp)] at e;cases e)
  have hM:Mod K mg (hidT s₁.heap H):=⟨hKb,nsK hns,⟨mb,nsK hb,hbb⟩,let ⟨mc,h1,h2⟩:=hlim;⟨mc,nsK h1,h2⟩⟩
  have e0:Env0 P w K mg (hidT s₁.heap H) callerA [] s₁ H:=⟨rfl,hM,fun b o e=>of_hidT e,Nat.le_of_eq (hidT_size _ _),trivial,fun b hb=>absurd (show b∈([]:List Addr) from hb) (by simp),hok,.of_eq hg⟩
  refine codeAny_mono ((F _ hKb (nsK hns)).run callerA [] s₁ H ⟨[.ref a],[]⟩ [.ref a] [.ref a] _ _ hr e0 (hbind s₁ (.ref a)) (.cons rfl .nil) (hsp H hO hS)) fun r s' h=>?_
  cases r with
  | error e=>exact (hCX H e s' h).elim
  | ok fl =>
   cases fl with
   | next=>exact False.elim h
   | brk=>exact False.elim h
   | cont=>exact False.elim h
   | ret u =>
    obtain ⟨v,H',os,bare,un,hok',r',q⟩:=h
    have q':v = .bl true:=q
    subst q'
    obtain rfl:u = Value.bool true:=r'
    refine ⟨rfl,OldK.of_keep fun b o e=>?_,os,bare⟩
    cases q:H b with
    | none=>exact un.keep b o e q (by intro z;exact absurd (show b∈([]:List Addr) from z) (by simp)) (by simp)
    | some u =>
     rcases hO b with z | ⟨ob,xs,z⟩
     ·rw [q] at z;cases z
     ·have z2:=un.frzs b ob _ z
      obtain ⟨e1,_⟩:=hok b _ z
      obtain ⟨e2,_⟩:=hok' b _ z2
      rw [e] at e1;cases e1
      exact e2
 cases hk:K.lookup a with
 | some o =>
  have e:=KX a o hk
  rw [ha] at e
  cases e
  refine core (fun _=>none) (fun _=>.inl rfl) (.inr ⟨_,vs.toArray,_,hk,rfl,rfl,rfl,by rw [List.size_toArray,lenV];exact hl,by simpa using rv⟩) (fun b u z=>by have z':(none:Option HO) = some u:=z;cases z') (fun b z=>absurd rfl z) fun z=>absurd rfl z
 | none =>
  refine core (fun b=>if b = a then some (.frz { cls:=.type "list",data:=.seq vs.toArray } (.lst (ns.map V.int))) else none) (fun b=>?_) (.inl (.inr ⟨{ cls:=.type "list",data:=.seq vs.toArray },if_pos rfl⟩)) (fun b u z=>?_) (fun b z=>?_) fun _=>hk
  ·by_cases hb:b = a
   ·exact .inr ⟨_,_,if_pos hb⟩
   ·exact .inl (if_neg hb)
  ·by_cases hb:b = a
   ·have z':=(if_pos hb).symm.trans z
    cases z'
    subst hb
    exact ⟨ha,by rw [List.length_map];exact hl,vs,_,rv,ha⟩
   ·have z':=(if_neg hb).symm.trans z
    cases z'
  ·by_cases hb:b = a
   ·exact hb
   ·exact absurd (if_neg hb) z
end L2
namespace L2
open PySem PySem.Spec PyProof.Rows
abbrev KOf {K:PySem.W.Frag} {h:Heap} (_:K.In h):PySem.W.Frag:=K
theorem walk_of {l:PySem.W.OpenLaw} {n k:Nat} {q:Program} {loose:List Str} {XP:(Str→Option Value)→Heap→Prop} {YP:World→Heap→Prop} {d:DefRec} {K:Params→PySem.W.Frag} {CX:World→CXT} {sp:World→Sp} {x:Str}
  (hn:l.most = some n) (hn2:n≤sizeLine) (hdf:d.params.defaults = []) (hr:Room k callerA)
  (hY:∀ (w:World) (h:Heap),YP w h→(K w.params).In h)
  (F:∀ (w:World) (mg:Str→Option Value) (fa:Addr) (h:Heap),(K w.params).In h→h.Ns mainGlobals mg→mg d.name = some (.ref fa) →
   ∃ fd:FuncData,(∀ (s:Shared) (u:Value),BindsTo s fd ⟨[u],[]⟩ [(x,u)]) ∧
    ∀ base:Heap,(K w.params).In base→base.Ns mainGlobals mg→FnOk l.prog w (K w.params) mg base (CX w) k fa fd [x] (sp w))
  (hsp:∀ (w:World) (H:Hp) (a:Addr) (ns:List Int),ns.length≤n→Only H→SqL (K w.params) H a (ns.map V.int)→sp w [.ref a] H (fun v _=>v = .bl true) fun _ _ _=>False)
  (hCX:∀ (w:World) (H:Hp) (s:Shared) (e:Value) (s':Shared),CX w [] H s (fun _ _ _=>False) e s'→False) :
  PySem.W.WalkO q loose XP YP l.row.toRowW d [] (fun f vs=>PySem.call f vs):=by
 refine Att.attach_call hn hdf fun w s₀ s₁ mg mb fa o pm cd doc a vs ns G Y ho hd hcd hmg hobj hints hlen hg=>?_
 have KX:=hY w _ Y
 obtain ⟨fd,hb,hF⟩:=F w mg fa _ KX G.T.g hmg
 exact law_call KX G.T.g G.T.b G.T.builtins G.T.nolimit hg hobj hints (Nat.le_trans hlen hn2) hr hF hb (fun H hO hS=>hsp w H a ns hlen hO hS) fun H e s'=>hCX w H s₁ e s'
theorem walk_ofK {l:PySem.W.OpenLaw} {n k:Nat} {q:Program} {loose:List Str} {XP:(Str→Option Value)→Heap→Prop} {YP:World→Heap→Prop} {d:DefRec} {K:Params→PySem.W.Frag} {CX:CXT} {sp:PySem.W.Frag→Sp} {x:Str}
  (hn:l.most = some n) (hn2:n≤sizeLine) (hdf:d.params.defaults = []) (hr:Room k callerA)
  (hY:∀ (w:World) (h:Heap),YP w h→(K w.params).In h)
  (F:∀ (w:World) (mg:Str→Option Value) (fa:Addr) (h:Heap),(K w.params).In h→h.Ns mainGlobals mg→mg d.name = some (.ref fa) →
   ∃ fd:FuncData,(∀ (s:Shared) (u:Value),BindsTo s fd ⟨[u],[]⟩ [(x,u)]) ∧
    ∀ base:Heap,(K w.params).In base→base.Ns mainGlobals mg→FnOk l.prog w (K w.params) mg base CX k fa fd [x] (sp (K w.params)))
  (hsp:∀ (K:PySem.W.Frag) (H:Hp) (a:Addr) (ns:List Int),ns.length≤n→Only H→SqL K H a (ns.map V.int)→sp K [.ref a] H (fun v _=>v = .bl true) fun _ _ _=>False)
  (hCX:∀ (H:Hp) (s:Shared) (e:Value) (s':Shared),CX [] H s (fun _ _ _=>False) e s'→False) :
  PySem.W.WalkO q loose XP YP l.row.toRowW d [] (fun f vs=>PySem.call f vs) :=
 walk_of (K:=K) (CX:=fun _=>CX) (sp:=fun w=>sp (K w.params)) hn hn2 hdf hr hY F (fun w H a ns h1 h2 h3=>hsp (K w.params) H a ns h1 h2 h3) fun _ H s e s'=>hCX H s e s'
end L2
namespace L2
open PySem PySem.Spec PyProof.Rows
def inClass (s:Stmt) (j:Nat):Stmt:=match s with
 | .ClassDef _ _ _ body _ _ _ _ _ _ _=>body.getD j (.Pass ⟨0,0,0,0⟩)
 | _=>.Pass ⟨0,0,0,0⟩
def defArgs (s:Stmt):Arguments:=match s with
 | .FunctionDef _ a _ _ _ _ _ _ _ _=>a
 | _=>{ posonlyargs:=[],args:=[],vararg:=none,kwonlyargs:=[],kw_defaults:=[],kwarg:=none,defaults:=[] }
def defBody (s:Stmt):List Stmt:=match s with
 | .FunctionDef _ _ b _ _ _ _ _ _ _=>b
 | _=>[]
def defScope (s:Stmt):Scope:=match s with
 | .FunctionDef _ _ _ _ _ _ sc _ _ _=>sc
 | _=>{ kind:=.function,names:=[],isGenerator:=false,isCoroutine:=false }
abbrev CX0:CXT:=fun _ _ _ _ _ _=>False
abbrev E0:XK:=fun _ _ _=>False
theorem pass0 {X:Cx}:Passes CX0 X E0:=fun _ _ _ _ _ _ _ h=>h.elim
structure Fun (K:PySem.W.Frag) (x qual:Str) (st:Stmt) (f:Addr) (fd:FuncData):Prop where
 ex:∃ (oc:Value) (od:Option Addr) (kV doc pm:Value) (an:Option Addr) (cdv ct:Value) (osl:Array (Option Value)),
  fd = PySem.W.fnOf x qual (defArgs st) (defBody st) (defScope st) .none kV doc pm an cdv ct∧K.lookup f = some ⟨oc,od,.func fd,osl⟩∧PySem.W.codeIn K cdv qual = true
 kp:PySem.W.keepIn K (.ref f) = true
section
variable {P:Program} {w:World} {K:PySem.W.Frag} {mg:Str→Option Value} {base:Heap}
theorem Fun.ok {x qual:Str} {st:Stmt} {f:Addr} {fd:FuncData} {N ps:List Str} {k:Nat} {sp:Sp} (F:Fun K x qual st f fd) (S:FnScope N ps (defScope st)) (len:∀ vs H Q E,sp vs H Q E→vs.length = ps.length)
  (hbody:∀ (cdv:Value) (A:Around) (outer:List Env) (s:Shared) (H:Hp) (vs:List V) (Q:VK) (E:XK),Room k (A.deeper (envOfC qual (defScope st) s.heap.objs.size f cdv))→sp vs H Q E →
   ∃ t,PSs (cxOf CX0 P w K mg base N qual (defScope st) f cdv A outer s H E).nox (defBody st) t∧t { nx:=fun _ H'=>Q .non H',rt:=Q } (start N vs) H):FnOk P w K mg base CX0 (k + 1) f fd ps sp:=by
 obtain ⟨oc,od,kV,doc,pm,an,cdv,ct,osl,rfl,lk,hcd⟩:=F.ex
 refine fn_of lk hcd S len fun A outer s H vs Q E hr hsp=>?_
 obtain ⟨t,h,q⟩:=hbody cdv A outer s H vs Q E hr hsp
 exact ⟨t,h.nox,q⟩
theorem Fun.binds {x qual:Str} {st:Stmt} {f:Addr} {fd:FuncData} {ps:List Str} (F:Fun K x qual st f fd)
  (h:∀ (kV doc pm:Value) (an:Option Addr) (cdv ct:Value) (us:List Value),us.length = ps.length→bindArgs (PySem.W.fnOf x qual (defArgs st) (defBody st) (defScope st) .none kV doc pm an cdv ct) ⟨us,[]⟩ = pure (ps.zip us)):Binds K fd ps []:=by
 obtain ⟨oc,od,kV,doc,pm,an,cdv,ct,osl,rfl,lk,hcd⟩:=F.ex
 exact .all (h kV doc pm an cdv ct)
theorem fun_mk {x qual:Str} {st:Stmt} {f:Addr} {oc:Value} {od an:Option Addr} {osl:Array (Option Value)} {kV doc pm cdv ct:Value} (l:K.lookup f = some ⟨oc,od,.func (PySem.W.fnOf x qual (defArgs st) (defBody st) (defScope st) .none kV doc pm an cdv ct),osl⟩)
  (c:PySem.W.codeIn K cdv qual = true) (k:PySem.W.keepIn K (.ref f) = true):Fun K x qual st f (PySem.W.fnOf x qual (defArgs st) (defBody st) (defScope st) .none kV doc pm an cdv ct):=⟨⟨oc,od,kV,doc,pm,an,cdv,ct,osl,rfl,l,c⟩,k⟩
end
section
variable {X:Cx}
theorem pv (i:Nat) {x:Str} {pos:Pos} (hN:X.N[i]? = some x:=by rfl) (hv:Vis X.env.scope x:=by first | exact Or.inl rfl | exact Or.inr (Or.inl rfl) | exact Or.inr (Or.inr rfl)) (hd:(x == ("__debug__" : Str)) = false:=by decide)
  (hcd:(x == ("__classdict__" : Str)) = false:=by decide):PE X (.Name x pos) (tVar i):=pe_var hN hv hd hcd
end
theorem iteF {A B:Prop} (h:B):if false = true then A else B:=by
 rw [if_neg Bool.false_ne_true]
 exact h
theorem iteT {A B:Prop} (h:A):if true = true then A else B:=by
 rw [if_pos rfl]
 exact h
theorem iteNS {c A B:Prop} [Decidable c] (hc:c) (h:B):if (!decide c) = true then A else B:=by
 rw [decide_eq_true hc]
 exact iteF h
def Same (H H':Hp):Prop:=∀ b o,H b = some o→H' b = some o
theorem Same.refl (H:Hp):Same H H:=fun _ _ h=>h
theorem Same.trans {H H1 H2:Hp} (a:Same H H1) (b:Same H1 H2):Same H H2:=fun c o h=>b c o (a c o h)
theorem Same.free {H H':Hp} (e:Same H H') {l:Addr} (h:H' l = Option.none):H l = Option.none:=by
 cases q:H l with
 | none=>rfl
 | some o =>
  rw [e l o q] at h
  cases h
theorem Same.seq {K:PySem.W.Frag} {H H':Hp} {a:Addr} {xs:List V} (e:Same H H') (h:SqL K H a xs):SqL K H' a xs:=by
 rcases h with (h | ⟨o,h⟩) | h
 ·exact .inl (.inl (e _ _ h))
 ·exact .inl (.inr ⟨o,e _ _ h⟩)
 ·exact .inr h
section
variable {κ:Type} [DecidableEq κ]
end
end L2
set_option maxHeartbeats 4000000
namespace L2
open PySem PySem.Spec PyProof.Rows
def compCx (X:Cx) (N':List Str) (scope:Scope) (cl:List (Str×Addr)) (C:Addr) (s:Shared) (H:Hp) (fp:List Addr):Cx :=
 { X with N:=N',s₀:=s,H₀:=H,env:=compEnvC scope cl C X.env,outer:=X.stack,stack:=X.stack,ex:=fp,fn:=fun _=>false,pn:=[],xe:=fun _ _=>False }
def AllL {α:Type} (P:α→Prop):List α→Prop
 | []=>True
 | x::r=>P x∧AllL P r
theorem AllL.mem {α:Type} {P:α→Prop}:∀ {l:List α},AllL P l→∀ x∈l,P x
 | [],_,x,hx=>by simp at hx
 | y::r,h,x,hx=>by
  rcases List.mem_cons.mp hx with e | e
  ·rw [e];exact h.1
  ·exact AllL.mem h.2 x e
theorem AllL.get {α:Type} {P:α→Prop} {l:List α} (h:AllL P l) {i:Nat} {x:α} (e:l[i]? = some x):P x:=h.mem x (List.mem_of_getElem? e)
structure FrAt (X:Cx) (scope:Scope) (cl:List (Str×Addr)) (p:Str×Nat):Prop where
 nm:X.N[p.2]? = some p.1
 kx:X.env.kindOf p.1 = some .cell∨X.env.kindOf p.1 = some .free
 kc:(relabel scope X.env).names.lookup p.1 = some .cell∨(relabel scope X.env).names.lookup p.1 = some .free
 cl:∃ c,cl.lookup p.1 = some c∧X.env.cells.lookup p.1 = some c
structure CompSc (X:Cx) (scope:Scope) (cl:List (Str×Addr)) (x:Str) (fr:List (Str×Nat)):Prop where
 clos:closureFor scope X.env = pure cl
 kind:scope.kind = .function
 nocell:∀ y∈scope.names,y.2≠.cell
 locs:∀ y∈scope.names,y.2 = .local→scope.names.lookup y.1 = some .local
 here:scope.names.lookup x = some .local
 nd:(x::fr.map (·.1)).Nodup
 sub:AllL (fun p=>X.env.cells.lookup p.1 = some p.2) cl
 has:((relabel scope X.env).names.all fun p=>!(p.2 == .cell || p.2 == .free) || (cl.lookup p.1).isSome) = true
 frs:AllL (FrAt X scope cl) fr
theorem mem_of_lk {α:Type} {x:Str} {v:α}:∀ {l:List (Str×α)},l.lookup x = some v→(x,v)∈l
 | [],h=>by simp at h
 | (y,w)::r,h=>by
  cases hx:x == y with
  | true =>
   have e:x = y:=beq_iff_eq.mp hx
   simp only [List.lookup_cons,hx] at h
   cases h
   subst e
   exact List.mem_cons_self
  | false =>
   simp only [List.lookup_cons,hx] at h
   exact List.mem_cons_of_mem _ (mem_of_lk h)
theorem CompSc.subL {X:Cx} {scope:Scope} {cl:List (Str×Addr)} {x:Str} {fr:List (Str×Nat)} (S:CompSc X scope cl x fr):∀ y c,cl.lookup y = some c→X.env.cells.lookup y = some c :=
 fun y c e=>S.sub.mem (y,c) (mem_of_lk e)
def PTs (X:Cx) (ifs:List Expr) (t:TT):Prop :=
 ∀ (pins:List (Addr×Obj)) (s:Shared) (σ:St) (H:Hp) (Q:Bool→Hp→Prop),Inv X pins σ H s→t σ H Q →
  wpAny (model X.prog X.w) X.A (forIn ifs true fun c r=>if r = true then do let ok ← isTrue c X.env (eval c X.env);pure (ForInStep.yield ok) else pure (ForInStep.yield r)) (TP X pins σ Q) X.xe s
def tYes:TT:=fun _ H Q=>Q true H
theorem pts_nil {X:Cx}:PTs X [] tYes:=fun _ _ _ H _ I h=>wpAny_tests_nil ⟨H,I,h⟩
theorem pts_one {X:Cx} {c:Expr} {t:TT} (h:PT X c t):PTs X [c] t:=fun pins s σ H Q I hw=>wpAny_tests_one (h pins s σ H Q I hw)
theorem compLoop_any {prog:Program} {w:World} {A:Around} {R:Result→Shared→Prop} {s:Shared} {elt target iter:Expr} {ifs:List Expr} {scope:Scope} {pos:Pos} {it acc:Value} {env:Env} (I:Nat→Shared→Prop)
  (turn:∀ n s,I n s→wpAny (model prog w) A (pyNext it) (fun r s₁=>match r with
   | none=>R (.ok .next) s₁
   | some v=>wpAny (model prog w) A (letOwnedTupleGo target it v) (fun _ s₁'=>wpAny (model prog w) A (assign target env v) (fun _ s₂ =>
     wpAny (model prog w) A (forIn ifs true fun c r=>if r = true then do let ok ← isTrue c env (eval c env);pure (ForInStep.yield ok) else pure (ForInStep.yield r)) (fun ok s₃ =>
      if ok = true then wpAny (model prog w) A (eval elt env) (fun x s₄ =>
       wpAny (model prog w) A (call (.builtin "list.append") [acc,x]) (fun _ s₅=>∃ m,m < n∧I m s₅) (notedBy (model prog w) A env fun e s'=>R (.error e) s') s₄) (notedBy (model prog w) A env fun e s'=>R (.error e) s') s₃
      else ∃ m,m < n∧I m s₃) (notedBy (model prog w) A env fun e s'=>R (.error e) s') s₂) (notedBy (model prog w) A env fun e s'=>R (.error e) s') s₁') (notedBy (model prog w) A env fun e s'=>R (.error e) s') s₁) (notedBy (model prog w) A env fun e s'=>R (.error e) s') s)
  (n:Nat) (h:I n s) :
  codeAny (model prog w) A (.compLoop (.ListComp elt [⟨target,iter,ifs,0⟩] scope pos) 0 it acc env) R s:=by
 refine codeAny_loop rfl I (fun n s hI=>?_) n h
 show wpAny _ A ((compTurn (.ListComp elt [⟨target,iter,ifs,0⟩] scope pos) 0 it acc env).onRaise (fun x=>do noteFrame x env;theTreesLotGoes x)) _ _ s
 refine wpAny_noted ?_
 rw [compTurn_list]
 refine wpAny_bind (wpAny_standAt (wpAny_bind (wpAny_mono (turn n s hI) (fun r s₁ h₁=>?_) fun _ _ h'=>h')))
 cases r with
 | none=>exact wpAny_pure h₁
 | some v =>
  refine wpAny_bind (wpAny_mono h₁ (fun _ s₁' h₁'=>?_) fun _ _ h'=>h')
  refine wpAny_bind (wpAny_mono h₁' (fun _ s₂ h₂=>wpAny_bind (wpAny_mono h₂ (fun ok s₃ h₃=>?_) fun _ _ h'=>h')) fun _ _ h'=>h')
  cases ok with
  | false=>exact wpAny_pure ⟨rfl,h₃⟩
  | true =>
   exact wpAny_bind (wpAny_bind (wpAny_mono h₃ (fun x s₄ h₄=>wpAny_bind (wpAny_mono h₄ (fun _ s₅ h₅=>wpAny_pure (wpAny_pure ⟨rfl,h₅⟩)) fun _ _ h'=>h')) fun _ _ h'=>h'))
def frv (fr:List (Str×Nat)) (σ:St):St:=fr.map fun p=>(σ[p.2]?).join
def tLC (wi:TI) (fr:List (Str×Nat)) (tc:TT) (te:TE):TE:=fun σ H Q=>wi σ H fun J H1=>∃ W:Nat→Nat→List V→Hp→Prop,(∃ m,W 0 m [] H1)∧∀ i m acc H,W i m acc H →
 (J.stop i H∧acc.length≤sizeLine∧∀ p,H p = none→Q (.ref p) (upd H p (.lst acc))) ∨
 (J.go i H∧∀ x H',J.yld i H x H'→tc (some x::frv fr σ) H' fun b H2=>if b = true then te (some x::frv fr σ) H2 fun v H3=>acc.length < sizeLine∧∃ m',m' < m∧W (i + 1) m' (acc ++ [v]) H3
  else ∃ m',m' < m∧W (i + 1) m' acc H2)
section
variable {X:Cx} {x:Str} {px pos:Pos} {iter elt:Expr} {ifs:List Expr} {scope:Scope} {cl:List (Str×Addr)} {wi:TI} {tc:TT} {te:TE} {fr:List (Str×Nat)}
theorem compCx_ok {pins:List (Addr×Obj)} {σ:St} {H:Hp} {s:Shared} {fp:List Addr} {C:Addr} (S:CompSc X scope cl x fr) (I:Inv X pins σ H s) (hC:s.heap.objs.size≤C)
  (hf:∀ b∈fp,FpOk X pins H b) (ho:∀ b∈fp,∃ o,s.heap.get? b = some o):(compCx X (x::fr.map (·.1)) scope cl C s H fp).Ok where
 mod:=I.ok.mod
 kind:=S.kind
 glob:=I.ok.glob
 blt:=I.ok.blt
 above:=hC
 inj:=fun y z c h1 h2=>I.ok.inj y z c (S.subL y c h1) (S.subL z c h2)
 has:=fun y hy=>by
  have all:=List.all_eq_true.mp S.has
  have go:∀ k,(k == NameKind.cell || k == NameKind.free) = true→(relabel scope X.env).names.lookup y = some k→∃ c,cl.lookup y = some c:=fun k hk e=>by
   have q:=all (y,k) (mem_of_lk e)
   have q':(!(k == NameKind.cell || k == NameKind.free) || (cl.lookup y).isSome) = true:=q
   rw [hk] at q'
   exact Option.isSome_iff_exists.mp (by simpa using q')
  rcases hy with hy | hy
  ·exact go .cell rfl hy
  ·exact go .free rfl hy
 cab:=fun y c hfn _=>by cases hfn
 hd:=I.ok.hd
 frames:=I.ok.frames
 stk:=.inl rfl
 exf:=fun b hb=>by
  obtain ⟨o,e⟩:=ho b hb
  exact ⟨Nat.ne_of_lt (Nat.lt_of_lt_of_le (Heap.lt_size e) hC),fun y c h=>(hf b hb).2.2.2.2.1 y c (S.subL y c h)⟩
 bs:=I.bs
 bsz:=Nat.le_trans I.ok.bsz I.sz
 noex:=fun b o e hb=>by
  rcases (hf b hb).2.2.2.1 with z | z
  ·exact I.ok.noex b o e z
  ·exact absurd (Nat.lt_of_lt_of_le (Heap.lt_size e) (Nat.le_trans I.ok.bsz z)) (Nat.lt_irrefl _)
 exfs:=fun b hb z=>by
  rcases List.mem_cons.mp (I.stkSub b z) with e | e
  ·exact (hf b hb).2.1 e
  ·exact (hf b hb).2.2.1 e
 funs:=I.stack
 frf:=I.stkFree
theorem compCx_inv {pins:List (Addr×Obj)} {σ:St} {H:Hp} {s s':Shared} {fp:List Addr} {C D:Addr} {oD:Obj} {m:Str→Option Value} (S:CompSc X scope cl x fr) (I:Inv X pins σ H s) (hC:s.heap.objs.size≤C)
  (hf:∀ b∈fp,FpOk X pins H b) (ho:∀ b∈fp,∃ o,s.heap.get? b = some o) (os:s'.os = s.os) (bare:AllBare s'.gens) (old:∀ b o,s.heap.get? b = some o→s'.heap.get? b = some o) (ns:s'.heap.Ns C m)
  (hD:s.heap.objs.size≤D) (hDC:D≠C) (eD:s'.heap.get? D = some oD) (dD:∀ v,oD.data≠.cell v) :
  Inv (compCx X (x::fr.map (·.1)) scope cl C s H fp) [(D,oD)] (none::frv fr σ) H s' where
 ok:=compCx_ok S I hC hf ho
 os:=os
 bare:=bare
 base:=Un.kept old
 loc:=by
  refine ⟨m,ns,fun i y v h1 h2 _=>?_⟩
  cases i with
  | zero =>
   have h2':some (none:Option V) = some (some v):=h2
   cases h2'
  | succ j =>
   have h1':(fr.map (·.1))[j]? = some y:=h1
   have h2':(frv fr σ)[j]? = some (some v):=h2
   rw [List.getElem?_map] at h1'
   unfold frv at h2'
   rw [List.getElem?_map] at h2'
   cases e:fr[j]? with
   | none=>rw [e] at h1';cases h1'
   | some p =>
    rw [e] at h1' h2'
    have ey:p.1 = y:=Option.some.inj h1'
    have ev:(σ[p.2]?).join = some v:=Option.some.inj h2'
    have ev':σ[p.2]? = some (some v):=by
     cases q:σ[p.2]? with
     | none=>rw [q] at ev;cases ev
     | some w =>
      rw [q] at ev
      have:w = some v:=ev
      rw [this]
    have F:=S.frs.get e
    obtain ⟨c,c1,c2⟩:=F.cl
    obtain ⟨m',hn',hl'⟩:=I.loc
    have vis:Vis X.env.scope p.1:=by
     rcases F.kx with k | k
     ·exact .inr (.inl k)
     ·exact .inr (.inr k)
    obtain ⟨u,r,l⟩:=hl' p.2 p.1 v F.nm ev' vis
    rcases l with ⟨k,_⟩ | ⟨k,c',e',hc'⟩
    ·rcases F.kx with k' | k' <;> · rw [k] at k';cases k'
    ·rw [c2] at e'
     cases e'
     subst ey
     refine ⟨u,r,.inr ⟨F.kc,c,c1,?_⟩⟩
     obtain ⟨oc,hoc,hd⟩:=hc'
     exact ⟨oc,old _ _ hoc,hd⟩
 cell:=fun y c e=>by
  obtain ⟨v,oc,hoc,hd⟩:=I.cell y c (S.subL y c e)
  exact ⟨v,oc,old _ _ hoc,hd⟩
 free:=I.hok.fresh hC
 freeC:=fun y c e=>I.freeC y c (S.subL y c e)
 pin:=fun p hp=>by
  have e:p = (D,oD):=by
   have:p∈([]:List (Addr×Obj)) ++ [(D,oD)]:=hp
   simpa using this
  subst e
  refine ⟨eD,I.hok.fresh hD,hDC,fun hb=>?_,dD⟩
  have hb':D∈frs X.stack:=hb
  have ok:=compCx_ok S I hC hf ho
  obtain ⟨_,o,q,_⟩:=ok.funs.mem hb
  exact absurd (Nat.lt_of_lt_of_le (Heap.lt_size q) hD) (Nat.lt_irrefl _)
 hok:=I.hok.kept old
 len:=by
  show (none::frv fr σ).length = (x::fr.map (·.1)).length
  simp [frv]
abbrev oL (its:List Value) (n:Nat):Obj:={ cls:=.type "list",data:=.seq its.toArray n }
theorem oL_nc (its:List Value) (n:Nat):∀ v,(oL its n).data≠.cell v:=fun v z=>by
 have z':Data.seq its.toArray n = Data.cell v:=z
 cases z'
theorem comp_back {pins:List (Addr×Obj)} {σ σ':St} {H H':Hp} {s s':Shared} {fp:List Addr} {C D:Addr} {its:List Value} {n:Nat} {acc:List V} {h'':Heap} (I:Inv X pins σ H s) (hC:s.heap.objs.size≤C) (hD:s.heap.objs.size≤D) (hDC:D≠C)
  (hf:∀ b∈fp,FpOk X pins H b) (J:Inv (compCx X (x::fr.map (·.1)) scope cl C s H fp) [(D,oL its n)] σ' H' s') (r:Vals acc its) (hz:acc.length≤sizeLine) (sb:Heap.SameBut C s'.heap h'') :
  Inv X pins σ (upd H' D (.lst acc)) { s' with heap:=h'' }:=by
 have pD:=J.pin (D,oL its n) (List.mem_append_right _ List.mem_cons_self)
 have nC:∀ b o,s.heap.get? b = some o→b≠C:=fun b o e=>Nat.ne_of_lt (Nat.lt_of_lt_of_le (Heap.lt_size e) hC)
 have nD:∀ b o,s.heap.get? b = some o→b≠D:=fun b o e=>Nat.ne_of_lt (Nat.lt_of_lt_of_le (Heap.lt_size e) hD)
 have HC:H' C = none:=J.free
 have HD:H D = none:=I.hok.fresh hD
 refine I.call' (ch:=fp) J.os ⟨fun b o e k hb hx=>?_,fun b o e k hb hx=>?_,fun b o e k hx=>?_,fun b o e hx=>?_,fun b xs e=>?_,fun b o u e=>?_,fun b ps e=>?_⟩ (fun b u e=>?_) J.bare fun b hb=>?_
 ·exact (sb.2 b (nC b o e)).trans (J.base.keep b o e k hb hx)
 ·obtain ⟨sl,q⟩:=J.base.slot b o e k hb hx
  exact ⟨sl,(sb.2 b (nC b o e)).trans q⟩
 ·rw [upd_ne (nD b o e)]
  exact J.base.free b o e k hx
 ·obtain ⟨o',q⟩:=J.base.there b o e hx
  exact ⟨o',(sb.2 b (nC b o e)).trans q⟩
 ·rw [upd_ne (ne_of_none e HD)]
  exact J.base.tups b xs e
 ·rw [upd_ne (ne_of_none e HD)]
  exact J.base.frzs b o u e
 ·rw [upd_ne (ne_of_none e HD)]
  exact J.base.tbls b ps e
 ·by_cases hb:b = D
  ·subst hb
   rw [upd_same] at e
   cases e
   exact ⟨hz,its,n,r,(sb.2 b hDC).trans pD.1⟩
  ·rw [upd_ne hb] at e
   refine (J.hok b u e).stay (fun c v hc q=>(sb.2 c ?_).trans q) (fun c q=>?_) fun c xs q=>?_
   ·rcases hc with z | z
    ·rw [z];exact ne_of_none e HC
    ·exact ne_of_none z HC
   ·rw [upd_ne (ne_of_none q pD.2.1)];exact q
   ·rw [upd_ne (ne_of_none q pD.2.1)];exact q
 ·exact ⟨(hf b hb).2.2.2.1,(hf b hb).2.1,(hf b hb).2.2.2.2.1,(hf b hb).2.2.2.2.2⟩
theorem pe_lcomp (hc:X.calm = true) (hi:PI X (.Name x px) iter wi) (S:CompSc X scope cl x fr)
  (ht:∀ C s H fp,PTs (compCx X (x::fr.map (·.1)) scope cl C s H fp) ifs tc) (he:∀ C s H fp,PE (compCx X (x::fr.map (·.1)) scope cl C s H fp) elt te)
  (hs:∀ v,foldedSetIterable iter X.env v = pure v:=by intro _;rfl):PE X (.ListComp elt [⟨.Name x px,iter,ifs,0⟩] scope pos) (tLC wi fr tc te):=by
 intro pins s σ H Q I h
 rw [eval_ListComp]
 refine wpAny_comprehension_free (use:=none) (cl:=cl) rfl hs S.clos S.kind S.locs (thn (hi pins s σ H _ I h) fun v s1 h1=>thn h1 fun itv s2 h2=>?_)
 obtain ⟨it,fp,tn,J,H2,e,I2,T,st2,f2,W,⟨m0,w0⟩,turn⟩:=h2
 subst e
 refine wpAny_newObj_type (wpAny_newFunctionEnv S.nocell (by intro y hy;simp at hy) (fun h₁ hns₁ hsb₁=>?_) S.kind)
 dsimp only at hns₁ hsb₁ ⊢
 generalize hHp:s2.heap.push { cls:=.type "list",dict:=none,data:=.seq ([]:List Value).toArray } = hp at hns₁ hsb₁ ⊢
 have eC:hp.objs.size = s2.heap.objs.size + 1:=by rw [← hHp,Heap.size_push]
 have hDC:s2.heap.objs.size≠hp.objs.size:=by rw [eC];exact Nat.ne_of_lt (Nat.lt_succ_self _)
 have hC:s2.heap.objs.size≤hp.objs.size:=by rw [eC];exact Nat.le_succ _
 have hD:s2.heap.objs.size≤s2.heap.objs.size:=Nat.le_refl _
 have nC:∀ b o,s2.heap.get? b = some o→b≠hp.objs.size:=fun b o e=>Nat.ne_of_lt (Nat.lt_of_lt_of_le (Heap.lt_size e) hC)
 have nD:∀ b o,s2.heap.get? b = some o→b≠s2.heap.objs.size:=fun b o e=>Nat.ne_of_lt (Heap.lt_size e)
 have old:∀ b o,s2.heap.get? b = some o→h₁.get? b = some o:=fun b o e=>hsb₁.extBut b o (nC b o e) (Heap.get?_push_of_some _ (hHp ▸ Heap.get?_push_of_some _ e))
 have eD:h₁.get? s2.heap.objs.size = some (oL [] 0):=hsb₁.extBut _ _ hDC (Heap.get?_push_of_some _ (hHp ▸ Heap.get?_push_size _ rfl))
 have ho:∀ b∈fp,∃ o,s2.heap.get? b = some o:=fun b hb=>by
  obtain ⟨o,e,_⟩:=T.obj 0 _ st2 b hb
  exact ⟨o,e⟩
 have J0:Inv (compCx X (x::fr.map (·.1)) scope cl hp.objs.size s2 H2 fp) [(s2.heap.objs.size,oL [] 0)] (none::frv fr σ) H2 { s2 with heap:=h₁,toks:=s2.toks + ([]:List (Str×Value)).length } :=
  compCx_inv S I2 hC f2 ho rfl I2.bare old hns₁ hD hDC eD (oL_nc [] 0)
 have fpne:∀ b∈fp,b≠s2.heap.objs.size:=fun b hb=>by
  obtain ⟨o,e⟩:=ho b hb
  exact nD b o e
 have fpC:∀ b∈fp,b≠hp.objs.size:=fun b hb=>by
  obtain ⟨o,e⟩:=ho b hb
  exact nC b o e
 have okX:=J0.ok
 have stat:∀ {H':Hp} {oD:Obj},(∀ b∈fp,H' b = none)→∀ b∈fp,FpOk (compCx X (x::fr.map (·.1)) scope cl hp.objs.size s2 H2 fp) [(s2.heap.objs.size,oD)] H' b:=fun {H' oD} hn b hb =>
  ⟨hn b hb,fpC b hb,okX.exfs b hb,.inl hb,(okX.exf b hb).2,fun p hp'=>by
   have e:p = (s2.heap.objs.size,oD):=by
    have:p∈([]:List (Addr×Obj)) ++ [(s2.heap.objs.size,oD)]:=hp'
    simpa using this
   rw [e]
   exact (fpne b hb).symm⟩
 have st1:tn 0 h₁:=T.keep _ _ _ st2 fun b _ o e=>old b o e
 have loop:∀ s₃:Shared,s₃ = { s2 with heap:=h₁,toks:=s2.toks + ([]:List (Str×Value)).length } →
   codeAny (model X.prog X.w) X.A (.compLoop (.ListComp elt [⟨.Name x px,iter,ifs,0⟩] scope pos) 0 (.ref it) (.ref s2.heap.objs.size) (compEnvC scope cl hp.objs.size X.env))
    (compPost (model X.prog X.w) X.A X.xe none (EP X pins σ Q) (.ref s2.heap.objs.size) hp.objs.size) s₃:=by
  rintro s₃ rfl
  refine compLoop_any (fun n s'=>∃ i y H' acc its k,Inv (compCx X (x::fr.map (·.1)) scope cl hp.objs.size s2 H2 fp) [(s2.heap.objs.size,oL its k)] (y::frv fr σ) H' s'∧tn i s'.heap∧(∀ b∈fp,H' b = none)∧Vals acc its∧W i n acc H') ?_ m0
   ⟨0,none,H2,[],[],0,J0,st1,fun b hb=>(f2 b hb).1,.nil,w0⟩
  rintro n s3 ⟨i,y,H3,acc,its,k,I3,st3,fr3,rv,w3⟩
  have noE:∀ {α:Type} {t:Sem α} {Q':α→Shared→Prop} {s':Shared} {E':Value→Shared→Prop},wpAny (model X.prog X.w) X.A t Q' (fun _ _=>False) s'→wpAny (model X.prog X.w) X.A t Q' E' s':=fun {α t Q' s' E'} h=>wpAny_mono h (fun _ _ q=>q) fun _ _ z=>z.elim
  rcases turn i n acc H3 w3 with ⟨stop,hz,qn⟩ | ⟨go,step⟩
  ·refine thn (T.done (compCx X (x::fr.map (·.1)) scope cl hp.objs.size s2 H2 fp) rfl rfl rfl hc i _ s3 _ H3 _ I3 (stat fr3) st3 stop) fun r s4 ⟨hr,I4⟩=>?_
   subst hr
   obtain ⟨m4,hn4,_⟩:=I4.loc
   have pD:=I4.pin (s2.heap.objs.size,oL its k) (List.mem_append_right _ List.mem_cons_self)
   refine ⟨m4,hn4,fun h'' sb=>⟨.ref s2.heap.objs.size,_,comp_back I2 hC hD hDC f2 I4 rv hz sb,rfl,qn _ pD.2.1⟩⟩
  ·refine thn (T.item (compCx X (x::fr.map (·.1)) scope cl hp.objs.size s2 H2 fp) rfl rfl rfl hc i _ s3 _ H3 _ I3 (stat fr3) st3 go) fun r s4 ⟨u,hr,h4⟩=>?_
   subst hr
   refine thn h4 fun _ s5 ⟨xv,H5,I5,r5,y5,st5,fr5⟩=>?_
   have I5':=I5.pinned (stat fr5) (T.obj _ _ st5)
   have hx':(relabel scope X.env).names.lookup x = some .local:=lookup_relabel_local S.here
   refine wpAny_assign_Name (store_ok (i:=0) I5' S.nd rfl (.inl hx') r5 (fun s6 I6=>?_) (.inr hx'))
   have I6':Inv (compCx X (x::fr.map (·.1)) scope cl hp.objs.size s2 H2 fp) ([(s2.heap.objs.size,oL its k)] ++ pinsAt fp s5.heap) (some xv::frv fr σ) H5 s6:=I6
   refine noE (thn (ht _ _ _ _ _ s6 _ H5 _ I6' (step xv H5 y5)) fun b s7 ⟨H7,I7,q7⟩=>?_)
   have back:∀ {σ8:St} {H8:Hp} {s8:Shared},Inv (compCx X (x::fr.map (·.1)) scope cl hp.objs.size s2 H2 fp) ([(s2.heap.objs.size,oL its k)] ++ pinsAt fp s5.heap) σ8 H8 s8→tn (i + 1) s8.heap∧∀ b∈fp,H8 b = none:=fun {σ8 H8 s8} I8=>by
    refine ⟨T.keep _ _ _ st5 fun b hb o e=>(I8.pin (b,o) (List.mem_append_right _ (List.mem_append_right _ (mem_pinsAt hb e)))).1,fun b hb=>?_⟩
    obtain ⟨o,e,d⟩:=T.obj _ _ st5 b hb
    exact (I8.pin (b,o) (List.mem_append_right _ (List.mem_append_right _ (mem_pinsAt hb e)))).2.1
   cases b with
   | false =>
    rw [if_neg Bool.false_ne_true] at q7 ⊢
    obtain ⟨m',hm,w7⟩:=q7
    obtain ⟨t7,n7⟩:=back I7
    exact ⟨m',hm,i + 1,_,H7,acc,its,k,I7.unpinned,t7,n7,rv,w7⟩
   | true =>
    rw [if_pos rfl] at q7 ⊢
    refine noE (thn (he _ _ _ _ _ s7 _ H7 _ I7 q7) fun u8 s8 ⟨v8,H8,I8,r8,hlt,m',hm,w8⟩=>?_)
    obtain ⟨t8,n8⟩:=back I8
    have pD:=I8.pin (s2.heap.objs.size,oL its k) (List.mem_append_right _ (List.mem_append_left _ List.mem_cons_self))
    have hl:=rv.length
    refine wpAny_list_append_plain (items:=its.toArray) ⟨k,pD.1⟩ (fun h9 ⟨k9,e9⟩ sb9=>?_) (by rw [List.size_toArray];omega)
    have e9':h9.get? s2.heap.objs.size = some (oL (its ++ [u8]) k9):=by
     rw [e9]
     simp [oL]
    have I9:Inv (compCx X (x::fr.map (·.1)) scope cl hp.objs.size s2 H2 fp) [] (some xv::frv fr σ) H8 { s8 with heap:=h9,toks:=s8.toks } :=
     (I8.pins_of (pins':=[]) fun p z=>absurd z (by simp)).turned (it:=s2.heap.objs.size) (fun b o hb e=>(sb9.2 b hb).trans e) pD.2.1 hDC (.inr hD) (fun y c e z=>by
      obtain ⟨w',oc,hoc,hd⟩:=I8.cell y c e
      rw [z,pD.1] at hoc
      cases hoc
      exact oL_nc _ _ _ hd) fun p z=>absurd (show p∈([]:List (Addr×Obj)) ++ [] from z) (by simp)
    refine ⟨m',hm,i + 1,_,H8,acc ++ [v8],its ++ [u8],k9,I9.pins_of fun p z=>?_,T.keep _ _ _ t8 fun b hb o e=>(sb9.2 b (fpne b hb)).trans e,n8,rv.append (.cons r8 .nil),w8⟩
    have e:p = (s2.heap.objs.size,oL (its ++ [u8]) k9):=by simpa using z
    subst e
    exact ⟨e9',pD.2.1,pD.2.2.1,pD.2.2.2.1,oL_nc _ _⟩
 exact codeAny_compStart_list (loop _ rfl) (T.self _ 0 _ _ _ st1 (loop _ rfl))
end
theorem lc_range {lo:Int} {n:Nat} {fr:List (Str×Nat)} {te:TE} {σ:St} {H:Hp} {Qp:Addr→List V→Hp→Prop} (f:Nat→V) (hn:n≤sizeLine)
  (hf:∀ i,i < n→∀ Q':VK,Q' (f i) H→te (some (.int (lo + i))::frv fr σ) H Q') (hq:∀ p,H p = none→Qp p ((List.range n).map f) H) :
  ∃ W:Nat→Nat→List V→Hp→Prop,(∃ m,W 0 m [] H)∧∀ i m acc H,W i m acc H →
   ((Itr lo n).stop i H∧acc.length≤sizeLine∧∀ p,H p = none→Qp p acc H) ∨
   ((Itr lo n).go i H∧∀ x H',(Itr lo n).yld i H x H'→tYes (some x::frv fr σ) H' fun b H2=>if b = true then te (some x::frv fr σ) H2 fun v H3=>acc.length < sizeLine∧∃ m',m' < m∧W (i + 1) m' (acc ++ [v]) H3
    else ∃ m',m' < m∧W (i + 1) m' acc H2):=by
 refine ⟨fun i m acc H'=>H' = H∧i≤n∧m = n - i∧acc = (List.range i).map f,⟨n,rfl,Nat.zero_le _,by simp,rfl⟩,?_⟩
 rintro i m acc H' ⟨rfl,hi,rfl,rfl⟩
 have el:((List.range i).map f).length = i:=by simp
 by_cases hlt:i < n
 ·refine .inr ⟨hlt,fun x H1 y=>?_⟩
  obtain ⟨e,y⟩:=y
  subst e y
  dsimp only [tYes]
  rw [if_pos rfl]
  refine hf i hlt _ ⟨by rw [el];omega,n - (i + 1),by omega,rfl,hlt,rfl,?_⟩
  rw [List.range_succ,List.map_append]
  rfl
 ·have e:i = n:=by omega
  subst e
  exact .inl ⟨Nat.le_refl _,by rw [el];exact hn,hq⟩
end L2
namespace L2
open PySem PySem.Spec PyProof.Rows
section
variable {X:Cx}
theorem call_sumI (hc:X.calm = true):CallR X (.builtin "sum") (fun xs H Q=>∃ (p:Addr) (ns:List Int),xs = [.ref p]∧SqL X.K H p (ns.map V.int)∧Q (.int ns.sum) H):=by
 intro pins s σ H xs us Q I r h
 obtain ⟨p,ns,rfl,hp,q⟩:=h
 obtain ⟨u,rfl,ru⟩:=vals1 r
 cases ru
 obtain ⟨its,rv,pl,_⟩:=I.list hp
 have ia:=intsAre_of rv
 obtain ⟨zs,hz⟩:=ia.allInts.items
 have hl:=pl.isList
 rw [hz] at hl
 have hn:zs.toList.map (·.1) = ns:=by
  have e:=nums_intItems zs
  rw [← hz] at e
  rw [← e]
  exact ia.numsOf
 refine sum_intListG (I.ok.hd hc) hl fun h' tk t' hk=>⟨.int ns.sum,H,I.kept hk,⟨t',?_⟩,q⟩
 rw [preSum_eq,List.take_of_length_le (by simp),hn]
theorem bo_list:bootBuiltins "list" = some (.type "list"):=by decide +kernel
theorem bo_int:bootBuiltins "int" = some (.type "int"):=by decide +kernel
theorem bo_tuple:bootBuiltins "tuple" = some (.type "tuple"):=by decide +kernel
theorem bo_len:bootBuiltins "len" = some (.builtin "len"):=by decide +kernel
theorem bo_sum:bootBuiltins "sum" = some (.builtin "sum"):=by decide +kernel
end
end L2
namespace L2
open PySem PySem.Spec PyProof.Rows
mutual
inductive DRd (K:PySem.W.Frag) (H:Hp):V→PyData→Prop where
 | non:DRd K H .non .none
 | bl (b:Bool):DRd K H (.bl b) (.bool b)
 | int (i:Int):DRd K H (.int i) (.int i)
 | str (x:Str):DRd K H (.str x) (.str x)
 | lst {a:Addr} {xs:List V} {ds:List PyData} (h:SqL K H a xs) (r:DRds K H xs ds):DRd K H (.ref a) (.list ds)
 | tup {a:Addr} {xs:List V} {ds:List PyData} (h:SqT K H a xs) (r:DRds K H xs ds):DRd K H (.ref a) (.tuple ds)
inductive DRds (K:PySem.W.Frag) (H:Hp):List V→List PyData→Prop where
 | nil:DRds K H [] []
 | cons {x:V} {d:PyData} {xs:List V} {ds:List PyData} (h:DRd K H x d) (r:DRds K H xs ds):DRds K H (x::xs) (d::ds)
end
section
variable {X:Cx} {pins:List (Addr×Obj)} {σ:St} {H:Hp} {s:Shared}
mutual
theorem drd_reads (I:Inv X pins σ H s):∀ {x:V} {d:PyData},DRd X.K H x d→∀ {u:Value},RelV x u→∃ as,Reads s.heap u d as
 | _,_,.non,u,r=>by cases (show u = Value.none from r);exact ⟨_,.none⟩
 | _,_,.bl b,u,r=>by cases (show u = Value.bool b from r);exact ⟨_,.bool b⟩
 | _,_,.int i,u,r=>by obtain ⟨t,e⟩:=(show ∃ t,u = Value.int i t from r);cases e;exact ⟨_,.int i t⟩
 | _,_,.str x,u,r=>by obtain ⟨t,e⟩:=(show ∃ t,u = Value.str x t from r);cases e;exact ⟨_,.str x t⟩
 | _,_,.lst (a:=a) h rs,u,r=>by
  cases (show u = Value.ref a from r)
  obtain ⟨its,rv,p,_⟩:=I.list h
  obtain ⟨o,e,c,n,d⟩:=p.isList
  obtain ⟨as,q⟩:=drds_reads I rs rv
  exact ⟨_,.list e c d (by simpa using q)⟩
 | _,_,.tup (a:=a) h rs,u,r=>by
  cases (show u = Value.ref a from r)
  obtain ⟨its,rv,p,_⟩:=I.tuple h
  obtain ⟨o,e,c,n,d⟩:=p
  obtain ⟨as,q⟩:=drds_reads I rs rv
  exact ⟨_,.tuple e c d (by simpa using q)⟩
theorem drds_reads (I:Inv X pins σ H s):∀ {xs:List V} {ds:List PyData},DRds X.K H xs ds→∀ {us:List Value},Vals xs us→∃ as,ReadsAll s.heap us ds as
 | _,_,.nil,_,.nil=>⟨_,.nil⟩
 | _,_,.cons h r,_,.cons v vs=>by
  obtain ⟨as,q⟩:=drd_reads I h v
  obtain ⟨bs,q'⟩:=drds_reads I r vs
  exact ⟨_,.cons q q'⟩
end
end
section
variable {X:Cx}
def rNeD (K:PySem.W.Frag):R2:=fun x y H Q=>∃ da db,DRd K H x da∧DRd K H y db∧PySem.SeqAt.shaped da = true∧PySem.SeqAt.shaped db = true∧PySem.SeqAt.noMix da db = true∧Q (.bl (!same da db)) H
theorem op_neD (hu:X.A.units + 64 < cLine):OpR X (compareOp .NotEq) (rNeD X.K):=by
 intro pins s σ H x y v u Q I rx ry h
 obtain ⟨da,db,h1,h2,s1,s2,nm,q⟩:=h
 obtain ⟨as,r1⟩:=drd_reads I h1 rx
 obtain ⟨bs,r2⟩:=drd_reads I h2 ry
 exact ne_dataH_same r1 r2 s1 s2 hu nm ⟨.bl _,H,I,rfl,q⟩
end
end L2
namespace L2
open PySem PySem.Spec PyProof.Rows
def IntG (mg:Str→Option Value) (x:Str) (n:Int):Prop:=∃ t,mg x = some (.int n t)
def Raw (K:PySem.W.Frag) (mg:Str→Option Value) (x:Str) (st:Stmt):Prop:=∃ f fd,mg x = some (.ref f)∧Fun K x x st f fd
def GF (P:Program) (w:World) (K:PySem.W.Frag) (mg:Str→Option Value) (base:Heap) (x:Str) (ps:List Str) (k:Nat) (sp:Sp):Prop :=
 ∃ f fd,mg x = some (.ref f)∧(∃ oc od osl,K.lookup f = some ⟨oc,od,.func fd,osl⟩)∧PySem.W.keepIn K (.ref f) = true∧Binds K fd ps []∧FnOk P w K mg base CX0 k f fd ps sp
def RawC (K:PySem.W.Frag) (mg:Str→Option Value) (x q:Str) (C:Addr) (st:Stmt):Prop:=mg x = some (.ref C)∧∃ f fd,Mk K C f∧Fun K "__init__" q st f fd
def GC (P:Program) (w:World) (K:PySem.W.Frag) (mg:Str→Option Value) (base:Heap) (x:Str) (C:Addr) (ps:List Str) (k:Nat) (sp:Sp):Prop :=
 mg x = some (.ref C)∧∃ f fd,Mk K C f∧Binds K fd ps []∧FnOk P w K mg base CX0 k f fd ps sp
section
variable {P:Program} {w:World} {K:PySem.W.Frag} {mg:Str→Option Value} {base:Heap} {x:Str} {st:Stmt} {N ps:List Str} {k:Nat} {sp:Sp}
theorem GF.mk (R:Raw K mg x st) (S:FnScope N ps (defScope st))
  (hb:∀ (kV doc pm:Value) (an:Option Addr) (cdv ct:Value) (us:List Value),us.length = ps.length→bindArgs (PySem.W.fnOf x x (defArgs st) (defBody st) (defScope st) .none kV doc pm an cdv ct) ⟨us,[]⟩ = pure (ps.zip us))
  (len:∀ vs H Q E,sp vs H Q E→vs.length = ps.length)
  (hbody:∀ (f:Addr) (cdv:Value) (A:Around) (outer:List Env) (s:Shared) (H:Hp) (vs:List V) (Q:VK) (E:XK),Room k (A.deeper (envOfC x (defScope st) s.heap.objs.size f cdv))→sp vs H Q E →
   ∃ t,PSs (cxOf CX0 P w K mg base N x (defScope st) f cdv A outer s H E).nox (defBody st) t∧t { nx:=fun _ H'=>Q .non H',rt:=Q } (start N vs) H):GF P w K mg base x ps (k + 1) sp:=by
 obtain ⟨f,fd,e,F⟩:=R
 have lk:∃ oc od osl,K.lookup f = some ⟨oc,od,.func fd,osl⟩:=by
  obtain ⟨oc,od,kV,doc,pm,an,cdv,ct,osl,_,lk,_⟩:=F.ex
  exact ⟨oc,od,osl,lk⟩
 exact ⟨f,fd,e,lk,F.kp,F.binds hb,F.ok S len fun cdv A outer s H vs Q E hr h=>hbody f cdv A outer s H vs Q E hr h⟩
theorem GC.mk {q:Str} {C:Addr} (R:RawC K mg x q C st) (S:FnScope N ps (defScope st))
  (hb:∀ (kV doc pm:Value) (an:Option Addr) (cdv ct:Value) (us:List Value),us.length = ps.length→bindArgs (PySem.W.fnOf "__init__" q (defArgs st) (defBody st) (defScope st) .none kV doc pm an cdv ct) ⟨us,[]⟩ = pure (ps.zip us))
  (len:∀ vs H Q E,sp vs H Q E→vs.length = ps.length)
  (hbody:∀ (f:Addr) (cdv:Value) (A:Around) (outer:List Env) (s:Shared) (H:Hp) (vs:List V) (Q:VK) (E:XK),Room k (A.deeper (envOfC q (defScope st) s.heap.objs.size f cdv))→sp vs H Q E →
   ∃ t,PSs (cxOf CX0 P w K mg base N q (defScope st) f cdv A outer s H E).nox (defBody st) t∧t { nx:=fun _ H'=>Q .non H',rt:=Q } (start N vs) H):GC P w K mg base x C ps (k + 1) sp:=by
 obtain ⟨e,f,fd,M,F⟩:=R
 exact ⟨e,f,fd,M,F.binds hb,F.ok S len fun cdv A outer s H vs Q E hr h=>hbody f cdv A outer s H vs Q E hr h⟩
theorem GF.fn {f:Addr} {fd:FuncData} {oc:Value} {od:Option Addr} {osl:Array (Option Value)} (G:GF P w K mg base x ps k sp) (e:mg x = some (.ref f)) (l:K.lookup f = some ⟨oc,od,.func fd,osl⟩):FnOk P w K mg base CX0 k f fd ps sp:=by
 obtain ⟨f',fd',e',⟨oc',od',osl',l'⟩,_,_,F⟩:=G
 rw [e] at e'
 cases e'
 rw [l] at l'
 have q:fd = fd':=by
  have q1:=congrArg Obj.data (Option.some.inj l')
  have q2:Data.func fd = Data.func fd':=q1
  injection q2
 rw [q]
 exact F
theorem raw_mk {h:Heap} {f:Addr} {oc:Value} {od an:Option Addr} {osl:Array (Option Value)} {kV doc pm cdv ct:Value} (X:K.In h) (G:h.Ns mainGlobals mg) (a:PySem.W.nsIn K mainGlobals x = some (some (.ref f)))
  (l:K.lookup f = some ⟨oc,od,.func (PySem.W.fnOf x x (defArgs st) (defBody st) (defScope st) .none kV doc pm an cdv ct),osl⟩) (c:PySem.W.codeIn K cdv x = true) (k:PySem.W.keepIn K (.ref f) = true):Raw K mg x st :=
 ⟨f,_,PySem.W.mg_of X G a,fun_mk l c k⟩
theorem rawC_mk {h:Heap} {q:Str} {C f:Addr} {oc:Value} {od an:Option Addr} {osl:Array (Option Value)} {kV doc pm cdv ct:Value} (X:K.In h) (G:h.Ns mainGlobals mg) (a:PySem.W.nsIn K mainGlobals x = some (some (.ref C)))
  (a1:PySem.W.findIn K (.ref C) "__init__" = some (some (.ref f))) (i1:PySem.W.isFn K (.ref f) = true)
  (l:K.lookup f = some ⟨oc,od,.func (PySem.W.fnOf "__init__" q (defArgs st) (defBody st) (defScope st) .none kV doc pm an cdv ct),osl⟩) (c:PySem.W.codeIn K cdv q = true) (k:PySem.W.keepIn K (.ref f) = true)
  (mk:PySem.W.makesIn K C = true) (kc:PySem.W.keepIn K (.ref C) = true):RawC K mg x q C st :=
 ⟨PySem.W.mg_of X G a,f,_,⟨mk,a1,i1,kc⟩,fun_mk l c k⟩
theorem int_mk {h:Heap} {n:Int} {t:Tok} (X:K.In h) (G:h.Ns mainGlobals mg) (a:PySem.W.nsIn K mainGlobals x = some (some (.int n t))):IntG mg x n:=⟨t,PySem.W.mg_of X G a⟩
end
section
variable {X:Cx} {x:Str} {ps:List Str} {k:Nat} {sp:Sp} {e:Expr} {es:List Expr} {t:TA} {p pos:Pos} {C:Addr}
theorem pe_gcall (G:GF X.prog X.w X.K X.mg X.base x ps k sp) (hr:Room k X.A) (hg:Gl X x) (ha:PA X (e::es) t) (hdb:(x == ("__debug__" : Str)) = false:=by decide)
  (he:starEach (e::es) X.env = (false,eval e X.env)::starEach es X.env:=by rfl) (hpl:(backTo pos (starEach es X.env)).any (·.1) = false:=by rfl):PE X (.Call (.Name x p) (e::es) [] pos) (tCall sp [] E0 t):=by
 obtain ⟨f,fd,hm,_,hk,hb,F⟩:=G
 exact pe_call F hr hg hm hk hb .nil pass0 ha hdb he hpl
theorem pe_gmake (G:GC X.prog X.w X.K X.mg X.base x C ps k sp) (hr:Room (k + 1) X.A) (hg:Gl X x) (ha:PA X (e::es) t) (hdb:(x == ("__debug__" : Str)) = false:=by decide)
  (he:starEach (e::es) X.env = (false,eval e X.env)::starEach es X.env:=by rfl) (hpl:(backTo pos (starEach es X.env)).any (·.1) = false:=by rfl):PE X (.Call (.Name x p) (e::es) [] pos) (tMake C sp [] E0 t):=by
 obtain ⟨hm,f,fd,M,hb,F⟩:=G
 exact pe_make M F hr hg hm hb .nil pass0 ha hdb he hpl
theorem pe_gint {n:Int} (hg:Gl X x) (h:IntG X.mg x n) (hd:(x == ("__debug__" : Str)) = false:=by decide):PE X (.Name x pos) (tC (.int n)):=by
 obtain ⟨t,e⟩:=h
 exact pe_glob hg e ⟨t,rfl⟩ hd
def tCut (t:TS):TS:=fun D σ H=>∃ R:St→Hp→Prop,t { D with nx:=R } σ H∧∀ σ' H',R σ' H'→D.nx σ' H'
theorem ps_cut {st:Stmt} {t:TS} (h:PS X st t):PS X st (tCut t):=by
 intro pins s σ H D I hw
 obtain ⟨R,h1,h2⟩:=hw
 refine thn (h pins s σ H _ I h1) fun f s1 q=>?_
 cases f with
 | next =>
  obtain ⟨σ',H',I',q⟩:=q
  exact ⟨σ',H',I',h2 σ' H' q⟩
 | ret v=>exact q
 | brk=>exact q
 | cont=>exact q
theorem hu64 {k:Nat} {A:Around} (hr:Room k A):A.units + 64 < cLine:=hr.units
end
section
variable {σ:St} {H:Hp} {D:Ends} {Q:VK} {QT:Bool→Hp→Prop}
theorem atI_ints {ns:List Int} {i:Int} (h0:0≤i) (h1:i < (ns.length:Int)):atI (ns.map V.int) i = some (.int (ns.getD i.toNat 0)):=by
 unfold atI ixN
 rw [if_pos h0,List.length_map,if_pos h1]
 show (ns.map V.int)[i.toNat]? = _
 have h2:i.toNat < ns.length:=by omega
 rw [List.getElem?_map,List.getElem?_eq_getElem h2,List.getD_eq_getElem?_getD,List.getElem?_eq_getElem h2]
 rfl
theorem ixN_ints {n:Nat} {i:Int} (h0:0≤i) (h1:i < (n:Int)):ixN n i = some i.toNat:=by
 unfold ixN
 rw [if_pos h0,if_pos h1]
theorem iteD {c A B:Prop} [Decidable c] (h1:c→A) (h2:¬ c→B):if decide c = true then A else B:=by
 by_cases h:c
 ·rw [if_pos (decide_eq_true h)]
  exact h1 h
 ·rw [if_neg (by simp [h])]
  exact h2 h
theorem iteB {b:Bool} {A B:Prop} (h1:b = true→A) (h2:b = false→B):if b = true then A else B:=by
 cases b with
 | true=>rw [if_pos rfl];exact h1 rfl
 | false=>rw [if_neg Bool.false_ne_true];exact h2 rfl
theorem iteN {c A B:Prop} [Decidable c] (h1:¬ c→A) (h2:c→B):if (!decide c) = true then A else B:=by
 by_cases h:c
 ·rw [decide_eq_true h]
  exact iteF (h2 h)
 ·rw [decide_eq_false h]
  exact iteT (h1 h)
theorem putF_hit {f:Str} {v w:V} {r:List (Str×V)}:putF f v ((f,w)::r) = (f,v)::r:=by
 unfold putF
 rw [if_pos rfl]
theorem putF_miss {f g:Str} {v w:V} {r:List (Str×V)} (h:¬ g = f):putF f v ((g,w)::r) = (g,w)::putF f v r:=by
 conv=>lhs;unfold putF
 rw [if_neg h]
theorem look_hit {f:Str} {v:V} {r:List (Str×V)}:List.lookup f ((f,v)::r) = some v:=by
 rw [List.lookup_cons,beq_self_eq_true]
theorem look_miss {f g:Str} {v:V} {r:List (Str×V)} (h:¬ f = g):List.lookup f ((g,v)::r) = List.lookup f r:=by
 rw [List.lookup_cons,beq_eq_false_iff_ne.mpr h]
end
end L2
namespace Sx
open PySem L2
section
variable {σ:St} {H:Hp} {Q:VK} {QT:Bool→Hp→Prop} {QA:List V→Hp→Prop} {D:Ends} {K:PySem.W.Frag} {ta tb tc:TE} {t u:TS} {c c':TT} {r r':R2} {E:XK}
theorem var {i:Nat} {v:V} (e:σ[i]? = some (some v)) (q:Q v H):tVar i σ H Q:=⟨v,e,q⟩
theorem cst {v:V} (q:Q v H):tC v σ H Q:=q
theorem op (h:ta σ H fun x H1=>tb σ H1 fun y H2=>r x y H2 Q):tOp r ta tb σ H Q:=h
theorem un {r:V→Hp→VK→Prop} (h:ta σ H fun x H1=>r x H1 Q):tUn r ta σ H Q:=h
theorem i0 {g:Int→Int→V} {i j:Int} (q:Q (g i j) H):rI0 g (.int i) (.int j) H Q:=⟨i,j,rfl,rfl,q⟩
theorem iC {C:Int→Int→Prop} {g:Int→Int→V} {i j:Int} (c:C i j) (q:Q (g i j) H):rI C g (.int i) (.int j) H Q:=⟨i,j,rfl,rfl,c,q⟩
theorem eqI {i j:Int} (q:Q (.bl (decide (i = j))) H):rEq (.int i) (.int j) H Q:=⟨rfl,by
 have e:decide (V.int i = V.int j) = decide (i = j):=by rw [Bool.eq_iff_iff];simp
 rw [e];exact q⟩
theorem neI {i j:Int} (q:Q (.bl (!decide (i = j))) H):rNe (.int i) (.int j) H Q:=⟨rfl,by
 have e:decide (V.int i = V.int j) = decide (i = j):=by rw [Bool.eq_iff_iff];simp
 rw [e];exact q⟩
theorem eqS {i j:Str} (q:Q (.bl (decide (i = j))) H):rEq (.str i) (.str j) H Q:=⟨rfl,by
 have e:decide (V.str i = V.str j) = decide (i = j):=by rw [Bool.eq_iff_iff];simp
 rw [e];exact q⟩
theorem neS {i j:Str} (q:Q (.bl (!decide (i = j))) H):rNe (.str i) (.str j) H Q:=⟨rfl,by
 have e:decide (V.str i = V.str j) = decide (i = j):=by rw [Bool.eq_iff_iff];simp
 rw [e];exact q⟩
theorem test (h:ta σ H fun x H'=>∃ k,x = .bl k∧QT k H'):tTest ta σ H QT:=h
theorem tB (h:ta σ H fun x H'=>∃ k,x = .bl k∧QT k H'):tB ta σ H QT:=h
theorem isbl {b:Bool} {P:Bool→Prop} (q:P b):∃ k,V.bl b = .bl k∧P k:=⟨b,rfl,q⟩
theorem and (h:c σ H fun b H1=>if b = true then c' σ H1 QT else QT false H1):tAnd c c' σ H QT:=h
theorem or (h:c σ H fun b H1=>if b = true then QT true H1 else c' σ H1 QT):tOr c c' σ H QT:=h
theorem not (h:c σ H fun b H1=>QT (!b) H1):tNot c σ H QT:=h
theorem andV (h:ta σ H fun x H1=>∃ c,x = .bl c∧if c = true then tb σ H1 Q else Q (.bl false) H1):tAndV ta tb σ H Q:=h
theorem orV (h:ta σ H fun x H1=>∃ c,x = .bl c∧if c = true then Q (.bl true) H1 else tb σ H1 Q):tOrV ta tb σ H Q:=h
theorem notV (h:ta σ H fun x H1=>∃ c,x = .bl c∧Q (.bl (!c)) H1):tNotV ta σ H Q:=h
theorem ifE (h:c σ H fun b H1=>if b = true then ta σ H1 Q else tb σ H1 Q):tIf c ta tb σ H Q:=h
theorem chain (h:ta σ H fun x H1=>tb σ H1 fun y H2=>r x y H2 fun z H3=>∃ k,z = .bl k∧(if k = true then tc σ H3 fun w' H4=>r' y w' H4 Q else Q (.bl false) H3)):tChain r r' ta tb tc σ H Q:=h
theorem fld {f:Str} (h:ta σ H fun x H1=>∃ a C dx fs v,x = .ref a∧H1 a = some (.ins C dx fs)∧Cls K C∧NoAttr K C f∧fs.lookup f = some v∧Q v H1):tFld K ta f σ H Q:=h
theorem atF {f:Str} {p C dx:Addr} {fs:List (Str×V)} {v:V} (e:H p = some (.ins C dx fs)) (c:Cls K C) (n:NoAttr K C f) (l:fs.lookup f = some v) {P:V→Prop} (q:P v) :
  ∃ a C dx fs v,V.ref p = .ref a∧H a = some (.ins C dx fs)∧Cls K C∧NoAttr K C f∧fs.lookup f = some v∧P v:=⟨p,C,dx,fs,v,rfl,e,c,n,l,q⟩
theorem next (h:D.nx σ H):tNext D σ H:=h
theorem seq (h:t { D with nx:=u D } σ H):tSeq t u D σ H:=h
theorem drop (h:ta σ H fun _ H1=>D.nx σ H1):tDrop ta D σ H:=h
theorem ret (h:ta σ H D.rt):tRet ta D σ H:=h
theorem retN (h:D.rt .non H):tRetN D σ H:=h
theorem ifS (h:c σ H fun b H1=>if b = true then t D σ H1 else u D σ H1):tIfS c t u D σ H:=h
theorem asg {g:TG} (h:ta σ H fun x H1=>g x σ H1 D.nx):tAsg ta g D σ H:=h
theorem nm {i:Nat} {v:V} {q:St→Hp→Prop} (h:q (σ.set i (some v)) H):gName i v σ H q:=h
theorem sub {tset:TSet} {v:V} {q:St→Hp→Prop} (h:ta σ H fun o H1=>tb σ H1 fun i H2=>tset o i v H2 fun H3=>q σ H3):gSub ta tb tset v σ H q:=h
theorem call {sp:Sp} {dvs:List V} {a:TA} (h:a σ H fun vs H1=>sp (vs ++ dvs) H1 Q E):tCall sp dvs E a σ H Q:=h
theorem callB {rr:List V→Hp→VK→Prop} {a:TA} (h:a σ H fun vs H1=>rr vs H1 Q):tCB rr a σ H Q:=h
theorem nil (h:QA [] H):tNil σ H QA:=h
theorem cons {a:TA} (h:ta σ H fun x H1=>a σ H1 fun xs H2=>QA (x::xs) H2):tCons ta a σ H QA:=h
theorem tup {a:TA} (h:a σ H fun xs H1=>xs.length≤sizeLine∧∀ p,H1 p = none→Q (.ref p) (upd H1 p (.tup xs))):tTup a σ H Q:=h
theorem lst {a:TA} (h:a σ H fun xs H1=>xs.length≤sizeLine∧∀ p,H1 p = none→Q (.ref p) (upd H1 p (.lst xs))):tLst a σ H Q:=h
theorem ixL {p:Addr} {xs:List V} {i:Int} {v:V} (h:H p = some (.lst xs)) (e:atI xs i = some v) (q:Q v H):rIxL K (.ref p) (.int i) H Q:=⟨p,xs,i,v,rfl,rfl,SqL.of h,e,q⟩
theorem ixS {p:Addr} {xs:List V} {i:Int} {v:V} (h:SqL K H p xs) (e:atI xs i = some v) (q:Q v H):rIxL K (.ref p) (.int i) H Q:=⟨p,xs,i,v,rfl,rfl,h,e,q⟩
theorem ixT {p:Addr} {xs:List V} {i:Int} {v:V} (h:H p = some (.tup xs)) (e:atI xs i = some v) (q:Q v H):rIxT K (.ref p) (.int i) H Q:=⟨p,xs,i,v,rfl,rfl,SqT.of h,e,q⟩
theorem ixN {p:Addr} {ns:List Int} {i:Int} (h:H p = some (.lst (ns.map V.int))) (h0:0≤i) (h1:i < (ns.length:Int)) (q:Q (.int (ns.getD i.toNat 0)) H):rIxL K (.ref p) (.int i) H Q:=ixL h (atI_ints h0 h1) q
theorem setN {p:Addr} {ns:List Int} {i v:Int} {q:Hp→Prop} (h:H p = some (.lst (ns.map V.int))) (h0:0≤i) (h1:i < (ns.length:Int)) (k:q (upd H p (.lst ((ns.set i.toNat v).map V.int)))):rSetL (.ref p) (.int i) (.int v) H q :=
 ⟨p,_,i,_,rfl,rfl,h,ixN_ints h0 (by rw [List.length_map];exact h1),by rw [← List.map_set];exact k⟩
end
end Sx
namespace L2
open PySem PySem.Spec PyProof.Rows
def Ite (K:PySem.W.Frag) (a:Addr):It :=
 ⟨fun i H=>∃ xs x,SqL K H a xs∧xs[i]? = some x,fun i H v H'=>∃ T x,v = .ref T∧H T = none∧(∀ xs,SqL K H a xs→xs[i]? = some x)∧H' = upd H T (.tup [.int i,x]),fun i H=>∃ xs,SqL K H a xs∧xs.length≤i⟩
theorem turn_enum {P:Program} {w:World} {K:PySem.W.Frag} {elts:List Expr} {x1} {pos:Pos} (a it e:Addr) (hne:e≠it) :
  Turn P w K (.Tuple elts x1 pos) (Ite K a) [e,it] e (fun i h=>(∃ old,IsEnum h e it (i:Int) old)∧h.IsListIter it a i) where
 mem:=by simp
 obj:=fun i h st b hb=>by
  obtain ⟨⟨old,he⟩,o,ho,c,d⟩:=st
  have hb':b = e∨b = it:=by simpa using hb
  rcases hb' with rfl | rfl
  ·exact ⟨_,he,fun v z=>by
    have z':Data.fields _ = Data.cell v:=z
    cases z'⟩
  ·exact ⟨o,ho,fun v z=>by rw [d] at z;cases z⟩
 keep:=fun i h h' st k=>by
  obtain ⟨⟨old,he⟩,hi⟩:=st
  exact ⟨⟨old,k e (by simp) _ he⟩,hi.at fun o q=>k it (by simp) o q⟩
 item:=by
  intro X hP hw hK hc i pins s σ H E I hf st hg
  subst hP hw hK
  obtain ⟨⟨old,he⟩,hit⟩:=st
  obtain ⟨xs,x,hq,hx⟩:=hg
  obtain ⟨its,rv,p,hz⟩:=I.list hq
  obtain ⟨u,hu,ru⟩:=rv.get hx
  have fe:=hf e (by simp)
  have fi:=hf it (by simp)
  refine wpAny_pyNext_enum_item he hit p.isList (x:=u) (by simpa using hu) hne fun h1 ho hit1 hT hsz hk=>⟨_,rfl,wpAny_letOwnedTupleGo_enum ho fun h2 he2 hs2=>?_⟩
  replace hs2:Heap.SameBut e h1 h2:=hs2
  have fr:H s.heap.objs.size = none:=I.hok.fresh (Nat.le_refl _)
  have neT:s.heap.objs.size≠e:=fun z=>by rw [z] at fr;exact absurd (Heap.lt_size he) (by rw [z];exact Nat.lt_irrefl _)
  have keep:∀ b o,b≠e→b≠it→s.heap.get? b = some o→h2.get? b = some o:=fun b o n1 n2 q=>(hs2.2 b n1).trans (hk b o n1 n2 q)
  have nT:∀ b u,H b = some u→b≠s.heap.objs.size:=fun b u q z=>by rw [z,fr] at q;cases q
  have ne1:∀ b u,H b = some u→b≠e:=fun b u q z=>by rw [z,fe.1] at q;cases q
  have ne2:∀ b u,H b = some u→b≠it:=fun b u q z=>by rw [z,fi.1] at q;cases q
  refine ⟨.ref s.heap.objs.size,upd H s.heap.objs.size (.tup [.int i,x]),?_,rfl,⟨_,x,rfl,fr,fun ys hy=>by rw [I.list_inj hy hq];exact hx,rfl⟩,⟨⟨_,by simpa using he2⟩,?_⟩,fun b hb=>?_⟩
  ·refine I.call' (ch:=[e,it]) rfl ⟨fun b o q k hb hx=>?_,fun b o q k hb hx=>?_,fun b o q k hx=>?_,fun b o q hx=>?_,fun b xs q=>?_,fun b o u q=>?_,fun b ps q=>?_⟩ (fun b v q=>?_) I.bare fun b hb=>?_
   ·exact keep b o (fun z=>hx (by simp [z])) (fun z=>hx (by simp [z])) q
   ·exact ⟨o.slots,keep b o (fun z=>hx (by simp [z])) (fun z=>hx (by simp [z])) q⟩
   ·rw [upd_ne (Nat.ne_of_lt (Heap.lt_size q))];exact k
   ·exact ⟨o,keep b o (fun z=>hx (by simp [z])) (fun z=>hx (by simp [z])) q⟩
   ·rw [upd_ne (nT _ _ q)];exact q
   ·rw [upd_ne (nT _ _ q)];exact q
   ·exact ⟨#[],by rw [upd_ne (nT _ _ q),q];simp⟩
   ·by_cases hb:b = s.heap.objs.size
    ·subst hb
     rw [upd_same] at q
     cases q
     exact ⟨by show 2≤sizeLine;decide,[.int i s.toks,u],.cons ⟨_,rfl⟩ (.cons ru .nil),⟨_,(hs2.2 _ neT).trans hT,rfl,_,rfl⟩⟩
    ·rw [upd_ne hb] at q
     refine (I.hok b v q).stay (fun c v' hc q'=>?_) (fun c q'=>?_) fun c xs q'=>?_
     ·rcases hc with z | z
      ·exact keep c v' (by rw [z];exact ne1 b v q) (by rw [z];exact ne2 b v q) q'
      ·exact keep c v' (ne1 c _ z) (ne2 c _ z) q'
     ·rw [upd_ne (nT _ _ q')];exact q'
     ·rw [upd_ne (nT _ _ q')];exact q'
   ·have f:=hf b hb
    exact ⟨f.2.2.2.1,f.2.1,f.2.2.2.2.1,f.2.2.2.2.2⟩
  ·exact hit1.extBut hs2.extBut (Ne.symm hne)
  ·have f:=hf b hb
   rw [upd_ne fun z=>?_]
   ·exact f.1
   ·have hb':b = e∨b = it:=by simpa using hb
    rcases hb' with rfl | rfl
    ·exact neT z.symm
    ·obtain ⟨o,ho,_⟩:=hit
     exact absurd (Heap.lt_size ho) (by rw [z];exact Nat.lt_irrefl _)
 done:=by
  intro X hP hw hK hc i pins s σ H E I hf st hg
  subst hP hw hK
  obtain ⟨⟨old,he⟩,hit⟩:=st
  obtain ⟨xs,hq,hx⟩:=hg
  obtain ⟨its,rv,p,hz⟩:=I.list hq
  obtain ⟨f0,f1,f2,f3,f4,f5⟩:=hf it (by simp)
  have hl:=rv.length
  exact wpAny_pyNext_enum_end (I.ok.hd hc) he hit p.isList (by simp;omega) fun h' eb=>⟨rfl,I.turned (t':=s.toks) (fun b o hb e=>eb b o hb e) f0 f1 f3 f4 f5⟩
 self:=fun _ _ _ _ _ st h=>by
  obtain ⟨⟨old,he⟩,_⟩:=st
  exact wpAny_pyIter_enum he h
section
variable {X:Cx}
def iEnum (K:PySem.W.Frag) (ta:TA):TI:=fun σ H R=>ta σ H fun vs H1=>∃ a xs,vs = [.ref a]∧SqL K H1 a xs∧R (Ite K a) H1
theorem bo_enumerate:bootBuiltins "enumerate" = some (.type "enumerate"):=by decide +kernel
theorem pi_enum {elts:List Expr} {x1} {tpos:Pos} {a:Expr} {ta:TA} {p pos:Pos} (hg:Gl X "enumerate") (hm:X.mg "enumerate" = none) (ha:PA X [a] ta) (hs:starEach [a] X.env = [(false,eval a X.env)]:=by rfl) :
  PI X (.Tuple elts x1 tpos) (.Call (.Name "enumerate" p) [a] [] pos) (iEnum X.K ta):=by
 intro pins s σ H R I h
 refine Call_ (ld_blt I hg hm bo_enumerate (PyProof.Rows.callWith_type1 (thn (ha pos pins s σ H _ I h) fun us s1 ⟨vs,H1,I1,r1,q1⟩=>?_) hs rfl))
 obtain ⟨l,xs,e,hq,q⟩:=q1
 subst e
 cases r1 with
 | cons r rr =>
  cases rr
  cases r
  obtain ⟨its,rv,pl,hz⟩:=I1.list hq
  refine call_enumerate_list pl.isList fun h' hE hI hsz hk=>?_
  refine wpAny_pyIter_enum (s:={ s1 with heap:=h' }) hE ?_
  refine ⟨s1.heap.objs.size + 1,[s1.heap.objs.size + 1,s1.heap.objs.size],_,_,H1,rfl,I1.kept (t':=s1.toks) hk,turn_enum l s1.heap.objs.size (s1.heap.objs.size + 1) (Nat.succ_ne_self _),⟨⟨_,hE⟩,hI⟩,fun b hb=>?_,q⟩
  have hb':s1.heap.objs.size≤b:=by
   have hb2:b = s1.heap.objs.size + 1∨b = s1.heap.objs.size:=by simpa using hb
   rcases hb2 with rfl | rfl
   ·exact Nat.le_succ _
   ·exact Nat.le_refl _
  exact I1.fpOk hb' (I1.hok.fresh hb')
theorem for_enum {K:PySem.W.Frag} {a:Addr} {xs:List V} {g:TG} {tb:TS} {D:Ends} {σ:St} {H:Hp} (Pv:Nat→St→Hp→Prop) (h0:Pv 0 σ H) (hl:∀ i σ H,i≤xs.length→Pv i σ H→SqL K H a xs)
  (hs:∀ i x T σ H,xs[i]? = some x→Pv i σ H→H T = none→g (.ref T) σ (upd H T (.tup [.int i,x])) fun σ2 H2=>tb { D with nx:=Pv (i + 1),ct:=Pv (i + 1),bk:=D.nx } σ2 H2) (hd:∀ σ H,Pv xs.length σ H→D.nx σ H) :
  ∃ W:Nat→Nat→St→Hp→Prop,(∃ m,W 0 m σ H)∧∀ i m σ H,W i m σ H →
   ((Ite K a).stop i H∧D.nx σ H)∨((Ite K a).go i H∧∃ N:St→Hp→Prop,(∀ σ' H',N σ' H'→∃ m',m' < m∧W (i + 1) m' σ' H')∧∀ x H',(Ite K a).yld i H x H'→g x σ H' fun σ2 H2=>tb { D with nx:=N,ct:=N,bk:=D.nx } σ2 H2):=by
 refine ⟨fun i m σ H=>m = xs.length - i∧i≤xs.length∧Pv i σ H,⟨xs.length,by simp,Nat.zero_le _,h0⟩,?_⟩
 rintro i m σ H ⟨rfl,hi,p⟩
 have q:=hl i σ H hi p
 by_cases hlt:i < xs.length
 ·refine .inr ⟨⟨xs,xs[i],q,by simp [hlt]⟩,Pv (i + 1),fun σ' H' p'=>⟨xs.length - (i + 1),by omega,rfl,hlt,p'⟩,fun x H' y=>?_⟩
  obtain ⟨T,v,e1,e2,y,e3⟩:=y
  subst e1 e3
  exact hs i v T σ H (y xs q) p e2
 ·have e:i = xs.length:=by omega
  subst e
  exact .inl ⟨⟨xs,q,Nat.le_refl _⟩,hd σ H p⟩
end
section
variable {X:Cx} {xs:List Str} {pos:Pos} {iter elt tgt:Expr} {g:TG} {ifs:List Expr} {scope:Scope} {cl:List (Str×Addr)} {wi:TI} {tc:TT} {te:TE} {fr:List (Str×Nat)}
end
end L2
namespace L2
open PySem PySem.Spec PyProof.Rows
theorem filter_take_succ {α β:Type} {xs:List α} {i:Nat} {x:α} (p:α→Bool) (f:α→β) (e:xs[i]? = some x) :
  ((xs.take (i + 1)).filter p).map f = ((xs.take i).filter p).map f ++ (if p x = true then [f x] else []):=by
 have hi:i < xs.length:=by
  rcases Nat.lt_or_ge i xs.length with h | h
  ·exact h
  ·rw [List.getElem?_eq_none h] at e;cases e
 rw [List.take_succ,e,Option.toList_some,List.filter_append,List.map_append]
 by_cases h:p x = true
 ·rw [if_pos h,List.filter_cons_of_pos h,List.filter_nil];rfl
 ·rw [if_neg h,List.filter_cons_of_neg h,List.filter_nil];rfl
theorem lc_rangeI {lo:Int} {n:Nat} {fr:List (Str×Nat)} {te:TE} {σ:St} {H:Hp} {Qp:Addr→List V→Hp→Prop} (I:Nat→List V→Hp→Prop) (hn:n≤sizeLine) (h0:I 0 [] H) (hl:∀ i acc H',I i acc H'→acc.length = i)
  (hf:∀ i acc H',i < n→I i acc H'→∀ Q':VK,(∀ v H2,I (i + 1) (acc ++ [v]) H2→Q' v H2)→te (some (.int (lo + i))::frv fr σ) H' Q') (hQ:∀ acc H',I n acc H'→∀ p,H' p = none→Qp p acc H') :
  ∃ W:Nat→Nat→List V→Hp→Prop,(∃ m,W 0 m [] H)∧∀ i m acc H,W i m acc H →
   ((Itr lo n).stop i H∧acc.length≤sizeLine∧∀ p,H p = none→Qp p acc H) ∨
   ((Itr lo n).go i H∧∀ x H',(Itr lo n).yld i H x H'→tYes (some x::frv fr σ) H' fun b H2=>if b = true then te (some x::frv fr σ) H2 fun v H3=>acc.length < sizeLine∧∃ m',m' < m∧W (i + 1) m' (acc ++ [v]) H3
    else ∃ m',m' < m∧W (i + 1) m' acc H2):=by
 refine ⟨fun i m acc H'=>I i acc H'∧i≤n∧m = n - i,⟨n,h0,Nat.zero_le _,by simp⟩,?_⟩
 rintro i m acc H' ⟨hI,hi,rfl⟩
 have el:=hl i acc H' hI
 by_cases hlt:i < n
 ·refine .inr ⟨hlt,fun x H1 y=>?_⟩
  obtain ⟨e,y⟩:=y
  subst e y
  dsimp only [tYes]
  rw [if_pos rfl]
  exact hf i acc _ hlt hI _ fun v H2 q=>⟨by omega,n - (i + 1),by omega,q,hlt,rfl⟩
 ·have e:i = n:=by omega
  subst e
  exact .inl ⟨Nat.le_refl _,by omega,hQ acc H' hI⟩
theorem lc_list {K:PySem.W.Frag} {a:Addr} {xs:List V} {fr:List (Str×Nat)} {tc:TT} {te:TE} {σ:St} {H:Hp} {Qp:Addr→List V→Hp→Prop} (p:V→Bool) (f:V→V) (hq:SqL K H a xs) (hn:xs.length≤sizeLine)
  (hc:∀ x∈xs,∀ Q':Bool→Hp→Prop,Q' (p x) H→tc (some x::frv fr σ) H Q')
  (hf:∀ x∈xs,p x = true→∀ Q':VK,Q' (f x) H→te (some x::frv fr σ) H Q') (hQ:∀ q,H q = none→Qp q ((xs.filter p).map f) H) :
  ∃ W:Nat→Nat→List V→Hp→Prop,(∃ m,W 0 m [] H)∧∀ i m acc H,W i m acc H →
   ((Itl K a).stop i H∧acc.length≤sizeLine∧∀ p,H p = none→Qp p acc H) ∨
   ((Itl K a).go i H∧∀ x H',(Itl K a).yld i H x H'→tc (some x::frv fr σ) H' fun b H2=>if b = true then te (some x::frv fr σ) H2 fun v H3=>acc.length < sizeLine∧∃ m',m' < m∧W (i + 1) m' (acc ++ [v]) H3
    else ∃ m',m' < m∧W (i + 1) m' acc H2):=by
 refine ⟨fun i m acc H'=>H' = H∧i≤xs.length∧m = xs.length - i∧acc = ((xs.take i).filter p).map f,⟨xs.length,rfl,Nat.zero_le _,by simp,by simp⟩,?_⟩
 rintro i m acc H' ⟨rfl,hi,rfl,rfl⟩
 have el:(((xs.take i).filter p).map f).length≤i:=by
  rw [List.length_map]
  exact Nat.le_trans (List.length_filter_le _ _) (by rw [List.length_take];omega)
 by_cases hlt:i < xs.length
 ·refine .inr ⟨⟨xs,xs[i],hq,by simp [hlt]⟩,fun x H1 y=>?_⟩
  obtain ⟨e,y⟩:=y
  subst e
  have ex:=y xs hq
  have hx:x∈xs:=List.mem_of_getElem? ex
  refine hc x hx _ ?_
  have es:=filter_take_succ p f ex
  by_cases hp:p x = true
  ·rw [if_pos hp] at es ⊢
   exact hf x hx hp _ ⟨by omega,_,by omega,rfl,hlt,rfl,es.symm⟩
  ·rw [if_neg hp] at es ⊢
   exact ⟨_,by omega,rfl,hlt,rfl,by rw [es,List.append_nil]⟩
 ·have e:i = xs.length:=by omega
  subst e
  refine .inl ⟨⟨xs,hq,Nat.le_refl _⟩,by omega,?_⟩
  rw [List.take_length]
  exact hQ
theorem lc_listI {K:PySem.W.Frag} {a:Addr} {xs:List V} {fr:List (Str×Nat)} {te:TE} {σ:St} {H:Hp} {Qp:Addr→List V→Hp→Prop} (I:Nat→List V→Hp→Prop) (hn:xs.length≤sizeLine) (h0:I 0 [] H) (hl:∀ i acc H',I i acc H'→acc.length = i) (hs:∀ i acc H',I i acc H'→SqL K H' a xs)
  (hf:∀ i x acc H',xs[i]? = some x→I i acc H'→∀ Q':VK,(∀ v H2,I (i + 1) (acc ++ [v]) H2→Q' v H2)→te (some x::frv fr σ) H' Q') (hQ:∀ acc H',I xs.length acc H'→∀ p,H' p = none→Qp p acc H') :
  ∃ W:Nat→Nat→List V→Hp→Prop,(∃ m,W 0 m [] H)∧∀ i m acc H,W i m acc H →
   ((Itl K a).stop i H∧acc.length≤sizeLine∧∀ p,H p = none→Qp p acc H) ∨
   ((Itl K a).go i H∧∀ x H',(Itl K a).yld i H x H'→tYes (some x::frv fr σ) H' fun b H2=>if b = true then te (some x::frv fr σ) H2 fun v H3=>acc.length < sizeLine∧∃ m',m' < m∧W (i + 1) m' (acc ++ [v]) H3
    else ∃ m',m' < m∧W (i + 1) m' acc H2):=by
 refine ⟨fun i m acc H'=>I i acc H'∧i≤xs.length∧m = xs.length - i,⟨xs.length,h0,Nat.zero_le _,by simp⟩,?_⟩
 rintro i m acc H' ⟨hI,hi,rfl⟩
 have el:=hl i acc H' hI
 have hq:=hs i acc H' hI
 by_cases hlt:i < xs.length
 ·refine .inr ⟨⟨xs,xs[i],hq,by simp [hlt]⟩,fun x H1 y=>?_⟩
  obtain ⟨e,y⟩:=y
  subst e
  have ex:=y xs hq
  dsimp only [tYes]
  rw [if_pos rfl]
  exact hf i x acc _ ex hI _ fun v H2 q=>⟨by omega,xs.length - (i + 1),by omega,q,hlt,rfl⟩
 ·have e:i = xs.length:=by omega
  subst e
  exact .inl ⟨⟨xs,hq,Nat.le_refl _⟩,by omega,hQ acc H' hI⟩
theorem Same.seqT {K:PySem.W.Frag} {H H':Hp} {a:Addr} {xs:List V} (e:Same H H') (h:SqT K H a xs):SqT K H' a xs:=by
 rcases h with h | h
 ·rcases h with h | ⟨o,h⟩
  ·exact .inl (.inl (e _ _ h))
  ·exact .inl (.inr ⟨o,e _ _ h⟩)
 ·exact .inr h
theorem Same.new' {H H1:Hp} {l:Addr} {o:HO} (s:Same H H1) (n:H1 l = none):Same H (upd H1 l o):=fun b u e=>by rw [upd_ne (ne_of_none (s b u e) n)];exact s b u e
end L2
namespace L2
open PySem PySem.Spec PyProof.Rows
section
variable {X:Cx} {K:PySem.W.Frag} {a e:Expr} {ta:TE} {f:Str} {pos:Pos}
theorem ix_listK (h:X.K = K):IxR X (rIxL K):=by subst h;exact ix_list
theorem ix_tupK (h:X.K = K):IxR X (rIxT K):=by subst h;exact ix_tup
theorem pg_tupK {es:List Expr} {k:Nat} {t:TGs} {n:Nat} (h:X.K = K) (hc:X.calm = true) (hp:PGs X es t)
  (hn:(assignEach es X.env).length = n:=by rfl) (hst:(assignEach es X.env).findIdx? (·.1) = none:=by rfl):PG X (.Tuple es k pos) (gTup K n t):=by subst h;exact pg_tup hc hp hn hst
theorem pe_fldK (h:X.K = K) (he:PE X e ta) (hb:attributeBase e f X.env (eval e X.env) = eval e X.env):PE X (.Attribute e f pos) (tFld K ta f):=by subst h;exact pe_fld he hb
theorem op_in_seqK (h:X.K = K):OpR X (compareOp .In) (rIn K false):=by subst h;exact op_in_seq
theorem op_notIn_seqK (h:X.K = K):OpR X (compareOp .NotIn) (rIn K true):=by subst h;exact op_notIn_seq
theorem op_neDK (h:X.K = K) (hu:X.A.units + 64 < cLine):OpR X (compareOp .NotEq) (rNeD K):=by subst h;exact op_neD hu
theorem pi_enumK {elts:List Expr} {x1} {tpos:Pos} {ta:TA} {p:Pos} (h:X.K = K) (hg:Gl X "enumerate") (hm:X.mg "enumerate" = none) (ha:PA X [a] ta) (hs:starEach [a] X.env = [(false,eval a X.env)]:=by rfl) :
  PI X (.Tuple elts x1 tpos) (.Call (.Name "enumerate" p) [a] [] pos) (iEnum K ta):=by subst h;exact pi_enum hg hm ha hs
theorem pi_listK {tg:Expr} (h:X.K = K) (hl:PE X e ta):PI X tg e (iList K ta):=by subst h;exact pi_list hl
theorem ps_fldK {o value:Expr} {tv:TE} {pos':Pos} (h:X.K = K) (ha:PE X o ta) (hv:PE X value tv) (hs:swapsWith value (some (.Attribute o f pos')) pos.line X.env = pure false):PS X (.Assign [.Attribute o f pos'] value pos) (sFld K ta tv f):=by subst h;exact ps_fld ha hv hs
theorem sl_listK (h:X.K = K):SlR X (rSlL K):=by subst h;exact sl_list
theorem call_sumIK (h:X.K = K) (hc:X.calm = true):CallR X (.builtin "sum") (fun xs H Q=>∃ (p:Addr) (ns:List Int),xs = [.ref p]∧SqL K H p (ns.map V.int)∧Q (.int ns.sum) H):=by subst h;exact call_sumI hc
theorem call_list_ofK (h:X.K = K):CallR X (.type "list") (fun xs H Q=>∃ p ys,xs = [.ref p]∧(SqL K H p ys∨SqT K H p ys)∧∀ l,H l = none→Q (.ref l) (upd H l (.lst ys))):=by subst h;exact call_list_of
theorem call_tuple_ofK (h:X.K = K):CallR X (.type "tuple") (fun xs H Q=>∃ p ys,xs = [.ref p]∧((SqL K H p ys∧∀ l,H l = none→Q (.ref l) (upd H l (.tup ys)))∨(SqT K H p ys∧Q (.ref p) H))):=by subst h;exact call_tuple_of
theorem bo_str:bootBuiltins "str" = some (.type "str"):=by decide +kernel
theorem call_len_seqK (h:X.K = K):CallR X (.builtin "len") (fun xs H Q=>∃ p ys,xs = [.ref p]∧(SqL K H p ys∨SqT K H p ys)∧Q (.int ys.length) H):=by subst h;exact call_len_seq
end
end L2
namespace L2
open PySem PySem.Spec PyProof.Rows
def noStar:Expr→Bool
 | .Starred ..=>false
 | _=>true
theorem star_ns {e:Expr} {es:List Expr} {env:Env} (h:noStar e = true):starEach (e::es) env = (false,eval e env)::starEach es env:=by
 cases e <;> first | rfl | cases h
theorem any_ns {pos:Pos} {env:Env}:∀ {es:List Expr},es.all noStar = true→(backTo pos (starEach es env)).any (·.1) = false
 | [],_=>rfl
 | e::es,h=>by
  rw [List.all_cons,Bool.and_eq_true] at h
  rw [star_ns h.1]
  show (false || (backTo pos (starEach es env)).any (·.1)) = false
  rw [any_ns h.2]
  rfl
section
variable {X:Cx} {x:Str} {ps:List Str} {k:Nat} {sp:Sp} {e:Expr} {es:List Expr} {t:TA} {te:TE} {p pos:Pos} {C:Addr} {r:List V→Hp→VK→Prop} {id T:String}
theorem hu1 {k:Nat} {A:Around} (hr:Room k A):A.units + 1 < cLine:=by
 have h:=hr.units
 omega
theorem pa_c (ha:PE X e te) (hr:PA X es t) (h:noStar e = true:=by rfl):PA X (e::es) (tCons te t):=pa_cons ha hr (star_ns h)
theorem pe_gcallN (G:GF X.prog X.w X.K X.mg X.base x ps k sp) (hr:Room k X.A) (hg:Gl X x) (ha:PA X (e::es) t) (hdb:(x == ("__debug__" : Str)) = false:=by decide)
  (h:(e::es).all noStar = true:=by rfl):PE X (.Call (.Name x p) (e::es) [] pos) (tCall sp [] E0 t) :=
 pe_gcall G hr hg ha hdb (star_ns (Bool.and_eq_true_iff.mp h).1) (any_ns (Bool.and_eq_true_iff.mp h).2)
theorem pe_gmakeN (G:GC X.prog X.w X.K X.mg X.base x C ps k sp) (hr:Room (k + 1) X.A) (hg:Gl X x) (ha:PA X (e::es) t) (hdb:(x == ("__debug__" : Str)) = false:=by decide)
  (h:(e::es).all noStar = true:=by rfl):PE X (.Call (.Name x p) (e::es) [] pos) (tMake C sp [] E0 t) :=
 pe_gmake G hr hg ha hdb (star_ns (Bool.and_eq_true_iff.mp h).1) (any_ns (Bool.and_eq_true_iff.mp h).2)
theorem pe_callBN (hc:CallR X (.builtin id) r) (hg:Gl X x) (hm:X.mg x = none) (hv:bootBuiltins x = some (.builtin id)) (ha:PA X (e::es) t) (hn:x≠"__name__":=by decide) (hdb:(x == ("__debug__" : Str)) = false:=by decide)
  (h:(e::es).all noStar = true:=by rfl):PE X (.Call (.Name x p) (e::es) [] pos) (tCB r t) :=
 pe_callB hc hg hm hv ha hn hdb (star_ns (Bool.and_eq_true_iff.mp h).1) (any_ns (Bool.and_eq_true_iff.mp h).2)
theorem pe_callTyN (hc:CallR X (.type T) r) (hg:Gl X x) (hm:X.mg x = none) (hv:bootBuiltins x = some (.type T)) (ha:PA X (e::es) t) (hn:x≠"__name__":=by decide) (hdb:(x == ("__debug__" : Str)) = false:=by decide)
  (h:(e::es).all noStar = true:=by rfl):PE X (.Call (.Name x p) (e::es) [] pos) (tCB r t) :=
 pe_callTy hc hg hm hv ha hn hdb (star_ns (Bool.and_eq_true_iff.mp h).1) (any_ns (Bool.and_eq_true_iff.mp h).2)
end
end L2
namespace Sx
open PySem L2
section
variable {σ:St} {H:Hp} {Q:VK} {QT:Bool→Hp→Prop} {D:Ends} {K:PySem.W.Frag} {t:TS} {E:XK}
theorem cut (R:St→Hp→Prop) (h:t { D with nx:=R } σ H) (k:∀ σ' H',R σ' H'→D.nx σ' H'):tCut t D σ H:=⟨R,h,k⟩
theorem lc {wi:TI} {fr:List (Str×Nat)} {tc:TT} {te:TE} (h:wi σ H fun J H1=>∃ W:Nat→Nat→List V→Hp→Prop,(∃ m,W 0 m [] H1)∧∀ i m acc H,W i m acc H →
 (J.stop i H∧acc.length≤sizeLine∧∀ p,H p = none→Q (.ref p) (upd H p (.lst acc))) ∨
 (J.go i H∧∀ x H',J.yld i H x H'→tc (some x::frv fr σ) H' fun b H2=>if b = true then te (some x::frv fr σ) H2 fun v H3=>acc.length < sizeLine∧∃ m',m' < m∧W (i + 1) m' (acc ++ [v]) H3
  else ∃ m',m' < m∧W (i + 1) m' acc H2)):tLC wi fr tc te σ H Q:=h
theorem iL {ta:TE} {R:It→Hp→Prop} (h:ta σ H fun x H1=>∃ a,x = .ref a∧(∃ xs,SqL K H1 a xs)∧R (Itl K a) H1):iList K ta σ H R:=h
theorem iE {ta:TA} {R:It→Hp→Prop} (h:ta σ H fun vs H1=>∃ a xs,vs = [.ref a]∧SqL K H1 a xs∧R (Ite K a) H1):iEnum K ta σ H R:=h
theorem iR1 {ta:TA} {R:It→Hp→Prop} (h:ta σ H fun vs H1=>∃ j:Int,vs = [.int j]∧-(2 ^ 62)≤j∧j < 2 ^ 62∧R (Itr 0 j.toNat) H1):iRng1 ta σ H R:=h
theorem for_ {wi:TI} {g:TG} {tb:TS} (h:wi σ H fun J H1=>∃ W:Nat→Nat→St→Hp→Prop,(∃ m,W 0 m σ H1)∧∀ i m σ H,W i m σ H →
 (J.stop i H∧D.nx σ H)∨(J.go i H∧∃ N:St→Hp→Prop,(∀ σ' H',N σ' H'→∃ m',m' < m∧W (i + 1) m' σ' H')∧∀ x H',J.yld i H x H'→g x σ H' fun σ2 H2=>tb { D with nx:=N,ct:=N,bk:=D.nx } σ2 H2)):tFor wi g tb D σ H:=h
theorem make {C:Addr} {sp:Sp} {dvs:List V} {ta:TA} (h:ta σ H fun vs H1=>∀ x dx,H1 x = none→H1 dx = none→dx≠x→sp (.ref x::(vs ++ dvs)) (upd (upd H1 dx (.own x)) x (.ins C dx [])) (fun v H2=>v = .non∧Q (.ref x) H2) E):tMake C sp dvs E ta σ H Q:=h
theorem dget {td ty:TE} (h:td σ H fun x H1=>ty σ H1 fun y H2=>∃ a v,x = .ref a∧DGet H2 a y (some v)∧Q v H2):tDGet td ty σ H Q:=h
theorem dput {td ty tv:TE} (h:tv σ H fun v H1=>td σ H1 fun x H2=>ty σ H2 fun y H3=>∃ a H4,x = .ref a∧DPut H3 a y v H4∧D.nx σ H4):sDPut td ty tv D σ H:=h
theorem sfld {ta tv:TE} {f:Str} (h:tv σ H fun y H1=>ta σ H1 fun x H2=>∃ a C dx fs,x = .ref a∧H2 a = some (.ins C dx fs)∧Cls K C∧NoAttr K C f∧fs.length < 1000∧D.nx σ (upd H2 a (.ins C dx (putF f y fs)))):sFld K ta tv f D σ H:=h
theorem sl {r:V→Option Int→Option Int→Hp→VK→Prop} {te:TE} {tl th:TO} (h:te σ H fun x H1=>tl σ H1 fun l H2=>th σ H2 fun u H3=>r x l u H3 Q):tSl r te tl th σ H Q:=h
theorem part {te:TE} {QO:Option Int→Hp→Prop} (h:te σ H fun x H1=>∃ i,x = .int i∧QO (some i) H1):tPart te σ H QO:=h
theorem nopart {QO:Option Int→Hp→Prop} (h:QO none H):tNoPart σ H QO:=h
theorem isI {i:Int} {P:Int→Prop} (q:P i):∃ k,V.int i = .int k∧P k:=⟨i,rfl,q⟩
theorem cat {l b:Addr} {xs zs:List V} (h1:H l = some (.lst xs)) (h2:H b = some (.lst zs)) (hz:xs.length + zs.length≤sizeLine) (q:∀ p,H p = none→Q (.ref p) (upd H p (.lst (xs ++ zs)))):rCat (.ref l) (.ref b) H Q:=⟨l,b,xs,zs,rfl,rfl,h1,h2,hz,q⟩
theorem bm {T:String} {r:V→List V→Hp→VK→Prop} {to:TE} {a:TA} (h:to σ H fun x H1=>tyV K T x H1∧a σ H1 fun xs H2=>r x xs H2 Q):tBM K T r to a σ H Q:=h
theorem iteNT {A B:Prop} (h:B):if (!true) = true then A else B:=h
theorem iteNF {A B:Prop} (h:A):if (!false) = true then A else B:=h
theorem nonAnd {P:Prop} (q:P):V.non = V.non∧P:=⟨rfl,q⟩
end
end Sx
namespace L2
open PySem PySem.Spec PyProof.Rows
section
variable {X:Cx} {x:Str} {px pos:Pos} {iter elt:Expr} {ifs:List Expr} {scope:Scope} {cl:List (Str×Addr)} {wi:TI} {tc:TT} {te:TE} {fr:List (Str×Nat)}
theorem ps_setLC {i:Nat} {yn:Str} {py spos:Pos} (hN:X.N.Nodup) (hiy:X.N[i]? = some yn) (hy:Loc X.env.scope yn) (hsw:swapsWith (.ListComp elt [⟨.Name x px,iter,ifs,0⟩] scope pos) (some (.Name yn py)) spos.line X.env = pure true) (hc:X.calm = true) (hi:PI X (.Name x px) iter wi) (S:CompSc X scope cl x fr)
  (ht:∀ C s H fp,PTs (compCx X (x::fr.map (·.1)) scope cl C s H fp) ifs tc) (he:∀ C s H fp,PE (compCx X (x::fr.map (·.1)) scope cl C s H fp) elt te)
  (hs:∀ v,foldedSetIterable iter X.env v = pure v:=by intro _;rfl) (hf:X.fn yn = true∨X.env.scope.names.lookup yn = some .local:=by first | exact .inl rfl | exact .inr rfl | assumption) :
  PS X (.Assign [.Name yn py] (.ListComp elt [⟨.Name x px,iter,ifs,0⟩] scope pos) spos) (tAsg (tLC wi fr tc te) (gName i)):=by
 intro pins s σ H D I h
 rw [exec_Assign_Name_used _ _ _ _ hsw]
 refine wpAny_bind (wpAny_standAt (wpAny_bind ?_))
 show wpAny _ X.A (do let _ ← comprehension (.ListComp elt [⟨.Name x px,iter,ifs,0⟩] scope pos) scope X.env _ (newList []) false (eval iter X.env) (some (assign (.Name yn py) X.env))) _ _ s
 refine wpAny_bind (wpAny_mono (wpAny_comprehension_free (use:=some (assign (.Name yn py) X.env)) (Q:=fun _ s'=>SP X pins D .next s') (cl:=cl) rfl hs S.clos S.kind S.locs (thn (hi pins s σ H _ I h) fun v s1 h1=>thn h1 fun itv s2 h2=>?_)) (fun _ s' hq=>wpAny_pure (wpAny_pure hq)) fun _ _ e=>e)
 obtain ⟨it,fp,tn,J,H2,e,I2,T,st2,f2,W,⟨m0,w0⟩,turn⟩:=h2
 subst e
 refine wpAny_newObj_type (wpAny_newFunctionEnv S.nocell (by intro y hy;simp at hy) (fun h₁ hns₁ hsb₁=>?_) S.kind)
 dsimp only at hns₁ hsb₁ ⊢
 generalize hHp:s2.heap.push { cls:=.type "list",dict:=none,data:=.seq ([]:List Value).toArray } = hp at hns₁ hsb₁ ⊢
 have eC:hp.objs.size = s2.heap.objs.size + 1:=by rw [← hHp,Heap.size_push]
 have hDC:s2.heap.objs.size≠hp.objs.size:=by rw [eC];exact Nat.ne_of_lt (Nat.lt_succ_self _)
 have hC:s2.heap.objs.size≤hp.objs.size:=by rw [eC];exact Nat.le_succ _
 have hD:s2.heap.objs.size≤s2.heap.objs.size:=Nat.le_refl _
 have nC:∀ b o,s2.heap.get? b = some o→b≠hp.objs.size:=fun b o e=>Nat.ne_of_lt (Nat.lt_of_lt_of_le (Heap.lt_size e) hC)
 have nD:∀ b o,s2.heap.get? b = some o→b≠s2.heap.objs.size:=fun b o e=>Nat.ne_of_lt (Heap.lt_size e)
 have old:∀ b o,s2.heap.get? b = some o→h₁.get? b = some o:=fun b o e=>hsb₁.extBut b o (nC b o e) (Heap.get?_push_of_some _ (hHp ▸ Heap.get?_push_of_some _ e))
 have eD:h₁.get? s2.heap.objs.size = some (oL [] 0):=hsb₁.extBut _ _ hDC (Heap.get?_push_of_some _ (hHp ▸ Heap.get?_push_size _ rfl))
 have ho:∀ b∈fp,∃ o,s2.heap.get? b = some o:=fun b hb=>by
  obtain ⟨o,e,_⟩:=T.obj 0 _ st2 b hb
  exact ⟨o,e⟩
 have J0:Inv (compCx X (x::fr.map (·.1)) scope cl hp.objs.size s2 H2 fp) [(s2.heap.objs.size,oL [] 0)] (none::frv fr σ) H2 { s2 with heap:=h₁,toks:=s2.toks + ([]:List (Str×Value)).length } :=
  compCx_inv S I2 hC f2 ho rfl I2.bare old hns₁ hD hDC eD (oL_nc [] 0)
 have fpne:∀ b∈fp,b≠s2.heap.objs.size:=fun b hb=>by
  obtain ⟨o,e⟩:=ho b hb
  exact nD b o e
 have fpC:∀ b∈fp,b≠hp.objs.size:=fun b hb=>by
  obtain ⟨o,e⟩:=ho b hb
  exact nC b o e
 have okX:=J0.ok
 have stat:∀ {H':Hp} {oD:Obj},(∀ b∈fp,H' b = none)→∀ b∈fp,FpOk (compCx X (x::fr.map (·.1)) scope cl hp.objs.size s2 H2 fp) [(s2.heap.objs.size,oD)] H' b:=fun {H' oD} hn b hb =>
  ⟨hn b hb,fpC b hb,okX.exfs b hb,.inl hb,(okX.exf b hb).2,fun p hp'=>by
   have e:p = (s2.heap.objs.size,oD):=by
    have:p∈([]:List (Addr×Obj)) ++ [(s2.heap.objs.size,oD)]:=hp'
    simpa using this
   rw [e]
   exact (fpne b hb).symm⟩
 have st1:tn 0 h₁:=T.keep _ _ _ st2 fun b _ o e=>old b o e
 have loop:∀ s₃:Shared,s₃ = { s2 with heap:=h₁,toks:=s2.toks + ([]:List (Str×Value)).length } →
   codeAny (model X.prog X.w) X.A (.compLoop (.ListComp elt [⟨.Name x px,iter,ifs,0⟩] scope pos) 0 (.ref it) (.ref s2.heap.objs.size) (compEnvC scope cl hp.objs.size X.env))
    (compPost (model X.prog X.w) X.A X.xe (some (assign (.Name yn py) X.env)) (fun _ s'=>SP X pins D .next s') (.ref s2.heap.objs.size) hp.objs.size) s₃:=by
  rintro s₃ rfl
  refine compLoop_any (fun n s'=>∃ i y H' acc its k,Inv (compCx X (x::fr.map (·.1)) scope cl hp.objs.size s2 H2 fp) [(s2.heap.objs.size,oL its k)] (y::frv fr σ) H' s'∧tn i s'.heap∧(∀ b∈fp,H' b = none)∧Vals acc its∧W i n acc H') ?_ m0
   ⟨0,none,H2,[],[],0,J0,st1,fun b hb=>(f2 b hb).1,.nil,w0⟩
  rintro n s3 ⟨i,y,H3,acc,its,k,I3,st3,fr3,rv,w3⟩
  have noE:∀ {α:Type} {t:Sem α} {Q':α→Shared→Prop} {s':Shared} {E':Value→Shared→Prop},wpAny (model X.prog X.w) X.A t Q' (fun _ _=>False) s'→wpAny (model X.prog X.w) X.A t Q' E' s':=fun {α t Q' s' E'} h=>wpAny_mono h (fun _ _ q=>q) fun _ _ z=>z.elim
  rcases turn i n acc H3 w3 with ⟨stop,hz,qn⟩ | ⟨go,step⟩
  ·refine thn (T.done (compCx X (x::fr.map (·.1)) scope cl hp.objs.size s2 H2 fp) rfl rfl rfl hc i _ s3 _ H3 _ I3 (stat fr3) st3 stop) fun r s4 ⟨hr,I4⟩=>?_
   subst hr
   obtain ⟨m4,hn4,_⟩:=I4.loc
   have pD:=I4.pin (s2.heap.objs.size,oL its k) (List.mem_append_right _ List.mem_cons_self)
   have I5:Inv X pins σ (upd H3 s2.heap.objs.size (.lst acc)) s4:=comp_back I2 hC hD hDC f2 I4 rv hz ⟨rfl,fun _ _=>rfl⟩
   have nCl:hp.objs.size≠X.env.locals:=fun z=>absurd (Nat.lt_of_lt_of_le I2.lt hC) (by rw [z];exact Nat.lt_irrefl _)
   have nCc:∀ z c,X.env.cells.lookup z = some c→c≠hp.objs.size:=fun z c e q=>by
    obtain ⟨w',oc,hoc,_⟩:=I2.cell z c e
    exact nC c oc hoc q
   have HC:(upd H3 s2.heap.objs.size (.lst acc)) hp.objs.size = none:=by rw [upd_ne hDC.symm];exact I4.free
   show wpAny _ X.A (assign (.Name yn py) X.env (.ref s2.heap.objs.size)) _ _ s4
   refine wpAny_assign_Name (store_ok2 (v:=.ref s2.heap.objs.size) I5 hN hiy hy rfl (fun s6 I6 hsb=>?_) hf)
   obtain ⟨ad,sb,hb⟩:=hsb
   have nCa:hp.objs.size≠ad:=by
    rcases hb with e | e
    ·rw [e];exact nCl
    ·exact fun q=>nCc yn ad e q.symm
   refine ⟨m4,hn4.sameBut sb nCa,fun h'' sb2=>⟨_,_,I6.turned (it:=hp.objs.size) (t':=s6.toks) (fun b o hb' e=>(sb2.2 b hb').trans e) HC nCl (.inr (Nat.le_trans I2.sz hC)) nCc fun p hp' z=>?_,qn _ pD.2.1⟩⟩
   exact nC p.1 p.2 (I2.pin p hp').1 z
  ·refine thn (T.item (compCx X (x::fr.map (·.1)) scope cl hp.objs.size s2 H2 fp) rfl rfl rfl hc i _ s3 _ H3 _ I3 (stat fr3) st3 go) fun r s4 ⟨u,hr,h4⟩=>?_
   subst hr
   refine thn h4 fun _ s5 ⟨xv,H5,I5,r5,y5,st5,fr5⟩=>?_
   have I5':=I5.pinned (stat fr5) (T.obj _ _ st5)
   have hx':(relabel scope X.env).names.lookup x = some .local:=lookup_relabel_local S.here
   refine wpAny_assign_Name (store_ok (i:=0) I5' S.nd rfl (.inl hx') r5 (fun s6 I6=>?_) (.inr hx'))
   have I6':Inv (compCx X (x::fr.map (·.1)) scope cl hp.objs.size s2 H2 fp) ([(s2.heap.objs.size,oL its k)] ++ pinsAt fp s5.heap) (some xv::frv fr σ) H5 s6:=I6
   refine noE (thn (ht _ _ _ _ _ s6 _ H5 _ I6' (step xv H5 y5)) fun b s7 ⟨H7,I7,q7⟩=>?_)
   have back:∀ {σ8:St} {H8:Hp} {s8:Shared},Inv (compCx X (x::fr.map (·.1)) scope cl hp.objs.size s2 H2 fp) ([(s2.heap.objs.size,oL its k)] ++ pinsAt fp s5.heap) σ8 H8 s8→tn (i + 1) s8.heap∧∀ b∈fp,H8 b = none:=fun {σ8 H8 s8} I8=>by
    refine ⟨T.keep _ _ _ st5 fun b hb o e=>(I8.pin (b,o) (List.mem_append_right _ (List.mem_append_right _ (mem_pinsAt hb e)))).1,fun b hb=>?_⟩
    obtain ⟨o,e,d⟩:=T.obj _ _ st5 b hb
    exact (I8.pin (b,o) (List.mem_append_right _ (List.mem_append_right _ (mem_pinsAt hb e)))).2.1
   cases b with
   | false =>
    rw [if_neg Bool.false_ne_true] at q7 ⊢
    obtain ⟨m',hm,w7⟩:=q7
    obtain ⟨t7,n7⟩:=back I7
    exact ⟨m',hm,i + 1,_,H7,acc,its,k,I7.unpinned,t7,n7,rv,w7⟩
   | true =>
    rw [if_pos rfl] at q7 ⊢
    refine noE (thn (he _ _ _ _ _ s7 _ H7 _ I7 q7) fun u8 s8 ⟨v8,H8,I8,r8,hlt,m',hm,w8⟩=>?_)
    obtain ⟨t8,n8⟩:=back I8
    have pD:=I8.pin (s2.heap.objs.size,oL its k) (List.mem_append_right _ (List.mem_append_left _ List.mem_cons_self))
    have hl:=rv.length
    refine wpAny_list_append_plain (items:=its.toArray) ⟨k,pD.1⟩ (fun h9 ⟨k9,e9⟩ sb9=>?_) (by rw [List.size_toArray];omega)
    have e9':h9.get? s2.heap.objs.size = some (oL (its ++ [u8]) k9):=by
     rw [e9]
     simp [oL]
    have I9:Inv (compCx X (x::fr.map (·.1)) scope cl hp.objs.size s2 H2 fp) [] (some xv::frv fr σ) H8 { s8 with heap:=h9,toks:=s8.toks } :=
     (I8.pins_of (pins':=[]) fun p z=>absurd z (by simp)).turned (it:=s2.heap.objs.size) (fun b o hb e=>(sb9.2 b hb).trans e) pD.2.1 hDC (.inr hD) (fun y c e z=>by
      obtain ⟨w',oc,hoc,hd⟩:=I8.cell y c e
      rw [z,pD.1] at hoc
      cases hoc
      exact oL_nc _ _ _ hd) fun p z=>absurd (show p∈([]:List (Addr×Obj)) ++ [] from z) (by simp)
    refine ⟨m',hm,i + 1,_,H8,acc ++ [v8],its ++ [u8],k9,I9.pins_of fun p z=>?_,T.keep _ _ _ t8 fun b hb o e=>(sb9.2 b (fpne b hb)).trans e,n8,rv.append (.cons r8 .nil),w8⟩
    have e:p = (s2.heap.objs.size,oL (its ++ [u8]) k9):=by simpa using z
    subst e
    exact ⟨e9',pD.2.1,pD.2.2.1,pD.2.2.2.1,oL_nc _ _⟩
 exact codeAny_compStart_list (loop _ rfl) (T.self _ 0 _ _ _ st1 (loop _ rfl))
end
end L2
namespace L2
open PySem PySem.Spec PyProof.Rows
def StrG (mg:Str→Option Value) (x:Str) (n:Str):Prop:=∃ t,mg x = some (.str n t)
section
variable {K:PySem.W.Frag} {mg:Str→Option Value} {x:Str}
theorem str_mk {h:Heap} {n:Str} {t:Tok} (X:K.In h) (G:h.Ns mainGlobals mg) (a:PySem.W.nsIn K mainGlobals x = some (some (.str n t))):StrG mg x n:=⟨t,PySem.W.mg_of X G a⟩
end
section
variable {X:Cx} {x:Str} {pos:Pos}
theorem pe_gstr {n:Str} (hg:Gl X x) (h:StrG X.mg x n) (hd:(x == ("__debug__" : Str)) = false:=by decide):PE X (.Name x pos) (tC (.str n)):=by
 obtain ⟨t,e⟩:=h
 exact pe_glob hg e ⟨t,rfl⟩ hd
end
theorem putF_add {f:Str} {v:V}:∀ {fs:List (Str×V)},f∉fs.map (·.1)→putF f v fs = fs ++ [(f,v)]
 | [],_=>rfl
 | (g,w)::r,h=>by
  rw [putF_miss (fun e=>h (by rw [e];exact List.mem_cons_self)),putF_add (fun z=>h (List.mem_cons_of_mem _ z))]
  rfl
end L2
namespace Sx
open PySem L2
section
variable {K:PySem.W.Frag} {H:Hp} {Q:VK} {l:Addr}
theorem rep {x:V} {k:Int} (h:H l = some (.lst [x])) (h0:0≤k) (h1:k≤1000000) (q:∀ p,H p = none→Q (.ref p) (upd H p (.lst (List.replicate k.toNat x)))):rRep (.ref l) (.int k) H Q:=by
 refine ⟨l,k,[x],rfl,rfl,h,by omega,by omega,by rw [sizeLine_eq];simp;omega,fun p hp=>?_⟩
 have e:(List.replicate k.toNat [x]).flatten = List.replicate k.toNat x:=by
  induction k.toNat with
  | zero=>rfl
  | succ n ih=>rw [List.replicate_succ,List.flatten_cons,ih,List.replicate_succ];rfl
 rw [e]
 exact q p hp
theorem pop0 {x:V} {r:List V} (h:H l = some (.lst (x::r))) (q:Q x (upd H l (.lst r))):rPopAt (.ref l) [.int 0] H Q :=
 ⟨l,x::r,0,0,x,rfl,rfl,h,by decide,by decide,by unfold seqIndex?;simp,rfl,q⟩
theorem app {y:V} {xs:List V} (h:H l = some (.lst xs)) (hz:xs.length < 16777216) (q:Q .non (upd H l (.lst (xs ++ [y])))):rAppend (.ref l) [y] H Q :=
 ⟨l,xs,y,rfl,rfl,h,by rw [sizeLine_eq];exact hz,q⟩
theorem tyL {xs:List V} (h:H l = some (.lst xs)):tyV K "list" (.ref l) H:=.inl ⟨rfl,_,SqL.of h⟩
end
end Sx
namespace L2
open PySem
theorem upd_self {H:Hp} {a:Addr} {o:HO} (h:H a = some o):upd H a o = H:=by
 funext x
 by_cases e:x = a
 ·rw [e,upd_same,h]
 ·rw [upd_ne e]
end L2
namespace L2
open PySem PySem.Spec PyProof.Rows
end L2
namespace L2
open PySem
theorem cutFrom (xs:List V) (k:Nat):cutV xs (some (k:Int)) none = xs.drop k:=by
 unfold cutV
 rw [HT.sIx_nat,HT.sIx_none]
 rcases Nat.le_total k xs.length with h | h
 ·rw [Nat.min_eq_left h]
  exact List.take_of_length_le (by simp)
 ·rw [Nat.min_eq_right h,List.drop_length,List.drop_eq_nil_of_le h]
  simp
end L2
namespace L2
open PySem PySem.Spec PyProof.Rows
section
variable {X:Cx} {K:PySem.W.Frag}
end
section
variable {X:Cx} {K:PySem.W.Frag}
end
end L2
namespace Sx
open PySem L2
section
variable {K:PySem.W.Frag} {H:Hp} {Q:VK} {l:Addr}
end
end Sx
namespace L2
open PySem PySem.Spec PyProof.Rows
theorem Same.newH {H:Hp} {l:Addr} {o:HO} (n:H l = none):Same H (upd H l o):=fun b u e=>by rw [upd_ne (ne_of_none e n)];exact e
def rListOf (K:PySem.W.Frag):List V→Hp→VK→Prop:=fun xs H Q=>∃ p ys,xs = [.ref p]∧(SqL K H p ys∨SqT K H p ys)∧∀ l,H l = none→Q (.ref l) (upd H l (.lst ys))
def rTupOf (K:PySem.W.Frag):List V→Hp→VK→Prop:=fun xs H Q=>∃ p ys,xs = [.ref p]∧((SqL K H p ys∧∀ l,H l = none→Q (.ref l) (upd H l (.tup ys)))∨(SqT K H p ys∧Q (.ref p) H))
def rLenOf (K:PySem.W.Frag):List V→Hp→VK→Prop:=fun xs H Q=>∃ p ys,xs = [.ref p]∧(SqL K H p ys∨SqT K H p ys)∧Q (.int ys.length) H
section
variable {X:Cx} {K:PySem.W.Frag}
theorem call_list_ofN (h:X.K = K):CallR X (.type "list") (rListOf K):=call_list_ofK h
theorem call_tuple_ofN (h:X.K = K):CallR X (.type "tuple") (rTupOf K):=call_tuple_ofK h
theorem call_len_seqN (h:X.K = K):CallR X (.builtin "len") (rLenOf K):=call_len_seqK h
end
end L2
namespace Sx
open PySem L2
section
variable {K:PySem.W.Frag} {σ:St} {H:Hp} {Q:VK} {l:Addr} {a:TA} {xs ys:List V}
def NewT (xs:List V) (H:Hp) (Q:VK):Prop:=xs.length≤sizeLine∧∀ p,H p = none→Q (.ref p) (upd H p (.tup xs))
def NewL (xs:List V) (H:Hp) (Q:VK):Prop:=xs.length≤sizeLine∧∀ p,H p = none→Q (.ref p) (upd H p (.lst xs))
theorem tupN (h:a σ H fun xs H1=>NewT xs H1 Q):tTup a σ H Q:=h
theorem lstN (h:a σ H fun xs H1=>NewL xs H1 Q):tLst a σ H Q:=h
theorem newT (hz:xs.length≤sizeLine) (k:∀ p H',H p = none→H' p = some (.tup xs)→Same H H'→Q (.ref p) H'):NewT xs H Q:=⟨hz,fun p n=>k p _ n upd_same (Same.newH n)⟩
theorem newL (hz:xs.length≤sizeLine) (k:∀ p H',H p = none→H' p = some (.lst xs)→Same H H'→Q (.ref p) H'):NewL xs H Q:=⟨hz,fun p n=>k p _ n upd_same (Same.newH n)⟩
theorem listOf (h:SqL K H l ys∨SqT K H l ys) (k:∀ p H',H p = none→H' p = some (.lst ys)→Same H H'→Q (.ref p) H'):rListOf K [.ref l] H Q:=⟨l,ys,rfl,h,fun p n=>k p _ n upd_same (Same.newH n)⟩
theorem tupOfL (h:H l = some (.lst ys)) (k:∀ p H',H p = none→H' p = some (.tup ys)→Same H H'→Q (.ref p) H'):rTupOf K [.ref l] H Q:=⟨l,ys,rfl,.inl ⟨SqL.of h,fun p n=>k p _ n upd_same (Same.newH n)⟩⟩
theorem lenL (h:H l = some (.lst ys)) (k:Q (.int (ys.length:Nat)) H):rLenOf K [.ref l] H Q:=⟨l,ys,rfl,.inl (SqL.of h),k⟩
theorem catN {b:Addr} (h1:H l = some (.lst xs)) (h2:H b = some (.lst ys)) (hz:xs.length + ys.length≤16777216) (k:∀ p H',H p = none→H' p = some (.lst (xs ++ ys))→Same H H'→Q (.ref p) H'):rCat (.ref l) (.ref b) H Q:=Sx.cat h1 h2 (by rw [sizeLine_eq];exact hz) fun p n=>k p _ n upd_same (Same.newH n)
theorem slN {lo hi:Option Int} (h:SqL K H l xs) (k:∀ p H',H p = none→H' p = some (.lst (cutV xs lo hi))→Same H H'→Q (.ref p) H'):rSlL K (.ref l) lo hi H Q:=⟨l,xs,rfl,h,fun p n=>k p _ n upd_same (Same.newH n)⟩
end
end Sx
namespace L2
theorem iteDS {c A B:Prop} [Decidable c] (h:c) (a:A):if decide c = true then A else B:=by rw [if_pos (decide_eq_true h)];exact a
end L2
namespace L2
open PySem PySem.Spec PyProof.Rows
end L2
namespace L2
open PySem PySem.Spec PyProof.Rows
section
variable {X:Cx} {K:PySem.W.Frag}
end
end L2
namespace Sx
open PySem L2 PyProof.Rows
section
variable {K:PySem.W.Frag} {H:Hp} {Q:VK} {l b:Addr} {xs ys:List V}
end
end Sx
namespace L2
open PySem PySem.Spec PyProof.Rows
end L2
namespace L2
open PySem PySem.Spec PyProof.Rows
end L2
namespace L2
open PySem PySem.Spec PyProof.Rows
def rNotInD:R2:=fun x y H Q=>∃ a o,y = .ref a∧DGet H a x o∧Q (.bl (!o.isSome)) H
def rLenDK:List V→Hp→VK→Prop:=fun xs H Q=>∃ a kvs,xs = [.ref a]∧H a = some (.dK kvs)∧Q (.int (kvs.length:Nat)) H
section
variable {X:Cx}
theorem op_notInD (hu:X.A.units + 1 < cLine):OpR X (compareOp .NotIn) rNotInD:=by
 intro pins s σ H x y v u Q I rx ry h
 obtain ⟨a,o,rfl,g,q⟩:=h
 cases ry
 exact d_notIn hu I g rx fun s3 I3=>⟨.bl (!o.isSome),H,I3,rfl,q⟩
theorem call_lenDK:CallR X (.builtin "len") rLenDK:=by
 intro pins s σ H xs us Q I r h
 obtain ⟨a,kvs,rfl,e,q⟩:=h
 obtain ⟨u,rfl,rx⟩:=vals1 r
 cases rx
 exact d_len I (.inl e) fun t s3 I3=>⟨.int _,H,I3,⟨_,rfl⟩,q⟩
end
end L2
namespace L2
open PySem PySem.Spec PyProof.Rows
section
variable {X:Cx} {xs:List Str} {pos:Pos} {iter elt tgt:Expr} {g:TG} {ifs:List Expr} {scope:Scope} {cl:List (Str×Addr)} {wi:TI} {tc:TT} {te:TE} {fr:List (Str×Nat)}
end
end L2
namespace L2
open PySem PySem.Spec PyProof.Rows
theorem vals_all {y:V}:∀ {xs:List V} {us:List Value},Vals xs us→xs.all flatV = true→∀ (i:Nat) u,us[i]? = some u→∃ v,xs[i]? = some v∧eqU y u = eqV v y
 | _,_,.nil,_,i,u,h=>by simp at h
 | v::xs,u'::us,.cons r t,f,0,u,h=>by
  rw [List.all_cons,Bool.and_eq_true] at f
  cases h
  exact ⟨v,rfl,eqU_of r f.1⟩
 | v::xs,u'::us,.cons r t,f,i + 1,u,h=>by
  rw [List.all_cons,Bool.and_eq_true] at f
  exact vals_all t f.2 i u h
section
variable {X:Cx}
end
end L2
namespace L2
open PySem PySem.Spec PyProof.Rows
def TupK (K:PySem.W.Frag) (a:Addr) (xs:List V):Prop :=
 ∃ (o:Obj) (its:Array Value) (n:Nat),K.lookup a = some o∧o.cls = .type "tuple"∧o.dict = none∧o.data = .seq its n∧its.size≤sizeLine∧Vals xs its.toList
def TupG (K:PySem.W.Frag) (mg:Str→Option Value) (x:Str) (xs:List V):Prop:=∃ a,mg x = some (.ref a)∧TupK K a xs
section
variable {K:PySem.W.Frag} {mg:Str→Option Value} {x:Str} {a:Addr} {xs:List V} {H:Hp}
theorem TupK.sq (h:TupK K a xs):SqT K H a xs:=by
 obtain ⟨o,its,n,h1,h2,_,h3,h4,h5⟩:=h
 exact .inr ⟨o,its,n,h1,h2,h3,h4,h5⟩
theorem tup_mk {h:Heap} {its:Array Value} {n:Nat} {osl:Array (Option Value)} (X:K.In h) (G:h.Ns mainGlobals mg) (e:PySem.W.nsIn K mainGlobals x = some (some (.ref a)))
  (l:K.lookup a = some ⟨.type "tuple",none,.seq its n,osl⟩) (hz:its.size≤sizeLine) (v:Vals xs its.toList):TupG K mg x xs :=
 ⟨a,PySem.W.mg_of X G e,_,its,n,l,rfl,rfl,rfl,hz,v⟩
end
section
variable {X:Cx} {K:PySem.W.Frag} {x:Str} {pos:Pos} {xs:List V}
def tTopT (K:PySem.W.Frag) (xs:List V):TE:=fun _ H Q=>∀ a,TupK K a xs→Q (.ref a) H
theorem pe_gtup (hk:X.K = K) (hg:Gl X x) (h:TupG K X.mg x xs) (hd:(x == ("__debug__" : Str)) = false:=by decide):PE X (.Name x pos) (tTopT K xs):=by
 obtain ⟨a,e,h⟩:=h
 exact fun _ _ _ H _ I q=>ld_glob I hg e ⟨.ref a,H,I,rfl,q a h⟩ hd
theorem strVals:∀ {ts:List Str} {us:List Value},Vals (ts.map V.str) us→∃ l:List (Str×Tok),us = strValues l∧l.map (·.1) = ts
 | [],_,.nil=>⟨[],rfl,rfl⟩
 | y::ts,_,.cons ⟨t,e⟩ r=>by
  obtain ⟨l,e1,e2⟩:=strVals r
  subst e e1 e2
  exact ⟨(y,t)::l,rfl,rfl⟩
def rJoin (K:PySem.W.Frag):V→List V→Hp→VK→Prop:=fun x vs H Q=>∃ (sep:Str) (a:Addr) (ts:List Str),x = .str sep∧vs = [.ref a]∧SqL K H a (ts.map V.str)∧JoinOk sep ts = true∧Q (.str (Str.join sep ts)) H
theorem mt_join (h:X.K = K):MtM X "str.join" (rJoin K):=by
 subst h
 intro pins s σ H x vs v us Q I rx rv h
 obtain ⟨sep,a,ts,rfl,rfl,hq,hj,q⟩:=h
 obtain ⟨t,rfl⟩:=rx
 obtain ⟨u,rfl,ru⟩:=rv.one
 cases ru
 obtain ⟨its,r,pl,hz⟩:=I.list hq
 obtain ⟨l,rfl,e⟩:=strVals r
 have e2:Txt.join sep ts = Str.join sep ts:=StrLaws.glued_eq_join sep ts
 exact SC.join pl.isList e hj fun t' k=>⟨.str _,H,I.tok _,⟨t',rfl⟩,by rw [e2];exact q⟩
end
end L2
namespace Sx
open PySem L2
section
variable {σ:St} {H:Hp} {Q:VK} {K:PySem.W.Frag} {ta:TE} {u:TJ} {acc x:Str}
theorem topT {xs:List V} (h:∀ a,TupK K a xs→Q (.ref a) H):tTopT K xs σ H Q:=h
end
end Sx
namespace L2
open PySem PySem.Spec PyProof.Rows
section
variable {prog:Program} {w:World} {A:Around} {E:Value→Shared→Prop} {s:Shared}
end
section
variable {X:Cx} {K:PySem.W.Frag}
end
end L2
namespace Sx
open PySem L2
section
variable {K:PySem.W.Frag} {σ:St} {H:Hp} {Q:VK} {l:Addr}
theorem bmS {r:V→List V→Hp→VK→Prop} {a:TA} {x:Str} (h:a σ H fun xs H2=>r (.str x) xs H2 Q):tyV K "str" (.str x) H∧a σ H fun xs H2=>r (.str x) xs H2 Q:=⟨rfl,h⟩
theorem joinL {sep:Str} {ts:List Str} (h:H l = some (.lst (ts.map V.str))) (hj:JoinOk sep ts = true) (k:Q (.str (Str.join sep ts)) H):rJoin K (.str sep) [.ref l] H Q:=⟨sep,l,ts,rfl,rfl,SqL.of h,hj,k⟩
theorem topIx {a:Addr} {xs:List V} {i:Int} {v:V} (h:TupK K a xs) (e:atI xs i = some v) (q:Q v H):rIxT K (.ref a) (.int i) H Q:=⟨a,xs,i,v,rfl,rfl,h.sq,e,q⟩
theorem addL {x:V} {xs:List V} {P:Hp→Prop} (h:H l = some (.lst xs)) (hz:xs.length < 16777216) (k:∀ H',H' l = some (.lst (xs ++ [x]))→(∀ b o,b≠l→H b = some o→H' b = some o)→P H'):rAppend (.ref l) [x] H (fun _ H'=>P H') :=
 ⟨l,xs,x,rfl,rfl,h,by rw [sizeLine_eq];exact hz,k _ upd_same fun b o n e=>by rw [upd_ne n];exact e⟩
end
end Sx
namespace L2
open PySem PySem.Spec PyProof.Rows
section
variable {X:Cx} {K:PySem.W.Frag}
end
end L2
namespace Sx
open PySem L2
section
variable {K:PySem.W.Frag} {σ:St} {H:Hp} {Q:VK} {l:Addr}
end
end Sx
namespace L2
open PySem PySem.Spec PyProof.Rows
theorem vals_strs:∀ (tk:Nat) (ts:List Str),Vals (ts.map V.str) (strValues (numbered tk ts))
 | _,[]=>.nil
 | tk,t::ts=>.cons ⟨tk,rfl⟩ (vals_strs (tk + 1) ts)
theorem parts_len (x:Str) (w:Nat):∀ (cuts:List Nat) (a:Nat),(StrLaws.partsFrom x w a cuts).length = cuts.length + 1
 | [],_=>rfl
 | c::r,a=>by
  show (StrLaws.partsFrom x w (c + w) r).length + 1 = _
  rw [parts_len x w r (c + w)]
  rfl
theorem split_few (z y:Str):(Builtin.Str.partsBetween z (Builtin.Str.occurrences z y 0 z.length (z.length + 1)) y.length).length≤z.length + 2:=by
 rw [StrLaws.partsBetween_eq,parts_len]
 have:=StrLaws.occ_length_le_len z y 0 z.length (z.length + 1)
 omega
theorem split_len (z y:Str):(Txt.split z y).length≤z.length + 2:=by
 unfold Txt.split
 split
 ·show 1≤_;omega
 ·split
  ·show 1≤_;omega
  ·exact split_few z y
section
variable {X:Cx} {K:PySem.W.Frag}
def rSplit:V→List V→Hp→VK→Prop:=fun x vs H Q=>∃ z y:Str,x = .str z∧vs = [.str y]∧(y.length == 0) = false∧z.length≤1000000∧∀ l H',H l = none→H' l = some (.lst ((Txt.split z y).map V.str))→Same H H'→Q (.ref l) H'
theorem mt_split:MtM X "str.split" rSplit:=by
 intro pins s σ H x vs v us Q I rx rv h
 obtain ⟨z,y,rfl,rfl,hy,hz,q⟩:=h
 obtain ⟨t,rfl⟩:=rx
 obtain ⟨w,rfl,u,rfl⟩:=rv.one
 have hsz:sizeLine = 16777216:=sizeLine_eq
 have hf:H s.heap.objs.size = none:=I.fresh
 have one:Txt.split z y = [z]→∀ k,EP X pins σ Q (.ref s.heap.objs.size) { s with heap:=s.heap.push { cls:=.type "list",data:=.seq [Value.str z t].toArray },toks:=k }:=fun e k =>
  ⟨.ref _,_,I.lnew (ys:=[.str z]) (.cons ⟨t,rfl⟩ .nil) (by show 1≤sizeLine;decide),rfl,q _ _ hf (by rw [upd_same,e];rfl) (Same.newH hf)⟩
 cases h1:(decide (z.length < y.length) || decide (Builtin.Str.strKind z < Builtin.Str.strKind y))
 ·cases h2:(Builtin.Str.occurrences z y 0 z.length (z.length + 1)).isEmpty
  ·have few:=split_few z y
   refine call_meets F.slot_str_split (typeIs_str _ _ _) F.entry_str_split (F.args_str_split_2 _ _) (meets_str_split_sep z y t u h1 hy h2 (by omega) (by omega)) ?_
   have e:Txt.split z y = Builtin.Str.partsBetween z (Builtin.Str.occurrences z y 0 z.length (z.length + 1)) y.length:=by
    unfold Txt.split
    rw [if_neg (by rw [h1];exact Bool.false_ne_true),if_neg (by rw [h2];exact Bool.false_ne_true)]
   rw [← e] at few ⊢
   rw [strsFrom_eq]
   exact ⟨.ref _,_,I.lnew (vals_strs _ _) (by rw [List.length_map];omega),rfl,q _ _ hf upd_same (Same.newH hf)⟩
  ·have e:Txt.split z y = [z]:=by
    unfold Txt.split
    rw [if_neg (by rw [h1];exact Bool.false_ne_true),if_pos h2]
   exact call_meets F.slot_str_split (typeIs_str _ _ _) F.entry_str_split (F.args_str_split_2 _ _) (meets_str_split_not_found z y t u h1 hy h2) (one e s.toks)
 ·have e:Txt.split z y = [z]:=by
   unfold Txt.split
   rw [if_pos h1]
  exact call_meets F.slot_str_split (typeIs_str _ _ _) F.entry_str_split (F.args_str_split_2 _ _) (meets_str_split_cannot_occur z y t u h1) (one e s.toks)
def headS (z y:Str):Str:=match Builtin.Str.occurrences z y 0 z.length 1 with
 | i::_=>Builtin.Str.strSub z 0 i
 | []=>z
def rPart:V→List V→Hp→VK→Prop:=fun x vs H Q=>∃ z y:Str,x = .str z∧vs = [.str y]∧(y.length == 0) = false∧z.length≤1000000∧∀ l a b H',H l = none→H' l = some (.tup [.str (headS z y),a,b])→Same H H'→Q (.ref l) H'
theorem mt_part:MtM X "str.partition" rPart:=by
 intro pins s σ H x vs v us Q I rx rv h
 obtain ⟨z,y,rfl,rfl,hy,hz,q⟩:=h
 obtain ⟨t,rfl⟩:=rx
 obtain ⟨w,rfl,u,rfl⟩:=rv.one
 have hsz:sizeLine = 16777216:=sizeLine_eq
 have hf:H s.heap.objs.size = none:=I.fresh
 have fin:∀ (its:List Value) (ys:List V) k,Vals ys its→ys.length≤sizeLine→(∃ a b,ys = [.str (headS z y),a,b])→EP X pins σ Q (.ref s.heap.objs.size) { s with toks:=k,heap:=s.heap.push { cls:=.type "tuple",data:=.seq its.toArray } }:=by
  intro its ys k hv hl he
  obtain ⟨a,b,rfl⟩:=he
  exact ⟨.ref _,_,I.laid (t':=k) (o:=.tup _) (fun c o e=>Heap.get?_push_of_some _ e) (Nat.le_refl _) ⟨hl,its,hv,IsTup.new _ _⟩,rfl,q _ _ _ _ hf upd_same (Same.newH hf)⟩
 refine call_meets F.slot_str_partition (typeIs_str _ _ _) F.entry_str_partition (F.args_str_partition_2 _ _) (meets_str_partition z y t u hy (by omega)) ?_
 unfold headS at fin
 cases e:Builtin.Str.occurrences z y 0 z.length 1 with
 | nil =>
  rw [e] at fin
  exact fin _ [.str z,.str Str.empty,.str Str.empty] _ (.cons ⟨t,rfl⟩ (.cons ⟨_,rfl⟩ (.cons ⟨_,rfl⟩ .nil))) (by show 3≤sizeLine;decide) ⟨_,_,rfl⟩
 | cons i r =>
  rw [e] at fin
  exact fin _ [.str (Builtin.Str.strSub z 0 i),.str y,.str (Builtin.Str.strSub z (i + y.length) z.length)] _ (.cons ⟨_,rfl⟩ (.cons ⟨_,rfl⟩ (.cons ⟨_,rfl⟩ .nil))) (by show 3≤sizeLine;decide) ⟨_,_,rfl⟩
def rAff (f:Str→Str→Bool):V→List V→Hp→VK→Prop:=fun x vs H Q=>∃ z y:Str,x = .str z∧vs = [.str y]∧Q (.bl (f z y)) H
theorem mt_starts:MtM X "str.startswith" (rAff Txt.startswith):=by
 intro pins s σ H x vs v us Q I rx rv h
 obtain ⟨z,y,rfl,rfl,q⟩:=h
 obtain ⟨t,rfl⟩:=rx
 obtain ⟨w,rfl,u,rfl⟩:=rv.one
 exact SC.startswith ⟨.bl _,H,I,rfl,q⟩
theorem mt_ends:MtM X "str.endswith" (rAff Txt.endswith):=by
 intro pins s σ H x vs v us Q I rx rv h
 obtain ⟨z,y,rfl,rfl,q⟩:=h
 obtain ⟨t,rfl⟩:=rx
 obtain ⟨w,rfl,u,rfl⟩:=rv.one
 exact SC.endswith ⟨.bl _,H,I,rfl,q⟩
def rSlS:V→Option Int→Option Int→Hp→VK→Prop:=fun x lo hi H Q=>∃ z:Str,x = .str z∧z.length≤1000000∧Q (.str (StrLaws.sliceText z lo hi)) H
theorem part_of {v:Value} {o:Option Int} (h:IsPart v o):∃ l:Option (Int×Tok),v = partValue l∧l.map (·.1) = o:=by
 cases h with
 | none=>exact ⟨none,rfl,rfl⟩
 | int i t=>exact ⟨some (i,t),rfl,rfl⟩
theorem sl_str:SlR X rSlS:=by
 intro pins s σ H x v vl vu lo hi sl Q I rx hs pl pu h
 obtain ⟨z,rfl,hz,q⟩:=h
 obtain ⟨t,rfl⟩:=rx
 obtain ⟨l,rfl,e1⟩:=part_of pl
 obtain ⟨u,rfl,e2⟩:=part_of pu
 refine ⟨"str",_,F.slot_str_getitem.lookup,typeIs_str _ _ _,?_⟩
 refine wpAny_getItem_str_slice (l:=l) (u:=u) (st:=none) hs rfl ?_
 have hsz:sizeLine = 16777216:=sizeLine_eq
 unfold StrLaws.sliceText at q
 unfold sliceMade
 have e3:slicePicked z l u none = Builtin.Str.strSliceIndices lo hi 1 z.length:=by
  unfold slicePicked
  rw [e1,e2]
  rfl
 rw [e3]
 have e4:(((none:Option (Int×Tok)).map (·.1)).getD 1:Int) = 1:=rfl
 rw [e4]
 by_cases c:((1:Int) == 1 && (Builtin.Str.strSliceIndices lo hi 1 z.length).length == z.length) = true
 ·rw [if_pos c] at q ⊢
  exact ⟨.str z,H,I,⟨t,rfl⟩,q⟩
 ·rw [if_neg c] at q ⊢
  refine ⟨?_,.str _,H,I.tok _,⟨_,rfl⟩,q⟩
  have h1:=sliceIndices_le lo hi z.length
  have h2:((Builtin.Str.strSliceIndices lo hi 1 z.length).filterMap (z.cps[·]?)).length≤(Builtin.Str.strSliceIndices lo hi 1 z.length).length:=List.length_filterMap_le _ _
  show ((Builtin.Str.strSliceIndices lo hi 1 z.length).filterMap (z.cps[·]?)).toArray.size≤sizeLine
  rw [List.size_toArray]
  omega
end
end L2
namespace L2
open PySem PySem.Spec PyProof.Rows
section
variable {X:Cx} {K:PySem.W.Frag}
theorem bools_of:∀ {bs:List Bool} {its:List Value},Vals (bs.map V.bl) its→its = bs.map Value.bool
 | [],_,.nil=>rfl
 | b::bs,_,.cons h r=>by
  cases (show _ = Value.bool b from h)
  rw [bools_of r]
  rfl
def rAll (K:PySem.W.Frag):List V→Hp→VK→Prop:=fun xs H Q=>∃ (p:Addr) (bs:List Bool),xs = [.ref p]∧SqL K H p (bs.map V.bl)∧Q (.bl (bs.all id)) H
theorem call_allB (h:X.K = K) (hc:X.calm = true):CallR X (.builtin "all") (rAll K):=by
 subst h
 intro pins s σ H xs us Q I r h
 obtain ⟨p,bs,rfl,hp,q⟩:=h
 obtain ⟨u,rfl,ru⟩:=vals1 r
 cases ru
 obtain ⟨its,rv,pl,hzz⟩:=I.list hp
 have hl:=pl.isList
 have e:its = bs.map Value.bool:=bools_of rv
 have hlt:p < s.heap.objs.size:=by obtain ⟨_,z,_⟩:=hl;exact Heap.lt_size z
 have hI:({ s with heap:=s.heap.push { cls:=.type "list_iterator",data:=.fields #[.ref p,.int 0 0] } }:Shared).heap.IsListIter s.heap.objs.size p 0:=⟨_,Heap.get?_push_size _ rfl,rfl,rfl⟩
 refine call_all_walk (wpAny_pyIter_list hl ⟨_,_,_,_,_,_,fun i=>bs.getD i true,rfl,Walks.list (A:=X.A.in1) (I.ok.hd hc) _ p (Nat.ne_of_lt hlt) its.toArray,⟨hI,hl.push _⟩,?_,fun h' tk hk=>?_⟩)
 ·intro i v s' Q' E' hv hq
  dsimp only at hq
  have hv':its[i]? = some v:=by simpa using hv
  rw [e,List.getElem?_map] at hv'
  cases g:bs[i]? with
  | none=>rw [g] at hv';cases hv'
  | some b =>
   rw [g] at hv'
   cases (Option.some.inj hv')
   have hb:bs.getD i true = b:=by rw [List.getD_eq_getElem?_getD,g];rfl
   rw [hb] at hq
   exact wpAny_truthy_bool hq
 ·have ez:((List.range its.toArray.size).all fun i=>bs.getD i true) = bs.all id:=by
   rw [e]
   rw [Bool.eq_iff_iff,List.all_eq_true,List.all_eq_true]
   constructor
   ·intro h b hb
    obtain ⟨i,hi,g⟩:=List.getElem_of_mem hb
    have:=h i (by simpa using hi)
    rw [List.getD_eq_getElem?_getD,List.getElem?_eq_getElem hi,g] at this
    exact this
   ·intro h i hi
    have hi':i < bs.length:=by simpa using hi
    rw [List.getD_eq_getElem?_getD,List.getElem?_eq_getElem hi']
    exact h _ (List.getElem_mem hi')
  refine ⟨.bl (bs.all id),H,I.kept (h':=h') (t':=tk) (old_kept hk),?_,q⟩
  rw [ez]
  rfl
theorem bo_all:bootBuiltins "all" = some (.builtin "all"):=by decide +kernel
def rIntS:List V→Hp→VK→Prop:=fun xs H Q=>∃ z:Str,xs = [.str z]∧(∀ c∈z.cps.toList,48≤c∧c≤57)∧z.cps.toList≠[]∧z.length≤640∧Q (.int ((NumText.digitsVal z.cps.toList:Nat):Int)) H
theorem call_intS:CallR X (.type "int") rIntS:=by
 intro pins s σ H xs us Q I r h
 obtain ⟨z,rfl,h1,h2,h3,q⟩:=h
 obtain ⟨u,rfl,t,rfl⟩:=vals1 r
 exact PySem.W.KIN.call_text (PySem.intText_digits h1 h2 (by omega)) h3 ⟨.int _,H,I.tok _,⟨_,rfl⟩,q⟩
def rCount:V→List V→Hp→VK→Prop:=fun x vs H Q=>∃ (l:Addr) (ts:List Str) (y:Str),x = .ref l∧vs = [.str y]∧H l = some (.lst (ts.map V.str))∧Q (.int (ts.count y:Nat)) H
theorem count_eq {y:V}:∀ {xs:List V} {us:List Value},Vals xs us→xs.all flatV = true→us.countP (eqU y) = xs.countP fun v=>eqV v y
 | _,_,.nil,_=>rfl
 | v::xs,u::us,.cons r t,f=>by
  rw [List.all_cons,Bool.and_eq_true] at f
  rw [List.countP_cons,List.countP_cons,count_eq t f.2,eqU_of r f.1]
theorem count_strs (y:Str):∀ ts:List Str,((ts.map V.str).countP fun v=>eqV v (.str y)) = ts.count y
 | []=>rfl
 | t::ts=>by
  rw [List.map_cons,List.countP_cons,List.count_cons,count_strs y ts]
  rfl
theorem flat_strs:∀ ts:List Str,(ts.map V.str).all flatV = true
 | []=>rfl
 | _::ts=>flat_strs ts
theorem mt_count:MtM X "list.count" rCount:=by
 intro pins s σ H x vs v us Q I rx rv h
 obtain ⟨l,ts,y,rfl,rfl,hH,q⟩:=h
 cases rx
 obtain ⟨u,rfl,ru⟩:=rv.one
 obtain ⟨z,its,n,r,hl,e⟩:=I.lstM hH
 refine call_meets F.slot_list_count ⟨_,e,rfl⟩ F.entry_list_count (F.args_list_count_2 _ _) (PySem.SeqAt.list_countAt l its.toArray n _ _ u (eqU (.str y))) ⟨e,fun w hw=>mem_eqAt ru rfl r (flat_strs ts) w (by simpa using hw),?_⟩
 refine ⟨.int _,H,I.tok _,⟨_,rfl⟩,?_⟩
 rw [count_eq r (flat_strs ts),count_strs]
 exact q
end
end L2
namespace L2
open PySem PySem.Spec PyProof.Rows
def PEt (X:Cx) (e:Expr) (t:TE):Prop :=
 ∀ (pins:List (Addr×Obj)) (s:Shared) (σ:St) (H:Hp) (Q:VK),Inv X pins σ H s→t σ H Q→wpAny (model X.prog X.w) X.A (eval e X.env) (fun u s'=>EP X pins σ Q u s'∧0 < s'.toks) X.xe s
section
variable {X:Cx} {K:PySem.W.Frag} {a o:Expr} {ta to:TE}
theorem pe_oft {e:Expr} {t:TE} (h:PEt X e t):PE X e t:=fun pins s σ H Q I q=>thn (h pins s σ H Q I q) fun _ _ z=>z.1
theorem pet_ix {n:Int} {j} {p2 pos:Pos} (h:X.K = K) (ha:PE X a ta) (hs:PlainIx (.Constant (.int n) j p2)) (h0:0≤n:=by decide):PEt X (.Subscript a (.Constant (.int n) j p2) pos) (tOp (rIxL K) ta (tC (.int n))):=by
 subst h
 intro pins s σ H Q I h
 refine Subscript_ (thn (ha pins s σ H _ I h) fun v s1 ⟨x,H1,I1,r1,q1⟩=>wpAny_Constant_int ?_)
 obtain ⟨p,xs,i,z,rfl,e2,hq,he,q⟩:=q1
 cases e2
 cases r1
 obtain ⟨its,r,pl,hz⟩:=(I1.tok (s1.toks + 1)).list hq
 obtain ⟨k,h1,h2,h3,h4,h5⟩:=atI_get he
 obtain ⟨w,ew,rw'⟩:=r.get h2
 have hl:=r.length
 have hn:=line63
 have hj:n.toNat = k:=by
  rw [seqIndex_of h0 h5] at h1
  exact Option.some.inj h1
 exact item_listR pl.isList h0 (by omega) (by rw [hj];simpa using ew) ⟨⟨z,H1,I1.tok _,rw',q⟩,Nat.succ_pos _⟩ (hs _ _)
def tRepl (y z:Str) (to:TE):TE:=fun σ H Q=>to σ H fun x H1=>∃ w:Str,x = .str w∧w.length≤100000∧Q (.str (Txt.replace w y z)) H1
theorem pet_repl {y z:Str} {j1 j2} {p1 p2 apos cpos:Pos} (ho:PEt X o to) (hyz:(y == z) = false) (hz:z.length≤14)
  (hbase:attributeBase o "replace" X.env (eval o X.env) = eval o X.env:=by rfl) (hline:(apos.endLine == cpos.line) = true:=by rfl) :
  PEt X (.Call (.Attribute o "replace" apos) [.Constant (.str y) j1 p1,.Constant (.str z) j2 p2] [] cpos) (tRepl y z to):=by
 intro pins s σ H Q I h
 refine wpAny_Call_method_late hbase rfl hline rfl (thn (ho pins s σ H _ I h) fun v s1 ⟨⟨x,H1,I1,r1,w,e,hw,q⟩,tk⟩=>?_)
 subst e
 obtain ⟨t,rfl⟩:=r1
 refine ⟨"str","str.replace",F.plainAttrs_str,F.slot_str_replace,F.type_str_replace,typeIs_str _ _ _,fun _ e=>(nomatch e),?_⟩
 refine Calls.callWith_builtin rfl (Calls.evalArgs_plain ?_)
 refine Calls.spliced_cons (Calls.Constant_str (k:=j1) (pos:=p1) ?_)
 refine Calls.spliced_cons (Calls.Constant_str (k:=j2) (pos:=p2) (Calls.spliced_nil ?_))
 have hlong:Builtin.Str.tooLong (w.length + (Builtin.Str.occurrences w y 0 w.length (w.length + 1)).length * z.length) = false:=by
  have h1:=StrLaws.occ_length_le w y 0 w.length (w.length + 1)
  have h2:(Builtin.Str.occurrences w y 0 w.length (w.length + 1)).length * z.length≤(w.length + 1) * 14:=Nat.mul_le_mul h1 hz
  have h3:sizeLine = 16777216:=sizeLine_eq
  unfold Builtin.Str.tooLong
  exact decide_eq_false (by omega)
 refine call_gives F.slot_str_replace (typeIs_str _ _ _) F.entry_str_replace (F.args_str_replace_3 _ _ _) (gives_str_replace w y z t s1.toks (s1.toks + 1) fun _=>⟨by rw [Bool.or_eq_false_iff];exact ⟨beq_eq_false_iff_ne.mpr (Nat.ne_of_gt tk),beq_eq_false_iff_ne.mpr (Nat.succ_ne_zero _)⟩,by simp,hyz,hlong⟩) ?_
 have q':=q
 unfold Txt.replace at q'
 cases hc:((Builtin.Str.occurrences w y 0 w.length (w.length + 1)).isEmpty || (y.length == 0 && z.length == 0))
 ·rw [hc] at q'
  simp only [Bool.false_eq_true,if_false] at q' ⊢
  refine ⟨PySem.fits_replaced y ?_,⟨.str _,H1,I1.tok _,⟨_,rfl⟩,q'⟩,Nat.succ_pos _⟩
  have h2:(w.length + 1) * z.length≤(w.length + 1) * 14:=Nat.mul_le_mul_left _ hz
  omega
 ·rw [hc] at q'
  simp only [if_true] at q' ⊢
  exact ⟨⟨.str _,H1,I1.tok _,⟨_,rfl⟩,q'⟩,Nat.succ_pos _⟩
end
end L2
namespace L2
open PySem PySem.Spec PyProof.Rows
open Builtin in
theorem tindex (a:Addr) (xs:Array Value) (n:Nat) (dd:Option Addr) (sl:Array (Option Value)) (x:Value) (e:Value→Bool) (j:Nat) (hj:j < xs.size) (hit:e xs[j] = true) (hno:∀ m (hm:m < xs.size),m < j→e xs[m] = false) :
  Meets («tuple.index» ⟨[.ref a,x],[]⟩) (fun A R s=>s.heap.get? a = some ⟨.type "tuple",dd,.seq xs n,sl⟩∧(∀ y∈xs,SeqAt.EqAt A.in1 s y x (e y))∧R (.ok (.ret (.int j s.toks))) { s with toks:=s.toks + 1 }):=by
 intro prog w A R s h
 obtain ⟨hl,he,h⟩:=h
 unfold «tuple.index»
 refine wpAny_bind (m:=selfAndSome "tuple.index" "index" 1 3 _) (wpAny_pure ?_)
 refine wpAny_bind (m:=Tuple.tupleItemsOf (.ref a)) ?_
 unfold Tuple.tupleItemsOf
 refine wpAny_bind (wpAny_seqItems hl rfl (wpAny_pure ?_))
 refine wpAny_bind (wpAny_pure ?_)
 refine wpAny_bind (wpAny_pure ?_)
 dsimp only
 refine wpAny_bind ?_
 rw [Std.Legacy.Range.forIn_eq_forIn_range']
 simp only [Std.Legacy.Range.size,Nat.sub_zero,Nat.add_sub_cancel,Nat.div_one,Nat.min_self]
 refine wpAny_forIn_list _ (fun rest b s'=>b.1 = none∧s' = s∧∃ i,rest = List.range' i (xs.size - i)∧i≤j) _ ?_ ?_ _ _ ⟨rfl,rfl,0,by simp,Nat.zero_le _⟩
 ·rintro i rest b s' ⟨_,rfl,k,hr,hk⟩
  have ek:xs.size - k = (xs.size - (k + 1)) + 1:=by omega
  rw [ek,List.range'_succ] at hr
  injection hr with h1 h2
  subst h1
  have hi:i < xs.size:=by omega
  rw [Array.getElem?_eq_getElem hi]
  dsimp only
  refine wpAny_bind (he xs[i] (Array.getElem_mem hi) prog w _ _ ?_)
  by_cases c:i = j
  ·subst c
   rw [hit,if_pos rfl]
   exact wpAny_bind (wpAny_bind (wpAny_mkInt (wpAny_pure (wpAny_pure (wpAny_pure h)))))
  ·rw [hno i hi (by omega),if_neg Bool.false_ne_true]
   exact wpAny_pure ⟨rfl,rfl,i + 1,h2,by omega⟩
 ·rintro b s' ⟨_,rfl,k,hr,hk⟩
  have ek:xs.size - k = (xs.size - (k + 1)) + 1:=by omega
  rw [ek,List.range'_succ] at hr
  cases hr
def rTidx (K:PySem.W.Frag):V→List V→Hp→VK→Prop:=fun x vs H Q=>∃ (a:Addr) (ts:List Str) (y:Str),x = .ref a∧vs = [.str y]∧TupK K a (ts.map V.str)∧y∈ts∧Q (.int (ts.idxOf y:Nat)) H
theorem mt_tidx {X:Cx} {K:PySem.W.Frag} (h:X.K = K):MtM X "tuple.index" (rTidx K):=by
 subst h
 intro pins s σ H x vs v us Q I rx rv h
 obtain ⟨a,ts,y,rfl,rfl,ha,hy,q⟩:=h
 cases rx
 obtain ⟨u,rfl,ru⟩:=rv.one
 obtain ⟨its,r,pt,hz⟩:=I.tuple (ha.sq (H:=H))
 obtain ⟨⟨cls,dd,data,sl⟩,e2,hc,m,hd⟩:=pt
 simp only at hc hd
 subst hc hd
 have hl:=r.length
 rw [List.length_map] at hl
 have hj:ts.idxOf y < ts.length:=List.idxOf_lt_length_of_mem hy
 have key:∀ (i:Nat) (hi:i < its.toArray.size),eqU (.str y) its.toArray[i] = decide (ts[i]? = some y):=by
  intro i hi
  have hi':i < its.length:=by simpa using hi
  obtain ⟨v1,h1,h2⟩:=vals_all (y:=.str y) r (flat_strs ts) i its[i] (List.getElem?_eq_getElem hi')
  rw [List.getElem?_map] at h1
  have hit:i < ts.length:=by omega
  rw [List.getElem?_eq_getElem hit] at h1 ⊢
  cases h1
  show eqU (.str y) its[i] = _
  rw [h2]
  show (ts[i] == y) = _
  rw [Bool.eq_iff_iff]
  simp
 refine call_meets F.slot_tuple_index ⟨_,e2,rfl⟩ F.entry_tuple_index (F.args_tuple_index_2 _ _) (tindex a its.toArray m dd sl u (eqU (.str y)) (ts.idxOf y) (by rw [List.size_toArray];omega) ?_ ?_) ⟨e2,fun w hw=>mem_eqAt ru rfl r (flat_strs ts) w (by simpa using hw),⟨.int _,H,I.tok _,⟨_,rfl⟩,q⟩⟩
 ·rw [key]
  exact decide_eq_true (by rw [List.getElem?_eq_getElem hj,List.getElem_idxOf hj])
 ·intro i hi hlt
  rw [key]
  refine decide_eq_false fun z=>?_
  have hit:i < ts.length:=by omega
  rw [List.getElem?_eq_getElem hit] at z
  have:=List.not_of_lt_findIdx (p:=(· == y)) (xs:=ts) (i:=i) hlt
  rw [Option.some.inj z] at this
  simp at this
end L2
namespace L2
open PySem PySem.Spec PyProof.Rows
section
variable {prog:Program} {w:World} {A:Around} {E:Value→Shared→Prop} {s:Shared}
theorem cntItem {e it l:Addr} {i:Nat} {c:Int} {its:Array Value} {x old:Value} {Q:Value→Shared→Prop} (he:IsEnum s.heap e it c old) (hi:s.heap.IsListIter it l i) (hl:s.heap.IsList l its) (hx:its[i]? = some x) (ne:e≠it)
  (q:∀ g,IsEnumOut g e it (c + 1) x s.heap.objs.size→g.IsListIter it l (i + 1)→g.get? s.heap.objs.size = some { cls:=.type "tuple",data:=.seq #[.int c s.toks,x] }→g.objs.size = s.heap.objs.size + 1 →
   (∀ b o,b≠e→b≠it→s.heap.get? b = some o→g.get? b = some o)→Q (.ref s.heap.objs.size) { s with heap:=g,toks:=s.toks + 1 }) :
  wpAny (model prog w) A (Builtin.«enumerate.__next__» ⟨[.ref e],[]⟩) (fun fin s'=>∃ v,fin = .done (.ret v)∧Q v s') E s:=by
 refine wpAny_bind (m:=field (.ref e) 2) (wpAny_field he rfl (x:=.ref it) rfl ?_)
 refine wpAny_bind (wpAny_nextOf_list_item hi hl hx fun g1 i1 s1=>?_)
 have e1:IsEnum g1 e it c old:=s1.extBut _ _ ne he
 refine wpAny_bind (m:=field (.ref e) 3) (wpAny_field e1 rfl (x:=rawInt c) rfl ?_)
 refine wpAny_bind (m:=field (.ref e) 4) (wpAny_field e1 rfl (x:=.none) rfl ?_)
 refine wpAny_bind (m:=mkInt c) (wpAny_mkInt ?_)
 refine wpAny_bind (wpAny_setField_rec e1 (by simp) fun g2 e2 s2=>?_)
 replace e2:IsEnum g2 e it (c + 1) old:=e2
 refine wpAny_bind (wpAny_setField_rec e2 (by simp) fun g3 e3 s3=>?_)
 replace e3:IsEnum g3 e it (c + 1) old:=e3
 refine wpAny_bind (wpAny_newTuple ?_)
 have z3:g3.objs.size = s.heap.objs.size:=by rw [s3.1,s2.1,s1.1]
 have k3:∀ b o,b≠e→b≠it→s.heap.get? b = some o→g3.get? b = some o:=fun b o n1 n2 h=>s3.extBut _ _ n1 (s2.extBut _ _ n1 (s1.extBut _ _ n2 h))
 have i3:g3.IsListIter it l (i + 1):=(i1.extBut s2.extBut ne.symm).extBut s3.extBut ne.symm
 have el:e < s.heap.objs.size:=Heap.lt_size he
 have e4:IsEnum (g3.push { cls:=.type "tuple",data:=.seq #[.int c s.toks,x] }) e it (c + 1) old:=Heap.get?_push_of_some _ e3
 have t4:(g3.push { cls:=.type "tuple",data:=.seq #[.int c s.toks,x] }).get? s.heap.objs.size = some { cls:=.type "tuple",data:=.seq #[.int c s.toks,x] }:=by
  rw [← z3];exact Heap.get?_push_size _ rfl
 have z4:(g3.push { cls:=.type "tuple",data:=.seq #[.int c s.toks,x] }).objs.size = s.heap.objs.size + 1:=by rw [Heap.size_push,z3]
 have k4:∀ b o,b≠e→b≠it→s.heap.get? b = some o→(g3.push { cls:=.type "tuple",data:=.seq #[.int c s.toks,x] }).get? b = some o:=fun b o n1 n2 h=>Heap.get?_push_of_some _ (k3 b o n1 n2 h)
 have i4:(g3.push { cls:=.type "tuple",data:=.seq #[.int c s.toks,x] }).IsListIter it l (i + 1):=i3.at fun o h=>Heap.get?_push_of_some _ h
 refine wpAny_bind (m:=Builtin.SmallTypes.ownedTupleIsFree (.ref e)) ?_
 unfold Builtin.SmallTypes.ownedTupleIsFree
 refine wpAny_bind (wpAny_field e4 rfl (x:=.none) rfl (wpAny_pure ?_))
 simp only [if_true]
 refine wpAny_bind (wpAny_rule ?_)
 refine wpAny_bind (wpAny_field e4 rfl (x:=old) rfl ?_)
 refine wpAny_bind (wpAny_setField_rec e4 (by simp) fun g5 e5 s5=>?_)
 replace e5:IsEnum g5 e it (c + 1) x:=e5
 refine wpAny_bind (m:=Builtin.SmallTypes.ownedTupleHandOut (.ref e) (.ref g3.objs.size)) ?_
 unfold Builtin.SmallTypes.ownedTupleHandOut
 refine wpAny_bind (wpAny_setField_rec e5 (by simp) fun g6 e6 s6=>?_)
 replace e6:IsEnumOut g6 e it (c + 1) x g3.objs.size:=e6
 refine wpAny_setField_rec e6 (by simp) fun g7 e7 s7=>?_
 replace e7:IsEnumOut g7 e it (c + 1) x g3.objs.size:=e7
 rw [z3] at e7
 refine wpAny_bind (wpAny_letGo (wpAny_pure ⟨_,rfl,?_⟩))
 show Q (.ref g3.objs.size) _
 rw [z3]
 have up:∀ b o,b≠e→(g3.push { cls:=.type "tuple",data:=.seq #[.int c s.toks,x] }).get? b = some o→g7.get? b = some o:=fun b o n h=>s7.extBut _ _ n (s6.extBut _ _ n (s5.extBut _ _ n h))
 exact q g7 e7 (i4.at fun o h=>up _ o ne.symm h) (up _ _ (Nat.ne_of_gt el) t4) (by rw [s7.1,s6.1,s5.1,z4]) fun b o n1 n2 h=>up b o n1 (k4 b o n1 n2 h)
theorem cntNext {e it l:Addr} {i:Nat} {c:Int} {its:Array Value} {x old:Value} {Q:Option Value→Shared→Prop} (he:IsEnum s.heap e it c old) (hi:s.heap.IsListIter it l i) (hl:s.heap.IsList l its) (hx:its[i]? = some x) (ne:e≠it)
  (q:∀ g,IsEnumOut g e it (c + 1) x s.heap.objs.size→g.IsListIter it l (i + 1)→g.get? s.heap.objs.size = some { cls:=.type "tuple",data:=.seq #[.int c s.toks,x] }→g.objs.size = s.heap.objs.size + 1 →
   (∀ b o,b≠e→b≠it→s.heap.get? b = some o→g.get? b = some o)→Q (some (.ref s.heap.objs.size)) { s with heap:=g,toks:=s.toks + 1 }):wpAny (model prog w) A (pyNext (.ref e)) Q E s:=by
 have ty:s.TypeIs (.ref e) "enumerate":=⟨_,he,rfl⟩
 unfold pyNext
 exact wpAny_bind (wpAny_attempt (wpAny_callSpecial?_slot (name:=Str.ofString "__next__") ty F.slot_enumerate_next (wpAny_call_entry F.slot_enumerate_next ty F.entry_enumerate_next
  (cntItem he hi hl hx ne fun g b1 b2 b3 b4 b5=>wpAny_pure (q g b1 b2 b3 b4 b5)) (F.args_enumerate_next_1 _))))
theorem cntStop {e it l:Addr} {i:Nat} {c:Int} {its:Array Value} {old:Value} {Q:Option Value→Shared→Prop} (hA:A.handled = none) (he:IsEnum s.heap e it c old) (hi:s.heap.IsListIter it l i) (hl:s.heap.IsList l its) (hx:its[i]? = none)
  (q:∀ g,Heap.ExtBut it s.heap g→Q none { s with heap:=g }):wpAny (model prog w) A (pyNext (.ref e)) Q E s:=by
 have ty:s.TypeIs (.ref e) "enumerate":=⟨_,he,rfl⟩
 unfold pyNext
 refine wpAny_bind (wpAny_attempt (wpAny_callSpecial?_slot (name:=Str.ofString "__next__") ty F.slot_enumerate_next (wpAny_call_entry F.slot_enumerate_next ty F.entry_enumerate_next ?_ (F.args_enumerate_next_1 _))))
 refine wpAny_bind (m:=field (.ref e) 2) (wpAny_field he rfl (x:=.ref it) rfl ?_)
 refine wpAny_bind (wpAny_nextOf_list_end hA hi hl hx fun g x k hx'=>?_)
 obtain ⟨o,e1,e2⟩:=hx'
 exact wpAny_bind (wpAny_isInstance (T:="StopIteration") (b:=true) ⟨o,e1,e2⟩ isSubtype_stop (wpAny_pure (q _ k)))
end
def Itn (K:PySem.W.Frag) (n:Int) (a:Addr):It :=
 ⟨fun i H=>∃ xs x,SqL K H a xs∧xs[i]? = some x,fun i H v H'=>∃ T x,v = .ref T∧H T = none∧(∀ xs,SqL K H a xs→xs[i]? = some x)∧H' = upd H T (.tup [.int (n + i),x]),fun i H=>∃ xs,SqL K H a xs∧xs.length≤i⟩
theorem turn_cnt {P:Program} {w:World} {K:PySem.W.Frag} {elts:List Expr} {x1} {pos:Pos} (n:Int) (a it e:Addr) (hne:e≠it) :
  Turn P w K (.Tuple elts x1 pos) (Itn K n a) [e,it] e (fun i h=>(∃ old,IsEnum h e it (n + (i:Int)) old)∧h.IsListIter it a i) where
 mem:=by simp
 obj:=fun i h st b hb=>by
  obtain ⟨⟨old,he⟩,o,ho,c,d⟩:=st
  have hb':b = e∨b = it:=by simpa using hb
  rcases hb' with rfl | rfl
  ·exact ⟨_,he,fun v z=>by
    have z':Data.fields _ = Data.cell v:=z
    cases z'⟩
  ·exact ⟨o,ho,fun v z=>by rw [d] at z;cases z⟩
 keep:=fun i h h' st k=>by
  obtain ⟨⟨old,he⟩,hi⟩:=st
  exact ⟨⟨old,k e (by simp) _ he⟩,hi.at fun o q=>k it (by simp) o q⟩
 item:=by
  intro X hP hw hK hc i pins s σ H E I hf st hg
  subst hP hw hK
  obtain ⟨⟨old,he⟩,hit⟩:=st
  obtain ⟨xs,x,hq,hx⟩:=hg
  obtain ⟨its,rv,p,hz⟩:=I.list hq
  obtain ⟨u,hu,ru⟩:=rv.get hx
  have fe:=hf e (by simp)
  have fi:=hf it (by simp)
  refine cntNext he hit p.isList (x:=u) (by simpa using hu) hne fun h1 ho hit1 hT hsz hk=>⟨_,rfl,wpAny_letOwnedTupleGo_enum ho fun h2 he2 hs2=>?_⟩
  replace hs2:Heap.SameBut e h1 h2:=hs2
  have fr:H s.heap.objs.size = none:=I.hok.fresh (Nat.le_refl _)
  have neT:s.heap.objs.size≠e:=fun z=>by rw [z] at fr;exact absurd (Heap.lt_size he) (by rw [z];exact Nat.lt_irrefl _)
  have keep:∀ b o,b≠e→b≠it→s.heap.get? b = some o→h2.get? b = some o:=fun b o n1 n2 q=>(hs2.2 b n1).trans (hk b o n1 n2 q)
  have nT:∀ b u,H b = some u→b≠s.heap.objs.size:=fun b u q z=>by rw [z,fr] at q;cases q
  have ne1:∀ b u,H b = some u→b≠e:=fun b u q z=>by rw [z,fe.1] at q;cases q
  have ne2:∀ b u,H b = some u→b≠it:=fun b u q z=>by rw [z,fi.1] at q;cases q
  refine ⟨.ref s.heap.objs.size,upd H s.heap.objs.size (.tup [.int (n + i),x]),?_,rfl,⟨_,x,rfl,fr,fun ys hy=>by rw [I.list_inj hy hq];exact hx,rfl⟩,⟨⟨u,?_⟩,?_⟩,fun b hb=>?_⟩
  ·refine I.call' (ch:=[e,it]) rfl ⟨fun b o q k hb hx=>?_,fun b o q k hb hx=>?_,fun b o q k hx=>?_,fun b o q hx=>?_,fun b xs q=>?_,fun b o u q=>?_,fun b ps q=>?_⟩ (fun b v q=>?_) I.bare fun b hb=>?_
   ·exact keep b o (fun z=>hx (by simp [z])) (fun z=>hx (by simp [z])) q
   ·exact ⟨o.slots,keep b o (fun z=>hx (by simp [z])) (fun z=>hx (by simp [z])) q⟩
   ·rw [upd_ne (Nat.ne_of_lt (Heap.lt_size q))];exact k
   ·exact ⟨o,keep b o (fun z=>hx (by simp [z])) (fun z=>hx (by simp [z])) q⟩
   ·rw [upd_ne (nT _ _ q)];exact q
   ·rw [upd_ne (nT _ _ q)];exact q
   ·exact ⟨#[],by rw [upd_ne (nT _ _ q),q];simp⟩
   ·by_cases hb:b = s.heap.objs.size
    ·subst hb
     rw [upd_same] at q
     cases q
     exact ⟨by show 2≤sizeLine;decide,[.int (n + i) s.toks,u],.cons ⟨_,rfl⟩ (.cons ru .nil),⟨_,(hs2.2 _ neT).trans hT,rfl,_,rfl⟩⟩
    ·rw [upd_ne hb] at q
     refine (I.hok b v q).stay (fun c v' hc q'=>?_) (fun c q'=>?_) fun c xs q'=>?_
     ·rcases hc with z | z
      ·exact keep c v' (by rw [z];exact ne1 b v q) (by rw [z];exact ne2 b v q) q'
      ·exact keep c v' (ne1 c _ z) (ne2 c _ z) q'
     ·rw [upd_ne (nT _ _ q')];exact q'
     ·rw [upd_ne (nT _ _ q')];exact q'
   ·have f:=hf b hb
    exact ⟨f.2.2.2.1,f.2.1,f.2.2.2.2.1,f.2.2.2.2.2⟩
  ·have ec:n + ((i + 1:Nat):Int) = n + (i:Int) + 1:=by omega
   rw [ec]
   exact he2
  ·exact hit1.extBut hs2.extBut (Ne.symm hne)
  ·have f:=hf b hb
   rw [upd_ne fun z=>?_]
   ·exact f.1
   ·have hb':b = e∨b = it:=by simpa using hb
    rcases hb' with rfl | rfl
    ·exact neT z.symm
    ·obtain ⟨o,ho,_⟩:=hit
     exact absurd (Heap.lt_size ho) (by rw [z];exact Nat.lt_irrefl _)
 done:=by
  intro X hP hw hK hc i pins s σ H E I hf st hg
  subst hP hw hK
  obtain ⟨⟨old,he⟩,hit⟩:=st
  obtain ⟨xs,hq,hx⟩:=hg
  obtain ⟨its,rv,p,hz⟩:=I.list hq
  obtain ⟨f0,f1,f2,f3,f4,f5⟩:=hf it (by simp)
  have hl:=rv.length
  exact cntStop (I.ok.hd hc) he hit p.isList (by simp;omega) fun h' eb=>⟨rfl,I.turned (t':=s.toks) (fun b o hb e=>eb b o hb e) f0 f1 f3 f4 f5⟩
 self:=fun _ _ _ _ _ st h=>by
  obtain ⟨⟨old,he⟩,_⟩:=st
  exact wpAny_pyIter_enum he h
theorem for_cnt {K:PySem.W.Frag} {n:Int} {a:Addr} {xs:List V} {g:TG} {tb:TS} {D:Ends} {σ:St} {H:Hp} (Pv:Nat→St→Hp→Prop) (h0:Pv 0 σ H) (hl:∀ i σ H,i≤xs.length→Pv i σ H→SqL K H a xs)
  (hs:∀ i x T σ H,xs[i]? = some x→Pv i σ H→H T = none→g (.ref T) σ (upd H T (.tup [.int (n + i),x])) fun σ2 H2=>tb { D with nx:=Pv (i + 1),ct:=Pv (i + 1),bk:=D.nx } σ2 H2) (hd:∀ σ H,Pv xs.length σ H→D.nx σ H) :
  ∃ W:Nat→Nat→St→Hp→Prop,(∃ m,W 0 m σ H)∧∀ i m σ H,W i m σ H →
   ((Itn K n a).stop i H∧D.nx σ H)∨((Itn K n a).go i H∧∃ N:St→Hp→Prop,(∀ σ' H',N σ' H'→∃ m',m' < m∧W (i + 1) m' σ' H')∧∀ x H',(Itn K n a).yld i H x H'→g x σ H' fun σ2 H2=>tb { D with nx:=N,ct:=N,bk:=D.nx } σ2 H2):=by
 refine ⟨fun i m σ H=>m = xs.length - i∧i≤xs.length∧Pv i σ H,⟨xs.length,by simp,Nat.zero_le _,h0⟩,?_⟩
 rintro i m σ H ⟨rfl,hi,p⟩
 have q:=hl i σ H hi p
 by_cases hlt:i < xs.length
 ·refine .inr ⟨⟨xs,xs[i],q,by simp [hlt]⟩,Pv (i + 1),fun σ' H' p'=>⟨xs.length - (i + 1),by omega,rfl,hlt,p'⟩,fun x H' y=>?_⟩
  obtain ⟨T,v,e1,e2,y,e3⟩:=y
  subst e1 e3
  exact hs i v T σ H (y xs q) p e2
 ·have e:i = xs.length:=by omega
  subst e
  exact .inl ⟨⟨xs,q,Nat.le_refl _⟩,hd σ H p⟩
section
variable {prog:Program} {w:World} {A:Around} {E:Value→Shared→Prop} {s:Shared}
theorem cntMeets (l:Addr) (its:Array Value) (m:Nat) (t:Tok) (dd:Option Addr) (sl:Array (Option Value)) :
  Meets (Builtin.«enumerate.__new__» ⟨[.type "enumerate",.ref l],[("start",.int 1 t)]⟩) (fun _ R s=>s.heap.get? l = some { cls:=.type "list",dict:=dd,data:=.seq its m,slots:=sl } ∧
   R (.ok (.ret (.ref (s.heap.push { cls:=.type "list_iterator",data:=.fields #[.ref l,.int 0 0] }).objs.size)))
    { s with heap:=(s.heap.push { cls:=.type "list_iterator",data:=.fields #[.ref l,.int 0 0] }).push { cls:=.type "enumerate",data:=.fields #[.none,.bool false,.ref s.heap.objs.size,rawInt 1,.none,.none] } }) :=
 .of_wp fun prog w A R s h=>by
  obtain ⟨hp,g,d,tk,os⟩:=s;obtain ⟨hl,h⟩:=h
  have hsub:=sub_enumerate
  have hL:Heap.IsList (Shared.heap ⟨hp,g,d,tk,os⟩) l its:=⟨_,hl,rfl,m,rfl⟩
  wp_walk using AutoSeq1.wpAny_loadPart' hl
  refine wpAny_stack_any fun st=>wpAny_pure ?_
  split
  ·rename_i c _ _ _ _ _
   cases (c == Value.type "enumerate")
   ·refine wpAny_bind (wpAny_of_eq (a:=(Value.ref l,some (Value.int 1 t))) (by kernel_rfl) ?_)
    wp_walk using wpAny_pyIter_list hL
    exact ⟨_,rfl,h⟩
   ·refine wpAny_bind (wpAny_of_eq (a:=(Value.ref l,some (Value.int 1 t))) (by kernel_rfl) ?_)
    wp_walk using wpAny_pyIter_list hL
    exact ⟨_,rfl,h⟩
  ·refine wpAny_bind (wpAny_of_eq (a:=(Value.ref l,some (Value.int 1 t))) (by kernel_rfl) ?_)
   wp_walk using wpAny_pyIter_list hL
   exact ⟨_,rfl,h⟩
theorem cntCheckT (a:Value) (t:Tok):checkTypeCall "enumerate" ⟨[a],[("start",.int 1 t)]⟩ = pure ():=by kernel_rfl
theorem cntCheckN (a:Value) (t:Tok):checkBuiltinCall "enumerate.__new__" ⟨[.type "enumerate",a],[("start",.int 1 t)]⟩ = pure ():=by kernel_rfl
theorem cntCheckI (o a:Value) (t:Tok):argsOk "object.__init__" ⟨[o,a],[("start",.int 1 t)]⟩:=by kernel_rfl
theorem cntInit {self a:Value} {t:Tok}:Meets (Builtin.«object.__init__» ⟨[self,a],[("start",.int 1 t)]⟩) (fun _ R s=>s.TypeIs self "enumerate"∧R (.ok (.ret .none)) s):=by
 refine Meets.of_wp fun prog w A R s hs=>?_
 obtain ⟨hT,hq⟩:=hs
 have hl:=F.called_enumerate.init.lookup
 have hm:=F.called_enumerate.made
 have hne:(some "enumerate.__new__" != some "object.__new__") = true:=by decide
 repeat (any_goals (first | assumption | wp_step))
 exact ⟨_,rfl,hq⟩
theorem cntCall {l:Addr} {its:Array Value} {t:Tok} {Q:Value→Shared→Prop} (hL:s.heap.IsList l its)
  (h:∀ g,IsEnum g (s.heap.objs.size + 1) s.heap.objs.size 1 .none→g.IsListIter s.heap.objs.size l 0→g.objs.size = s.heap.objs.size + 2 →
   (∀ b o,s.heap.get? b = some o→g.get? b = some o)→Q (.ref (s.heap.objs.size + 1)) { s with heap:=g }) :
  wpAny (model prog w) A (call (.type "enumerate") [.ref l] [("start",.int 1 t)]) Q E s:=by
 obtain ⟨⟨c,dd,dt,sl⟩,hl,hc,m,hd⟩:=hL
 replace hc:c = .type "list":=hc
 replace hd:dt = .seq its m:=hd
 subst hc hd
 obtain ⟨c0,tl,hmro⟩:=F.called_enumerate.mro
 have hmade:=F.called_enumerate.made
 have hsub:=F.called_enumerate.sub
 have hct:=cntCheckT (.ref l) t
 have hcn:=cntCheckN (.ref l) t
 refine wpAny_call (codeAny_of_tree ?_)
 show wpAny _ _ (callAny (.type "enumerate") _) _ _ _
 refine wpAny_pure ⟨Code.quiet_builtin _ (by decide +kernel),codeAny_builtin F.entry_type_call ?_⟩
 rw [Around.under_plain (weight_type_call_type "enumerate" [.ref l] [("start",.int 1 t)]) (units_type_call_type "enumerate" [.ref l] [("start",.int 1 t)])]
 have h1:=F.called_enumerate.notType
 have h2:=F.called_enumerate.canCreate
 repeat (any_goals (first | assumption | wp_step))
 refine codeAny_mono (R:=(fun r s1=>r = .ok (.ret (.ref (s.heap.objs.size + 1)))∧IsEnum s1.heap (s.heap.objs.size + 1) s.heap.objs.size 1 .none∧s1.heap.IsListIter s.heap.objs.size l 0∧s1.heap.objs.size = s.heap.objs.size + 2∧(∀ b o,s.heap.get? b = some o→s1.heap.get? b = some o)∧s1 = { s with heap:=s1.heap })) (codeAny_call_builtin F.called_enumerate.plain F.entry_enumerate_new (wpAny_of_eq hcn (cntMeets l its m t dd sl prog w A.in1 (fun r s1=>r = .ok (.ret (.ref (s.heap.objs.size + 1)))∧IsEnum s1.heap (s.heap.objs.size + 1) s.heap.objs.size 1 .none∧s1.heap.IsListIter s.heap.objs.size l 0∧s1.heap.objs.size = s.heap.objs.size + 2∧(∀ b o,s.heap.get? b = some o→s1.heap.get? b = some o)∧s1 = { s with heap:=s1.heap }) s ⟨hl,?_⟩))) fun r s1 hr=>?_
 ·have hz:(s.heap.push { cls:=.type "list_iterator",data:=.fields #[.ref l,.int 0 0] }).objs.size = s.heap.objs.size + 1:=Heap.size_push ..
  refine ⟨by rw [hz],?_,⟨_,Heap.get?_push_of_some _ (Heap.get?_push_size _ rfl),rfl,rfl⟩,by rw [Heap.size_push,hz],fun b o x=>Heap.get?_push_of_some _ (Heap.get?_push_of_some _ x),rfl⟩
  have:=Heap.get?_push_size (s.heap.push { cls:=.type "list_iterator",data:=.fields #[.ref l,.int 0 0] }) (o:={ cls:=.type "enumerate",data:=.fields #[.none,.bool false,.ref s.heap.objs.size,rawInt 1,.none,.none] }) rfl
  rw [hz] at this;exact this
 obtain ⟨rfl,e1,e2,e3,e4,e5⟩:=hr
 have hT:s1.TypeIs (.ref (s.heap.objs.size + 1)) "enumerate":=⟨_,e1,rfl⟩
 have hli:=F.called_enumerate.init.lookup
 have hbi:=F.called_enumerate.init.bind (.ref (s.heap.objs.size + 1))
 repeat (any_goals (first | assumption | wp_step))
 refine codeAny_mono (R:=fun r s2=>r = .ok (.ret .none)∧s2 = s1) (codeAny_call_builtin F.called_enumerate.init.plain F.entry_object_init (F.called_enumerate.init.check _ _ _ _ _ _ _ _ hT (cntCheckI _ _ _) (cntInit prog w A.in1 (fun r s2=>r = .ok (.ret .none)∧s2 = s1) s1 ⟨hT,rfl,rfl⟩))) fun r₂ s₂ hr₂=>?_
 obtain ⟨rfl,rfl⟩:=hr₂
 repeat (any_goals (first | assumption | wp_step))
 rw [e5]
 exact h _ e1 e2 e3 e4
end
section
variable {X:Cx} {K:PySem.W.Frag}
def iCnt (K:PySem.W.Frag) (ta:TA):TI:=fun σ H R=>ta σ H fun vs H1=>∃ a xs,vs = [.ref a]∧SqL K H1 a xs∧R (Itn K 1 a) H1
theorem callWith_tyK {pos:Pos} {T:String} {M:Model} {A:Around} {E:Value→Shared→Prop} {s:Shared} {args:List (Bool×Sem Value)} {kws:List (Option Str×Sem Value)} {Q:Value→Shared→Prop}
  (hp:args.any (·.1) = false) (hkw:kws.any (·.1.isNone) = false) (h:wpAny M A (evalArgs (.type T) true args kws) (fun a s₁=>wpAny M A (call (.type T) a.pos a.kw) Q E s₁) E s):wpAny M A (callWith pos (.type T) [] args kws) Q E s:=by
 unfold callWith
 refine wpAny_bind (wpAny_holding (wpAny_mono h (fun a s₁ h₁=>wpAny_bind (wpAny_standAt ?_)) fun _ _ x=>x))
 simp only [hp,hkw,Bool.or_false]
 exact wpAny_bind (wpAny_pure (wpAny_bind (wpAny_mono h₁ (fun r s₂ hr=>wpAny_bind (wpAny_holding (wpAny_point (wpAny_pure hr)))) fun _ _ x=>x)))
theorem pi_cntK {elts:List Expr} {x1 j} {tpos:Pos} {a:Expr} {ta:TA} {p pos kp cp:Pos} (h:X.K = K) (hg:Gl X "enumerate") (hm:X.mg "enumerate" = none) (ha:PA X [a] ta) (hs:starEach [a] X.env = [(false,eval a X.env)]:=by rfl) :
  PI X (.Tuple elts x1 tpos) (.Call (.Name "enumerate" p) [a] [⟨some "start",.Constant (.int 1) j cp,kp⟩] pos) (iCnt K ta):=by
 subst h
 intro pins s σ H R I h
 refine wpAny_Call_Name_kw (ld_blt I hg hm bo_enumerate ?_)
 refine callWith_tyK (by rw [hs];rfl) (by rfl) ?_
 have hb:backTo pos (starEach [a] X.env) = (false,eval a X.env)::backTo pos []:=by rw [hs];rfl
 have ha':=ha pos pins s σ H _ I h
 rw [hb] at ha' ⊢
 refine evalArgs_kwB (by rfl) (thn ha' fun us s1 ⟨vs,H1,I1,r1,q1⟩=>?_)
 refine kws_cons (wpAny_Constant_int (kws_nil ?_))
 obtain ⟨l,xs,e,hq,q⟩:=q1
 subst e
 cases r1 with
 | cons r rr =>
  cases rr
  cases r
  have I2:=I1.tok (s1.toks + 1)
  obtain ⟨its,rv,pl,hz⟩:=I2.list hq
  refine cntCall (t:=s1.toks) pl.isList fun h' hE hI hsz hk=>?_
  refine wpAny_pyIter_enum (s:={ s1 with heap:=h',toks:=s1.toks + 1 }) hE ?_
  refine ⟨s1.heap.objs.size + 1,[s1.heap.objs.size + 1,s1.heap.objs.size],_,_,H1,rfl,I2.kept (t':=s1.toks + 1) hk,turn_cnt 1 l s1.heap.objs.size (s1.heap.objs.size + 1) (Nat.succ_ne_self _),⟨⟨_,hE⟩,hI⟩,fun b hb=>?_,q⟩
  have hb':s1.heap.objs.size≤b:=by
   have hb2:b = s1.heap.objs.size + 1∨b = s1.heap.objs.size:=by simpa using hb
   rcases hb2 with rfl | rfl
   ·exact Nat.le_succ _
   ·exact Nat.le_refl _
  exact I1.fpOk hb' (I1.hok.fresh hb')
end
end L2
namespace L2
open PySem PySem.Spec PyProof.Rows
def Its (x:Str):It:=⟨fun i _=>i < x.cps.size,fun i H v H'=>H' = H∧∃ c,x.cps[i]? = some c∧v = .str ⟨#[c]⟩,fun i _=>x.cps.size≤i⟩
theorem turn_str {P:Program} {w:World} {K:PySem.W.Frag} {tg:Expr} (x:Str) (t:Tok) (ty:String) (hty:ty = "str_ascii_iterator"∨ty = "str_iterator") (it:Addr):Turn P w K tg (Its x) [it] it (fun i h=>h.IsStrIter it ty x t i) where
 mem:=by simp
 obj:=fun i h st b hb=>by
  have e:b = it:=by simpa using hb
  subst e
  obtain ⟨o,e,c,d⟩:=st
  exact ⟨o,e,fun v z=>by rw [d] at z;cases z⟩
 keep:=fun i h h' st k=>by
  obtain ⟨o,e,r⟩:=st
  exact ⟨o,k it (by simp) o e,r⟩
 item:=by
  intro X hP hw hK hc i pins s σ H E I hf st hg
  subst hP hw hK
  have hg:i < x.cps.size:=hg
  obtain ⟨f0,f1,f2,f3,f4,f5⟩:=hf it (by simp)
  have hx:x.cps[i]? = some x.cps[i]:=Array.getElem?_eq_getElem hg
  have fin:∀ h',h'.IsStrIter it ty x t (i + 1)→Heap.SameBut it s.heap h'→∃ u,some (Value.str ⟨#[x.cps[i]]⟩ s.toks) = some u∧wpAny (model X.prog X.w) X.A (letOwnedTupleGo tg (.ref it) u) (fun _ s2=>∃ x1 H',Inv X pins σ H' s2∧RelV x1 u∧(Its x).yld i H x1 H'∧s2.heap.IsStrIter it ty x t (i + 1)∧∀ b∈[it],H' b = none) E { s with heap:=h',toks:=s.toks + 1 }:=fun h' st' sb=>by
   have I1:Inv X pins σ H { s with heap:=h',toks:=s.toks + 1 }:=I.turned (t':=s.toks + 1) (fun b o hb e=>(sb.2 b hb).trans e) f0 f1 f3 f4 f5
   obtain ⟨o,e,c,d⟩:=id st'
   exact ⟨_,rfl,go_of (s:={ s with heap:=h',toks:=s.toks + 1 }) e c d (by rcases hty with rfl | rfl <;> decide) ⟨.str ⟨#[x.cps[i]]⟩,H,I1,⟨_,rfl⟩,⟨rfl,_,hx,rfl⟩,st',fun b hb=>(hf b hb).1⟩⟩
  rcases hty with rfl | rfl
  ·exact wpAny_pyNext_ascii_item st hx fin
  ·exact wpAny_pyNext_wide_item st hx fin
 done:=by
  intro X hP hw hK hc i pins s σ H E I hf st hg
  subst hP hw hK
  have hg:x.cps.size≤i:=hg
  obtain ⟨f0,f1,f2,f3,f4,f5⟩:=hf it (by simp)
  have hx:x.cps[i]? = none:=Array.getElem?_eq_none hg
  rcases hty with rfl | rfl
  ·exact wpAny_pyNext_ascii_end (I.ok.hd hc) st hx fun h' eb=>⟨rfl,I.turned (t':=s.toks) (fun b o hb e=>eb b o hb e) f0 f1 f3 f4 f5⟩
  ·exact wpAny_pyNext_wide_end (I.ok.hd hc) st hx fun h' eb=>⟨rfl,I.turned (t':=s.toks) (fun b o hb e=>eb b o hb e) f0 f1 f3 f4 f5⟩
 self:=fun _ _ _ _ _ st h=>by
  rcases hty with rfl | rfl
  ·exact wpAny_pyIter_striter_ascii st h
  ·exact wpAny_pyIter_striter_wide st h
section
variable {X:Cx} {K:PySem.W.Frag}
def iStr (tl:TE):TI:=fun σ H R=>tl σ H fun v H1=>∃ x,v = .str x∧R (Its x) H1
theorem pi_str {tg l:Expr} {tl:TE} (hl:PE X l tl):PI X tg l (iStr tl):=by
 intro pins s σ H R I h
 refine thn (hl pins s σ H _ I h) fun v s1 ⟨x,H1,I1,r1,q1⟩=>?_
 obtain ⟨z,e,q⟩:=q1
 subst e
 obtain ⟨t,rfl⟩:=r1
 refine wpAny_pyIter_strU ?_
 refine ⟨s1.heap.objs.size,[s1.heap.objs.size],_,_,H1,rfl,I1.kept (t':=s1.toks) fun b o e=>Heap.get?_push_of_some _ e,turn_str z t (strIterType z) (by unfold strIterType;split <;> simp) _,⟨_,Heap.get?_push_size _ rfl,rfl,rfl⟩,fun b hb=>?_,q⟩
 have e:b = s1.heap.objs.size:=by simpa using hb
 subst e
 exact I1.fpOk (Nat.le_refl _) (I1.hok.fresh (Nat.le_refl _))
theorem lc_str {x:Str} {fr:List (Str×Nat)} {te:TE} {σ:St} {H:Hp} {Qp:Addr→List V→Hp→Prop} (f:Nat→V) (hn:x.cps.size≤sizeLine)
  (hf:∀ c∈x.cps.toList,∀ Q':VK,Q' (f c) H→te (some (.str ⟨#[c]⟩)::frv fr σ) H Q') (hQ:∀ p,H p = none→Qp p (x.cps.toList.map f) H) :
  ∃ W:Nat→Nat→List V→Hp→Prop,(∃ m,W 0 m [] H)∧∀ i m acc H,W i m acc H →
   ((Its x).stop i H∧acc.length≤sizeLine∧∀ p,H p = none→Qp p acc H) ∨
   ((Its x).go i H∧∀ y H',(Its x).yld i H y H'→tYes (some y::frv fr σ) H' fun b H2=>if b = true then te (some y::frv fr σ) H2 fun v H3=>acc.length < sizeLine∧∃ m',m' < m∧W (i + 1) m' (acc ++ [v]) H3
    else ∃ m',m' < m∧W (i + 1) m' acc H2):=by
 refine ⟨fun i m acc H'=>H' = H∧i≤x.cps.size∧m = x.cps.size - i∧acc = (x.cps.toList.take i).map f,⟨x.cps.size,rfl,Nat.zero_le _,by simp,by simp⟩,?_⟩
 rintro i m acc H' ⟨rfl,hi,rfl,rfl⟩
 have el:((x.cps.toList.take i).map f).length = i:=by
  rw [List.length_map,List.length_take,Array.length_toList];omega
 by_cases hlt:i < x.cps.size
 ·refine .inr ⟨hlt,fun y H1 z=>?_⟩
  obtain ⟨e,c,hc,rfl⟩:=z
  subst e
  have hc':x.cps.toList[i]? = some c:=by rw [Array.getElem?_toList];exact hc
  dsimp only [tYes]
  rw [if_pos rfl]
  refine hf c (List.mem_of_getElem? hc') _ ⟨by omega,x.cps.size - (i + 1),by omega,rfl,hlt,rfl,?_⟩
  rw [List.take_add_one,hc',List.map_append]
  rfl
 ·have e:i = x.cps.size:=by omega
  subst e
  refine .inl ⟨Nat.le_refl _,by omega,?_⟩
  rw [List.take_of_length_le (by rw [Array.length_toList];exact Nat.le_refl _)]
  exact hQ
end
end L2
namespace L2
open PySem PySem.Spec PyProof.Rows
section
variable {X:Cx} {K:PySem.W.Frag}
def rInD:V→V→Hp→VK→Prop:=fun x y H Q=>∃ a o,y = .ref a∧DGet H a x o∧Q (.bl o.isSome) H
theorem op_inD (hu:X.A.units + 1 < cLine):OpR X (compareOp .In) rInD:=by
 intro pins s σ H x y v u Q I rx ry h
 obtain ⟨a,o,rfl,g,q⟩:=h
 cases ry
 exact d_in hu I g rx fun s3 I3=>⟨.bl o.isSome,H,I3,rfl,q⟩
def rInS:V→V→Hp→VK→Prop:=fun x y H Q=>∃ i j,x = .str i∧y = .str j∧Q (.bl (!(Builtin.Str.occurrences j i 0 j.length 1).isEmpty)) H
theorem op_inS:OpR X (compareOp .In) rInS:=op_in_str
def rLenS:List V→Hp→VK→Prop:=fun xs H Q=>∃ z,xs = [.str z]∧z.length≤sizeLine∧Q (.int z.length) H
theorem call_lenS:CallR X (.builtin "len") rLenS:=call_len_str
end
end L2
namespace Sx
open PySem L2
variable {σ:St} {H:Hp} {Q:VK} {QT:Bool→Hp→Prop} {D:Ends} {K:PySem.W.Frag} {E:XK}
theorem iS {tl:TE} {R:It→Hp→Prop} (h:tl σ H fun v H1=>∃ x,v = .str x∧R (Its x) H1):iStr tl σ H R:=h
theorem iCt {ta:TA} {R:It→Hp→Prop} (h:ta σ H fun vs H1=>∃ a xs,vs = [.ref a]∧SqL K H1 a xs∧R (Itn K 1 a) H1):iCnt K ta σ H R:=h
theorem repl {y z:Str} {to:TE} (h:to σ H fun x H1=>∃ w:Str,x = .str w∧w.length≤100000∧Q (.str (Txt.replace w y z)) H1):tRepl y z to σ H Q:=h
theorem dget2 {td ty tx:TE} (h:td σ H fun x H1=>∃ a,x = .ref a∧IsD H1 a∧ty σ H1 fun y H2=>tx σ H2 fun z H3=>∃ o,DGet H3 a y o∧Q (o.getD z) H3):tDGet2 td ty tx σ H Q:=h
end Sx
open L2
local macro_rules | `(tactic| wtm_at "s") => `(tactic| first
 | ((with_reducible refine' Sx.var ?e ?_);(case e=>exact rfl))
 | (with_reducible first
  | refine Sx.cst ?_ | refine Sx.op ?_ | refine Sx.un ?_ | refine Sx.i0 ?_ | refine Sx.eqI ?_ | refine Sx.neI ?_ | refine Sx.eqB ?_ | refine Sx.neB ?_ | refine Sx.eqS ?_ | refine Sx.neS ?_
  | refine Sx.test ?_ | refine Sx.tB ?_ | refine Sx.isbl ?_ | refine Sx.and ?_ | refine Sx.or ?_ | refine Sx.not ?_ | refine Sx.andV ?_ | refine Sx.orV ?_ | refine Sx.notV ?_ | refine Sx.ifE ?_ | refine Sx.chain ?_ | refine Sx.fld ?_
  | refine Sx.next ?_ | refine Sx.seq ?_ | refine Sx.drop ?_ | refine Sx.ret ?_ | refine Sx.retN ?_ | refine Sx.ifS ?_ | refine Sx.asg ?_ | refine Sx.nm ?_ | refine Sx.sub ?_ | refine Sx.call ?_ | refine Sx.callB ?_ | refine Sx.nil ?_ | refine Sx.cons ?_ | refine Sx.tup ?_ | refine Sx.lst ?_
  | refine Sx.lc ?_ | refine Sx.lcN ?_ | refine Sx.iL ?_ | refine Sx.iT ?_ | refine Sx.iE ?_ | refine Sx.iR1 ?_ | refine Sx.iR2 ?_ | refine Sx.for_ ?_ | refine Sx.make ?_ | refine Sx.dget ?_ | refine Sx.dput ?_ | refine Sx.sfld ?_ | refine Sx.intsA ?_ | refine Sx.pnil ?_ | refine Sx.pcons ?_ | refine Sx.disp ?_ | refine Sx.sl ?_ | refine Sx.part ?_ | refine Sx.nopart ?_ | refine Sx.isI ?_ | refine Sx.tru ?_ | refine Sx.bm ?_ | refine Sx.nonAnd ?_ | refine iteT ?_ | refine iteF ?_ | refine Sx.iteNT ?_ | refine Sx.iteNF ?_)
 | ((with_reducible refine' Sx.iC ?c ?_);(case c=>first | exact ⟨by decide,by decide⟩ | exact .inl ⟨by decide,by decide⟩ | exact .inr ⟨by decide,by decide⟩ | (show (0:Int) < _;first | decide | omega) | exact ⟨by omega,by omega⟩ | exact .inl ⟨by omega,by omega⟩ | exact .inr ⟨by omega,by omega⟩)))
local macro_rules | `(tactic| wtm_at "ss") => `(tactic| repeat wtm_at "s")
namespace Tx
open PySem L2
def top (i:Nat):Stmt:=PySem.Challenge.pw_corehouse_k39_whole_texts_speak.main.body.getD i (.Pass ⟨0,0,0,0⟩)
abbrev s_word:Stmt:=top 19
theorem sc_word:FnScope ["kind","far","place"] ["kind","far","place"] (defScope s_word):=⟨rfl,rfl,rfl,by decide +kernel,rfl,by decide +kernel,by decide +kernel⟩
abbrev s_parts:Stmt:=top 20
theorem sc_parts:FnScope ["word"] ["word"] (defScope s_parts):=⟨rfl,rfl,rfl,by decide +kernel,rfl,by decide +kernel,by decide +kernel⟩
abbrev s_read_line:Stmt:=top 33
theorem sc_read_line:FnScope ["row","number","line","pieces"] ["row","number"] (defScope s_read_line):=⟨rfl,rfl,rfl,by decide +kernel,rfl,by decide +kernel,by decide +kernel⟩
abbrev s_pieces_of:Stmt:=top 34
theorem sc_pieces_of:FnScope ["row","looked_at"] ["row"] (defScope s_pieces_of):=⟨rfl,rfl,rfl,by decide +kernel,rfl,by decide +kernel,by decide +kernel⟩
abbrev s_read_label:Stmt:=top 35
theorem sc_read_label:FnScope ["line","piece"] ["line","piece"] (defScope s_read_label):=⟨rfl,rfl,rfl,by decide +kernel,rfl,by decide +kernel,by decide +kernel⟩
abbrev s_is_name:Stmt:=top 36
theorem sc_is_name:FnScope ["piece"] ["piece"] (defScope s_is_name):=⟨rfl,rfl,rfl,by decide +kernel,rfl,by decide +kernel,by decide +kernel⟩
abbrev s_is_short_name:Stmt:=top 37
theorem sc_is_short_name:FnScope ["piece"] ["piece"] (defScope s_is_short_name):=⟨rfl,rfl,rfl,by decide +kernel,rfl,by decide +kernel,by decide +kernel⟩
abbrev s_is_told_word:Stmt:=top 38
theorem sc_is_told_word:FnScope ["piece"] ["piece"] (defScope s_is_told_word):=⟨rfl,rfl,rfl,by decide +kernel,rfl,by decide +kernel,by decide +kernel⟩
abbrev s_read_deed:Stmt:=top 39
theorem sc_read_deed:FnScope ["line","name","behind"] ["line","name","behind"] (defScope s_read_deed):=⟨rfl,rfl,rfl,by decide +kernel,rfl,by decide +kernel,by decide +kernel⟩
abbrev s_read_cell_deed:Stmt:=top 40
theorem sc_read_cell_deed:FnScope ["line","behind","far"] ["line","behind"] (defScope s_read_cell_deed):=⟨rfl,rfl,rfl,by decide +kernel,rfl,by decide +kernel,by decide +kernel⟩
abbrev s_read_ask:Stmt:=top 41
theorem sc_read_ask:FnScope ["line","behind"] ["line","behind"] (defScope s_read_ask):=⟨rfl,rfl,rfl,by decide +kernel,rfl,by decide +kernel,by decide +kernel⟩
abbrev s_read_bits:Stmt:=top 42
theorem sc_read_bits:FnScope ["line","behind","names","place","name"] ["line","behind","names"] (defScope s_read_bits):=⟨rfl,rfl,rfl,by decide +kernel,rfl,by decide +kernel,by decide +kernel⟩
abbrev s_read_value:Stmt:=top 43
theorem sc_read_value:FnScope ["line","behind","factor","number","piece"] ["line","behind"] (defScope s_read_value):=⟨rfl,rfl,rfl,by decide +kernel,rfl,by decide +kernel,by decide +kernel⟩
abbrev s_is_term:Stmt:=top 44
theorem sc_is_term:FnScope ["piece"] ["piece"] (defScope s_is_term):=⟨rfl,rfl,rfl,by decide +kernel,rfl,by decide +kernel,by decide +kernel⟩
abbrev s_is_figures:Stmt:=top 45
theorem sc_is_figures:FnScope ["piece"] ["piece"] (defScope s_is_figures):=⟨rfl,rfl,rfl,by decide +kernel,rfl,by decide +kernel,by decide +kernel⟩
abbrev s_assembled:Stmt:=top 48
theorem sc_assembled:FnScope ["text","sheet","lines"] ["text"] (defScope s_assembled):=⟨rfl,rfl,rfl,by decide +kernel,rfl,by decide +kernel,by decide +kernel⟩
abbrev s_go_over_first:Stmt:=top 49
theorem sc_go_over_first:FnScope ["sheet","text","lines","number","row","line"] ["sheet","text"] (defScope s_go_over_first):=⟨rfl,rfl,rfl,by decide +kernel,rfl,by decide +kernel,by decide +kernel⟩
abbrev s_go_over_again:Stmt:=top 50
theorem sc_go_over_again:FnScope ["sheet","lines","line"] ["sheet","lines"] (defScope s_go_over_again):=⟨rfl,rfl,rfl,by decide +kernel,rfl,by decide +kernel,by decide +kernel⟩
abbrev s_makes_cell:Stmt:=top 51
theorem sc_makes_cell:FnScope ["line"] ["line"] (defScope s_makes_cell):=⟨rfl,rfl,rfl,by decide +kernel,rfl,by decide +kernel,by decide +kernel⟩
abbrev s_tell_label:Stmt:=top 52
theorem sc_tell_label:FnScope ["sheet","line"] ["sheet","line"] (defScope s_tell_label):=⟨rfl,rfl,rfl,by decide +kernel,rfl,by decide +kernel,by decide +kernel⟩
abbrev s_move_here:Stmt:=top 53
theorem sc_move_here:FnScope ["sheet","line"] ["sheet","line"] (defScope s_move_here):=⟨rfl,rfl,rfl,by decide +kernel,rfl,by decide +kernel,by decide +kernel⟩
abbrev s_bounded_value:Stmt:=top 54
theorem sc_bounded_value:FnScope ["sheet","line","bound","value","factor","term"] ["sheet","line","bound"] (defScope s_bounded_value):=⟨rfl,rfl,rfl,by decide +kernel,rfl,by decide +kernel,by decide +kernel⟩
abbrev s_term_value:Stmt:=top 55
theorem sc_term_value:FnScope ["sheet","line","term"] ["sheet","line","term"] (defScope s_term_value):=⟨rfl,rfl,rfl,by decide +kernel,rfl,by decide +kernel,by decide +kernel⟩
abbrev s_word_of:Stmt:=top 56
theorem sc_word_of:FnScope ["sheet","line"] ["sheet","line"] (defScope s_word_of):=⟨rfl,rfl,rfl,by decide +kernel,rfl,by decide +kernel,by decide +kernel⟩
abbrev s_pool_place:Stmt:=top 57
theorem sc_pool_place:FnScope ["sheet","line","pool_word","place"] ["sheet","line"] (defScope s_pool_place):=⟨rfl,rfl,rfl,by decide +kernel,rfl,by decide +kernel,by decide +kernel⟩
abbrev s_make_cell:Stmt:=top 58
theorem sc_make_cell:FnScope ["sheet","line","place","made_word"] ["sheet","line","place","made_word"] (defScope s_make_cell):=⟨rfl,rfl,rfl,by decide +kernel,rfl,by decide +kernel,by decide +kernel⟩
abbrev s_deed:Stmt:=top 61
theorem sc_deed:FnScope ["machine","told","kind","far","place"] ["machine"] (defScope s_deed):=⟨rfl,rfl,rfl,by decide +kernel,rfl,by decide +kernel,by decide +kernel⟩
abbrev s_move_on:Stmt:=top 62
theorem sc_move_on:FnScope ["machine"] ["machine"] (defScope s_move_on):=⟨rfl,rfl,rfl,by decide +kernel,rfl,by decide +kernel,by decide +kernel⟩
abbrev s_place_behind:Stmt:=top 63
theorem sc_place_behind:FnScope ["place"] ["place"] (defScope s_place_behind):=⟨rfl,rfl,rfl,by decide +kernel,rfl,by decide +kernel,by decide +kernel⟩
abbrev s_raise_cell:Stmt:=top 64
theorem sc_raise_cell:FnScope ["machine","place"] ["machine","place"] (defScope s_raise_cell):=⟨rfl,rfl,rfl,by decide +kernel,rfl,by decide +kernel,by decide +kernel⟩
abbrev s_far_place:Stmt:=top 65
theorem sc_far_place:FnScope ["machine","place"] ["machine","place"] (defScope s_far_place):=⟨rfl,rfl,rfl,by decide +kernel,rfl,by decide +kernel,by decide +kernel⟩
abbrev s_do_with_cell:Stmt:=top 66
theorem sc_do_with_cell:FnScope ["machine","kind","place"] ["machine","kind","place"] (defScope s_do_with_cell):=⟨rfl,rfl,rfl,by decide +kernel,rfl,by decide +kernel,by decide +kernel⟩
abbrev s_add_to_total:Stmt:=top 67
theorem sc_add_to_total:FnScope ["machine","amount"] ["machine","amount"] (defScope s_add_to_total):=⟨rfl,rfl,rfl,by decide +kernel,rfl,by decide +kernel,by decide +kernel⟩
abbrev s_turn_mark:Stmt:=top 68
theorem sc_turn_mark:FnScope ["machine"] ["machine"] (defScope s_turn_mark):=⟨rfl,rfl,rfl,by decide +kernel,rfl,by decide +kernel,by decide +kernel⟩
abbrev s_do_rise:Stmt:=top 69
theorem sc_do_rise:FnScope ["machine","place"] ["machine","place"] (defScope s_do_rise):=⟨rfl,rfl,rfl,by decide +kernel,rfl,by decide +kernel,by decide +kernel⟩
abbrev s_has_bit:Stmt:=top 70
theorem sc_has_bit:FnScope ["place","bit"] ["place","bit"] (defScope s_has_bit):=⟨rfl,rfl,rfl,by decide +kernel,rfl,by decide +kernel,by decide +kernel⟩
abbrev s_do_change:Stmt:=top 71
theorem sc_do_change:FnScope ["machine","place"] ["machine","place"] (defScope s_do_change):=⟨rfl,rfl,rfl,by decide +kernel,rfl,by decide +kernel,by decide +kernel⟩
abbrev s_shift_left:Stmt:=top 72
theorem sc_shift_left:FnScope ["machine","doubled"] ["machine"] (defScope s_shift_left):=⟨rfl,rfl,rfl,by decide +kernel,rfl,by decide +kernel,by decide +kernel⟩
abbrev s_shift_right:Stmt:=top 73
theorem sc_shift_right:FnScope ["machine","left_over"] ["machine"] (defScope s_shift_right):=⟨rfl,rfl,rfl,by decide +kernel,rfl,by decide +kernel,by decide +kernel⟩
abbrev s_do_test:Stmt:=top 74
theorem sc_do_test:FnScope ["machine","place"] ["machine","place"] (defScope s_do_test):=⟨rfl,rfl,rfl,by decide +kernel,rfl,by decide +kernel,by decide +kernel⟩
abbrev s_test_is_so:Stmt:=top 75
theorem sc_test_is_so:FnScope ["machine","place","so"] ["machine","place"] (defScope s_test_is_so):=⟨rfl,rfl,rfl,by decide +kernel,rfl,by decide +kernel,by decide +kernel⟩
abbrev s_happen:Stmt:=top 96
theorem sc_happen:FnScope ["person","event","name"] ["person","event"] (defScope s_happen):=⟨rfl,rfl,rfl,by decide +kernel,rfl,by decide +kernel,by decide +kernel⟩
abbrev s_take_start:Stmt:=top 97
theorem sc_take_start:FnScope ["person","place","machine"] ["person","place"] (defScope s_take_start):=⟨rfl,rfl,rfl,by decide +kernel,rfl,by decide +kernel,by decide +kernel⟩
abbrev s_take_key:Stmt:=top 98
theorem sc_take_key:FnScope ["person","letter"] ["person","letter"] (defScope s_take_key):=⟨rfl,rfl,rfl,by decide +kernel,rfl,by decide +kernel,by decide +kernel⟩
abbrev s_take_tick:Stmt:=top 99
theorem sc_take_tick:FnScope ["person"] ["person"] (defScope s_take_tick):=⟨rfl,rfl,rfl,by decide +kernel,rfl,by decide +kernel,by decide +kernel⟩
abbrev s_take_step:Stmt:=top 100
theorem sc_take_step:FnScope ["person","place","asked"] ["person"] (defScope s_take_step):=⟨rfl,rfl,rfl,by decide +kernel,rfl,by decide +kernel,by decide +kernel⟩
abbrev s_do_ask:Stmt:=top 101
theorem sc_do_ask:FnScope ["person","asked","place","machine"] ["person","asked","place"] (defScope s_do_ask):=⟨rfl,rfl,rfl,by decide +kernel,rfl,by decide +kernel,by decide +kernel⟩
abbrev s_skip_if:Stmt:=top 102
theorem sc_skip_if:FnScope ["machine","so"] ["machine","so"] (defScope s_skip_if):=⟨rfl,rfl,rfl,by decide +kernel,rfl,by decide +kernel,by decide +kernel⟩
abbrev s_do_hear:Stmt:=top 103
theorem sc_do_hear:FnScope ["person","place","machine"] ["person","place"] (defScope s_do_hear):=⟨rfl,rfl,rfl,by decide +kernel,rfl,by decide +kernel,by decide +kernel⟩
abbrev s_do_say:Stmt:=top 104
theorem sc_do_say:FnScope ["person","place"] ["person","place"] (defScope s_do_say):=⟨rfl,rfl,rfl,by decide +kernel,rfl,by decide +kernel,by decide +kernel⟩
abbrev s_wait_at:Stmt:=top 105
theorem sc_wait_at:FnScope ["person","state","place","machine"] ["person","state","place"] (defScope s_wait_at):=⟨rfl,rfl,rfl,by decide +kernel,rfl,by decide +kernel,by decide +kernel⟩
abbrev s_do_sleep:Stmt:=top 106
theorem sc_do_sleep:FnScope ["person","machine"] ["person"] (defScope s_do_sleep):=⟨rfl,rfl,rfl,by decide +kernel,rfl,by decide +kernel,by decide +kernel⟩
abbrev s_do_with_block:Stmt:=top 107
theorem sc_do_with_block:FnScope ["person","asked","machine","place","block"] ["person","asked"] (defScope s_do_with_block):=⟨rfl,rfl,rfl,by decide +kernel,rfl,by decide +kernel,by decide +kernel⟩
abbrev s_fetch_block:Stmt:=top 108
theorem sc_fetch_block:FnScope ["machine","block","place","number"] ["machine","block","place"] (defScope s_fetch_block):=⟨rfl,rfl,rfl,by decide +kernel,rfl,by decide +kernel,by decide +kernel⟩
abbrev s_store_block:Stmt:=top 109
theorem sc_store_block:FnScope ["machine","block","place","number"] ["machine","block","place"] (defScope s_store_block):=⟨rfl,rfl,rfl,by decide +kernel,rfl,by decide +kernel,by decide +kernel⟩
abbrev s_picture:Stmt:=top 110
theorem sc_picture:FnScope ["person","machine"] ["person"] (defScope s_picture):=⟨rfl,rfl,rfl,by decide +kernel,rfl,by decide +kernel,by decide +kernel⟩
abbrev s_empty_rooms:Stmt:=top 112
theorem sc_empty_rooms:FnScope ["count"] ["count"] (defScope s_empty_rooms):=⟨rfl,rfl,rfl,by decide +kernel,rfl,by decide +kernel,by decide +kernel⟩
abbrev s_room_with:Stmt:=top 113
theorem sc_room_with:FnScope ["rooms","user","room","guest"] ["rooms","user"] (defScope s_room_with):=⟨rfl,rfl,rfl,by decide +kernel,rfl,by decide +kernel,by decide +kernel⟩
abbrev s_bring_in:Stmt:=top 114
theorem sc_bring_in:FnScope ["house","user"] ["house","user"] (defScope s_bring_in):=⟨rfl,rfl,rfl,by decide +kernel,rfl,by decide +kernel,by decide +kernel⟩
abbrev s_load:Stmt:=top 117
theorem sc_load:FnScope ["house","user","cells","machine"] ["house","user","cells"] (defScope s_load):=⟨rfl,rfl,rfl,by decide +kernel,rfl,by decide +kernel,by decide +kernel⟩
abbrev s_start:Stmt:=top 118
theorem sc_start:FnScope ["house","user","place"] ["house","user","place"] (defScope s_start):=⟨rfl,rfl,rfl,by decide +kernel,rfl,by decide +kernel,by decide +kernel⟩
abbrev s_run:Stmt:=top 119
theorem sc_run:FnScope ["house","count","number"] ["house","count"] (defScope s_run):=⟨rfl,rfl,rfl,by decide +kernel,rfl,by decide +kernel,by decide +kernel⟩
abbrev s_seen:Stmt:=top 120
theorem sc_seen:FnScope ["house","user"] ["house","user"] (defScope s_seen):=⟨rfl,rfl,rfl,by decide +kernel,rfl,by decide +kernel,by decide +kernel⟩
abbrev s_happen_in:Stmt:=top 121
theorem sc_happen_in:FnScope ["house","user","event","person","was_ready"] ["house","user","event"] (defScope s_happen_in):=⟨rfl,rfl,rfl,by decide +kernel,rfl,by decide +kernel,by decide +kernel⟩
abbrev s_do_step:Stmt:=top 122
theorem sc_do_step:FnScope ["house"] ["house"] (defScope s_do_step):=⟨rfl,rfl,rfl,by decide +kernel,rfl,by decide +kernel,by decide +kernel⟩
abbrev s_step_who_runs:Stmt:=top 123
theorem sc_step_who_runs:FnScope ["house","user"] ["house"] (defScope s_step_who_runs):=⟨rfl,rfl,rfl,by decide +kernel,rfl,by decide +kernel,by decide +kernel⟩
abbrev s_do_tick:Stmt:=top 124
theorem sc_do_tick:FnScope ["house","user"] ["house"] (defScope s_do_tick):=⟨rfl,rfl,rfl,by decide +kernel,rfl,by decide +kernel,by decide +kernel⟩
abbrev s_shorten_turn:Stmt:=top 125
theorem sc_shorten_turn:FnScope ["house"] ["house"] (defScope s_shorten_turn):=⟨rfl,rfl,rfl,by decide +kernel,rfl,by decide +kernel,by decide +kernel⟩
abbrev s_end_turn:Stmt:=top 126
theorem sc_end_turn:FnScope ["house"] ["house"] (defScope s_end_turn):=⟨rfl,rfl,rfl,by decide +kernel,rfl,by decide +kernel,by decide +kernel⟩
abbrev s_let_next_run:Stmt:=top 127
theorem sc_let_next_run:FnScope ["house"] ["house"] (defScope s_let_next_run):=⟨rfl,rfl,rfl,by decide +kernel,rfl,by decide +kernel,by decide +kernel⟩
abbrev s_law_cell:Stmt:=top 129
theorem sc_law_cell:FnScope ["_law_script","_law_k"] ["_law_script","_law_k"] (defScope s_law_cell):=⟨rfl,rfl,rfl,by decide +kernel,rfl,by decide +kernel,by decide +kernel⟩
abbrev s_law_mix:Stmt:=top 130
theorem sc_law_mix:FnScope ["_law_cell_here","_law_prime","_law_many"] ["_law_cell_here","_law_prime","_law_many"] (defScope s_law_mix):=⟨rfl,rfl,rfl,by decide +kernel,rfl,by decide +kernel,by decide +kernel⟩
abbrev s_law_message:Stmt:=top 131
theorem sc_law_message:FnScope ["_law_script","_law_user","_law_many"] ["_law_script","_law_user"] (defScope s_law_message):=⟨rfl,rfl,rfl,by decide +kernel,rfl,by decide +kernel,by decide +kernel⟩
abbrev s_law_text:Stmt:=top 132
theorem sc_law_text:FnScope ["_law_letters","_law_lines","_law_letter"] ["_law_letters"] (defScope s_law_text):=⟨rfl,rfl,rfl,by decide +kernel,rfl,by decide +kernel,by decide +kernel⟩
abbrev s_law:Stmt:=top 133
theorem sc_law:FnScope ["_law_script","_law_users","_law_beat","_law_made","_law_messages","_law_user","_law_count","_law_found"] ["_law_script"] (defScope s_law):=⟨rfl,rfl,rfl,by decide +kernel,rfl,by decide +kernel,by decide +kernel⟩
abbrev s_Line_init:Stmt:=inClass (top 32) 0
theorem sc_Line_init:FnScope ["self","number"] ["self","number"] (defScope s_Line_init):=⟨rfl,rfl,rfl,by decide +kernel,rfl,by decide +kernel,by decide +kernel⟩
abbrev s_Sheet_init:Stmt:=inClass (top 47) 0
theorem sc_Sheet_init:FnScope ["self"] ["self"] (defScope s_Sheet_init):=⟨rfl,rfl,rfl,by decide +kernel,rfl,by decide +kernel,by decide +kernel⟩
abbrev s_Machine_init:Stmt:=inClass (top 60) 0
theorem sc_Machine_init:FnScope ["self","cells","total","mark","at"] ["self","cells","total","mark","at"] (defScope s_Machine_init):=⟨rfl,rfl,rfl,by decide +kernel,rfl,by decide +kernel,by decide +kernel⟩
abbrev s_Person_init:Stmt:=inClass (top 95) 0
theorem sc_Person_init:FnScope ["self","cells","switches"] ["self","cells","switches"] (defScope s_Person_init):=⟨rfl,rfl,rfl,by decide +kernel,rfl,by decide +kernel,by decide +kernel⟩
abbrev s_House_init:Stmt:=inClass (top 116) 0
theorem sc_House_init:FnScope ["self","users","rooms","quantum","beat"] ["self","users","rooms","quantum","beat"] (defScope s_House_init):=⟨rfl,rfl,rfl,by decide +kernel,rfl,by decide +kernel,by decide +kernel⟩
end Tx
namespace Mir
open PySem
structure Mach where
 cells:List Int
 total:Int
 mark:Int
 at_:Int
def cellM (m:Mach) (q:Int):Int:=m.cells.getD q.toNat 0
def moveOn (m:Mach):Mach:={ m with at_:=(m.at_ + 1) % 64 }
def raiseC (m:Mach) (q:Int):Mach:={ m with cells:=m.cells.set q.toNat ((cellM m q + 1) % 1024) }
def farM (m:Mach) (q:Int):Mach:=if 8≤q∧q≤11 then raiseC m q else m
def farV (m:Mach) (q:Int):Int:=cellM (farM m q) q % 64
def turnK (m:Mach):Mach:={ m with mark:=1 - m.mark }
def addT (m:Mach) (a:Int):Mach:=if 1024≤m.total + a then turnK { m with total:=m.total + a - 1024 } else { m with total:=m.total + a }
def doRise (m:Mach) (q:Int):Mach:=if cellM (raiseC m q) q = 0 then moveOn (raiseC m q) else raiseC m q
def withCell (m:Mach) (k q:Int):Mach :=
 if k = 0 then { m with total:=Builtin.bitAnd m.total (cellM m q) } else if k = 1 then addT m (cellM m q) else if k = 2 then doRise m q
 else if k = 3 then { m with cells:=m.cells.set q.toNat m.total,total:=0 } else if k = 4 then { m with cells:=m.cells.set q.toNat m.at_,at_:=(q + 1) % 64 }
 else if k = 5 then { m with at_:=q } else m
def bit (q b:Int):Bool:=decide (q / b % 2 = 1)
def shiftL (m:Mach):Mach:={ m with total:=(m.total * 2 + m.mark) % 1024,mark:=(m.total * 2 + m.mark) / 1024 }
def shiftR (m:Mach):Mach:={ m with total:=m.total / 2 + m.mark * (1024 / 2),mark:=m.total % 2 }
def ch1 (m:Mach) (q:Int):Mach:=if bit q 32 = true then { m with total:=0 } else m
def ch2 (m:Mach) (q:Int):Mach:=if bit q 16 = true then { m with total:=1024 - 1 - m.total } else m
def ch3 (m:Mach) (q:Int):Mach:=if bit q 8 = true then turnK m else m
def ch4 (m:Mach) (q:Int):Mach:=if bit q 4 = true then addT m 1 else m
def ch5 (m:Mach) (q:Int):Mach:=if bit q 2 = true∧bit q 1 = false then shiftL m else m
def ch6 (m:Mach) (q:Int):Mach:=if bit q 1 = true∧bit q 2 = false then shiftR m else m
def changeM (m:Mach) (q:Int):Mach:=ch6 (ch5 (ch4 (ch3 (ch2 (ch1 m q) q) q) q) q) q
def soM (m:Mach) (q:Int):Bool:=(bit q 32 && decide (1024 / 2≤m.total)) || ((bit q 16 && decide (m.total = 0)) || (bit q 8 && decide (m.mark = 1)))
def testSo (m:Mach) (q:Int):Bool:=if bit q 4 = true then !(soM m q) else soM m q
def te1 (m:Mach) (q:Int):Mach:=if testSo m q = true then moveOn m else m
def te2 (m:Mach) (q:Int):Mach:=if bit q 2 = true then { m with total:=0 } else m
def te3 (m:Mach) (q:Int):Mach:=if bit q 1 = true then { m with mark:=0 } else m
def testM (m:Mach) (q:Int):Mach:=te3 (te2 (te1 m q) q) q
def deedW (m:Mach) (w:Int):Option Int×Mach :=
 if w / 128 = 6 then (some (w % 64),m) else if w / 128 = 7∧w % 128 / 64 = 0 then (none,changeM m (w % 64)) else if w / 128 = 7 then (none,testM m (w % 64))
 else if w % 128 / 64 = 0 then (none,withCell m (w / 128) (w % 64)) else (none,withCell (farM m (w % 64)) (w / 128) (farV m (w % 64)))
def deedM (m:Mach):Option Int×Mach:=deedW (moveOn m) (cellM m m.at_)
structure Wf (m:Mach):Prop where
 len:m.cells.length = 64
 at0:0≤m.at_
 at1:m.at_ < 64
theorem raiseC_len (m:Mach) (q:Int):(raiseC m q).cells.length = m.cells.length:=by simp [raiseC]
theorem farM_len (m:Mach) (q:Int):(farM m q).cells.length = m.cells.length:=by unfold farM;split <;> simp [raiseC_len]
theorem moveOn_at0 (m:Mach):0≤(moveOn m).at_:=by simp only [moveOn];omega
theorem moveOn_at1 (m:Mach):(moveOn m).at_ < 64:=by simp only [moveOn];omega
end Mir
local macro_rules | `(tactic| wtm_at "1") => `(tactic| exact fun _ _ _ _ _ _ us hl => match us, hl with | [_], _ => rfl)
local macro_rules | `(tactic| wtm_at "2") => `(tactic| exact fun _ _ _ _ _ _ us hl => match us, hl with | [_, _], _ => rfl)
local macro_rules | `(tactic| wtm_at "3") => `(tactic| exact fun _ _ _ _ _ _ us hl => match us, hl with | [_, _, _], _ => rfl)
local macro_rules | `(tactic| wtm_at "l") => `(tactic| ((repeat rw [L2.look_miss (by decide +kernel)]); exact L2.look_hit))
local macro_rules | `(tactic| wtm_at "p") => `(tactic| ((repeat rw [L2.putF_miss (by decide +kernel)]); rw [L2.putF_hit]))
namespace Pr
end Pr
namespace Pr
open PySem L2 Mir Tx
def fldsM (c:Addr) (m:Mach):List (Str×V):=[("cells",.ref c),("total",.int m.total),("mark",.int m.mark),("at",.int m.at_)]
theorem n_ct:¬ (("cells" : Str) = "total"):=by decide +kernel
theorem n_cm:¬ (("cells" : Str) = "mark"):=by decide +kernel
theorem n_ca:¬ (("cells" : Str) = "at"):=by decide +kernel
theorem n_tm:¬ (("total" : Str) = "mark"):=by decide +kernel
theorem n_ta:¬ (("total" : Str) = "at"):=by decide +kernel
theorem n_ma:¬ (("mark" : Str) = "at"):=by decide +kernel
theorem lk_cells (c:Addr) (m:Mach):(fldsM c m).lookup ("cells" : Str) = some (.ref c):=look_hit
theorem lk_total (c:Addr) (m:Mach):(fldsM c m).lookup ("total" : Str) = some (.int m.total):=by
 unfold fldsM;rw [look_miss (Ne.symm n_ct)];exact look_hit
theorem lk_mark (c:Addr) (m:Mach):(fldsM c m).lookup ("mark" : Str) = some (.int m.mark):=by
 unfold fldsM;rw [look_miss (Ne.symm n_cm),look_miss (Ne.symm n_tm)];exact look_hit
theorem lk_at (c:Addr) (m:Mach):(fldsM c m).lookup ("at" : Str) = some (.int m.at_):=by
 unfold fldsM;rw [look_miss (Ne.symm n_ca),look_miss (Ne.symm n_ta),look_miss (Ne.symm n_ma)];exact look_hit
theorem pf_total (c:Addr) (m:Mach) (y:Int):putF "total" (.int y) (fldsM c m) = fldsM c { m with total:=y }:=by
 unfold fldsM;rw [putF_miss n_ct,putF_hit]
theorem pf_mark (c:Addr) (m:Mach) (y:Int):putF "mark" (.int y) (fldsM c m) = fldsM c { m with mark:=y }:=by
 unfold fldsM;rw [putF_miss n_cm,putF_miss n_tm,putF_hit]
theorem pf_at (c:Addr) (m:Mach) (y:Int):putF "at" (.int y) (fldsM c m) = fldsM c { m with at_:=y }:=by
 unfold fldsM;rw [putF_miss n_ca,putF_miss n_ta,putF_miss n_ma,putF_hit]
theorem pf_init (c:Addr) (m:Mach):putF "at" (.int m.at_) (putF "mark" (.int m.mark) (putF "total" (.int m.total) (putF "cells" (.ref c) []))) = fldsM c m:=by
 show putF "at" (.int m.at_) (putF "mark" (.int m.mark) (putF "total" (.int m.total) [("cells",V.ref c)])) = _
 rw [putF_miss n_ct]
 show putF "at" (.int m.at_) (putF "mark" (.int m.mark) [("cells",V.ref c),("total",V.int m.total)]) = _
 rw [putF_miss n_cm,putF_miss n_tm]
 show putF "at" (.int m.at_) [("cells",V.ref c),("total",V.int m.total),("mark",V.int m.mark)] = _
 rw [putF_miss n_ca,putF_miss n_ta,putF_miss n_ma]
 rfl
theorem len_flds (c:Addr) (m:Mach):(fldsM c m).length < 1000:=by show 4 < 1000;decide
def Fr2 (H H':Hp) (p c:Addr):Prop:=∀ b o,H b = some o→b≠p→b≠c→H' b = some o
theorem Fr2.refl {H:Hp} {p c:Addr}:Fr2 H H p c:=fun _ _ h _ _=>h
theorem Fr2.trans {H H1 H2:Hp} {p c:Addr} (a:Fr2 H H1 p c) (b:Fr2 H1 H2 p c):Fr2 H H2 p c:=fun x o h h1 h2=>b x o (a x o h h1 h2) h1 h2
theorem Fr2.updP {H:Hp} {p c:Addr} {o:HO}:Fr2 H (upd H p o) p c:=fun b u h h1 _=>by rw [upd_ne h1];exact h
theorem Fr2.updC {H:Hp} {p c:Addr} {o:HO}:Fr2 H (upd H c o) p c:=fun b u h _ h2=>by rw [upd_ne h2];exact h
theorem Fr2.new {H:Hp} {p c a:Addr} {o:HO} (n:H a = none):Fr2 H (upd H a o) p c:=fun b u h _ _=>by rw [upd_ne (ne_of_none h n)];exact h
structure MAt (C:Addr) (H:Hp) (p c dx:Addr) (m:Mach):Prop where
 ob:H p = some (.ins C dx (fldsM c m))
 cl:H c = some (.lst (m.cells.map V.int))
theorem MAt.ne {C:Addr} {H:Hp} {p c dx:Addr} {m:Mach} (h:MAt C H p c dx m):p≠c:=ne_of h.ob h.cl (by intro z;cases z)
theorem MAt.setP {C:Addr} {H:Hp} {p c dx:Addr} {m m':Mach} (h:MAt C H p c dx m) (e:m'.cells = m.cells):MAt C (upd H p (.ins C dx (fldsM c m'))) p c dx m' :=
 ⟨upd_same,by rw [upd_ne h.ne.symm,e];exact h.cl⟩
theorem MAt.setC {C:Addr} {H:Hp} {p c dx:Addr} {m m':Mach} {xs:List V} (h:MAt C H p c dx m) (e:xs = m'.cells.map V.int) (e1:m'.total = m.total) (e2:m'.mark = m.mark) (e3:m'.at_ = m.at_):MAt C (upd H c (.lst xs)) p c dx m' :=
 ⟨by rw [upd_ne h.ne,show fldsM c m' = fldsM c m by unfold fldsM;rw [e1,e2,e3]];exact h.ob,by rw [upd_same,e]⟩
theorem MAt.new {C:Addr} {H:Hp} {p c dx a:Addr} {o:HO} {m:Mach} (h:MAt C H p c dx m) (n:H a = none):MAt C (upd H a o) p c dx m :=
 ⟨by rw [upd_ne (ne_of_none h.ob n)];exact h.ob,by rw [upd_ne (ne_of_none h.cl n)];exact h.cl⟩
theorem MAt.same {C:Addr} {H:Hp} {p c dx:Addr} {m m':Mach} (h:MAt C H p c dx m) (e:m = m'):MAt C H p c dx m':=by rw [← e];exact h
structure TxtM (K:PySem.W.Frag) (mg:Str→Option Value) (C:Addr):Prop where
 cl:Cls K C
 n_cells:NoAttr K C "cells"
 n_total:NoAttr K C "total"
 n_mark:NoAttr K C "mark"
 n_at:NoAttr K C "at"
 WORDS:IntG mg "WORDS" 1024
 PLACES:IntG mg "PLACES" 64
 AND:IntG mg "AND" 0
 ADD:IntG mg "ADD" 1
 RISE:IntG mg "RISE" 2
 PUT:IntG mg "PUT" 3
 CALL:IntG mg "CALL" 4
 GO:IntG mg "GO" 5
 ASK:IntG mg "ASK" 6
 BITS:IntG mg "BITS" 7
 list_:mg "list" = none
def sp_behind:Sp:=fun vs H Q _=>∃ a,vs = [.int a]∧Q (.int ((a + 1) % 64)) H
def sp_parts:Sp:=fun vs H Q _=>∃ w,vs = [.int w]∧∀ t,H t = none→Q (.ref t) (upd H t (.tup [.int (w / 128),.int (w % 128 / 64),.int (w % 64)]))
def sp_bit:Sp:=fun vs H Q _=>∃ a b,vs = [.int a,.int b]∧CDiv a b∧Q (.bl (bit a b)) H
def spM (C:Addr) (pre:Mach→Prop) (f:Mach→Mach):Sp:=fun vs H Q _=>∃ p c dx m,vs = [.ref p]∧MAt C H p c dx m∧pre m∧∀ H',MAt C H' p c dx (f m)→Fr2 H H' p c→Q .non H'
def spM1 (C:Addr) (pre:Mach→Int→Prop) (f:Mach→Int→Mach):Sp:=fun vs H Q _=>∃ p c dx m a,vs = [.ref p,.int a]∧MAt C H p c dx m∧pre m a∧∀ H',MAt C H' p c dx (f m a)→Fr2 H H' p c→Q .non H'
def spV1 (C:Addr) (pre:Mach→Int→Prop) (g:Mach→Int→V) (f:Mach→Int→Mach):Sp:=fun vs H Q _=>∃ p c dx m a,vs = [.ref p,.int a]∧MAt C H p c dx m∧pre m a∧∀ H',MAt C H' p c dx (f m a)→Fr2 H H' p c→Q (g m a) H'
def spM2 (C:Addr) (pre:Mach→Int→Int→Prop) (f:Mach→Int→Int→Mach):Sp:=fun vs H Q _=>∃ p c dx m k a,vs = [.ref p,.int k,.int a]∧MAt C H p c dx m∧pre m k a∧∀ H',MAt C H' p c dx (f m k a)→Fr2 H H' p c→Q .non H'
def vO:Option Int→V
 | some i=>.int i
 | none=>.non
def sp_deed (C:Addr):Sp:=fun vs H Q _=>∃ p c dx m,vs = [.ref p]∧MAt C H p c dx m∧Wf m∧∀ H',MAt C H' p c dx (deedM m).2→Fr2 H H' p c→Q (vO (deedM m).1) H'
def sp_init (C:Addr) (K:PySem.W.Frag):Sp:=fun vs H Q _=>∃ (p dx l:Addr) (ns:List Int) (t k a:Int),vs = [.ref p,.ref l,.int t,.int k,.int a]∧H p = some (.ins C dx [])∧SqL K H l (ns.map V.int)∧ns.length≤1000 ∧
 ∀ c H',H c = none→MAt C H' p c dx ⟨ns,t,k,a⟩→(∀ b o,H b = some o→b≠p→H' b = some o)→Q .non H'
def pre1 (m:Mach) (q:Int):Prop:=m.cells.length = 64∧0≤q∧q < 64
def pre2 (m:Mach) (_ q:Int):Prop:=m.cells.length = 64∧0≤q∧q < 64
section
variable {P:Program} {w:World} {K:PySem.W.Frag} {mg:Str→Option Value} {base:Heap} {C:Addr}
theorem ok_behind (R:Raw K mg "place_behind" s_place_behind) (T:TxtM K mg C):GF P w K mg base "place_behind" ["place"] 1 sp_behind:=by
 refine GF.mk R sc_place_behind (by wtm_at "1") (fun vs H Q E h=>?_) (fun f cdv A outer s H vs Q E hr h=>?_)
 ·obtain ⟨a,rfl,_⟩:=h;rfl
 ·obtain ⟨a,rfl,k⟩:=h
  refine ⟨_,(pss_one (ps_ret (pe_op op_mod (pe_op op_add (pv 0) pe_int) (pe_gint rfl T.PLACES)))),?_⟩
  exact ⟨_,rfl,_,_,rfl,rfl,_,_,rfl,rfl,(by show (0:Int) < 64;decide),k⟩
theorem ok_parts (R:Raw K mg "parts" s_parts):GF P w K mg base "parts" ["word"] 1 sp_parts:=by
 refine GF.mk R sc_parts (by wtm_at "1") (fun vs H Q E h=>?_) (fun f cdv A outer s H vs Q E hr h=>?_)
 ·obtain ⟨a,rfl,_⟩:=h;rfl
 ·obtain ⟨a,rfl,k⟩:=h
  refine ⟨_,(pss_one (ps_ret (pe_tup (pa_cons (pe_op op_fdiv (pv 0) pe_int) (pa_cons (pe_op op_fdiv (pe_op op_mod (pv 0) pe_int) pe_int) (pa_cons (pe_op op_mod (pv 0) pe_int) pa_nil)))))),?_⟩
  exact ⟨_,rfl,_,_,rfl,rfl,⟨by decide,by decide⟩,_,rfl,_,_,rfl,rfl,(by show (0:Int) < 128;decide),_,_,rfl,rfl,⟨by decide,by decide⟩,_,rfl,_,_,rfl,rfl,(by show (0:Int) < 64;decide),(by show 3≤sizeLine;decide),fun t ht=>k t ht⟩
theorem ok_bit (R:Raw K mg "has_bit" s_has_bit):GF P w K mg base "has_bit" ["place","bit"] 1 sp_bit:=by
 refine GF.mk R sc_has_bit (by wtm_at "2") (fun vs H Q E h=>?_) (fun f cdv A outer s H vs Q E hr h=>?_)
 ·obtain ⟨a,b,rfl,_⟩:=h;rfl
 ·obtain ⟨a,b,rfl,hc,k⟩:=h
  refine ⟨_,(pss_one (ps_ret (pe_cmpR op_eq (pe_op op_mod (pe_op op_fdiv (pv 0) (pv 1)) pe_int) pe_int (nomark _)))),?_⟩
  refine ⟨_,rfl,_,rfl,_,_,rfl,rfl,hc,_,_,rfl,rfl,(by show (0:Int) < 2;decide),rfl,?_⟩
  have e:decide (V.int (a / b % 2) = V.int 1) = bit a b:=by
   unfold bit
   rw [Bool.eq_iff_iff]
   simp
  rw [e]
  exact k
theorem ok_move (R:Raw K mg "move_on" s_move_on) (T:TxtM K mg C) (G_place_behind:GF P w K mg base "place_behind" ["place"] 1 sp_behind):GF P w K mg base "move_on" ["machine"] 2 (spM C (fun _=>True) moveOn):=by
 refine GF.mk R sc_move_on (by wtm_at "1") (fun vs H Q E h=>?_) (fun f cdv A outer s H vs Q E hr h=>?_)
 ·obtain ⟨p,c,dx,m,rfl,_⟩:=h;rfl
 ·obtain ⟨p,c,dx,m,rfl,M,_,k⟩:=h
  refine ⟨_,(pss_one (ps_fld (pv 0) (pe_gcall G_place_behind (hr.mono (by decide)) rfl (pa_cons (pe_fld (pv 0) rfl) pa_nil)) rfl)),?_⟩
  refine ⟨_,rfl,p,C,dx,_,_,rfl,M.ob,T.cl,T.n_at,lk_at _ _,_,rfl,_,rfl,p,C,dx,_,rfl,M.ob,T.cl,T.n_at,len_flds _ _,?_⟩
  rw [pf_at]
  exact k _ (M.setP (by rfl)) Fr2.updP
theorem ok_raise (R:Raw K mg "raise_cell" s_raise_cell) (T:TxtM K mg C):GF P w K mg base "raise_cell" ["machine","place"] 1 (spM1 C pre1 raiseC):=by
 refine GF.mk R sc_raise_cell (by wtm_at "2") (fun vs H Q E h=>?_) (fun f cdv A outer s H vs Q E hr h=>?_)
 ·obtain ⟨p,c,dx,m,a,rfl,_⟩:=h;rfl
 ·obtain ⟨p,c,dx,m,a,rfl,M,⟨h1,h2,h3⟩,k⟩:=h
  refine ⟨_,(pss_one (ps_asg (pe_op op_mod (pe_op op_add (pe_ix ix_list (pe_fld (pv 0) rfl) (pv 1) (fun _ _=>rfl)) pe_int) (pe_gint rfl T.WORDS)) (pg_sub (pe_fld (pv 0) rfl) (pv 1) set_list))),?_⟩
  refine ⟨_,rfl,p,C,dx,_,_,rfl,M.ob,T.cl,T.n_cells,lk_cells _ _,_,rfl,c,_,_,_,rfl,rfl,SqL.of M.cl,atI_ints h2 (by omega),_,_,rfl,rfl,_,_,rfl,rfl,(by show (0:Int) < 1024;decide),?_⟩
  refine ⟨_,rfl,p,C,dx,_,_,rfl,M.ob,T.cl,T.n_cells,lk_cells _ _,_,rfl,c,_,_,_,rfl,rfl,M.cl,ixN_ints h2 (by rw [List.length_map];omega),?_⟩
  refine k _ (M.setC ?_ rfl rfl rfl) Fr2.updC
  show _ = (m.cells.set a.toNat _).map V.int
  rw [List.map_set]
  rfl
theorem ok_far (R:Raw K mg "far_place" s_far_place) (T:TxtM K mg C) (G_raise_cell:GF P w K mg base "raise_cell" ["machine","place"] 1 (spM1 C pre1 raiseC)) :
  GF P w K mg base "far_place" ["machine","place"] 2 (spV1 C pre1 (fun m a=>.int (farV m a)) farM):=by
 refine GF.mk R sc_far_place (by wtm_at "2") (fun vs H Q E h=>?_) (fun f cdv A outer s H vs Q E hr h=>?_)
 ·obtain ⟨p,c,dx,m,a,rfl,_⟩:=h;rfl
 ·obtain ⟨p,c,dx,m,a,rfl,M,⟨h1,h2,h3⟩,k⟩:=h
  refine ⟨_,(pss_cons (ps_cut (ps_if (pt_chain op_le op_le pe_int (pv 1) pe_int) (pss_one (ps_expr (pe_gcall G_raise_cell (hr.mono (by decide)) rfl (pa_cons (pv 0) (pa_cons (pv 1) pa_nil))))) pss_nil))
   (pss_one (ps_ret (pe_op op_mod (pe_ix ix_list (pe_fld (pv 0) rfl) (pv 1) (fun _ _=>rfl)) (pe_gint rfl T.PLACES))))),?_⟩
  refine ⟨fun σ' H'=>σ' = [some (.ref p),some (.int a)]∧MAt C H' p c dx (farM m a)∧Fr2 H H' p c,?_,?_⟩
  ·refine ⟨_,rfl,_,_,rfl,rfl,_,rfl,?_⟩
   refine iteD (fun g1=>?_) (fun g1=>?_)
   ·refine ⟨_,_,rfl,rfl,_,rfl,?_⟩
    refine iteD (fun g2=>?_) (fun g2=>?_)
    ·refine ⟨_,rfl,_,rfl,p,c,dx,m,a,rfl,M,⟨h1,h2,h3⟩,fun H' M' F'=>⟨rfl,M'.same ?_,F'⟩⟩
     unfold farM;rw [if_pos ⟨g1,g2⟩]
    ·refine ⟨rfl,M.same ?_,Fr2.refl⟩
     unfold farM;rw [if_neg (fun z=>g2 z.2)]
   ·refine ⟨_,rfl,iteF ?_⟩
    refine ⟨rfl,M.same ?_,Fr2.refl⟩
    unfold farM;rw [if_neg (fun z=>g1 z.1)]
  ·rintro σ' H' ⟨rfl,M',F'⟩
   refine ⟨_,rfl,p,C,dx,_,_,rfl,M'.ob,T.cl,T.n_cells,lk_cells _ _,_,rfl,c,_,_,_,rfl,rfl,SqL.of M'.cl,atI_ints h2 (by rw [farM_len];omega),_,_,rfl,rfl,(by show (0:Int) < 64;decide),?_⟩
   exact k H' M' F'
theorem ok_turn (R:Raw K mg "turn_mark" s_turn_mark) (T:TxtM K mg C):GF P w K mg base "turn_mark" ["machine"] 1 (spM C (fun _=>True) turnK):=by
 refine GF.mk R sc_turn_mark (by wtm_at "1") (fun vs H Q E h=>?_) (fun f cdv A outer s H vs Q E hr h=>?_)
 ·obtain ⟨p,c,dx,m,rfl,_⟩:=h;rfl
 ·obtain ⟨p,c,dx,m,rfl,M,_,k⟩:=h
  refine ⟨_,(pss_one (ps_fld (pv 0) (pe_op op_sub pe_int (pe_fld (pv 0) rfl)) rfl)),?_⟩
  refine ⟨_,rfl,p,C,dx,_,_,rfl,M.ob,T.cl,T.n_mark,lk_mark _ _,_,_,rfl,rfl,_,rfl,p,C,dx,_,rfl,M.ob,T.cl,T.n_mark,len_flds _ _,?_⟩
  rw [pf_mark]
  exact k _ (M.setP (by rfl)) Fr2.updP
theorem ok_add (R:Raw K mg "add_to_total" s_add_to_total) (T:TxtM K mg C) (G_turn_mark:GF P w K mg base "turn_mark" ["machine"] 1 (spM C (fun _=>True) turnK)) :
  GF P w K mg base "add_to_total" ["machine","amount"] 2 (spM1 C (fun _ _=>True) addT):=by
 refine GF.mk R sc_add_to_total (by wtm_at "2") (fun vs H Q E h=>?_) (fun f cdv A outer s H vs Q E hr h=>?_)
 ·obtain ⟨p,c,dx,m,a,rfl,_⟩:=h;rfl
 ·obtain ⟨p,c,dx,m,a,rfl,M,_,k⟩:=h
  refine ⟨_,(pss_cons (ps_fld (pv 0) (pe_op op_add (pe_fld (pv 0) rfl) (pv 1)) rfl)
   (pss_one (ps_if (pt_cmpR op_ge (pe_fld (pv 0) rfl) (pe_gint rfl T.WORDS) (nomark _)) (pss_cons (ps_fld (pv 0) (pe_op op_sub (pe_fld (pv 0) rfl) (pe_gint rfl T.WORDS)) rfl)
   (pss_one (ps_expr (pe_gcall G_turn_mark (hr.mono (by decide)) rfl (pa_cons (pv 0) pa_nil))))) pss_nil))),?_⟩
  refine ⟨_,rfl,p,C,dx,_,_,rfl,M.ob,T.cl,T.n_total,lk_total _ _,_,rfl,_,_,rfl,rfl,_,rfl,p,C,dx,_,rfl,M.ob,T.cl,T.n_total,len_flds _ _,?_⟩
  rw [pf_total]
  have M1:MAt C (upd H p (.ins C dx (fldsM c { m with total:=m.total + a }))) p c dx { m with total:=m.total + a }:=M.setP rfl
  refine ⟨_,rfl,p,C,dx,_,_,rfl,M1.ob,T.cl,T.n_total,lk_total _ _,_,_,rfl,rfl,_,rfl,?_⟩
  refine iteD (fun g=>?_) (fun g=>?_)
  ·refine ⟨_,rfl,p,C,dx,_,_,rfl,M1.ob,T.cl,T.n_total,lk_total _ _,_,_,rfl,rfl,_,rfl,p,C,dx,_,rfl,M1.ob,T.cl,T.n_total,len_flds _ _,?_⟩
   rw [pf_total]
   refine ⟨_,rfl,p,c,dx,_,rfl,M1.setP (by rfl),trivial,fun H' M' F'=>k H' (M'.same ?_) (Fr2.updP.trans (Fr2.updP.trans F'))⟩
   unfold addT;rw [if_pos g]
  ·refine k _ (M1.same ?_) Fr2.updP
   unfold addT;rw [if_neg g]
theorem ok_rise (R:Raw K mg "do_rise" s_do_rise) (T:TxtM K mg C) (G_raise_cell:GF P w K mg base "raise_cell" ["machine","place"] 1 (spM1 C pre1 raiseC)) (G_move_on:GF P w K mg base "move_on" ["machine"] 2 (spM C (fun _=>True) moveOn)) :
  GF P w K mg base "do_rise" ["machine","place"] 3 (spM1 C pre1 doRise):=by
 refine GF.mk R sc_do_rise (by wtm_at "2") (fun vs H Q E h=>?_) (fun f cdv A outer s H vs Q E hr h=>?_)
 ·obtain ⟨p,c,dx,m,a,rfl,_⟩:=h;rfl
 ·obtain ⟨p,c,dx,m,a,rfl,M,⟨h1,h2,h3⟩,k⟩:=h
  refine ⟨_,(pss_cons (ps_expr (pe_gcall G_raise_cell (hr.mono (by decide)) rfl (pa_cons (pv 0) (pa_cons (pv 1) pa_nil))))
   (pss_one (ps_if (pt_cmpR op_eq (pe_ix ix_list (pe_fld (pv 0) rfl) (pv 1) (fun _ _=>rfl)) pe_int (nomark _)) (pss_one (ps_expr (pe_gcall G_move_on (hr.mono (by decide)) rfl (pa_cons (pv 0) pa_nil)))) pss_nil))),?_⟩
  refine ⟨_,rfl,_,rfl,p,c,dx,m,a,rfl,M,⟨h1,h2,h3⟩,fun H1 M1 F1=>?_⟩
  refine ⟨_,rfl,p,C,dx,_,_,rfl,M1.ob,T.cl,T.n_cells,lk_cells _ _,_,rfl,c,_,_,_,rfl,rfl,SqL.of M1.cl,atI_ints h2 (by rw [raiseC_len];omega),rfl,_,rfl,?_⟩
  refine iteD (fun g=>?_) (fun g=>?_)
  ·refine ⟨_,rfl,p,c,dx,_,rfl,M1,trivial,fun H' M' F'=>k H' (M'.same ?_) (F1.trans F')⟩
   unfold doRise cellM;rw [if_pos (by injection g)]
  ·refine k _ (M1.same ?_) F1
   unfold doRise cellM;rw [if_neg (fun z=>g (congrArg V.int z))]
theorem ok_shl (R:Raw K mg "shift_left" s_shift_left) (T:TxtM K mg C):GF P w K mg base "shift_left" ["machine"] 1 (spM C (fun _=>True) shiftL):=by
 refine GF.mk R sc_shift_left (by wtm_at "1") (fun vs H Q E h=>?_) (fun f cdv A outer s H vs Q E hr h=>?_)
 ·obtain ⟨p,c,dx,m,rfl,_⟩:=h;rfl
 ·obtain ⟨p,c,dx,m,rfl,M,_,k⟩:=h
  refine ⟨_,(pss_cons (ps_set (i:=1) sc_shift_left.nd rfl (Or.inl rfl) (pe_op op_add (pe_op op_mul (pe_fld (pv 0) rfl) pe_int) (pe_fld (pv 0) rfl)))
   (pss_cons (ps_fld (pv 0) (pe_op op_mod (pv 1) (pe_gint rfl T.WORDS)) rfl)
   (pss_one (ps_fld (pv 0) (pe_op op_fdiv (pv 1) (pe_gint rfl T.WORDS)) rfl)))),?_⟩
  refine ⟨_,rfl,p,C,dx,_,_,rfl,M.ob,T.cl,T.n_total,lk_total _ _,_,_,rfl,rfl,.inr ⟨by decide,by decide⟩,_,rfl,p,C,dx,_,_,rfl,M.ob,T.cl,T.n_mark,lk_mark _ _,_,_,rfl,rfl,?_⟩
  refine ⟨_,rfl,_,_,rfl,rfl,(by show (0:Int) < 1024;decide),_,rfl,p,C,dx,_,rfl,M.ob,T.cl,T.n_total,len_flds _ _,?_⟩
  rw [pf_total]
  have M1:=M.setP (m':={ m with total:=(m.total * 2 + m.mark) % 1024 }) rfl
  refine ⟨_,rfl,_,_,rfl,rfl,⟨by decide,by decide⟩,_,rfl,p,C,dx,_,rfl,M1.ob,T.cl,T.n_mark,len_flds _ _,?_⟩
  rw [pf_mark]
  exact k _ (M1.setP (by rfl)) (Fr2.updP.trans Fr2.updP)
theorem ok_shr (R:Raw K mg "shift_right" s_shift_right) (T:TxtM K mg C):GF P w K mg base "shift_right" ["machine"] 1 (spM C (fun _=>True) shiftR):=by
 refine GF.mk R sc_shift_right (by wtm_at "1") (fun vs H Q E h=>?_) (fun f cdv A outer s H vs Q E hr h=>?_)
 ·obtain ⟨p,c,dx,m,rfl,_⟩:=h;rfl
 ·obtain ⟨p,c,dx,m,rfl,M,_,k⟩:=h
  refine ⟨_,(pss_cons (ps_set (i:=1) sc_shift_right.nd rfl (Or.inl rfl) (pe_op op_mod (pe_fld (pv 0) rfl) pe_int))
   (pss_cons (ps_fld (pv 0) (pe_op op_add (pe_op op_fdiv (pe_fld (pv 0) rfl) pe_int) (pe_op op_mul (pe_fld (pv 0) rfl) (pe_op op_fdiv (pe_gint rfl T.WORDS) pe_int))) rfl)
   (pss_one (ps_fld (pv 0) (pv 1) rfl)))),?_⟩
  refine ⟨_,rfl,p,C,dx,_,_,rfl,M.ob,T.cl,T.n_total,lk_total _ _,_,_,rfl,rfl,(by show (0:Int) < 2;decide),?_⟩
  refine ⟨_,rfl,p,C,dx,_,_,rfl,M.ob,T.cl,T.n_total,lk_total _ _,_,_,rfl,rfl,⟨by decide,by decide⟩,_,rfl,p,C,dx,_,_,rfl,M.ob,T.cl,T.n_mark,lk_mark _ _,_,_,rfl,rfl,⟨by decide,by decide⟩,_,_,rfl,rfl,.inr ⟨by decide,by decide⟩,_,_,rfl,rfl,_,rfl,p,C,dx,_,rfl,M.ob,T.cl,T.n_total,len_flds _ _,?_⟩
  rw [pf_total]
  have M1:=M.setP (m':={ m with total:=m.total / 2 + m.mark * (1024 / 2) }) rfl
  refine ⟨_,rfl,_,rfl,p,C,dx,_,rfl,M1.ob,T.cl,T.n_mark,len_flds _ _,?_⟩
  rw [pf_mark]
  exact k _ (M1.setP (by rfl)) (Fr2.updP.trans Fr2.updP)
end
end Pr
namespace Pr
open PySem L2 Mir Tx
theorem iteE {b:Bool} {c A B:Prop} (e:b = true↔c) (h1:c→A) (h2:¬ c→B):if b = true then A else B:=by
 by_cases h:b = true
 ·rw [if_pos h];exact h1 (e.mp h)
 ·rw [if_neg h];exact h2 fun z=>h (e.mpr z)
theorem dInt {i j:Int}:decide (V.int i = V.int j) = true↔i = j:=by simp
section
variable {P:Program} {w:World} {K:PySem.W.Frag} {mg:Str→Option Value} {base:Heap} {C:Addr}
theorem ok_with (R:Raw K mg "do_with_cell" s_do_with_cell) (T:TxtM K mg C) (G_place_behind:GF P w K mg base "place_behind" ["place"] 1 sp_behind) (G_add_to_total:GF P w K mg base "add_to_total" ["machine","amount"] 2 (spM1 C (fun _ _=>True) addT))
  (G_do_rise:GF P w K mg base "do_rise" ["machine","place"] 3 (spM1 C pre1 doRise)):GF P w K mg base "do_with_cell" ["machine","kind","place"] 4 (spM2 C pre2 withCell):=by
 refine GF.mk R sc_do_with_cell (by wtm_at "3") (fun vs H Q E h=>?_) (fun f cdv A outer s H vs Q E hr h=>?_)
 ·obtain ⟨p,c,dx,m,k,a,rfl,_⟩:=h;rfl
 ·obtain ⟨p,c,dx,m,kd,a,rfl,M,⟨h1,h2,h3⟩,k⟩:=h
  refine ⟨_,(pss_one (ps_if (pt_cmpR op_eq (pv 1) (pe_gint rfl T.AND) (nomark _)) (pss_one (ps_fld (pv 0) (pe_op op_and (pe_fld (pv 0) rfl) (pe_ix ix_list (pe_fld (pv 0) rfl) (pv 2) (fun _ _=>rfl))) rfl)) (pss_one (ps_if (pt_cmpR op_eq (pv 1) (pe_gint rfl T.ADD) (nomark _)) (pss_one (ps_expr (pe_gcall G_add_to_total (hr.mono (by decide)) rfl (pa_cons (pv 0) (pa_cons (pe_ix ix_list (pe_fld (pv 0) rfl) (pv 2) (fun _ _=>rfl)) pa_nil))))) (pss_one (ps_if (pt_cmpR op_eq (pv 1) (pe_gint rfl T.RISE) (nomark _)) (pss_one (ps_expr (pe_gcall G_do_rise (hr.mono (by decide)) rfl (pa_cons (pv 0) (pa_cons (pv 2) pa_nil))))) (pss_one (ps_if (pt_cmpR op_eq (pv 1) (pe_gint rfl T.PUT) (nomark _)) (pss_cons (ps_asg (pe_fld (pv 0) rfl) (pg_sub (pe_fld (pv 0) rfl) (pv 2) set_list))
   (pss_one (ps_fld (pv 0) pe_int rfl))) (pss_one (ps_if (pt_cmpR op_eq (pv 1) (pe_gint rfl T.CALL) (nomark _)) (pss_cons (ps_asg (pe_fld (pv 0) rfl) (pg_sub (pe_fld (pv 0) rfl) (pv 2) set_list))
   (pss_one (ps_fld (pv 0) (pe_gcall G_place_behind (hr.mono (by decide)) rfl (pa_cons (pv 2) pa_nil)) rfl))) (pss_one (ps_if (pt_cmpR op_eq (pv 1) (pe_gint rfl T.GO) (nomark _)) (pss_one (ps_fld (pv 0) (pv 2) rfl)) pss_nil)))))))))))),?_⟩
  refine ⟨_,rfl,rfl,_,rfl,iteE dInt (fun g0=>?_) (fun g0=>?_)⟩
  ·refine ⟨_,rfl,p,C,dx,_,_,rfl,M.ob,T.cl,T.n_total,lk_total _ _,_,rfl,p,C,dx,_,_,rfl,M.ob,T.cl,T.n_cells,lk_cells _ _,_,rfl,c,_,_,_,rfl,rfl,SqL.of M.cl,atI_ints h2 (by omega),_,_,rfl,rfl,_,rfl,p,C,dx,_,rfl,M.ob,T.cl,T.n_total,len_flds _ _,?_⟩
   rw [pf_total]
   refine k _ ((M.setP (by rfl)).same ?_) Fr2.updP
   unfold withCell;rw [if_pos g0];rfl
  refine ⟨_,rfl,rfl,_,rfl,iteE dInt (fun g1=>?_) (fun g1=>?_)⟩
  ·refine ⟨_,rfl,_,rfl,p,C,dx,_,_,rfl,M.ob,T.cl,T.n_cells,lk_cells _ _,_,rfl,c,_,_,_,rfl,rfl,SqL.of M.cl,atI_ints h2 (by omega),p,c,dx,m,_,rfl,M,trivial,fun H' M' F'=>k H' (M'.same ?_) F'⟩
   unfold withCell;rw [if_neg g0,if_pos g1];rfl
  refine ⟨_,rfl,rfl,_,rfl,iteE dInt (fun g2=>?_) (fun g2=>?_)⟩
  ·refine ⟨_,rfl,_,rfl,p,c,dx,m,a,rfl,M,⟨h1,h2,h3⟩,fun H' M' F'=>k H' (M'.same ?_) F'⟩
   unfold withCell;rw [if_neg g0,if_neg g1,if_pos g2]
  refine ⟨_,rfl,rfl,_,rfl,iteE dInt (fun g3=>?_) (fun g3=>?_)⟩
  ·refine ⟨_,rfl,p,C,dx,_,_,rfl,M.ob,T.cl,T.n_total,lk_total _ _,_,rfl,p,C,dx,_,_,rfl,M.ob,T.cl,T.n_cells,lk_cells _ _,_,rfl,c,_,_,_,rfl,rfl,M.cl,ixN_ints h2 (by rw [List.length_map];omega),?_⟩
   have M1:MAt C (upd H c (.lst ((m.cells.map V.int).set a.toNat (.int m.total)))) p c dx { m with cells:=m.cells.set a.toNat m.total }:=M.setC (by rw [List.map_set]) rfl rfl rfl
   refine ⟨_,rfl,p,C,dx,_,rfl,M1.ob,T.cl,T.n_total,len_flds _ _,?_⟩
   rw [pf_total]
   refine k _ ((M1.setP (by rfl)).same ?_) (Fr2.updC.trans Fr2.updP)
   unfold withCell;rw [if_neg g0,if_neg g1,if_neg g2,if_pos g3]
  refine ⟨_,rfl,rfl,_,rfl,iteE dInt (fun g4=>?_) (fun g4=>?_)⟩
  ·refine ⟨_,rfl,p,C,dx,_,_,rfl,M.ob,T.cl,T.n_at,lk_at _ _,_,rfl,p,C,dx,_,_,rfl,M.ob,T.cl,T.n_cells,lk_cells _ _,_,rfl,c,_,_,_,rfl,rfl,M.cl,ixN_ints h2 (by rw [List.length_map];omega),?_⟩
   have M1:MAt C (upd H c (.lst ((m.cells.map V.int).set a.toNat (.int m.at_)))) p c dx { m with cells:=m.cells.set a.toNat m.at_ }:=M.setC (by rw [List.map_set]) rfl rfl rfl
   refine ⟨_,rfl,_,rfl,_,rfl,p,C,dx,_,rfl,M1.ob,T.cl,T.n_at,len_flds _ _,?_⟩
   rw [pf_at]
   refine k _ ((M1.setP (by rfl)).same ?_) (Fr2.updC.trans Fr2.updP)
   unfold withCell;rw [if_neg g0,if_neg g1,if_neg g2,if_neg g3,if_pos g4]
  refine ⟨_,rfl,rfl,_,rfl,iteE dInt (fun g5=>?_) (fun g5=>?_)⟩
  ·refine ⟨_,rfl,_,rfl,p,C,dx,_,rfl,M.ob,T.cl,T.n_at,len_flds _ _,?_⟩
   rw [pf_at]
   refine k _ ((M.setP (by rfl)).same ?_) Fr2.updP
   unfold withCell;rw [if_neg g0,if_neg g1,if_neg g2,if_neg g3,if_neg g4,if_pos g5]
  ·refine k _ (M.same ?_) Fr2.refl
   unfold withCell;rw [if_neg g0,if_neg g1,if_neg g2,if_neg g3,if_neg g4,if_neg g5]
theorem ok_change (R:Raw K mg "do_change" s_do_change) (T:TxtM K mg C) (G_has_bit:GF P w K mg base "has_bit" ["place","bit"] 1 sp_bit) (G_turn_mark:GF P w K mg base "turn_mark" ["machine"] 1 (spM C (fun _=>True) turnK))
  (G_add_to_total:GF P w K mg base "add_to_total" ["machine","amount"] 2 (spM1 C (fun _ _=>True) addT)) (G_shift_left:GF P w K mg base "shift_left" ["machine"] 1 (spM C (fun _=>True) shiftL))
  (G_shift_right:GF P w K mg base "shift_right" ["machine"] 1 (spM C (fun _=>True) shiftR)):GF P w K mg base "do_change" ["machine","place"] 3 (spM1 C (fun _ _=>True) changeM):=by
 refine GF.mk R sc_do_change (by wtm_at "2") (fun vs H Q E h=>?_) (fun f cdv A outer s H vs Q E hr h=>?_)
 ·obtain ⟨p,c,dx,m,a,rfl,_⟩:=h;rfl
 ·obtain ⟨p,c,dx,m,a,rfl,M,_,k⟩:=h
  refine ⟨_,(pss_cons (ps_cut (ps_if (pt_val (pe_gcall G_has_bit (hr.mono (by decide)) rfl (pa_cons (pv 1) (pa_cons pe_int pa_nil)))) (pss_one (ps_fld (pv 0) pe_int rfl)) pss_nil))
   (pss_cons (ps_cut (ps_if (pt_val (pe_gcall G_has_bit (hr.mono (by decide)) rfl (pa_cons (pv 1) (pa_cons pe_int pa_nil)))) (pss_one (ps_fld (pv 0) (pe_op op_sub (pe_op op_sub (pe_gint rfl T.WORDS) pe_int) (pe_fld (pv 0) rfl)) rfl)) pss_nil))
   (pss_cons (ps_cut (ps_if (pt_val (pe_gcall G_has_bit (hr.mono (by decide)) rfl (pa_cons (pv 1) (pa_cons pe_int pa_nil)))) (pss_one (ps_expr (pe_gcall G_turn_mark (hr.mono (by decide)) rfl (pa_cons (pv 0) pa_nil)))) pss_nil))
   (pss_cons (ps_cut (ps_if (pt_val (pe_gcall G_has_bit (hr.mono (by decide)) rfl (pa_cons (pv 1) (pa_cons pe_int pa_nil)))) (pss_one (ps_expr (pe_gcall G_add_to_total (hr.mono (by decide)) rfl (pa_cons (pv 0) (pa_cons pe_int pa_nil))))) pss_nil))
   (pss_cons (ps_cut (ps_if (PW.pt (pw_and (pt_val (pe_gcall G_has_bit (hr.mono (by decide)) rfl (pa_cons (pv 1) (pa_cons pe_int pa_nil)))) (pw_and1 (pt_not (pt_val (pe_gcall G_has_bit (hr.mono (by decide)) rfl (pa_cons (pv 1) (pa_cons pe_int pa_nil)))))))) (pss_one (ps_expr (pe_gcall G_shift_left (hr.mono (by decide)) rfl (pa_cons (pv 0) pa_nil)))) pss_nil))
   (pss_one (ps_if (PW.pt (pw_and (pt_val (pe_gcall G_has_bit (hr.mono (by decide)) rfl (pa_cons (pv 1) (pa_cons pe_int pa_nil)))) (pw_and1 (pt_not (pt_val (pe_gcall G_has_bit (hr.mono (by decide)) rfl (pa_cons (pv 1) (pa_cons pe_int pa_nil)))))))) (pss_one (ps_expr (pe_gcall G_shift_right (hr.mono (by decide)) rfl (pa_cons (pv 0) pa_nil)))) pss_nil))))))),?_⟩
  refine ⟨fun σ' H'=>σ' = [some (.ref p),some (.int a)]∧MAt C H' p c dx (ch1 m a)∧Fr2 H H' p c,?_,?_⟩
  ·refine ⟨_,rfl,a,32,rfl,⟨by decide,by decide⟩,_,rfl,iteB (fun g=>?_) (fun g=>?_)⟩
   ·refine ⟨_,rfl,p,C,dx,_,rfl,M.ob,T.cl,T.n_total,len_flds _ _,?_⟩
    rw [pf_total]
    exact ⟨rfl,(M.setP (by rfl)).same (by unfold ch1;rw [if_pos g]),Fr2.updP⟩
   ·exact ⟨rfl,M.same (by unfold ch1;rw [g];rfl),Fr2.refl⟩
  rintro _ H1 ⟨rfl,M1,F1⟩
  refine ⟨fun σ' H'=>σ' = [some (.ref p),some (.int a)]∧MAt C H' p c dx (ch2 (ch1 m a) a)∧Fr2 H H' p c,?_,?_⟩
  ·refine ⟨_,rfl,a,16,rfl,⟨by decide,by decide⟩,_,rfl,iteB (fun g=>?_) (fun g=>?_)⟩
   ·refine ⟨_,_,rfl,rfl,_,rfl,p,C,dx,_,_,rfl,M1.ob,T.cl,T.n_total,lk_total _ _,_,_,rfl,rfl,_,rfl,p,C,dx,_,rfl,M1.ob,T.cl,T.n_total,len_flds _ _,?_⟩
    rw [pf_total]
    exact ⟨rfl,(M1.setP (by rfl)).same (by simp [ch2,g]),F1.trans Fr2.updP⟩
   ·exact ⟨rfl,M1.same (by simp [ch2,g]),F1⟩
  rintro _ H2 ⟨rfl,M2,F2⟩
  refine ⟨fun σ' H'=>σ' = [some (.ref p),some (.int a)]∧MAt C H' p c dx (ch3 (ch2 (ch1 m a) a) a)∧Fr2 H H' p c,?_,?_⟩
  ·refine ⟨_,rfl,a,8,rfl,⟨by decide,by decide⟩,_,rfl,iteB (fun g=>?_) (fun g=>?_)⟩
   ·exact ⟨_,rfl,p,c,dx,_,rfl,M2,trivial,fun H' M' F'=>⟨rfl,M'.same (by simp [ch3,g]),F2.trans F'⟩⟩
   ·exact ⟨rfl,M2.same (by simp [ch3,g]),F2⟩
  rintro _ H3 ⟨rfl,M3,F3⟩
  refine ⟨fun σ' H'=>σ' = [some (.ref p),some (.int a)]∧MAt C H' p c dx (ch4 (ch3 (ch2 (ch1 m a) a) a) a)∧Fr2 H H' p c,?_,?_⟩
  ·refine ⟨_,rfl,a,4,rfl,⟨by decide,by decide⟩,_,rfl,iteB (fun g=>?_) (fun g=>?_)⟩
   ·exact ⟨_,rfl,p,c,dx,_,1,rfl,M3,trivial,fun H' M' F'=>⟨rfl,M'.same (by simp [ch4,g]),F3.trans F'⟩⟩
   ·exact ⟨rfl,M3.same (by simp [ch4,g]),F3⟩
  rintro _ H4 ⟨rfl,M4,F4⟩
  refine ⟨fun σ' H'=>σ' = [some (.ref p),some (.int a)]∧MAt C H' p c dx (ch5 (ch4 (ch3 (ch2 (ch1 m a) a) a) a) a)∧Fr2 H H' p c,?_,?_⟩
  ·refine ⟨_,rfl,a,2,rfl,⟨by decide,by decide⟩,_,rfl,iteB (fun g=>?_) (fun g=>iteF ?_)⟩
   ·refine ⟨_,rfl,a,1,rfl,⟨by decide,by decide⟩,_,rfl,iteB (fun g'=>?_) (fun g'=>?_)⟩
    ·exact ⟨_,rfl,p,c,dx,_,rfl,M4,trivial,fun H' M' F'=>⟨rfl,M'.same (by simp at g';simp [ch5,g,g']),F4.trans F'⟩⟩
    ·exact ⟨rfl,M4.same (by simp at g';simp [ch5,g,g']),F4⟩
   ·exact ⟨rfl,M4.same (by simp [ch5,g]),F4⟩
  rintro _ H5 ⟨rfl,M5,F5⟩
  refine ⟨_,rfl,a,1,rfl,⟨by decide,by decide⟩,_,rfl,iteB (fun g=>?_) (fun g=>iteF ?_)⟩
  ·refine ⟨_,rfl,a,2,rfl,⟨by decide,by decide⟩,_,rfl,iteB (fun g'=>?_) (fun g'=>?_)⟩
   ·exact ⟨_,rfl,p,c,dx,_,rfl,M5,trivial,fun H' M' F'=>k H' (M'.same (by simp at g';simp [changeM,ch6,g,g'])) (F5.trans F')⟩
   ·exact k _ (M5.same (by simp at g';simp [changeM,ch6,g,g'])) F5
  ·exact k _ (M5.same (by simp [changeM,ch6,g])) F5
def spB1 (C:Addr) (g:Mach→Int→Bool):Sp:=fun vs H Q _=>∃ p c dx m a,vs = [.ref p,.int a]∧MAt C H p c dx m∧Q (.bl (g m a)) H
theorem ok_so (R:Raw K mg "test_is_so" s_test_is_so) (T:TxtM K mg C) (G_has_bit:GF P w K mg base "has_bit" ["place","bit"] 1 sp_bit):GF P w K mg base "test_is_so" ["machine","place"] 2 (spB1 C testSo):=by
 refine GF.mk R sc_test_is_so (by wtm_at "2") (fun vs H Q E h=>?_) (fun f cdv A outer s H vs Q E hr h=>?_)
 ·obtain ⟨p,c,dx,m,a,rfl,_⟩:=h;rfl
 ·obtain ⟨p,c,dx,m,a,rfl,M,k⟩:=h
  refine ⟨_,(pss_cons (ps_cut (ps_set (i:=2) sc_test_is_so.nd rfl (Or.inl rfl) (pe_or (pe_and (pe_gcall G_has_bit (hr.mono (by decide)) rfl (pa_cons (pv 1) (pa_cons pe_int pa_nil))) (pe_one (pe_cmpR op_ge (pe_fld (pv 0) rfl) (pe_op op_fdiv (pe_gint rfl T.WORDS) pe_int) (nomark _)))) (pe_or (pe_and (pe_gcall G_has_bit (hr.mono (by decide)) rfl (pa_cons (pv 1) (pa_cons pe_int pa_nil))) (pe_one (pe_cmpR op_eq (pe_fld (pv 0) rfl) pe_int (nomark _)))) (pe_one (pe_and (pe_gcall G_has_bit (hr.mono (by decide)) rfl (pa_cons (pv 1) (pa_cons pe_int pa_nil))) (pe_one (pe_cmpR op_eq (pe_fld (pv 0) rfl) pe_int (nomark _)))))))))
   (pss_cons (ps_if (pt_val (pe_gcall G_has_bit (hr.mono (by decide)) rfl (pa_cons (pv 1) (pa_cons pe_int pa_nil)))) (pss_one (ps_ret (pe_not (pv 2)))) pss_nil)
   (pss_one (ps_ret (pv 2))))),?_⟩
  refine ⟨fun σ' H'=>σ' = [some (.ref p),some (.int a),some (.bl (soM m a))]∧H' = H,?_,?_⟩
  ·have third:soM m a = (bit a 8 && decide (m.mark = 1))→(tAndV (tCall sp_bit [] E0 (tCons (tVar 1) (tCons (tC (.int 8)) tNil))) (tOp rEq (tFld K (tVar 0) "mark") (tC (.int 1)))) (start ["machine","place","so"] [.ref p,.int a]) H (fun x H1=>gName 2 x (start ["machine","place","so"] [.ref p,.int a]) H1 fun σ' H'=>σ' = [some (.ref p),some (.int a),some (.bl (soM m a))]∧H' = H):=fun e=>by
    refine ⟨_,rfl,a,8,rfl,⟨by decide,by decide⟩,_,rfl,iteB (fun g=>?_) (fun g=>?_)⟩
    ·refine ⟨_,rfl,p,C,dx,_,_,rfl,M.ob,T.cl,T.n_mark,lk_mark _ _,rfl,?_,rfl⟩
     show [some (V.ref p),some (V.int a),some (V.bl (decide (V.int m.mark = V.int 1)))] = _
     rw [e,g];simp
    ·refine ⟨?_,rfl⟩
     show [some (V.ref p),some (V.int a),some (V.bl false)] = _
     rw [e,g];simp
   have second:soM m a = ((bit a 16 && decide (m.total = 0)) || (bit a 8 && decide (m.mark = 1)))→(tOrV (tAndV (tCall sp_bit [] E0 (tCons (tVar 1) (tCons (tC (.int 16)) tNil))) (tOp rEq (tFld K (tVar 0) "total") (tC (.int 0)))) (tAndV (tCall sp_bit [] E0 (tCons (tVar 1) (tCons (tC (.int 8)) tNil))) (tOp rEq (tFld K (tVar 0) "mark") (tC (.int 1))))) (start ["machine","place","so"] [.ref p,.int a]) H (fun x H1=>gName 2 x (start ["machine","place","so"] [.ref p,.int a]) H1 fun σ' H'=>σ' = [some (.ref p),some (.int a),some (.bl (soM m a))]∧H' = H):=fun e=>by
    refine ⟨_,rfl,a,16,rfl,⟨by decide,by decide⟩,_,rfl,iteB (fun g=>?_) (fun g=>?_)⟩
    ·refine ⟨_,rfl,p,C,dx,_,_,rfl,M.ob,T.cl,T.n_total,lk_total _ _,rfl,_,rfl,iteE dInt (fun g'=>?_) (fun g'=>?_)⟩
     ·refine ⟨?_,rfl⟩
      show [some (V.ref p),some (V.int a),some (V.bl true)] = _
      rw [e,g];simp [g']
     ·exact third (by rw [e,g];simp [g'])
    ·exact ⟨_,rfl,iteF (third (by rw [e,g];simp))⟩
   refine ⟨_,rfl,a,32,rfl,⟨by decide,by decide⟩,_,rfl,iteB (fun g=>?_) (fun g=>?_)⟩
   ·refine ⟨_,rfl,p,C,dx,_,_,rfl,M.ob,T.cl,T.n_total,lk_total _ _,_,_,rfl,rfl,⟨by decide,by decide⟩,_,_,rfl,rfl,_,rfl,iteD (fun g'=>?_) (fun g'=>?_)⟩
    ·refine ⟨?_,rfl⟩
     show [some (V.ref p),some (V.int a),some (V.bl true)] = _
     simp at g'
     simp [soM,g,g']
    ·exact second (by unfold soM;rw [g,decide_eq_false g'];simp)
   ·exact ⟨_,rfl,iteF (second (by simp [soM,g]))⟩
  ·rintro _ H' ⟨rfl,rfl⟩
   refine ⟨_,rfl,a,4,rfl,⟨by decide,by decide⟩,_,rfl,iteB (fun g=>?_) (fun g=>?_)⟩
   ·refine ⟨_,rfl,_,rfl,?_⟩
    have e:testSo m a = !(soM m a):=by simp [testSo,g]
    rw [← e];exact k
   ·refine ⟨_,rfl,?_⟩
    have e:testSo m a = soM m a:=by simp [testSo,g]
    rw [← e];exact k
theorem ok_test (R:Raw K mg "do_test" s_do_test) (T:TxtM K mg C) (G_has_bit:GF P w K mg base "has_bit" ["place","bit"] 1 sp_bit) (G_test_is_so:GF P w K mg base "test_is_so" ["machine","place"] 2 (spB1 C testSo)) (G_move_on:GF P w K mg base "move_on" ["machine"] 2 (spM C (fun _=>True) moveOn)) :
  GF P w K mg base "do_test" ["machine","place"] 3 (spM1 C (fun _ _=>True) testM):=by
 refine GF.mk R sc_do_test (by wtm_at "2") (fun vs H Q E h=>?_) (fun f cdv A outer s H vs Q E hr h=>?_)
 ·obtain ⟨p,c,dx,m,a,rfl,_⟩:=h;rfl
 ·obtain ⟨p,c,dx,m,a,rfl,M,_,k⟩:=h
  refine ⟨_,(pss_cons (ps_cut (ps_if (pt_val (pe_gcall G_test_is_so (hr.mono (by decide)) rfl (pa_cons (pv 0) (pa_cons (pv 1) pa_nil)))) (pss_one (ps_expr (pe_gcall G_move_on (hr.mono (by decide)) rfl (pa_cons (pv 0) pa_nil)))) pss_nil))
   (pss_cons (ps_cut (ps_if (pt_val (pe_gcall G_has_bit (hr.mono (by decide)) rfl (pa_cons (pv 1) (pa_cons pe_int pa_nil)))) (pss_one (ps_fld (pv 0) pe_int rfl)) pss_nil))
   (pss_one (ps_if (pt_val (pe_gcall G_has_bit (hr.mono (by decide)) rfl (pa_cons (pv 1) (pa_cons pe_int pa_nil)))) (pss_one (ps_fld (pv 0) pe_int rfl)) pss_nil)))),?_⟩
  refine ⟨fun σ' H'=>σ' = [some (.ref p),some (.int a)]∧MAt C H' p c dx (te1 m a)∧Fr2 H H' p c,?_,?_⟩
  ·refine ⟨_,rfl,_,rfl,p,c,dx,m,a,rfl,M,_,rfl,iteB (fun g=>?_) (fun g=>?_)⟩
   ·exact ⟨_,rfl,p,c,dx,_,rfl,M,trivial,fun H' M' F'=>⟨rfl,M'.same (by simp [te1,g]),F'⟩⟩
   ·exact ⟨rfl,M.same (by simp [te1,g]),Fr2.refl⟩
  rintro _ H1 ⟨rfl,M1,F1⟩
  refine ⟨fun σ' H'=>σ' = [some (.ref p),some (.int a)]∧MAt C H' p c dx (te2 (te1 m a) a)∧Fr2 H H' p c,?_,?_⟩
  ·refine ⟨_,rfl,a,2,rfl,⟨by decide,by decide⟩,_,rfl,iteB (fun g=>?_) (fun g=>?_)⟩
   ·refine ⟨_,rfl,p,C,dx,_,rfl,M1.ob,T.cl,T.n_total,len_flds _ _,?_⟩
    rw [pf_total]
    exact ⟨rfl,(M1.setP (by rfl)).same (by simp [te2,g]),F1.trans Fr2.updP⟩
   ·exact ⟨rfl,M1.same (by simp [te2,g]),F1⟩
  rintro _ H2 ⟨rfl,M2,F2⟩
  refine ⟨_,rfl,a,1,rfl,⟨by decide,by decide⟩,_,rfl,iteB (fun g=>?_) (fun g=>?_)⟩
  ·refine ⟨_,rfl,p,C,dx,_,rfl,M2.ob,T.cl,T.n_mark,len_flds _ _,?_⟩
   rw [pf_mark]
   exact k _ ((M2.setP (by rfl)).same (by simp [testM,te3,g])) (F2.trans Fr2.updP)
  ·exact k _ (M2.same (by simp [testM,te3,g])) F2
theorem ok_deed (R:Raw K mg "deed" s_deed) (T:TxtM K mg C) (G_parts:GF P w K mg base "parts" ["word"] 1 sp_parts) (G_move_on:GF P w K mg base "move_on" ["machine"] 2 (spM C (fun _=>True) moveOn))
  (G_do_change:GF P w K mg base "do_change" ["machine","place"] 3 (spM1 C (fun _ _=>True) changeM)) (G_do_test:GF P w K mg base "do_test" ["machine","place"] 3 (spM1 C (fun _ _=>True) testM))
  (G_do_with_cell:GF P w K mg base "do_with_cell" ["machine","kind","place"] 4 (spM2 C pre2 withCell)) (G_far_place:GF P w K mg base "far_place" ["machine","place"] 2 (spV1 C pre1 (fun m a=>.int (farV m a)) farM)) :
  GF P w K mg base "deed" ["machine"] 5 (sp_deed C):=by
 refine GF.mk R sc_deed (by wtm_at "1") (fun vs H Q E h=>?_) (fun f cdv A outer s H vs Q E hr h=>?_)
 ·obtain ⟨p,c,dx,m,rfl,_⟩:=h;rfl
 ·obtain ⟨p,c,dx,m,rfl,M,W,k⟩:=h
  refine ⟨_,(pss_cons (ps_set (i:=1) sc_deed.nd rfl (Or.inl rfl) (pe_gcall G_parts (hr.mono (by decide)) rfl (pa_cons (pe_ix ix_list (pe_fld (pv 0) rfl) (pe_fld (pv 0) rfl) (fun _ _=>rfl)) pa_nil)))
   (pss_cons (ps_set (i:=2) sc_deed.nd rfl (Or.inl rfl) (pe_ix ix_tup (pv 1) pe_int (fun _ _=>rfl)))
   (pss_cons (ps_set (i:=3) sc_deed.nd rfl (Or.inl rfl) (pe_ix ix_tup (pv 1) pe_int (fun _ _=>rfl)))
   (pss_cons (ps_set (i:=4) sc_deed.nd rfl (Or.inl rfl) (pe_ix ix_tup (pv 1) pe_int (fun _ _=>rfl)))
   (pss_cons (ps_expr (pe_gcall G_move_on (hr.mono (by decide)) rfl (pa_cons (pv 0) pa_nil)))
   (pss_cons (ps_if (pt_cmpR op_eq (pv 2) (pe_gint rfl T.ASK) (nomark _)) (pss_one (ps_ret (pv 4))) pss_nil)
   (pss_cons (ps_if (PW.pt (pw_and (pt_cmpR op_eq (pv 2) (pe_gint rfl T.BITS) (nomark _)) (pw_and1 (pt_cmpR op_eq (pv 3) pe_int (nomark _))))) (pss_one (ps_expr (pe_gcall G_do_change (hr.mono (by decide)) rfl (pa_cons (pv 0) (pa_cons (pv 4) pa_nil))))) (pss_one (ps_if (pt_cmpR op_eq (pv 2) (pe_gint rfl T.BITS) (nomark _)) (pss_one (ps_expr (pe_gcall G_do_test (hr.mono (by decide)) rfl (pa_cons (pv 0) (pa_cons (pv 4) pa_nil))))) (pss_one (ps_if (pt_cmpR op_eq (pv 3) pe_int (nomark _)) (pss_one (ps_expr (pe_gcall G_do_with_cell (hr.mono (by decide)) rfl (pa_cons (pv 0) (pa_cons (pv 2) (pa_cons (pv 4) pa_nil)))))) (pss_one (ps_expr (pe_gcall G_do_with_cell (hr.mono (by decide)) rfl (pa_cons (pv 0) (pa_cons (pv 2) (pa_cons (pe_gcall G_far_place (hr.mono (by decide)) rfl (pa_cons (pv 0) (pa_cons (pv 4) pa_nil))) pa_nil)))))))))))
   (pss_one (ps_ret pe_non))))))))),?_⟩
  have hl:=W.len
  have ha0:=W.at0
  have ha1:=W.at1
  refine ⟨_,rfl,p,C,dx,_,_,rfl,M.ob,T.cl,T.n_cells,lk_cells _ _,_,rfl,p,C,dx,_,_,rfl,M.ob,T.cl,T.n_at,lk_at _ _,c,_,_,_,rfl,rfl,SqL.of M.cl,atI_ints ha0 (by omega),_,rfl,fun t ht=>?_⟩
  have ew:m.cells.getD m.at_.toNat 0 = cellM m m.at_:=rfl
  rw [ew]
  generalize hw:cellM m m.at_ = wd
  refine ⟨_,rfl,t,_,_,_,rfl,rfl,SqT.of upd_same,rfl,?_⟩
  refine ⟨_,rfl,t,_,_,_,rfl,rfl,SqT.of upd_same,rfl,?_⟩
  refine ⟨_,rfl,t,_,_,_,rfl,rfl,SqT.of upd_same,rfl,?_⟩
  refine ⟨_,rfl,p,c,dx,_,rfl,M.new ht,trivial,fun H2 M2 F2=>?_⟩
  have F:Fr2 H H2 p c:=(Fr2.new ht).trans F2
  have q0:0≤wd % 64:=by omega
  have q1:wd % 64 < 64:=by omega
  have l2:(moveOn m).cells.length = 64:=hl
  have kk:∀ H' r m',deedW (moveOn m) wd = (r,m')→MAt C H' p c dx m'→Fr2 H H' p c→Q (vO r) H':=fun H' r m' e M' F'=>by
   have e':deedM m = (r,m'):=by unfold deedM;rw [hw];exact e
   have:=k H' (by rw [e'];exact M') F'
   rw [e'] at this
   exact this
  refine ⟨_,rfl,rfl,_,rfl,iteE dInt (fun g6=>?_) (fun g6=>?_)⟩
  ·refine ⟨_,rfl,?_⟩
   exact kk H2 (some (wd % 64)) _ (by simp [deedW,g6]) M2 F
  refine ⟨_,rfl,rfl,_,rfl,iteE dInt (fun g7=>?_) (fun g7=>iteF ?_)⟩
  ·refine ⟨_,rfl,rfl,_,rfl,iteE dInt (fun gf=>?_) (fun gf=>?_)⟩
   ·exact ⟨_,rfl,_,rfl,p,c,dx,_,_,rfl,M2,trivial,fun H' M' F'=>kk H' none _ (by simp [deedW,g7,gf]) M' (F.trans F')⟩
   ·refine ⟨_,rfl,rfl,_,rfl,iteE dInt (fun _=>?_) (fun z=>(z g7).elim)⟩
    exact ⟨_,rfl,_,rfl,p,c,dx,_,_,rfl,M2,trivial,fun H' M' F'=>kk H' none _ (by simp [deedW,g7,gf]) M' (F.trans F')⟩
  ·refine ⟨_,rfl,rfl,_,rfl,iteE dInt (fun z=>(g7 z).elim) (fun _=>?_)⟩
   refine ⟨_,rfl,rfl,_,rfl,iteE dInt (fun gf=>?_) (fun gf=>?_)⟩
   ·exact ⟨_,rfl,_,rfl,_,rfl,p,c,dx,_,_,_,rfl,M2,⟨l2,q0,q1⟩,fun H' M' F'=>kk H' none _ (by simp [deedW,g6,g7,gf]) M' (F.trans F')⟩
   ·refine ⟨_,rfl,_,rfl,_,rfl,_,rfl,p,c,dx,_,_,rfl,M2,⟨l2,q0,q1⟩,fun H3 M3 F3=>?_⟩
    refine ⟨p,c,dx,_,_,_,rfl,M3,⟨by rw [farM_len];exact l2,by unfold farV;omega,by unfold farV;omega⟩,fun H' M' F'=>kk H' none _ (by simp [deedW,g6,g7,gf]) M' (F.trans (F3.trans F'))⟩
theorem ok_init {q:Str} (R:RawC K mg "Machine" q C s_Machine_init) (T:TxtM K mg C):GC P w K mg base "Machine" C ["self","cells","total","mark","at"] 1 (sp_init C K):=by
 refine GC.mk R sc_Machine_init (fun _ _ _ _ _ _ us hl=>match us,hl with | [_,_,_,_,_],_=>rfl) (fun vs H Q E h=>?_) (fun f cdv A outer s H vs Q E hr h=>?_)
 ·obtain ⟨p,dx,l,ns,t,k,a,rfl,_⟩:=h;rfl
 ·obtain ⟨p,dx,l,ns,t,kk,a,rfl,hp,hS,hl,k⟩:=h
  refine ⟨_,(pss_cons (ps_fld (pv 0) (pe_callTy call_list_of (by rfl) T.list_ bo_list (pa_cons (pv 1) pa_nil)) rfl)
   (pss_cons (ps_fld (pv 0) (pv 2) rfl)
   (pss_cons (ps_fld (pv 0) (pv 3) rfl)
   (pss_one (ps_fld (pv 0) (pv 4) rfl))))),?_⟩
  refine ⟨_,rfl,l,_,rfl,.inl hS,fun c hc=>?_⟩
  have npc:p≠c:=ne_of_none hp hc
  refine ⟨_,rfl,p,C,dx,[],rfl,(by rw [upd_ne npc];exact hp),T.cl,T.n_cells,(by show 0 < 1000;decide),?_⟩
  refine ⟨_,rfl,_,rfl,p,C,dx,_,rfl,upd_same,T.cl,T.n_total,(by show 1 < 1000;decide),?_⟩
  refine ⟨_,rfl,_,rfl,p,C,dx,_,rfl,upd_same,T.cl,T.n_mark,(Nat.lt_of_le_of_lt (length_putF _ _ _) (by show 2 < 1000;decide)),?_⟩
  refine ⟨_,rfl,_,rfl,p,C,dx,_,rfl,upd_same,T.cl,T.n_at,(Nat.lt_of_le_of_lt (length_putF _ _ _) (Nat.lt_of_le_of_lt (Nat.succ_le_succ (length_putF _ _ _)) (by show 3 < 1000;decide))),?_⟩
  refine k c _ hc ⟨?_,?_⟩ fun b o e hb=>?_
  ·rw [upd_same]
   exact congrArg (fun x=>some (HO.ins C dx x)) (pf_init c ⟨ns,t,kk,a⟩)
  ·rw [upd_ne npc.symm,upd_ne npc.symm,upd_ne npc.symm,upd_ne npc.symm,upd_same]
  ·rw [upd_ne hb,upd_ne hb,upd_ne hb,upd_ne hb,upd_ne (ne_of_none e hc)]
   exact e
end
end Pr
namespace Lw
open PySem L2 Mir Pr Tx
structure TxtL (K:PySem.W.Frag) (mg:Str→Option Value):Prop where
 len_:mg "len" = none
 isinstance_:mg "isinstance" = none
 int_:mg "int" = none
 bool_:mg "bool" = none
 list_:mg "list" = none
 range_:mg "range" = none
 sum_:mg "sum" = none
 kii:PySem.W.kitOne K (.type "int") (.type "int") = some true
 kib:PySem.W.kitOne K (.type "int") (.type "bool") = some false
 kll:PySem.W.kitOne K (.type "list") (.type "list") = some true
 any_:mg "any" = none
 enumerate_:mg "enumerate" = none
 tuple_:mg "tuple" = none
 str_:mg "str" = none
 min_:mg "min" = none
def sp_cell (K:PySem.W.Frag):Sp:=fun vs H Q _=>∃ (a:Addr) (k:Nat) (ns:List Int),vs = [.ref a,.int (k:Int)]∧SqL K H a (ns.map V.int)∧Q (.int (ns.getD k 0)) H
def sp_mix:Sp:=fun vs H Q _=>∃ x p n:Int,vs = [.int x,.int p,.int n]∧0 < p∧0 < n∧Q (.int (x * 48271 % p % n)) H
section
variable {P:Program} {w:World} {K:PySem.W.Frag} {mg:Str→Option Value} {base:Heap} {C:Addr}
theorem ok_cell (R:Raw K mg "_law_cell" s_law_cell) (T:TxtL K mg):GF P w K mg base "_law_cell" ["_law_script","_law_k"] 1 (sp_cell K):=by
 refine GF.mk R sc_law_cell (by wtm_at "2") (fun vs H Q E h=>?_) (fun f cdv A outer s H vs Q E hr h=>?_)
 ·obtain ⟨a,k,ns,rfl,_⟩:=h;rfl
 ·obtain ⟨a,k,ns,rfl,hS,q⟩:=h
  refine ⟨_,(pss_cons (ps_if (pt_cmpR op_lt (pv 1) (pe_callB call_len_seq (by rfl) T.len_ bo_len (pa_cons (pv 0) pa_nil)) (nomark _)) (pss_one (ps_ret (pe_ix ix_list (pv 0) (pv 1) (fun _ _=>rfl)))) pss_nil)
   (pss_one (ps_ret pe_int))),?_⟩
  refine ⟨_,rfl,_,rfl,a,_,rfl,.inl hS,_,_,rfl,rfl,_,rfl,iteD (fun g=>?_) (fun g=>?_)⟩
  ·rw [List.length_map] at g
   exact ⟨_,rfl,_,rfl,a,_,_,_,rfl,rfl,hS,atI_ints (Int.natCast_nonneg k) g,(by rw [Int.toNat_natCast];exact q)⟩
  ·rw [List.length_map] at g
   have e:ns.getD k 0 = 0:=by
    rw [List.getD_eq_getElem?_getD,List.getElem?_eq_none (by omega)]
    rfl
   rw [e] at q
   exact q
theorem ok_mix (R:Raw K mg "_law_mix" s_law_mix):GF P w K mg base "_law_mix" ["_law_cell_here","_law_prime","_law_many"] 1 sp_mix:=by
 refine GF.mk R sc_law_mix (by wtm_at "3") (fun vs H Q E h=>?_) (fun f cdv A outer s H vs Q E hr h=>?_)
 ·obtain ⟨x,p,n,rfl,_⟩:=h;rfl
 ·obtain ⟨x,p,n,rfl,hp,hn,q⟩:=h
  refine ⟨_,(pss_one (ps_ret (pe_op op_mod (pe_op op_mod (pe_op op_mul (pv 0) pe_int) (pv 1)) (pv 2)))),?_⟩
  exact ⟨_,rfl,_,_,rfl,rfl,.inr ⟨by decide,by decide⟩,_,rfl,_,_,rfl,rfl,hp,_,rfl,_,_,rfl,rfl,hn,q⟩
end
end Lw
namespace Lw
open PySem L2 Mir Pr Tx
theorem _root_.Pr.MAt.other {C:Addr} {H:Hp} {p c dx l:Addr} {o:HO} {m:Mach} (h:MAt C H p c dx m) (n1:p≠l) (n2:c≠l):MAt C (upd H l o) p c dx m:=⟨by rw [upd_ne n1];exact h.ob,by rw [upd_ne n2];exact h.cl⟩
theorem _root_.Pr.MAt.keep {C:Addr} {H H':Hp} {p c dx:Addr} {m:Mach} (h:MAt C H p c dx m) (s:Same H H'):MAt C H' p c dx m:=⟨s _ _ h.ob,s _ _ h.cl⟩
theorem _root_.L2.Same.upd {H H1:Hp} {l:Addr} {o:HO} (s:Same H H1) (n:H l = none):Same H (upd H1 l o):=fun b u e=>by rw [upd_ne (ne_of_none e n)];exact s b u e
theorem Same.new {H:Hp} {l:Addr} {o:HO} (n:H l = none):Same H (upd H l o):=(Same.refl H).upd n
theorem mem_set {l:List Int} {i:Nat} {v w:Int} {P:Int→Prop} (h:∀ x∈l,P x) (hv:P v):w∈l.set i v→P w:=fun hw=>by
 rcases List.mem_or_eq_of_mem_set hw with h1 | h1
 ·exact h w h1
 ·rw [h1];exact hv
theorem getD_in {l:List Int} {i:Nat} {P:Int→Prop} (h:∀ x∈l,P x) (hi:i < l.length):P (l.getD i 0):=by
 rw [List.getD_eq_getElem?_getD,List.getElem?_eq_getElem hi]
 exact h _ (List.getElem_mem hi)
end Lw
namespace Lw
open PySem L2 Mir Pr Tx
section
variable {K:PySem.W.Frag} {mg:Str→Option Value} {H:Hp} {Q:VK} {E:XK} {C p c dx a:Addr} {m:Mach} {ns:List Int}
theorem c_cell {i:Int} (hS:SqL K H a (ns.map V.int)) (h0:0≤i) (q:Q (.int (ns.getD i.toNat 0)) H):sp_cell K ([.ref a,.int i] ++ []) H Q E:=⟨a,i.toNat,ns,by rw [Int.toNat_of_nonneg h0];rfl,hS,q⟩
theorem f_cells {P:V→Prop} (M:MAt C H p c dx m) (T:TxtM K mg C) (q:P (.ref c)):∃ a C dx fs v,V.ref p = .ref a∧H a = some (.ins C dx fs)∧Cls K C∧NoAttr K C "cells"∧fs.lookup ("cells" : Str) = some v∧P v:=⟨p,C,dx,_,_,rfl,M.ob,T.cl,T.n_cells,lk_cells _ _,q⟩
end
end Lw
local macro_rules | `(tactic| wtm_at "m") => `(tactic| first | wtm_at "s" | (with_reducible first | refine Lw.f_total (by assumption) (by assumption) ?_ | refine Lw.f_mark (by assumption) (by assumption) ?_ | refine Lw.f_at (by assumption) (by assumption) ?_ | refine Lw.f_cells (by assumption) (by assumption) ?_) | ((with_reducible refine' Lw.c_cell ?h ?e ?_); (case h => assumption); (case e => decide)) | ((with_reducible refine' Lw.c_mix ?h ?e ?_); (case h => decide); (case e => decide)) )
local macro_rules | `(tactic| wtm_at "mm") => `(tactic| repeat wtm_at "m")
namespace Dm
open PySem L2 Mir Pr Tx Lw
structure Rg (m:Mach):Prop where
 len:m.cells.length = 64
 cel:∀ v∈m.cells,0≤v∧v < 1024
 t0:0≤m.total
 t1:m.total < 1024
 k0:0≤m.mark
 k1:m.mark≤1
 a0:0≤m.at_
 a1:m.at_ < 64
theorem Rg.cell {m:Mach} (h:Rg m) {q:Int} (h0:0≤q) (h1:q < 64):0≤cellM m q∧cellM m q < 1024:=getD_in h.cel (by have:=h.len;omega)
theorem Rg.set {m:Mach} (h:Rg m) {i:Nat} {v:Int} (h0:0≤v) (h1:v < 1024):Rg { m with cells:=m.cells.set i v } :=
 ⟨by rw [List.length_set];exact h.len,fun x hx=>mem_set h.cel ⟨h0,h1⟩ hx,h.t0,h.t1,h.k0,h.k1,h.a0,h.a1⟩
theorem Rg.move {m:Mach} (h:Rg m):Rg (moveOn m):=⟨h.len,h.cel,h.t0,h.t1,h.k0,h.k1,moveOn_at0 m,moveOn_at1 m⟩
theorem Rg.raise {m:Mach} (h:Rg m) {q:Int}:Rg (raiseC m q):=h.set (by omega) (by omega)
theorem Rg.far {m:Mach} (h:Rg m) {q:Int}:Rg (farM m q):=by unfold farM;split <;> first | exact h.raise | exact h
theorem Rg.add {m:Mach} (h:Rg m) {a:Int} (h0:0≤a) (h1:a < 1024):Rg (addT m a):=by
 have:=h.t0;have:=h.t1;have:=h.k0;have:=h.k1
 unfold addT turnK
 split
 ·exact ⟨h.len,h.cel,by dsimp only;omega,by dsimp only;omega,by dsimp only;omega,by dsimp only;omega,h.a0,h.a1⟩
 ·exact ⟨h.len,h.cel,by dsimp only;omega,by dsimp only;omega,h.k0,h.k1,h.a0,h.a1⟩
theorem Rg.rise {m:Mach} (h:Rg m) {q:Int}:Rg (doRise m q):=by unfold doRise;split <;> first | exact h.raise.move | exact h.raise
theorem Rg.with_ {m:Mach} (h:Rg m) {k q:Int} (h0:0≤q) (h1:q < 64):Rg (withCell m k q):=by
 have hc:=h.cell h0 h1
 have:=h.t0;have:=h.t1;have:=h.a0;have:=h.a1
 unfold withCell
 split
 ·have e2:=PyProof.Rows.bitAnd_pp h.t0 hc.1
  have e3:(m.total.toNat &&& (cellM m q).toNat)≤m.total.toNat:=Nat.and_le_left
  exact ⟨h.len,h.cel,by dsimp only;rw [e2];omega,by dsimp only;rw [e2];omega,h.k0,h.k1,h.a0,h.a1⟩
 split
 ·exact h.add hc.1 hc.2
 split
 ·exact h.rise
 split
 ·have z:=h.set (i:=q.toNat) (v:=m.total) (by omega) (by omega)
  exact ⟨z.len,z.cel,by dsimp only;omega,by dsimp only;omega,h.k0,h.k1,h.a0,h.a1⟩
 split
 ·have z:=h.set (i:=q.toNat) (v:=m.at_) (by omega) (by omega)
  exact ⟨z.len,z.cel,h.t0,h.t1,h.k0,h.k1,by dsimp only;omega,by dsimp only;omega⟩
 split
 ·exact ⟨h.len,h.cel,h.t0,h.t1,h.k0,h.k1,h0,h1⟩
 ·exact h
theorem Rg.c1 {m:Mach} (h:Rg m) {q:Int}:Rg (ch1 m q):=by unfold ch1;split <;> first | exact ⟨h.len,h.cel,by dsimp only;omega,by dsimp only;omega,h.k0,h.k1,h.a0,h.a1⟩ | exact h
theorem Rg.c2 {m:Mach} (h:Rg m) {q:Int}:Rg (ch2 m q):=by have:=h.t0;have:=h.t1;unfold ch2;split <;> first | exact ⟨h.len,h.cel,by dsimp only;omega,by dsimp only;omega,h.k0,h.k1,h.a0,h.a1⟩ | exact h
theorem Rg.c3 {m:Mach} (h:Rg m) {q:Int}:Rg (ch3 m q):=by have:=h.k0;have:=h.k1;unfold ch3 turnK;split <;> first | exact ⟨h.len,h.cel,h.t0,h.t1,by dsimp only;omega,by dsimp only;omega,h.a0,h.a1⟩ | exact h
theorem Rg.c4 {m:Mach} (h:Rg m) {q:Int}:Rg (ch4 m q):=by unfold ch4;split <;> first | exact h.add (by decide) (by decide) | exact h
theorem Rg.c5 {m:Mach} (h:Rg m) {q:Int}:Rg (ch5 m q):=by
 have:=h.t0;have:=h.t1;have:=h.k0;have:=h.k1
 unfold ch5 shiftL
 split
 ·exact ⟨h.len,h.cel,by dsimp only;omega,by dsimp only;omega,by dsimp only;omega,by dsimp only;omega,h.a0,h.a1⟩
 ·exact h
theorem Rg.c6 {m:Mach} (h:Rg m) {q:Int}:Rg (ch6 m q):=by
 have:=h.t0;have:=h.t1;have:=h.k0;have:=h.k1
 unfold ch6 shiftR
 split
 ·exact ⟨h.len,h.cel,by dsimp only;omega,by dsimp only;omega,by dsimp only;omega,by dsimp only;omega,h.a0,h.a1⟩
 ·exact h
theorem Rg.change {m:Mach} (h:Rg m) {q:Int}:Rg (changeM m q):=h.c1.c2.c3.c4.c5.c6
theorem Rg.test {m:Mach} (h:Rg m) {q:Int}:Rg (testM m q):=by
 have h1:Rg (te1 m q):=by unfold te1;split <;> first | exact h.move | exact h
 have h2:Rg (te2 (te1 m q) q):=by unfold te2;split <;> first | exact ⟨h1.len,h1.cel,by dsimp only;omega,by dsimp only;omega,h1.k0,h1.k1,h1.a0,h1.a1⟩ | exact h1
 unfold testM te3
 split <;> first | exact ⟨h2.len,h2.cel,h2.t0,h2.t1,by dsimp only;omega,by dsimp only;omega,h2.a0,h2.a1⟩ | exact h2
theorem Rg.deed {m:Mach} (h:Rg m):Rg (deedM m).2:=by
 unfold deedM deedW
 have hm:=h.move
 split
 ·exact hm
 split
 ·exact hm.change
 split
 ·exact hm.test
 split
 ·exact hm.with_ (by omega) (by omega)
 ·exact hm.far.with_ (by unfold farV;omega) (by unfold farV;omega)
end Dm
namespace Us
open PySem Mir
inductive St5 where
 | stopped | ready | hears | says | sleeps
deriving DecidableEq
def St5.s:St5→Str
 | .stopped=>"stopped"
 | .ready=>"ready"
 | .hears=>"hears"
 | .says=>"says"
 | .sleeps=>"sleeps"
theorem St5.inj {a b:St5}:a.s = b.s↔a = b:=by
 constructor
 ·intro h
  cases a <;> cases b <;> first | rfl | (exact absurd h (by decide +kernel))
 ·intro h;rw [h]
structure Usr where
 m:Mach
 inb:List Int
 outb:List Int
 pap:List Int
 blk:List (List Int)
 sw:Int
 st:St5
 nap:Int
 lost:Int
 done:Int
inductive Ev where
 | start (p:Int)
 | key (l:Int)
 | tick
 | step
def setT (u:Usr) (t:Int):Usr:={ u with m:={ u.m with total:=t } }
def pastU (u:Usr):Usr:={ u with m:=moveOn u.m }
def waitU (u:Usr) (s:St5):Usr:={ u with m:={ u.m with at_:=(u.m.at_ + 63) % 64 },st:=s }
def fetchN (b:Int) (w:List Int):Nat→List Int→List Int
 | 0,c=>c
 | n + 1,c=>(fetchN b w n c).set ((b + n) % 64).toNat (w.getD n 0)
def storeN (b:Int) (c:List Int):Nat→List Int→List Int
 | 0,w=>w
 | n + 1,w=>(storeN b c n w).set n (c.getD ((b + n) % 64).toNat 0)
def carryU (u:Usr) (p:Int):Usr :=
 let b:=cellM u.m u.m.at_ % 64
 let u1:=pastU u
 if 3 < u.m.total then setT u1 1023
 else if p = 5 then { u1 with m:={ u1.m with cells:=fetchN b (u.blk.getD u.m.total.toNat []) 16 u.m.cells,total:=0 } }
 else { u1 with m:={ u1.m with total:=0 },blk:=u.blk.set u.m.total.toNat (storeN b u.m.cells 16 (u.blk.getD u.m.total.toNat [])) }
def hearU (u:Usr):Usr:=match u.inb with
 | []=>waitU u .hears
 | x::r=>{ u with m:={ u.m with total:=x },inb:=r }
def sayU (u:Usr):Usr:=if 16≤u.outb.length then waitU u .says else { u with outb:=u.outb ++ [u.m.total % 256] }
def sleepU (u:Usr):Usr:=if 0 < u.m.total then { u with m:={ u.m with total:=0 },nap:=u.m.total,st:=.sleeps } else u
def askU (u:Usr) (p:Int):Usr :=
 if p = 0 then (if u.inb = [] then u else pastU u)
 else if p = 1 then hearU u
 else if p = 2 then (if u.outb.length < 16 then pastU u else u)
 else if p = 3 then sayU u
 else if p = 4 then sleepU u
 else if p = 5∨p = 6 then carryU u p
 else if p = 7 then { u with st:=.stopped }
 else if p = 8 then setT u u.sw
 else u
def printU (u:Usr):Usr:=match u.outb with
 | []=>u
 | x::r=>{ u with pap:=u.pap ++ [x],outb:=r,st:=if u.st = .says then .ready else u.st }
def napU (u:Usr):Usr:=if u.st = .sleeps then { u with nap:=u.nap - 1,st:=if u.nap - 1 = 0 then .ready else .sleeps } else u
def tickU (u:Usr):Usr:=napU (printU u)
def keyU (u:Usr) (l:Int):Usr :=
 let u1:Usr:=if u.inb.length < 16 then { u with inb:=u.inb ++ [l] } else { u with lost:=u.lost + 1 }
 if u.st = .hears then { u1 with st:=.ready } else u1
def startU (u:Usr) (p:Int):Usr:=if u.st = .stopped then { u with st:=.ready,m:={ u.m with at_:=p } } else u
def deedU (u:Usr):Usr :=
 let u1:Usr:={ u with done:=u.done + 1,m:=(deedM u.m).2 }
 match (deedM u.m).1 with
 | none=>u1
 | some p=>askU u1 p
def stepU (u:Usr):Usr:=if u.st = .ready then deedU u else u
def happenU (u:Usr):Ev→Usr
 | .start p=>startU u p
 | .key l=>keyU u l
 | .tick=>tickU u
 | .step=>stepU u
def newU (cells:List Int) (sw:Int):Usr:=⟨⟨cells,0,0,0⟩,[],[],[],List.replicate 4 (List.replicate 16 0),sw,.stopped,0,0,0⟩
end Us
namespace Du
open PySem L2 Mir Pr Tx Lw Dm Us
def FrL (H H':Hp) (F:List Addr):Prop:=∀ b o,H b = some o→b∉F→H' b = some o
section
variable {H H' H1 H2:Hp} {F G:List Addr} {d c p:Addr} {o:HO}
theorem FrL.refl:FrL H H F:=fun _ _ h _=>h
theorem FrL.trans (a:FrL H H1 F) (b:FrL H1 H2 F):FrL H H2 F:=fun x o h n=>b x o (a x o h n) n
theorem FrL.of2 (f:Fr2 H H' d c) (h1:d∈F) (h2:c∈F):FrL H H' F:=fun b o h n=>f b o h (fun e=>n (by rw [e];exact h1)) (fun e=>n (by rw [e];exact h2))
theorem FrL.new (n:H p = none):FrL H (upd H p o) F:=fun b u h _=>by rw [upd_ne (ne_of_none h n)];exact h
theorem FrL.upd (h:p∈F):FrL H (upd H p o) F:=fun b u e n=>by rw [upd_ne (fun z=>n (by rw [z];exact h))];exact e
theorem FrL.mono (a:FrL H H1 F) (h:∀ x∈F,x∈G):FrL H H1 G:=fun b o e n=>a b o e fun z=>n (h b z)
end
def Blk (H:Hp) (bs:List Addr) (ws:List (List Int)):Prop:=bs.length = ws.length∧∀ (i:Nat) b w,bs[i]? = some b→ws[i]? = some w→H b = some (.lst (w.map V.int))
structure RgU (u:Usr):Prop where
 rm:Rg u.m
 inl:u.inb.length≤16
 inr:∀ v∈u.inb,0≤v∧v < 256
 outl:u.outb.length≤16
 papl:u.pap.length < 1000000
 bl:u.blk.length = 4
 bw:∀ w∈u.blk,w.length = 16
 br:∀ w∈u.blk,∀ v∈w,0≤v∧v < 1024
 s0:0≤u.sw
 s1:u.sw < 1024
theorem fetchN_len (b:Int) (w c:List Int):∀ n,(fetchN b w n c).length = c.length
 | 0=>rfl
 | n + 1=>by rw [fetchN,List.length_set,fetchN_len b w c n]
theorem storeN_len (b:Int) (c w:List Int):∀ n,(storeN b c n w).length = w.length
 | 0=>rfl
 | n + 1=>by rw [storeN,List.length_set,storeN_len b c w n]
theorem set_self {α:Type} {l:List α} {i:Nat} {a:α} (h:l[i]? = some a):l.set i a = l:=by
 obtain ⟨hi,e⟩:=List.getElem?_eq_some_iff.mp h
 rw [← e]
 exact List.set_getElem_self hi
def evV:Ev→List V
 | .start p=>[.str "start",.int p]
 | .key l=>[.str "key",.int l]
 | .tick=>[.str "tick"]
 | .step=>[.str "step"]
def EvOk:Ev→Prop
 | .start p=>0≤p∧p < 64
 | .key l=>0≤l∧l < 256
 | _=>True
section
variable {K:PySem.W.Frag}
theorem ixTS {H:Hp} {Q:VK} {p:Addr} {xs:List V} {i:Nat} {v:V} (h:SqT K H p xs) (e:xs[i]? = some v) (q:Q v H):rIxT K (.ref p) (.int (i:Int)) H Q:=⟨p,xs,i,v,rfl,rfl,h,atI_nat e,q⟩
end
theorem RgU.deed {u:Usr} (h:RgU u):RgU { u with done:=u.done + 1,m:=(deedM u.m).2 }:=⟨h.rm.deed,h.inl,h.inr,h.outl,h.papl,h.bl,h.bw,h.br,h.s0,h.s1⟩
theorem getD_rng {l:List Int} {i:Nat} (h:∀ v∈l,0≤v∧v < 1024):0≤l.getD i 0∧l.getD i 0 < 1024:=by
 rcases Nat.lt_or_ge i l.length with z | z
 ·exact getD_in h z
 ·rw [List.getD_eq_getElem?_getD,List.getElem?_eq_none z]
  decide
theorem fetchN_in {b:Int} {w c:List Int} (hw:∀ v∈w,0≤v∧v < 1024) (hc:∀ v∈c,0≤v∧v < 1024):∀ n,∀ v∈fetchN b w n c,0≤v∧v < 1024
 | 0=>hc
 | n + 1=>fun _ hv=>mem_set (fetchN_in hw hc n) (getD_rng hw) hv
theorem storeN_in {b:Int} {w c:List Int} (hw:∀ v∈w,0≤v∧v < 1024) (hc:∀ v∈c,0≤v∧v < 1024):∀ n,∀ v∈storeN b c n w,0≤v∧v < 1024
 | 0=>hw
 | n + 1=>fun _ hv=>mem_set (storeN_in hw hc n) (getD_rng hc) hv
theorem _root_.Dm.Rg.total {m:Mach} (h:Rg m) {t:Int} (h0:0≤t) (h1:t < 1024):Rg { m with total:=t }:=⟨h.len,h.cel,h0,h1,h.k0,h.k1,h.a0,h.a1⟩
theorem _root_.Dm.Rg.at {m:Mach} (h:Rg m) {t:Int} (h0:0≤t) (h1:t < 64):Rg { m with at_:=t }:=⟨h.len,h.cel,h.t0,h.t1,h.k0,h.k1,h0,h1⟩
theorem RgU.mach {u:Usr} (h:RgU u) {m:Mach} (hm:Rg m):RgU { u with m:=m }:=⟨hm,h.inl,h.inr,h.outl,h.papl,h.bl,h.bw,h.br,h.s0,h.s1⟩
theorem RgU.state {u:Usr} (h:RgU u) {s:St5}:RgU { u with st:=s }:=⟨h.rm,h.inl,h.inr,h.outl,h.papl,h.bl,h.bw,h.br,h.s0,h.s1⟩
theorem RgU.wait {u:Usr} (h:RgU u) {s:St5}:RgU (waitU u s):=(h.mach (h.rm.at (by omega) (by omega))).state
theorem RgU.past {u:Usr} (h:RgU u):RgU (pastU u):=h.mach h.rm.move
theorem RgU.carry {u:Usr} (h:RgU u) {p:Int}:RgU (carryU u p):=by
 unfold carryU
 dsimp only
 have hp:=h.past
 have hw:∀ v∈u.blk.getD u.m.total.toNat [],0≤v∧v < 1024:=by
  rw [List.getD_eq_getElem?_getD]
  cases e:u.blk[u.m.total.toNat]? with
  | none=>intro v hv;simp at hv
  | some w=>exact h.br w (List.mem_of_getElem? e)
 split
 ·exact hp.mach (hp.rm.total (by decide) (by decide))
 split
 ·refine hp.mach ⟨?_,fetchN_in hw h.rm.cel _,(by decide:(0:Int)≤0),(by decide:(0:Int) < 1024),hp.rm.k0,hp.rm.k1,hp.rm.a0,hp.rm.a1⟩
  dsimp only;rw [fetchN_len];exact h.rm.len
 ·refine ⟨hp.rm.total (by decide) (by decide),h.inl,h.inr,h.outl,h.papl,?_,fun w hw2=>?_,fun w hw2=>?_,h.s0,h.s1⟩
  ·dsimp only;rw [List.length_set];exact h.bl
  ·rcases List.mem_or_eq_of_mem_set hw2 with z | z
   ·exact h.bw w z
   ·rename_i g1 g2
    rw [z,storeN_len,List.getD_eq_getElem?_getD,List.getElem?_eq_getElem (by have:=h.bl;have:=h.rm.t0;omega)]
    exact h.bw _ (List.getElem_mem _)
  ·rcases List.mem_or_eq_of_mem_set hw2 with z | z
   ·exact h.br w z
   ·rw [z];exact storeN_in hw h.rm.cel _
theorem RgU.ask {u:Usr} (h:RgU u) {p:Int}:RgU (askU u p):=by
 have t0:=h.rm.t0
 have t1:=h.rm.t1
 have ol:=h.outl
 unfold askU
 split
 ·split <;> first | exact h | exact h.past
 split
 ·unfold hearU
  split
  ·exact h.wait
  ·rename_i x r e
   have hx:=h.inr x (by rw [e];exact List.mem_cons_self)
   exact ⟨h.rm.total (by omega) (by omega),by have:=h.inl;rw [e] at this;simp at this;dsimp only;omega,fun v hv=>h.inr v (by rw [e];exact List.mem_cons_of_mem _ hv),h.outl,h.papl,h.bl,h.bw,h.br,h.s0,h.s1⟩
 split
 ·split <;> first | exact h | exact h.past
 split
 ·unfold sayU
  split
  ·exact h.wait
  ·exact ⟨h.rm,h.inl,h.inr,by dsimp only;rw [List.length_append];simp;omega,h.papl,h.bl,h.bw,h.br,h.s0,h.s1⟩
 split
 ·unfold sleepU
  split
  ·exact ⟨h.rm.total (by decide) (by decide),h.inl,h.inr,h.outl,h.papl,h.bl,h.bw,h.br,h.s0,h.s1⟩
  ·exact h
 split
 ·exact h.carry
 split
 ·exact h.state
 split
 ·exact h.mach (h.rm.total h.s0 h.s1)
 ·exact h
theorem RgU.happen {u:Usr} (h:RgU u) {ev:Ev} (he:EvOk ev) (hp:u.pap.length + 1 < 1000000):RgU (happenU u ev):=by
 cases ev with
 | start p =>
  show RgU (startU u p)
  unfold startU
  split
  ·exact ⟨h.rm.at he.1 he.2,h.inl,h.inr,h.outl,h.papl,h.bl,h.bw,h.br,h.s0,h.s1⟩
  ·exact h
 | key l =>
  show RgU (keyU u l)
  have h1:RgU (if u.inb.length < 16 then { u with inb:=u.inb ++ [l] } else { u with lost:=u.lost + 1 }):=by
   split
   ·refine ⟨h.rm,by dsimp only;rw [List.length_append];simp;omega,fun v hv=>?_,h.outl,h.papl,h.bl,h.bw,h.br,h.s0,h.s1⟩
    rcases List.mem_append.mp hv with z | z
    ·exact h.inr v z
    ·rw [List.mem_singleton.mp z];exact he
   ·exact ⟨h.rm,h.inl,h.inr,h.outl,h.papl,h.bl,h.bw,h.br,h.s0,h.s1⟩
  unfold keyU
  dsimp only
  split
  ·exact h1.state
  ·exact h1
 | tick =>
  show RgU (napU (printU u))
  have h1:RgU (printU u):=by
   unfold printU
   split
   ·exact h
   ·rename_i x r e
    exact ⟨h.rm,h.inl,h.inr,by have:=h.outl;rw [e] at this;simp at this;dsimp only;omega,by dsimp only;rw [List.length_append];simp;omega,h.bl,h.bw,h.br,h.s0,h.s1⟩
  unfold napU
  split
  ·exact ⟨h1.rm,h1.inl,h1.inr,h1.outl,h1.papl,h1.bl,h1.bw,h1.br,h1.s0,h1.s1⟩
  ·exact h1
 | step =>
  show RgU (stepU u)
  unfold stepU
  split
  ·unfold deedU
   dsimp only
   split
   ·exact h.deed
   ·exact h.deed.ask
  ·exact h
theorem pap_happen (u:Usr) (ev:Ev):(happenU u ev).pap.length≤u.pap.length + 1:=by
 have ha:∀ (u:Usr) (p:Int),(askU u p).pap = u.pap:=by
  intro u p
  unfold askU
  split
  ·split <;> rfl
  split
  ·unfold hearU;split <;> rfl
  split
  ·split <;> rfl
  split
  ·unfold sayU;split <;> rfl
  split
  ·unfold sleepU;split <;> rfl
  split
  ·unfold carryU;dsimp only;split
   ·rfl
   split <;> rfl
  split
  ·rfl
  split <;> rfl
 cases ev with
 | start p=>show (startU u p).pap.length≤_;unfold startU;split <;> exact Nat.le_succ _
 | key l =>
  show (keyU u l).pap.length≤_
  unfold keyU
  dsimp only
  split <;> split <;> exact Nat.le_succ _
 | tick =>
  show (napU (printU u)).pap.length≤_
  have e:(napU (printU u)).pap = (printU u).pap:=by unfold napU;split <;> rfl
  rw [e]
  unfold printU
  split
  ·exact Nat.le_succ _
  ·dsimp only;rw [List.length_append];simp
 | step =>
  show (stepU u).pap.length≤_
  unfold stepU
  split
  ·unfold deedU
   dsimp only
   split
   ·exact Nat.le_succ _
   ·rw [ha];exact Nat.le_succ _
  ·exact Nat.le_succ _
theorem RgU.new {ns:List Int} {sw:Int} (hl:ns.length = 64) (hr:∀ v∈ns,0≤v∧v < 1024) (h0:0≤sw) (h1:sw < 1024):RgU (newU ns sw):=by
 refine ⟨⟨hl,hr,(by decide:(0:Int)≤0),(by decide:(0:Int) < 1024),(by decide:(0:Int)≤0),(by decide:(0:Int)≤1),(by decide:(0:Int)≤0),(by decide:(0:Int) < 64)⟩,Nat.zero_le _,?_,Nat.zero_le _,(by decide:0 < 1000000),rfl,?_,?_,h0,h1⟩
 ·intro v hv
  have hv':v∈([]:List Int):=hv
  simp at hv'
 ·intro w hw
  rw [List.eq_of_mem_replicate hw]
  rfl
 ·intro w hw v hv
  rw [List.eq_of_mem_replicate hw] at hv
  rw [List.eq_of_mem_replicate hv]
  decide
def EvsAt (H:Hp) (l:Addr) (rs:List Addr) (evs:List Ev):Prop:=H l = some (.lst (rs.map V.ref))∧rs.length = evs.length∧∀ (i:Nat) r e,rs[i]? = some r→evs[i]? = some e→H r = some (.tup (evV e))
theorem EvsAt.far {H H':Hp} {l:Addr} {rs F:List Addr} {evs:List Ev} (h:EvsAt H l rs evs) (f:FrL H H' F) (nl:l∉F) (nt:∀ x∈F,∀ xs,H x≠some (.tup xs)):EvsAt H' l rs evs :=
 ⟨f _ _ h.1 nl,h.2.1,fun i r e g1 g2=>f _ _ (h.2.2 i r e g1 g2) fun z=>nt r z _ (h.2.2 i r e g1 g2)⟩
end Du
namespace Du
open PySem L2 Mir Pr Tx Lw Us PySem.Spec
structure PicAt (K:PySem.W.Frag) (H:Hp) (t tc ti to_ tp tb:Addr) (tbs:List Addr) (u:Usr):Prop where
 all:H t = some (.tup [.ref tc,.int u.m.total,.int u.m.mark,.int u.m.at_,.ref ti,.ref to_,.ref tp,.ref tb,.int u.sw,.str u.st.s,.int u.nap,.int u.lost,.int u.done])
 cel:H tc = some (.tup (u.m.cells.map V.int))
 inb:H ti = some (.tup (u.inb.map V.int))
 out:H to_ = some (.tup (u.outb.map V.int))
 pap:H tp = some (.tup (u.pap.map V.int))
 blk:H tb = some (.tup (tbs.map V.ref))
 bln:tbs.length = u.blk.length
 bls:∀ (i:Nat) b w,tbs[i]? = some b→u.blk[i]? = some w→H b = some (.tup (w.map V.int))
theorem PicAt.keep {K:PySem.W.Frag} {H H':Hp} {t tc ti to_ tp tb:Addr} {tbs:List Addr} {u:Usr} (p:PicAt K H t tc ti to_ tp tb tbs u) (s:Same H H'):PicAt K H' t tc ti to_ tp tb tbs u :=
 ⟨s _ _ p.all,s _ _ p.cel,s _ _ p.inb,s _ _ p.out,s _ _ p.pap,s _ _ p.blk,p.bln,fun i b w h1 h2=>s _ _ (p.bls i b w h1 h2)⟩
def intsD (ns:List Int):PyData:=.tuple (ns.map PyData.int)
theorem drds_ints {K:PySem.W.Frag} {H:Hp}:∀ ns:List Int,DRds K H (ns.map V.int) (ns.map PyData.int)
 | []=>.nil
 | n::ns=>.cons (.int n) (drds_ints ns)
theorem lay_ints:∀ ns:List Int,PyData.canLayAll0 (ns.map PyData.int) = true
 | []=>rfl
 | _::ns=>lay_ints ns
theorem dep_ints:∀ ns:List Int,PyData.depthAll (ns.map PyData.int) = 0
 | []=>rfl
 | n::ns=>by
  show max 0 (PyData.depthAll (ns.map PyData.int)) = 0
  rw [dep_ints ns]
  rfl
theorem mix_ints:∀ ns:List Int,PySem.SeqAt.noMixAll (ns.map PyData.int) (ns.map PyData.int) = true
 | []=>rfl
 | _::ns=>mix_ints ns
end Du
namespace Pp
open PySem L2 Mir Pr Tx Lw Dm Us Du
structure PAd where
 p:Addr
 mp:Addr
 c:Addr
 ib:Addr
 ob:Addr
 pp:Addr
 bk:Addr
 dx:Addr
 dm:Addr
 bs:List Addr
def foot (A:PAd):List Addr:=A.p::A.mp::A.c::A.ib::A.ob::A.pp::A.bk::A.bs
def fldsP (A:PAd) (u:Usr):List (Str×V):=[("machine",.ref A.mp),("inbox",.ref A.ib),("outbox",.ref A.ob),("paper",.ref A.pp),("blocks",.ref A.bk),("switches",.int u.sw),("state",.str u.st.s),("nap",.int u.nap),("lost",.int u.lost),("done",.int u.done)]
theorem len_fldsP (A:PAd) (u:Usr):(fldsP A u).length < 1000:=by show 10 < 1000;decide
theorem lk_machine (A:PAd) (u:Usr):(fldsP A u).lookup ("machine" : Str) = some (.ref A.mp):=by
 unfold fldsP;exact look_hit
theorem lk_inbox (A:PAd) (u:Usr):(fldsP A u).lookup ("inbox" : Str) = some (.ref A.ib):=by
 unfold fldsP;wtm_at "l"
theorem lk_outbox (A:PAd) (u:Usr):(fldsP A u).lookup ("outbox" : Str) = some (.ref A.ob):=by
 unfold fldsP;wtm_at "l"
theorem lk_paper (A:PAd) (u:Usr):(fldsP A u).lookup ("paper" : Str) = some (.ref A.pp):=by
 unfold fldsP;wtm_at "l"
theorem lk_blocks (A:PAd) (u:Usr):(fldsP A u).lookup ("blocks" : Str) = some (.ref A.bk):=by
 unfold fldsP;wtm_at "l"
theorem lk_switches (A:PAd) (u:Usr):(fldsP A u).lookup ("switches" : Str) = some (.int u.sw):=by
 unfold fldsP;wtm_at "l"
theorem lk_state (A:PAd) (u:Usr):(fldsP A u).lookup ("state" : Str) = some (.str u.st.s):=by
 unfold fldsP;wtm_at "l"
theorem lk_nap (A:PAd) (u:Usr):(fldsP A u).lookup ("nap" : Str) = some (.int u.nap):=by
 unfold fldsP;wtm_at "l"
theorem lk_lost (A:PAd) (u:Usr):(fldsP A u).lookup ("lost" : Str) = some (.int u.lost):=by
 unfold fldsP;wtm_at "l"
theorem lk_done (A:PAd) (u:Usr):(fldsP A u).lookup ("done" : Str) = some (.int u.done):=by
 unfold fldsP;wtm_at "l"
theorem pf_state (A:PAd) (u:Usr) (y:St5):putF "state" (.str y.s) (fldsP A u) = fldsP A { u with st:=y }:=by
 unfold fldsP;wtm_at "p"
theorem pf_nap (A:PAd) (u:Usr) (y:Int):putF "nap" (.int y) (fldsP A u) = fldsP A { u with nap:=y }:=by
 unfold fldsP;wtm_at "p"
theorem pf_lost (A:PAd) (u:Usr) (y:Int):putF "lost" (.int y) (fldsP A u) = fldsP A { u with lost:=y }:=by
 unfold fldsP;wtm_at "p"
theorem pf_done (A:PAd) (u:Usr) (y:Int):putF "done" (.int y) (fldsP A u) = fldsP A { u with done:=y }:=by
 unfold fldsP;wtm_at "p"
structure PAt (CP CM:Addr) (H:Hp) (A:PAd) (u:Usr):Prop where
 o:H A.p = some (.ins CP A.dx (fldsP A u))
 m:MAt CM H A.mp A.c A.dm u.m
 l_in:H A.ib = some (.lst (u.inb.map V.int))
 l_out:H A.ob = some (.lst (u.outb.map V.int))
 l_pap:H A.pp = some (.lst (u.pap.map V.int))
 l_blk:H A.bk = some (.lst (A.bs.map V.ref))
 blk:Blk H A.bs u.blk
 nd:(foot A).Nodup
structure TxtP (K:PySem.W.Frag) (mg:Str→Option Value) (CP CM:Addr):Prop extends TxtM K mg CM where
 clP:Cls K CP
 n_machine:NoAttr K CP "machine"
 n_inbox:NoAttr K CP "inbox"
 n_outbox:NoAttr K CP "outbox"
 n_paper:NoAttr K CP "paper"
 n_blocks:NoAttr K CP "blocks"
 n_switches:NoAttr K CP "switches"
 n_state:NoAttr K CP "state"
 n_nap:NoAttr K CP "nap"
 n_lost:NoAttr K CP "lost"
 n_done:NoAttr K CP "done"
 STOPPED:StrG mg "STOPPED" "stopped"
 READY:StrG mg "READY" "ready"
 HEARS:StrG mg "HEARS" "hears"
 SAYS:StrG mg "SAYS" "says"
 SLEEPS:StrG mg "SLEEPS" "sleeps"
 LETTERS:IntG mg "LETTERS" 256
 MOST_LETTERS:IntG mg "MOST_LETTERS" 16
 BLOCKS:IntG mg "BLOCKS" 4
 BLOCK_WORDS:IntG mg "BLOCK_WORDS" 16
 HEARD:IntG mg "HEARD" 0
 HEAR:IntG mg "HEAR" 1
 ROOM:IntG mg "ROOM" 2
 SAY:IntG mg "SAY" 3
 SLEEP:IntG mg "SLEEP" 4
 FETCH:IntG mg "FETCH" 5
 STORE:IntG mg "STORE" 6
 STOP:IntG mg "STOP" 7
 LOOK:IntG mg "LOOK" 8
 len_:mg "len" = none
 range_:mg "range" = none
 tuple_:mg "tuple" = none
section
variable {CP CM:Addr} {H H':Hp} {A:PAd} {u u':Usr} {K:PySem.W.Frag} {mg:Str→Option Value} {m':Mach} {q:Addr} {ho:HO} {Q:VK} {PH:Hp→Prop} {P:V→Prop}
theorem nds (h:(foot A).Nodup):(¬ A.p = A.mp∧¬ A.p = A.c∧¬ A.p = A.ib∧¬ A.p = A.ob∧¬ A.p = A.pp∧¬ A.p = A.bk∧A.p∉A.bs)∧(¬ A.mp = A.c∧¬ A.mp = A.ib∧¬ A.mp = A.ob∧¬ A.mp = A.pp∧¬ A.mp = A.bk∧A.mp∉A.bs)∧(¬ A.c = A.ib∧¬ A.c = A.ob∧¬ A.c = A.pp∧¬ A.c = A.bk∧A.c∉A.bs)∧(¬ A.ib = A.ob∧¬ A.ib = A.pp∧¬ A.ib = A.bk∧A.ib∉A.bs)∧(¬ A.ob = A.pp∧¬ A.ob = A.bk∧A.ob∉A.bs)∧(¬ A.pp = A.bk∧A.pp∉A.bs)∧(A.bk∉A.bs)∧A.bs.Nodup:=by
 have n:=h
 unfold foot at n
 simp only [List.nodup_cons,List.mem_cons,not_or] at n
 exact n
theorem PAt.p_mp (h:PAt CP CM H A u):A.p≠A.mp:=(nds h.nd).1.1
theorem PAt.mp_p (h:PAt CP CM H A u):A.mp≠A.p:=Ne.symm (nds h.nd).1.1
theorem PAt.p_c (h:PAt CP CM H A u):A.p≠A.c:=(nds h.nd).1.2.1
theorem PAt.c_p (h:PAt CP CM H A u):A.c≠A.p:=Ne.symm (nds h.nd).1.2.1
theorem PAt.p_ib (h:PAt CP CM H A u):A.p≠A.ib:=(nds h.nd).1.2.2.1
theorem PAt.ib_p (h:PAt CP CM H A u):A.ib≠A.p:=Ne.symm (nds h.nd).1.2.2.1
theorem PAt.p_ob (h:PAt CP CM H A u):A.p≠A.ob:=(nds h.nd).1.2.2.2.1
theorem PAt.ob_p (h:PAt CP CM H A u):A.ob≠A.p:=Ne.symm (nds h.nd).1.2.2.2.1
theorem PAt.p_pp (h:PAt CP CM H A u):A.p≠A.pp:=(nds h.nd).1.2.2.2.2.1
theorem PAt.pp_p (h:PAt CP CM H A u):A.pp≠A.p:=Ne.symm (nds h.nd).1.2.2.2.2.1
theorem PAt.bk_p (h:PAt CP CM H A u):A.bk≠A.p:=Ne.symm (nds h.nd).1.2.2.2.2.2.1
theorem PAt.p_bs (h:PAt CP CM H A u):A.p∉A.bs:=(nds h.nd).1.2.2.2.2.2.2
theorem PAt.mp_ib (h:PAt CP CM H A u):A.mp≠A.ib:=(nds h.nd).2.1.2.1
theorem PAt.ib_mp (h:PAt CP CM H A u):A.ib≠A.mp:=Ne.symm (nds h.nd).2.1.2.1
theorem PAt.mp_ob (h:PAt CP CM H A u):A.mp≠A.ob:=(nds h.nd).2.1.2.2.1
theorem PAt.ob_mp (h:PAt CP CM H A u):A.ob≠A.mp:=Ne.symm (nds h.nd).2.1.2.2.1
theorem PAt.mp_pp (h:PAt CP CM H A u):A.mp≠A.pp:=(nds h.nd).2.1.2.2.2.1
theorem PAt.pp_mp (h:PAt CP CM H A u):A.pp≠A.mp:=Ne.symm (nds h.nd).2.1.2.2.2.1
theorem PAt.bk_mp (h:PAt CP CM H A u):A.bk≠A.mp:=Ne.symm (nds h.nd).2.1.2.2.2.2.1
theorem PAt.mp_bs (h:PAt CP CM H A u):A.mp∉A.bs:=(nds h.nd).2.1.2.2.2.2.2
theorem PAt.c_ib (h:PAt CP CM H A u):A.c≠A.ib:=(nds h.nd).2.2.1.1
theorem PAt.ib_c (h:PAt CP CM H A u):A.ib≠A.c:=Ne.symm (nds h.nd).2.2.1.1
theorem PAt.c_ob (h:PAt CP CM H A u):A.c≠A.ob:=(nds h.nd).2.2.1.2.1
theorem PAt.ob_c (h:PAt CP CM H A u):A.ob≠A.c:=Ne.symm (nds h.nd).2.2.1.2.1
theorem PAt.c_pp (h:PAt CP CM H A u):A.c≠A.pp:=(nds h.nd).2.2.1.2.2.1
theorem PAt.pp_c (h:PAt CP CM H A u):A.pp≠A.c:=Ne.symm (nds h.nd).2.2.1.2.2.1
theorem PAt.bk_c (h:PAt CP CM H A u):A.bk≠A.c:=Ne.symm (nds h.nd).2.2.1.2.2.2.1
theorem PAt.c_bs (h:PAt CP CM H A u):A.c∉A.bs:=(nds h.nd).2.2.1.2.2.2.2
theorem PAt.ib_ob (h:PAt CP CM H A u):A.ib≠A.ob:=(nds h.nd).2.2.2.1.1
theorem PAt.ob_ib (h:PAt CP CM H A u):A.ob≠A.ib:=Ne.symm (nds h.nd).2.2.2.1.1
theorem PAt.ib_pp (h:PAt CP CM H A u):A.ib≠A.pp:=(nds h.nd).2.2.2.1.2.1
theorem PAt.pp_ib (h:PAt CP CM H A u):A.pp≠A.ib:=Ne.symm (nds h.nd).2.2.2.1.2.1
theorem PAt.bk_ib (h:PAt CP CM H A u):A.bk≠A.ib:=Ne.symm (nds h.nd).2.2.2.1.2.2.1
theorem PAt.ib_bs (h:PAt CP CM H A u):A.ib∉A.bs:=(nds h.nd).2.2.2.1.2.2.2
theorem PAt.ob_pp (h:PAt CP CM H A u):A.ob≠A.pp:=(nds h.nd).2.2.2.2.1.1
theorem PAt.pp_ob (h:PAt CP CM H A u):A.pp≠A.ob:=Ne.symm (nds h.nd).2.2.2.2.1.1
theorem PAt.bk_ob (h:PAt CP CM H A u):A.bk≠A.ob:=Ne.symm (nds h.nd).2.2.2.2.1.2.1
theorem PAt.ob_bs (h:PAt CP CM H A u):A.ob∉A.bs:=(nds h.nd).2.2.2.2.1.2.2
theorem PAt.bk_pp (h:PAt CP CM H A u):A.bk≠A.pp:=Ne.symm (nds h.nd).2.2.2.2.2.1.1
theorem PAt.pp_bs (h:PAt CP CM H A u):A.pp∉A.bs:=(nds h.nd).2.2.2.2.2.1.2
theorem PAt.bk_bs (h:PAt CP CM H A u):A.bk∉A.bs:=(nds h.nd).2.2.2.2.2.2.1
theorem PAt.bs_nd (h:PAt CP CM H A u):A.bs.Nodup:=(nds h.nd).2.2.2.2.2.2.2
theorem f_p:A.p∈foot A:=List.mem_cons_self
theorem f_mp:A.mp∈foot A:=(List.mem_cons_of_mem _ List.mem_cons_self)
theorem f_c:A.c∈foot A:=(List.mem_cons_of_mem _ (List.mem_cons_of_mem _ List.mem_cons_self))
theorem f_ib:A.ib∈foot A:=(List.mem_cons_of_mem _ (List.mem_cons_of_mem _ (List.mem_cons_of_mem _ List.mem_cons_self)))
theorem f_ob:A.ob∈foot A:=(List.mem_cons_of_mem _ (List.mem_cons_of_mem _ (List.mem_cons_of_mem _ (List.mem_cons_of_mem _ List.mem_cons_self))))
theorem f_pp:A.pp∈foot A:=(List.mem_cons_of_mem _ (List.mem_cons_of_mem _ (List.mem_cons_of_mem _ (List.mem_cons_of_mem _ (List.mem_cons_of_mem _ List.mem_cons_self)))))
theorem f_bk:A.bk∈foot A:=(List.mem_cons_of_mem _ (List.mem_cons_of_mem _ (List.mem_cons_of_mem _ (List.mem_cons_of_mem _ (List.mem_cons_of_mem _ (List.mem_cons_of_mem _ List.mem_cons_self))))))
theorem f_bs {b:Addr} (h:b∈A.bs):b∈foot A:=(List.mem_cons_of_mem _ (List.mem_cons_of_mem _ (List.mem_cons_of_mem _ (List.mem_cons_of_mem _ (List.mem_cons_of_mem _ (List.mem_cons_of_mem _ (List.mem_cons_of_mem _ h)))))))
theorem PAt.same (h:PAt CP CM H A u) (e:u = u'):PAt CP CM H A u':=by rw [← e];exact h
theorem PAt.nb (h:PAt CP CM H A u) {x:Addr} (hx:x∉A.bs) {i:Nat} {b:Addr} (e:A.bs[i]? = some b):b≠x:=fun z=>hx (by rw [← z];exact List.mem_of_getElem? e)
theorem PAt.move (h:PAt CP CM H A u) (s:∀ x∈foot A,∀ o,H x = some o→H' x = some o):PAt CP CM H' A u :=
 ⟨s _ f_p _ h.o,⟨s _ f_mp _ h.m.ob,s _ f_c _ h.m.cl⟩,s _ f_ib _ h.l_in,s _ f_ob _ h.l_out,s _ f_pp _ h.l_pap,s _ f_bk _ h.l_blk,⟨h.blk.1,fun i b w h1 h2=>s _ (f_bs (List.mem_of_getElem? h1)) _ (h.blk.2 i b w h1 h2)⟩,h.nd⟩
theorem PAt.keep (h:PAt CP CM H A u) (s:Same H H'):PAt CP CM H' A u:=h.move fun x _ o e=>s x o e
theorem PAt.far {G:List Addr} (h:PAt CP CM H A u) (F:FrL H H' G) (n:∀ x∈foot A,x∉G):PAt CP CM H' A u:=h.move fun x hx o e=>F x o e (n x hx)
theorem PAt.there (h:PAt CP CM H A u) {x:Addr} (hx:x∈foot A):∃ o,H x = some o:=by
 unfold foot at hx
 simp only [List.mem_cons] at hx
 rcases hx with e | e | e | e | e | e | e | e
 ·rw [e];exact ⟨_,h.o⟩
 ·rw [e];exact ⟨_,h.m.ob⟩
 ·rw [e];exact ⟨_,h.m.cl⟩
 ·rw [e];exact ⟨_,h.l_in⟩
 ·rw [e];exact ⟨_,h.l_out⟩
 ·rw [e];exact ⟨_,h.l_pap⟩
 ·rw [e];exact ⟨_,h.l_blk⟩
 ·obtain ⟨i,hi,z⟩:=List.getElem_of_mem e
  have hi2:i < u.blk.length:=by rw [← h.blk.1];exact hi
  exact ⟨_,h.blk.2 i x u.blk[i] (by rw [List.getElem?_eq_getElem hi,z]) (List.getElem?_eq_getElem hi2)⟩
theorem PAt.fresh (h:PAt CP CM H A u) (n:H q = none):q∉foot A:=fun z=>by
 obtain ⟨o,e⟩:=h.there z
 rw [e] at n
 cases n
theorem PAt.kind (h:PAt CP CM H A u) {x:Addr} (hx:x∈foot A):∀ xs,H x≠some (.tup xs):=by
 intro xs
 unfold foot at hx
 simp only [List.mem_cons] at hx
 rcases hx with e | e | e | e | e | e | e | e
 ·rw [e,h.o];intro z;cases z
 ·rw [e,h.m.ob];intro z;cases z
 ·rw [e,h.m.cl];intro z;cases z
 ·rw [e,h.l_in];intro z;cases z
 ·rw [e,h.l_out];intro z;cases z
 ·rw [e,h.l_pap];intro z;cases z
 ·rw [e,h.l_blk];intro z;cases z
 ·obtain ⟨i,hi,z⟩:=List.getElem_of_mem e
  have hi2:i < u.blk.length:=by rw [← h.blk.1];exact hi
  rw [h.blk.2 i x u.blk[i] (by rw [List.getElem?_eq_getElem hi,z]) (List.getElem?_eq_getElem hi2)]
  intro z;cases z
theorem PAt.setP (h:PAt CP CM H A u) (u':Usr) (e1:u'.m = u.m) (e2:u'.inb = u.inb) (e3:u'.outb = u.outb) (e4:u'.pap = u.pap) (e5:u'.blk = u.blk):PAt CP CM (upd H A.p (.ins CP A.dx (fldsP A u'))) A u' :=
 ⟨upd_same,⟨by rw [upd_ne h.mp_p,e1];exact h.m.ob,by rw [upd_ne h.c_p,e1];exact h.m.cl⟩,by rw [upd_ne h.ib_p,e2];exact h.l_in,by rw [upd_ne h.ob_p,e3];exact h.l_out,by rw [upd_ne h.pp_p,e4];exact h.l_pap,by rw [upd_ne h.bk_p];exact h.l_blk,
  ⟨by rw [e5];exact h.blk.1,fun i b w h1 h2=>by rw [upd_ne (h.nb h.p_bs h1)];exact h.blk.2 i b w h1 (by rw [← e5];exact h2)⟩,h.nd⟩
theorem PAt.setM (h:PAt CP CM H A u) (M:MAt CM H' A.mp A.c A.dm m') (F:Fr2 H H' A.mp A.c):PAt CP CM H' A { u with m:=m' } :=
 ⟨F _ _ h.o h.p_mp h.p_c,M,F _ _ h.l_in h.ib_mp h.ib_c,F _ _ h.l_out h.ob_mp h.ob_c,F _ _ h.l_pap h.pp_mp h.pp_c,F _ _ h.l_blk h.bk_mp h.bk_c,⟨h.blk.1,fun i b w h1 h2=>F _ _ (h.blk.2 i b w h1 h2) (h.nb h.mp_bs h1) (h.nb h.c_bs h1)⟩,h.nd⟩
theorem frM (F:Fr2 H H' A.mp A.c):FrL H H' (foot A):=FrL.of2 F f_mp f_c
theorem PAt.setIn (h:PAt CP CM H A u) (ys:List Int):PAt CP CM (upd H A.ib (.lst (ys.map V.int))) A { u with inb:=ys } :=
 ⟨by rw [upd_ne h.p_ib];exact h.o,⟨by rw [upd_ne h.mp_ib];exact h.m.ob,by rw [upd_ne h.c_ib];exact h.m.cl⟩,upd_same,by rw [upd_ne h.ob_ib];exact h.l_out,by rw [upd_ne h.pp_ib];exact h.l_pap,by rw [upd_ne h.bk_ib];exact h.l_blk,⟨h.blk.1,fun i b w h1 h2=>by rw [upd_ne (h.nb h.ib_bs h1)];exact h.blk.2 i b w h1 h2⟩,h.nd⟩
theorem PAt.setOut (h:PAt CP CM H A u) (ys:List Int):PAt CP CM (upd H A.ob (.lst (ys.map V.int))) A { u with outb:=ys } :=
 ⟨by rw [upd_ne h.p_ob];exact h.o,⟨by rw [upd_ne h.mp_ob];exact h.m.ob,by rw [upd_ne h.c_ob];exact h.m.cl⟩,by rw [upd_ne h.ib_ob];exact h.l_in,upd_same,by rw [upd_ne h.pp_ob];exact h.l_pap,by rw [upd_ne h.bk_ob];exact h.l_blk,⟨h.blk.1,fun i b w h1 h2=>by rw [upd_ne (h.nb h.ob_bs h1)];exact h.blk.2 i b w h1 h2⟩,h.nd⟩
theorem PAt.setPap (h:PAt CP CM H A u) (ys:List Int):PAt CP CM (upd H A.pp (.lst (ys.map V.int))) A { u with pap:=ys } :=
 ⟨by rw [upd_ne h.p_pp];exact h.o,⟨by rw [upd_ne h.mp_pp];exact h.m.ob,by rw [upd_ne h.c_pp];exact h.m.cl⟩,by rw [upd_ne h.ib_pp];exact h.l_in,by rw [upd_ne h.ob_pp];exact h.l_out,upd_same,by rw [upd_ne h.bk_pp];exact h.l_blk,⟨h.blk.1,fun i b w h1 h2=>by rw [upd_ne (h.nb h.pp_bs h1)];exact h.blk.2 i b w h1 h2⟩,h.nd⟩
theorem PAt.setB {i:Nat} {b:Addr} {w w':List Int} (h:PAt CP CM H A u) (h1:A.bs[i]? = some b) (h2:u.blk[i]? = some w):PAt CP CM (upd H b (.lst (w'.map V.int))) A { u with blk:=u.blk.set i w' }:=by
 have hb:=List.mem_of_getElem? h1
 have nb:∀ {x:Addr},x∉A.bs→x≠b:=fun hx e=>hx (by rw [e];exact hb)
 refine ⟨by rw [upd_ne (nb h.p_bs)];exact h.o,⟨by rw [upd_ne (nb h.mp_bs)];exact h.m.ob,by rw [upd_ne (nb h.c_bs)];exact h.m.cl⟩,by rw [upd_ne (nb h.ib_bs)];exact h.l_in,by rw [upd_ne (nb h.ob_bs)];exact h.l_out,by rw [upd_ne (nb h.pp_bs)];exact h.l_pap,by rw [upd_ne (nb h.bk_bs)];exact h.l_blk,⟨by rw [List.length_set];exact h.blk.1,fun j b2 w2 g1 g2=>?_⟩,h.nd⟩
 by_cases g:j = i
 ·subst g
  rw [h1] at g1
  cases g1
  have hj:j < u.blk.length:=by
   rcases Nat.lt_or_ge j u.blk.length with z | z
   ·exact z
   ·rw [List.getElem?_eq_none z] at h2;cases h2
  rw [List.getElem?_set_self hj] at g2
  cases g2
  exact upd_same
 ·rw [List.getElem?_set_ne (Ne.symm g)] at g2
  have ne:b2≠b:=by
   intro e
   subst e
   exact g ((List.getElem?_inj (by
    rcases Nat.lt_or_ge j A.bs.length with z | z
    ·exact z
    ·rw [List.getElem?_eq_none z] at g1;cases g1) h.bs_nd).mp (g1.trans h1.symm))
  rw [upd_ne ne]
  exact h.blk.2 j b2 w2 g1 g2
theorem r_machine (T:TxtP K mg CP CM) (h:PAt CP CM H A u) (q:P (.ref A.mp)):∃ a C dx fs v,V.ref A.p = .ref a∧H a = some (.ins C dx fs)∧Cls K C∧NoAttr K C "machine"∧fs.lookup ("machine" : Str) = some v∧P v:=⟨A.p,CP,A.dx,_,_,rfl,h.o,T.clP,T.n_machine,lk_machine _ _,q⟩
theorem r_inbox (T:TxtP K mg CP CM) (h:PAt CP CM H A u) (q:P (.ref A.ib)):∃ a C dx fs v,V.ref A.p = .ref a∧H a = some (.ins C dx fs)∧Cls K C∧NoAttr K C "inbox"∧fs.lookup ("inbox" : Str) = some v∧P v:=⟨A.p,CP,A.dx,_,_,rfl,h.o,T.clP,T.n_inbox,lk_inbox _ _,q⟩
theorem r_outbox (T:TxtP K mg CP CM) (h:PAt CP CM H A u) (q:P (.ref A.ob)):∃ a C dx fs v,V.ref A.p = .ref a∧H a = some (.ins C dx fs)∧Cls K C∧NoAttr K C "outbox"∧fs.lookup ("outbox" : Str) = some v∧P v:=⟨A.p,CP,A.dx,_,_,rfl,h.o,T.clP,T.n_outbox,lk_outbox _ _,q⟩
theorem r_paper (T:TxtP K mg CP CM) (h:PAt CP CM H A u) (q:P (.ref A.pp)):∃ a C dx fs v,V.ref A.p = .ref a∧H a = some (.ins C dx fs)∧Cls K C∧NoAttr K C "paper"∧fs.lookup ("paper" : Str) = some v∧P v:=⟨A.p,CP,A.dx,_,_,rfl,h.o,T.clP,T.n_paper,lk_paper _ _,q⟩
theorem r_blocks (T:TxtP K mg CP CM) (h:PAt CP CM H A u) (q:P (.ref A.bk)):∃ a C dx fs v,V.ref A.p = .ref a∧H a = some (.ins C dx fs)∧Cls K C∧NoAttr K C "blocks"∧fs.lookup ("blocks" : Str) = some v∧P v:=⟨A.p,CP,A.dx,_,_,rfl,h.o,T.clP,T.n_blocks,lk_blocks _ _,q⟩
theorem r_switches (T:TxtP K mg CP CM) (h:PAt CP CM H A u) (q:P (.int u.sw)):∃ a C dx fs v,V.ref A.p = .ref a∧H a = some (.ins C dx fs)∧Cls K C∧NoAttr K C "switches"∧fs.lookup ("switches" : Str) = some v∧P v:=⟨A.p,CP,A.dx,_,_,rfl,h.o,T.clP,T.n_switches,lk_switches _ _,q⟩
theorem r_state (T:TxtP K mg CP CM) (h:PAt CP CM H A u) (q:P (.str u.st.s)):∃ a C dx fs v,V.ref A.p = .ref a∧H a = some (.ins C dx fs)∧Cls K C∧NoAttr K C "state"∧fs.lookup ("state" : Str) = some v∧P v:=⟨A.p,CP,A.dx,_,_,rfl,h.o,T.clP,T.n_state,lk_state _ _,q⟩
theorem r_nap (T:TxtP K mg CP CM) (h:PAt CP CM H A u) (q:P (.int u.nap)):∃ a C dx fs v,V.ref A.p = .ref a∧H a = some (.ins C dx fs)∧Cls K C∧NoAttr K C "nap"∧fs.lookup ("nap" : Str) = some v∧P v:=⟨A.p,CP,A.dx,_,_,rfl,h.o,T.clP,T.n_nap,lk_nap _ _,q⟩
theorem r_lost (T:TxtP K mg CP CM) (h:PAt CP CM H A u) (q:P (.int u.lost)):∃ a C dx fs v,V.ref A.p = .ref a∧H a = some (.ins C dx fs)∧Cls K C∧NoAttr K C "lost"∧fs.lookup ("lost" : Str) = some v∧P v:=⟨A.p,CP,A.dx,_,_,rfl,h.o,T.clP,T.n_lost,lk_lost _ _,q⟩
theorem r_done (T:TxtP K mg CP CM) (h:PAt CP CM H A u) (q:P (.int u.done)):∃ a C dx fs v,V.ref A.p = .ref a∧H a = some (.ins C dx fs)∧Cls K C∧NoAttr K C "done"∧fs.lookup ("done" : Str) = some v∧P v:=⟨A.p,CP,A.dx,_,_,rfl,h.o,T.clP,T.n_done,lk_done _ _,q⟩
theorem r_cells (T:TxtP K mg CP CM) (h:PAt CP CM H A u) (q:P (.ref A.c)):∃ a C dx fs v,V.ref A.mp = .ref a∧H a = some (.ins C dx fs)∧Cls K C∧NoAttr K C "cells"∧fs.lookup ("cells" : Str) = some v∧P v:=⟨A.mp,CM,A.dm,_,_,rfl,h.m.ob,T.cl,T.n_cells,Pr.lk_cells _ _,q⟩
theorem r_total (T:TxtP K mg CP CM) (h:PAt CP CM H A u) (q:P (.int u.m.total)):∃ a C dx fs v,V.ref A.mp = .ref a∧H a = some (.ins C dx fs)∧Cls K C∧NoAttr K C "total"∧fs.lookup ("total" : Str) = some v∧P v:=⟨A.mp,CM,A.dm,_,_,rfl,h.m.ob,T.cl,T.n_total,Pr.lk_total _ _,q⟩
theorem r_mark (T:TxtP K mg CP CM) (h:PAt CP CM H A u) (q:P (.int u.m.mark)):∃ a C dx fs v,V.ref A.mp = .ref a∧H a = some (.ins C dx fs)∧Cls K C∧NoAttr K C "mark"∧fs.lookup ("mark" : Str) = some v∧P v:=⟨A.mp,CM,A.dm,_,_,rfl,h.m.ob,T.cl,T.n_mark,Pr.lk_mark _ _,q⟩
theorem r_at (T:TxtP K mg CP CM) (h:PAt CP CM H A u) (q:P (.int u.m.at_)):∃ a C dx fs v,V.ref A.mp = .ref a∧H a = some (.ins C dx fs)∧Cls K C∧NoAttr K C "at"∧fs.lookup ("at" : Str) = some v∧P v:=⟨A.mp,CM,A.dm,_,_,rfl,h.m.ob,T.cl,T.n_at,Pr.lk_at _ _,q⟩
theorem w_state {y:St5} (T:TxtP K mg CP CM) (h:PAt CP CM H A u) (k:∀ H',PAt CP CM H' A { u with st:=y }→FrL H H' (foot A)→PH H'):∃ a C dx fs,V.ref A.p = .ref a∧H a = some (.ins C dx fs)∧Cls K C∧NoAttr K C "state"∧fs.length < 1000∧PH (upd H a (.ins C dx (putF "state" (.str y.s) fs))) :=
 ⟨A.p,CP,A.dx,_,rfl,h.o,T.clP,T.n_state,len_fldsP _ _,by rw [pf_state];exact k _ (h.setP _ rfl rfl rfl rfl rfl) (FrL.upd f_p)⟩
theorem w_nap {y:Int} (T:TxtP K mg CP CM) (h:PAt CP CM H A u) (k:∀ H',PAt CP CM H' A { u with nap:=y }→FrL H H' (foot A)→PH H'):∃ a C dx fs,V.ref A.p = .ref a∧H a = some (.ins C dx fs)∧Cls K C∧NoAttr K C "nap"∧fs.length < 1000∧PH (upd H a (.ins C dx (putF "nap" (.int y) fs))) :=
 ⟨A.p,CP,A.dx,_,rfl,h.o,T.clP,T.n_nap,len_fldsP _ _,by rw [pf_nap];exact k _ (h.setP _ rfl rfl rfl rfl rfl) (FrL.upd f_p)⟩
theorem w_lost {y:Int} (T:TxtP K mg CP CM) (h:PAt CP CM H A u) (k:∀ H',PAt CP CM H' A { u with lost:=y }→FrL H H' (foot A)→PH H'):∃ a C dx fs,V.ref A.p = .ref a∧H a = some (.ins C dx fs)∧Cls K C∧NoAttr K C "lost"∧fs.length < 1000∧PH (upd H a (.ins C dx (putF "lost" (.int y) fs))) :=
 ⟨A.p,CP,A.dx,_,rfl,h.o,T.clP,T.n_lost,len_fldsP _ _,by rw [pf_lost];exact k _ (h.setP _ rfl rfl rfl rfl rfl) (FrL.upd f_p)⟩
theorem w_done {y:Int} (T:TxtP K mg CP CM) (h:PAt CP CM H A u) (k:∀ H',PAt CP CM H' A { u with done:=y }→FrL H H' (foot A)→PH H'):∃ a C dx fs,V.ref A.p = .ref a∧H a = some (.ins C dx fs)∧Cls K C∧NoAttr K C "done"∧fs.length < 1000∧PH (upd H a (.ins C dx (putF "done" (.int y) fs))) :=
 ⟨A.p,CP,A.dx,_,rfl,h.o,T.clP,T.n_done,len_fldsP _ _,by rw [pf_done];exact k _ (h.setP _ rfl rfl rfl rfl rfl) (FrL.upd f_p)⟩
theorem w_total {y:Int} (T:TxtP K mg CP CM) (h:PAt CP CM H A u) (k:∀ H',PAt CP CM H' A { u with m:={ u.m with total:=y } }→FrL H H' (foot A)→PH H'):∃ a C dx fs,V.ref A.mp = .ref a∧H a = some (.ins C dx fs)∧Cls K C∧NoAttr K C "total"∧fs.length < 1000∧PH (upd H a (.ins C dx (putF "total" (.int y) fs))) :=
 ⟨A.mp,CM,A.dm,_,rfl,h.m.ob,T.cl,T.n_total,Pr.len_flds _ _,by rw [Pr.pf_total];exact k _ (h.setM (h.m.setP rfl) Fr2.updP) (FrL.upd f_mp)⟩
theorem w_at {y:Int} (T:TxtP K mg CP CM) (h:PAt CP CM H A u) (k:∀ H',PAt CP CM H' A { u with m:={ u.m with at_:=y } }→FrL H H' (foot A)→PH H'):∃ a C dx fs,V.ref A.mp = .ref a∧H a = some (.ins C dx fs)∧Cls K C∧NoAttr K C "at"∧fs.length < 1000∧PH (upd H a (.ins C dx (putF "at" (.int y) fs))) :=
 ⟨A.mp,CM,A.dm,_,rfl,h.m.ob,T.cl,T.n_at,Pr.len_flds _ _,by rw [Pr.pf_at];exact k _ (h.setM (h.m.setP rfl) Fr2.updP) (FrL.upd f_mp)⟩
theorem app_in {x:Int} (h:PAt CP CM H A u) (hz:u.inb.length < 1000001) (k:∀ H',PAt CP CM H' A { u with inb:=u.inb ++ [x] }→FrL H H' (foot A)→Q .non H'):rAppend (.ref A.ib) [.int x] H Q:=by
 refine Sx.app h.l_in (by rw [List.length_map];omega) ?_
 have:=h.setIn (u.inb ++ [x])
 rw [List.map_append] at this
 exact k _ this (FrL.upd f_ib)
theorem pop_in {x:Int} {r:List Int} (h:PAt CP CM H A u) (e:u.inb = x::r) (k:∀ H',PAt CP CM H' A { u with inb:=r }→FrL H H' (foot A)→Q (.int x) H'):rPopAt (.ref A.ib) [.int 0] H Q :=
 Sx.pop0 (x:=.int x) (r:=r.map V.int) (by rw [h.l_in,e];rfl) (k _ (h.setIn r) (FrL.upd f_ib))
theorem app_out {x:Int} (h:PAt CP CM H A u) (hz:u.outb.length < 1000001) (k:∀ H',PAt CP CM H' A { u with outb:=u.outb ++ [x] }→FrL H H' (foot A)→Q .non H'):rAppend (.ref A.ob) [.int x] H Q:=by
 refine Sx.app h.l_out (by rw [List.length_map];omega) ?_
 have:=h.setOut (u.outb ++ [x])
 rw [List.map_append] at this
 exact k _ this (FrL.upd f_ob)
theorem pop_out {x:Int} {r:List Int} (h:PAt CP CM H A u) (e:u.outb = x::r) (k:∀ H',PAt CP CM H' A { u with outb:=r }→FrL H H' (foot A)→Q (.int x) H'):rPopAt (.ref A.ob) [.int 0] H Q :=
 Sx.pop0 (x:=.int x) (r:=r.map V.int) (by rw [h.l_out,e];rfl) (k _ (h.setOut r) (FrL.upd f_ob))
theorem app_pap {x:Int} (h:PAt CP CM H A u) (hz:u.pap.length < 1000001) (k:∀ H',PAt CP CM H' A { u with pap:=u.pap ++ [x] }→FrL H H' (foot A)→Q .non H'):rAppend (.ref A.pp) [.int x] H Q:=by
 refine Sx.app h.l_pap (by rw [List.length_map];omega) ?_
 have:=h.setPap (u.pap ++ [x])
 rw [List.map_append] at this
 exact k _ this (FrL.upd f_pp)
end
end Pp
local macro_rules | `(tactic| wtm_at "u") => `(tactic| first | wtm_at "m" | (with_reducible first | refine Pp.r_machine (by assumption) (by assumption) ?_ | refine Pp.r_inbox (by assumption) (by assumption) ?_ | refine Pp.r_outbox (by assumption) (by assumption) ?_ | refine Pp.r_paper (by assumption) (by assumption) ?_ | refine Pp.r_blocks (by assumption) (by assumption) ?_ | refine Pp.r_switches (by assumption) (by assumption) ?_ | refine Pp.r_state (by assumption) (by assumption) ?_ | refine Pp.r_nap (by assumption) (by assumption) ?_ | refine Pp.r_lost (by assumption) (by assumption) ?_ | refine Pp.r_done (by assumption) (by assumption) ?_ | refine Pp.r_cells (by assumption) (by assumption) ?_ | refine Pp.r_total (by assumption) (by assumption) ?_ | refine Pp.r_mark (by assumption) (by assumption) ?_ | refine Pp.r_at (by assumption) (by assumption) ?_))
local macro_rules | `(tactic| wtm_at "uu") => `(tactic| repeat wtm_at "u")
local macro_rules | `(tactic| wtm_at "v") => `(tactic| first | (with_reducible first | refine Sx.tupN ?_ | refine Sx.lstN ?_ | refine Sx.intB ?_ | refine Sx.min2 ?_) | wtm_at "u" | (with_reducible refine iteNS rfl ?_) | (with_reducible refine iteDS rfl ?_))
local macro_rules | `(tactic| wtm_at "vv") => `(tactic| repeat wtm_at "v")
namespace Pp
open PySem L2 Mir Pr Tx Lw Dm Us Du
def spP (CP CM:Addr) (pre:Usr→Prop) (f:Usr→Usr):Sp:=fun vs H Q _=>∃ A u,vs = [.ref A.p]∧PAt CP CM H A u∧pre u∧∀ H',PAt CP CM H' A (f u)→FrL H H' (foot A)→Q .non H'
def spP1 (CP CM:Addr) (pre:Usr→Int→Prop) (f:Usr→Int→Usr):Sp:=fun vs H Q _=>∃ A u a,vs = [.ref A.p,.int a]∧PAt CP CM H A u∧pre u a∧∀ H',PAt CP CM H' A (f u a)→FrL H H' (foot A)→Q .non H'
def spP2 (CP CM:Addr) (pre:Usr→Int→Int→Prop) (f:Usr→Int→Usr):Sp:=fun vs H Q _=>∃ A u a b,vs = [.ref A.p,.int a,.int b]∧PAt CP CM H A u∧pre u a b∧∀ H',PAt CP CM H' A (f u a)→FrL H H' (foot A)→Q .non H'
def preB (u:Usr) (b:Int):Prop:=RgU u∧b = (u.m.at_ + 63) % 64
def sp_skip (C:Addr):Sp:=fun vs H Q _=>∃ p c dx m b,vs = [.ref p,.bl b]∧MAt C H p c dx m∧∀ H',MAt C H' p c dx (if b = true then moveOn m else m)→Fr2 H H' p c→Q .non H'
def sp_waitP (CP CM:Addr):Sp:=fun vs H Q _=>∃ A u,∃ s:St5,∃ b,vs = [.ref A.p,.str s.s,.int b]∧PAt CP CM H A u∧b = (u.m.at_ + 63) % 64∧∀ H',PAt CP CM H' A (waitU u s)→FrL H H' (foot A)→Q .non H'
def sp_fetch (C:Addr):Sp:=fun vs H Q _=>∃ p c dx m b w pl,vs = [.ref p,.ref b,.int pl]∧MAt C H p c dx m∧H b = some (.lst (w.map V.int))∧b≠p∧b≠c∧w.length = 16∧m.cells.length = 64 ∧
 ∀ H',MAt C H' p c dx { m with cells:=fetchN pl w 16 m.cells }→Fr2 H H' p c→Q .non H'
def sp_store (C:Addr):Sp:=fun vs H Q _=>∃ p c dx m b w pl,vs = [.ref p,.ref b,.int pl]∧MAt C H p c dx m∧H b = some (.lst (w.map V.int))∧b≠p∧b≠c∧w.length = 16∧m.cells.length = 64 ∧
 ∀ H',H' = upd H b (.lst ((storeN pl m.cells 16 w).map V.int))→Q .non H'
theorem deed_ask2 {m:Mach} {p:Int} (h:(deedM m).1 = some p):(deedM m).2 = moveOn m:=by
 unfold deedM deedW at h ⊢
 split at h
 ·rename_i g;rw [if_pos g]
 split at h
 ·cases h
 split at h
 ·cases h
 split at h <;> cases h
section
variable {P:Program} {w:World} {K:PySem.W.Frag} {mg:Str→Option Value} {base:Heap} {CP CM:Addr}
theorem ok_start (R:Raw K mg "take_start" s_take_start) (T:TxtP K mg CP CM):GF P w K mg base "take_start" ["person","place"] 1 (spP1 CP CM (fun _ _=>True) startU):=by
 refine GF.mk R sc_take_start (by wtm_at "2") (fun vs H Q E h=>?_) (fun f cdv A outer s H vs Q E hr h=>?_)
 ·obtain ⟨B,u,a,rfl,_⟩:=h;rfl
 ·obtain ⟨B,u,a,rfl,D,_,k⟩:=h
  refine ⟨_,(@pss_one _ _ _ (@ps_if _ _ _ _ _ _ _ _ (@pt_cmpR _ _ _ _ _ _ _ _ op_eq (@pe_fldK _ (K) _ _ _ _ rfl (pv 0) rfl) (@pe_gstr _ _ _ _ rfl T.STOPPED (by decide)) (nomark _)) (@pss_cons _ _ _ _ _ (@ps_set _ _ (2) _ _ _ _ sc_take_start.nd rfl (Or.inl rfl) (@pe_fldK _ (K) _ _ _ _ rfl (pv 0) rfl) rfl (by first | exact .inl rfl | exact .inr rfl | assumption)) (@pss_cons _ _ _ _ _ (@ps_fldK _ (K) _ _ _ _ _ _ _ rfl (pv 2) (pv 1) rfl) (@pss_one _ _ _ (@ps_fldK _ (K) _ _ _ _ _ _ _ rfl (pv 0) (@pe_gstr _ _ _ _ rfl T.READY (by decide)) rfl)))) pss_nil)),?_⟩
  wtm_at "uu"
  refine iteD (fun g=>?_) (fun g=>?_)
  ·have g':u.st = .stopped:=St5.inj.mp g
   wtm_at "uu"
   refine w_at T D fun H1 D1 F1=>?_
   wtm_at "uu"
   refine w_state (y:=.ready) T D1 fun H2 D2 F2=>k _ (D2.same ?_) (F1.trans F2)
   unfold startU
   rw [if_pos g']
  ·have g':¬ u.st = .stopped:=fun z=>g (St5.inj.mpr z)
   refine k _ (D.same ?_) FrL.refl
   unfold startU
   rw [if_neg g']
theorem ok_key (R:Raw K mg "take_key" s_take_key) (T:TxtP K mg CP CM):GF P w K mg base "take_key" ["person","letter"] 1 (spP1 CP CM (fun u _=>RgU u) keyU):=by
 refine GF.mk R sc_take_key (by wtm_at "2") (fun vs H Q E h=>?_) (fun f cdv A outer s H vs Q E hr h=>?_)
 ·obtain ⟨B,u,a,rfl,_⟩:=h;rfl
 ·obtain ⟨B,u,l,rfl,D,hR,k⟩:=h
  have hil:=hR.inl
  refine ⟨_,(@pss_cons _ _ _ _ _ (@ps_cut _ _ _ (@ps_if _ _ _ _ _ _ _ _ (@pt_cmpR _ _ _ _ _ _ _ _ op_lt (@pe_callBN _ _ _ _ _ _ _ _ _ (call_len_seqK (K:=K) rfl) (by rfl) T.len_ bo_len (@pa_c _ _ _ _ _ (@pe_fldK _ (K) _ _ _ _ rfl (pv 0) rfl) pa_nil rfl) (by decide) (by decide) rfl) (@pe_gint _ _ _ _ rfl T.MOST_LETTERS (by decide)) (nomark _)) (@pss_one _ _ _ (@ps_expr _ _ _ _ (pe_bm PySem.F.plainAttrs_list PySem.F.slot_list_append PySem.F.type_list_append mt_append (@pe_fldK _ (K) _ _ _ _ rfl (pv 0) rfl) (@pa_c _ _ _ _ _ (pv 1) pa_nil rfl)) rfl)) (@pss_one _ _ _ (@ps_fldK _ (K) _ _ _ _ _ _ _ rfl (pv 0) (@pe_op _ _ _ _ _ _ _ _ op_add (@pe_fldK _ (K) _ _ _ _ rfl (pv 0) rfl) pe_int) rfl)))) (@pss_one _ _ _ (@ps_if _ _ _ _ _ _ _ _ (@pt_cmpR _ _ _ _ _ _ _ _ op_eq (@pe_fldK _ (K) _ _ _ _ rfl (pv 0) rfl) (@pe_gstr _ _ _ _ rfl T.HEARS (by decide)) (nomark _)) (@pss_one _ _ _ (@ps_fldK _ (K) _ _ _ _ _ _ _ rfl (pv 0) (@pe_gstr _ _ _ _ rfl T.READY (by decide)) rfl)) pss_nil))),?_⟩
  wtm_at "uu"
  refine Sx.cut (fun σ' H'=>σ' = [some (.ref B.p),some (.int l)]∧PAt CP CM H' B (if u.inb.length < 16 then { u with inb:=u.inb ++ [l] } else { u with lost:=u.lost + 1 })∧FrL H H' (foot B)) ?_ ?_
  ·wtm_at "uu"
   refine ⟨B.ib,_,rfl,.inl (SqL.of D.l_in),?_⟩
   rw [List.length_map]
   wtm_at "uu"
   refine iteD (fun g=>?_) (fun g=>?_)
   ·wtm_at "uu"
    refine ⟨Sx.tyL D.l_in,?_⟩
    wtm_at "uu"
    refine app_in D (by omega) fun H3 D3 F3=>⟨rfl,D3.same ?_,F3⟩
    rw [if_pos (by omega)]
   ·wtm_at "uu"
    refine w_lost T D fun H3 D3 F3=>⟨rfl,D3.same ?_,F3⟩
    rw [if_neg (by omega)]
  rintro _ H1 ⟨rfl,D1,F1⟩
  have est:(if u.inb.length < 16 then { u with inb:=u.inb ++ [l] } else { u with lost:=u.lost + 1 }:Usr).st = u.st:=by split <;> rfl
  unfold keyU at k
  dsimp only at k
  generalize (if u.inb.length < 16 then { u with inb:=u.inb ++ [l] } else { u with lost:=u.lost + 1 }:Usr) = u1 at D1 k est
  wtm_at "uu"
  refine iteD (fun g=>?_) (fun g=>?_)
  ·have g':u1.st = .hears:=St5.inj.mp g
   wtm_at "uu"
   refine w_state (y:=.ready) T D1 fun H2 D2 F2=>k _ (D2.same ?_) (F1.trans F2)
   rw [if_pos (by rw [← est];exact g')]
  ·have g':¬ u1.st = .hears:=fun z=>g (St5.inj.mpr z)
   refine k _ (D1.same ?_) F1
   rw [if_neg (by rw [← est];exact g')]
theorem ok_tick (R:Raw K mg "take_tick" s_take_tick) (T:TxtP K mg CP CM):GF P w K mg base "take_tick" ["person"] 1 (spP CP CM RgU tickU):=by
 refine GF.mk R sc_take_tick (by wtm_at "1") (fun vs H Q E h=>?_) (fun f cdv A outer s H vs Q E hr h=>?_)
 ·obtain ⟨B,u,rfl,_⟩:=h;rfl
 ·obtain ⟨B,u,rfl,D,hR,k⟩:=h
  have hpl:=hR.papl
  refine ⟨_,(@pss_cons _ _ _ _ _ (@ps_cut _ _ _ (@ps_if _ _ _ _ _ _ _ _ (@pt_cmpR _ _ _ _ _ _ _ _ op_gt (@pe_callBN _ _ _ _ _ _ _ _ _ (call_len_seqK (K:=K) rfl) (by rfl) T.len_ bo_len (@pa_c _ _ _ _ _ (@pe_fldK _ (K) _ _ _ _ rfl (pv 0) rfl) pa_nil rfl) (by decide) (by decide) rfl) pe_int (nomark _)) (@pss_cons _ _ _ _ _ (@ps_expr _ _ _ _ (pe_bm PySem.F.plainAttrs_list PySem.F.slot_list_append PySem.F.type_list_append mt_append (@pe_fldK _ (K) _ _ _ _ rfl (pv 0) rfl) (@pa_c _ _ _ _ _ (pe_bm PySem.F.plainAttrs_list PySem.F.slot_list_pop PySem.F.type_list_pop mt_popAt (@pe_fldK _ (K) _ _ _ _ rfl (pv 0) rfl) (@pa_c _ _ _ _ _ pe_int pa_nil rfl)) pa_nil rfl)) rfl) (@pss_one _ _ _ (@ps_if _ _ _ _ _ _ _ _ (@pt_cmpR _ _ _ _ _ _ _ _ op_eq (@pe_fldK _ (K) _ _ _ _ rfl (pv 0) rfl) (@pe_gstr _ _ _ _ rfl T.SAYS (by decide)) (nomark _)) (@pss_one _ _ _ (@ps_fldK _ (K) _ _ _ _ _ _ _ rfl (pv 0) (@pe_gstr _ _ _ _ rfl T.READY (by decide)) rfl)) pss_nil))) pss_nil)) (@pss_one _ _ _ (@ps_if _ _ _ _ _ _ _ _ (@pt_cmpR _ _ _ _ _ _ _ _ op_eq (@pe_fldK _ (K) _ _ _ _ rfl (pv 0) rfl) (@pe_gstr _ _ _ _ rfl T.SLEEPS (by decide)) (nomark _)) (@pss_cons _ _ _ _ _ (@ps_fldK _ (K) _ _ _ _ _ _ _ rfl (pv 0) (@pe_op _ _ _ _ _ _ _ _ op_sub (@pe_fldK _ (K) _ _ _ _ rfl (pv 0) rfl) pe_int) rfl) (@pss_one _ _ _ (@ps_if _ _ _ _ _ _ _ _ (@pt_cmpR _ _ _ _ _ _ _ _ op_eq (@pe_fldK _ (K) _ _ _ _ rfl (pv 0) rfl) pe_int (nomark _)) (@pss_one _ _ _ (@ps_fldK _ (K) _ _ _ _ _ _ _ rfl (pv 0) (@pe_gstr _ _ _ _ rfl T.READY (by decide)) rfl)) pss_nil))) pss_nil))),?_⟩
  wtm_at "uu"
  refine Sx.cut (fun σ' H'=>σ' = [some (.ref B.p)]∧PAt CP CM H' B (printU u)∧FrL H H' (foot B)) ?_ ?_
  ·wtm_at "uu"
   refine ⟨B.ob,_,rfl,.inl (SqL.of D.l_out),?_⟩
   rw [List.length_map]
   wtm_at "uu"
   cases hout:u.outb with
   | nil =>
    refine iteD (fun g=>by simp at g) fun _=>⟨rfl,D.same ?_,FrL.refl⟩
    unfold printU
    rw [hout]
   | cons x r =>
    refine iteD (fun _=>?_) (fun g=>(g (by rw [List.length_cons];omega)).elim)
    wtm_at "uu"
    refine ⟨Sx.tyL D.l_pap,?_⟩
    wtm_at "uu"
    refine ⟨Sx.tyL D.l_out,?_⟩
    wtm_at "uu"
    refine pop_out D hout fun H1 D1 F1=>?_
    wtm_at "uu"
    refine app_pap D1 (show u.pap.length < 1000001 by omega) fun H2 D2 F2=>?_
    have F02:=F1.trans F2
    wtm_at "uu"
    refine iteD (fun g=>?_) (fun g=>?_)
    ·have g':u.st = .says:=St5.inj.mp g
     wtm_at "uu"
     refine w_state (y:=.ready) T D2 fun H6 D6 F6=>⟨rfl,D6.same ?_,F02.trans F6⟩
     unfold printU
     rw [hout]
     dsimp only
     rw [if_pos g']
    ·have g':¬ u.st = .says:=fun z=>g (St5.inj.mpr z)
     refine ⟨rfl,D2.same ?_,F02⟩
     unfold printU
     rw [hout]
     dsimp only
     rw [if_neg g']
  rintro _ H1 ⟨rfl,D1,F1⟩
  unfold tickU at k
  generalize printU u = u1 at D1 k
  wtm_at "uu"
  refine iteD (fun g=>?_) (fun g=>?_)
  ·have g':u1.st = .sleeps:=St5.inj.mp g
   wtm_at "uu"
   refine w_nap T D1 fun H2 D2 F2=>?_
   wtm_at "uu"
   refine iteD (fun g2=>?_) (fun g2=>?_)
   ·wtm_at "uu"
    refine w_state (y:=.ready) T D2 fun H3 D3 F3=>k _ (D3.same ?_) (F1.trans (F2.trans F3))
    unfold napU
    rw [if_pos g',if_pos g2]
   ·refine k _ (D2.same ?_) (F1.trans F2)
    unfold napU
    rw [if_pos g',if_neg g2,← g']
  ·have g':¬ u1.st = .sleeps:=fun z=>g (St5.inj.mpr z)
   refine k _ (D1.same ?_) F1
   unfold napU
   rw [if_neg g']
theorem ok_skip (R:Raw K mg "skip_if" s_skip_if) (G_move_on:GF P w K mg base "move_on" ["machine"] 2 (spM CM (fun _=>True) moveOn)):GF P w K mg base "skip_if" ["machine","so"] 3 (sp_skip CM):=by
 refine GF.mk R sc_skip_if (by wtm_at "2") (fun vs H Q E h=>?_) (fun f cdv A outer s H vs Q E hr h=>?_)
 ·obtain ⟨p,c,dx,m,b,rfl,_⟩:=h;rfl
 ·obtain ⟨p,c,dx,m,b,rfl,M,k⟩:=h
  refine ⟨_,(@pss_one _ _ _ (@ps_if _ _ _ _ _ _ _ _ (@pt_val _ _ _ (pv 1) (fun _=>rfl)) (@pss_one _ _ _ (@ps_expr _ _ _ _ (@pe_gcallN _ _ _ _ _ _ _ _ _ _ G_move_on (hr.mono (by decide)) rfl (@pa_c _ _ _ _ _ (pv 0) pa_nil rfl) (by decide) rfl) rfl)) pss_nil)),?_⟩
  wtm_at "uu"
  refine iteB (fun g=>?_) (fun g=>?_)
  ·wtm_at "uu"
   refine ⟨p,c,dx,m,rfl,M,trivial,fun H' M' F'=>k H' (M'.same ?_) F'⟩
   rw [if_pos g]
  ·refine k H (M.same ?_) Fr2.refl
   rw [g]
   rfl
theorem ok_wait (R:Raw K mg "wait_at" s_wait_at) (T:TxtP K mg CP CM):GF P w K mg base "wait_at" ["person","state","place"] 1 (sp_waitP CP CM):=by
 refine GF.mk R sc_wait_at (by wtm_at "3") (fun vs H Q E h=>?_) (fun f cdv A outer s H vs Q E hr h=>?_)
 ·obtain ⟨B,u,s,b,rfl,_⟩:=h;rfl
 ·obtain ⟨B,u,s,b,rfl,D,e,k⟩:=h
  refine ⟨_,(@pss_cons _ _ _ _ _ (@ps_set _ _ (3) _ _ _ _ sc_wait_at.nd rfl (Or.inl rfl) (@pe_fldK _ (K) _ _ _ _ rfl (pv 0) rfl) rfl (by first | exact .inl rfl | exact .inr rfl | assumption)) (@pss_cons _ _ _ _ _ (@ps_fldK _ (K) _ _ _ _ _ _ _ rfl (pv 3) (pv 2) rfl) (@pss_one _ _ _ (@ps_fldK _ (K) _ _ _ _ _ _ _ rfl (pv 0) (pv 1) rfl)))),?_⟩
  wtm_at "uu"
  refine w_at T D fun H1 D1 F1=>?_
  wtm_at "uu"
  refine w_state (y:=s) T D1 fun H2 D2 F2=>k _ (D2.same ?_) (F1.trans F2)
  unfold waitU
  rw [e]
theorem ok_hear (R:Raw K mg "do_hear" s_do_hear) (T:TxtP K mg CP CM) (G_wait_at:GF P w K mg base "wait_at" ["person","state","place"] 1 (sp_waitP CP CM)):GF P w K mg base "do_hear" ["person","place"] 2 (spP1 CP CM preB (fun u _=>hearU u)):=by
 refine GF.mk R sc_do_hear (by wtm_at "2") (fun vs H Q E h=>?_) (fun f cdv A outer s H vs Q E hr h=>?_)
 ·obtain ⟨B,u,b,rfl,_⟩:=h;rfl
 ·obtain ⟨B,u,b,rfl,D,⟨hR,e⟩,k⟩:=h
  refine ⟨_,(@pss_cons _ _ _ _ _ (@ps_set _ _ (2) _ _ _ _ sc_do_hear.nd rfl (Or.inl rfl) (@pe_fldK _ (K) _ _ _ _ rfl (pv 0) rfl) rfl (by first | exact .inl rfl | exact .inr rfl | assumption)) (@pss_one _ _ _ (@ps_if _ _ _ _ _ _ _ _ (@pt_cmpR _ _ _ _ _ _ _ _ op_gt (@pe_callBN _ _ _ _ _ _ _ _ _ (call_len_seqK (K:=K) rfl) (by rfl) T.len_ bo_len (@pa_c _ _ _ _ _ (@pe_fldK _ (K) _ _ _ _ rfl (pv 0) rfl) pa_nil rfl) (by decide) (by decide) rfl) pe_int (nomark _)) (@pss_one _ _ _ (@ps_fldK _ (K) _ _ _ _ _ _ _ rfl (pv 2) (pe_bm PySem.F.plainAttrs_list PySem.F.slot_list_pop PySem.F.type_list_pop mt_popAt (@pe_fldK _ (K) _ _ _ _ rfl (pv 0) rfl) (@pa_c _ _ _ _ _ pe_int pa_nil rfl)) rfl)) (@pss_one _ _ _ (@ps_expr _ _ _ _ (@pe_gcallN _ _ _ _ _ _ _ _ _ _ G_wait_at (hr.mono (by decide)) rfl (@pa_c _ _ _ _ _ (pv 0) (@pa_c _ _ _ _ _ (@pe_gstr _ _ _ _ rfl T.HEARS (by decide)) (@pa_c _ _ _ _ _ (pv 1) pa_nil rfl) rfl) rfl) (by decide) rfl) rfl))))),?_⟩
  wtm_at "uu"
  refine ⟨B.ib,_,rfl,.inl (SqL.of D.l_in),?_⟩
  rw [List.length_map]
  wtm_at "uu"
  cases hin:u.inb with
  | nil =>
   refine iteD (fun g=>by simp at g) fun _=>?_
   wtm_at "uu"
   refine ⟨B,u,.hears,b,rfl,D,e,fun H1 D1 F1=>k _ (D1.same ?_) F1⟩
   show _ = hearU u
   unfold hearU
   rw [hin]
  | cons x r =>
   refine iteD (fun _=>?_) (fun g=>(g (by rw [List.length_cons];omega)).elim)
   wtm_at "uu"
   refine ⟨Sx.tyL D.l_in,?_⟩
   wtm_at "uu"
   refine pop_in D hin fun H1 D1 F1=>?_
   wtm_at "uu"
   refine w_total T D1 fun H2 D2 F2=>k _ (D2.same ?_) (F1.trans F2)
   show _ = hearU u
   unfold hearU
   rw [hin]
theorem ok_say (R:Raw K mg "do_say" s_do_say) (T:TxtP K mg CP CM) (G_wait_at:GF P w K mg base "wait_at" ["person","state","place"] 1 (sp_waitP CP CM)):GF P w K mg base "do_say" ["person","place"] 2 (spP1 CP CM preB (fun u _=>sayU u)):=by
 refine GF.mk R sc_do_say (by wtm_at "2") (fun vs H Q E h=>?_) (fun f cdv A outer s H vs Q E hr h=>?_)
 ·obtain ⟨B,u,b,rfl,_⟩:=h;rfl
 ·obtain ⟨B,u,b,rfl,D,⟨hR,e⟩,k⟩:=h
  refine ⟨_,(@pss_one _ _ _ (@ps_if _ _ _ _ _ _ _ _ (@pt_cmpR _ _ _ _ _ _ _ _ op_lt (@pe_callBN _ _ _ _ _ _ _ _ _ (call_len_seqK (K:=K) rfl) (by rfl) T.len_ bo_len (@pa_c _ _ _ _ _ (@pe_fldK _ (K) _ _ _ _ rfl (pv 0) rfl) pa_nil rfl) (by decide) (by decide) rfl) (@pe_gint _ _ _ _ rfl T.MOST_LETTERS (by decide)) (nomark _)) (@pss_one _ _ _ (@ps_expr _ _ _ _ (pe_bm PySem.F.plainAttrs_list PySem.F.slot_list_append PySem.F.type_list_append mt_append (@pe_fldK _ (K) _ _ _ _ rfl (pv 0) rfl) (@pa_c _ _ _ _ _ (@pe_op _ _ _ _ _ _ _ _ op_mod (@pe_fldK _ (K) _ _ _ _ rfl (@pe_fldK _ (K) _ _ _ _ rfl (pv 0) rfl) rfl) (@pe_gint _ _ _ _ rfl T.LETTERS (by decide))) pa_nil rfl)) rfl)) (@pss_one _ _ _ (@ps_expr _ _ _ _ (@pe_gcallN _ _ _ _ _ _ _ _ _ _ G_wait_at (hr.mono (by decide)) rfl (@pa_c _ _ _ _ _ (pv 0) (@pa_c _ _ _ _ _ (@pe_gstr _ _ _ _ rfl T.SAYS (by decide)) (@pa_c _ _ _ _ _ (pv 1) pa_nil rfl) rfl) rfl) (by decide) rfl) rfl)))),?_⟩
  wtm_at "uu"
  refine ⟨B.ob,_,rfl,.inl (SqL.of D.l_out),?_⟩
  rw [List.length_map]
  wtm_at "uu"
  refine iteD (fun g=>?_) (fun g=>?_)
  ·wtm_at "uu"
   refine ⟨Sx.tyL D.l_out,?_⟩
   wtm_at "uu"
   refine app_out D (by omega) fun H1 D1 F1=>k _ (D1.same ?_) F1
   show _ = sayU u
   unfold sayU
   rw [if_neg (by omega)]
  ·wtm_at "uu"
   refine ⟨B,u,.says,b,rfl,D,e,fun H1 D1 F1=>k _ (D1.same ?_) F1⟩
   show _ = sayU u
   unfold sayU
   rw [if_pos (by omega)]
theorem ok_sleep (R:Raw K mg "do_sleep" s_do_sleep) (T:TxtP K mg CP CM):GF P w K mg base "do_sleep" ["person"] 1 (spP CP CM RgU sleepU):=by
 refine GF.mk R sc_do_sleep (by wtm_at "1") (fun vs H Q E h=>?_) (fun f cdv A outer s H vs Q E hr h=>?_)
 ·obtain ⟨B,u,rfl,_⟩:=h;rfl
 ·obtain ⟨B,u,rfl,D,hR,k⟩:=h
  have t0:=hR.rm.t0
  refine ⟨_,(@pss_cons _ _ _ _ _ (@ps_set _ _ (1) _ _ _ _ sc_do_sleep.nd rfl (Or.inl rfl) (@pe_fldK _ (K) _ _ _ _ rfl (pv 0) rfl) rfl (by first | exact .inl rfl | exact .inr rfl | assumption)) (@pss_one _ _ _ (@ps_if _ _ _ _ _ _ _ _ (@pt_cmpR _ _ _ _ _ _ _ _ op_ne (@pe_fldK _ (K) _ _ _ _ rfl (pv 1) rfl) pe_int (nomark _)) (@pss_cons _ _ _ _ _ (@ps_fldK _ (K) _ _ _ _ _ _ _ rfl (pv 0) (@pe_fldK _ (K) _ _ _ _ rfl (pv 1) rfl) rfl) (@pss_cons _ _ _ _ _ (@ps_fldK _ (K) _ _ _ _ _ _ _ rfl (pv 1) pe_int rfl) (@pss_one _ _ _ (@ps_fldK _ (K) _ _ _ _ _ _ _ rfl (pv 0) (@pe_gstr _ _ _ _ rfl T.SLEEPS (by decide)) rfl)))) pss_nil))),?_⟩
  wtm_at "uu"
  refine iteN (fun g=>?_) (fun g=>?_)
  ·wtm_at "uu"
   refine w_nap T D fun H1 D1 F1=>?_
   wtm_at "uu"
   refine w_total T D1 fun H2 D2 F2=>?_
   wtm_at "uu"
   refine w_state (y:=.sleeps) T D2 fun H3 D3 F3=>k _ (D3.same ?_) (F1.trans (F2.trans F3))
   unfold sleepU
   rw [if_pos (by omega)]
  ·refine k _ (D.same ?_) FrL.refl
   unfold sleepU
   rw [if_neg (by omega)]
theorem ok_fetch (R:Raw K mg "fetch_block" s_fetch_block) (T:TxtP K mg CP CM):GF P w K mg base "fetch_block" ["machine","block","place"] 1 (sp_fetch CM):=by
 refine GF.mk R sc_fetch_block (by wtm_at "3") (fun vs H Q E h=>?_) (fun f cdv A outer s H vs Q E hr h=>?_)
 ·obtain ⟨p,c,dx,m,b,wt,pl,rfl,_⟩:=h;rfl
 ·obtain ⟨p,c,dx,m,b,wt,pl,rfl,M,hb,n1,n2,hw,hl,k⟩:=h
  have TM:=T.toTxtM
  refine ⟨_,(@pss_one _ _ _ (@ps_for _ _ _ _ _ _ _ _ PassesOwn.never rfl (@pi_range1 _ _ _ _ _ _ rfl T.range_ (@pa_c _ _ _ _ _ (@pe_gint _ _ _ _ rfl T.BLOCK_WORDS (by decide)) pa_nil rfl) rfl) (@pg_name _ _ (3) _ sc_fetch_block.nd rfl (Or.inl rfl) (by first | exact .inl rfl | exact .inr rfl | assumption)) (@pss_one _ _ _ (ps_asg (@pe_ix _ _ _ _ _ _ _ (ix_listK (K:=K) rfl) (pv 1) (pv 3) (fun _ _=>rfl)) (pg_sub (@pe_fldK _ (K) _ _ _ _ rfl (pv 0) rfl) (@pe_op _ _ _ _ _ _ _ _ op_mod (@pe_op _ _ _ _ _ _ _ _ op_add (pv 2) (pv 3)) (@pe_gint _ _ _ _ rfl T.PLACES (by decide))) set_list))) (fun _=>rfl))),?_⟩
  wtm_at "uu"
  refine ⟨16,rfl,by decide,by decide,for_range (n:=16) (fun i σ' H'=>∃ v,σ' = [some (.ref p),some (.ref b),some (.int pl),v]∧MAt CM H' p c dx { m with cells:=fetchN pl wt i m.cells }∧Fr2 H H' p c) ⟨_,rfl,M,Fr2.refl⟩ ?_ ?_⟩
  ·rintro i _ H2 hi ⟨v,rfl,M2,F2⟩
   have hb2:=F2 _ _ hb n1 n2
   wtm_at "uu"
   refine Sx.ixN hb2 (by omega) (by omega) ?_
   wtm_at "uu"
   have e1:((0:Int) + (i:Int)).toNat = i:=by omega
   have e2:(pl + (0 + (i:Int))) % 64 = (pl + (i:Int)) % 64:=by rw [Int.zero_add]
   rw [e1,e2]
   refine Sx.setN M2.cl (by omega) (by show _ < ((fetchN pl wt i m.cells).length:Int);rw [fetchN_len];omega) ?_
   exact ⟨_,rfl,M2.setC rfl rfl rfl rfl,F2.trans Fr2.updC⟩
  ·rintro _ H2 ⟨v,rfl,M2,F2⟩
   wtm_at "uu"
   exact k _ M2 F2
theorem ok_store (R:Raw K mg "store_block" s_store_block) (T:TxtP K mg CP CM):GF P w K mg base "store_block" ["machine","block","place"] 1 (sp_store CM):=by
 refine GF.mk R sc_store_block (by wtm_at "3") (fun vs H Q E h=>?_) (fun f cdv A outer s H vs Q E hr h=>?_)
 ·obtain ⟨p,c,dx,m,b,wt,pl,rfl,_⟩:=h;rfl
 ·obtain ⟨p,c,dx,m,b,wt,pl,rfl,M,hb,n1,n2,hw,hl,k⟩:=h
  have TM:=T.toTxtM
  refine ⟨_,(@pss_one _ _ _ (@ps_for _ _ _ _ _ _ _ _ PassesOwn.never rfl (@pi_range1 _ _ _ _ _ _ rfl T.range_ (@pa_c _ _ _ _ _ (@pe_gint _ _ _ _ rfl T.BLOCK_WORDS (by decide)) pa_nil rfl) rfl) (@pg_name _ _ (3) _ sc_store_block.nd rfl (Or.inl rfl) (by first | exact .inl rfl | exact .inr rfl | assumption)) (@pss_one _ _ _ (ps_asg (@pe_ix _ _ _ _ _ _ _ (ix_listK (K:=K) rfl) (@pe_fldK _ (K) _ _ _ _ rfl (pv 0) rfl) (@pe_op _ _ _ _ _ _ _ _ op_mod (@pe_op _ _ _ _ _ _ _ _ op_add (pv 2) (pv 3)) (@pe_gint _ _ _ _ rfl T.PLACES (by decide))) (fun _ _=>rfl)) (pg_sub (pv 1) (pv 3) set_list))) (fun _=>rfl))),?_⟩
  wtm_at "uu"
  refine ⟨16,rfl,by decide,by decide,for_range (n:=16) (fun i σ' H'=>∃ v,σ' = [some (.ref p),some (.ref b),some (.int pl),v]∧H' = upd H b (.lst ((storeN pl m.cells i wt).map V.int))) ⟨_,rfl,?_⟩ ?_ ?_⟩
  ·exact (upd_self hb).symm
  ·rintro i _ H2 hi ⟨v,rfl,rfl⟩
   have M2:MAt CM (upd H b (.lst ((storeN pl m.cells i wt).map V.int))) p c dx m:=⟨by rw [upd_ne n1.symm];exact M.ob,by rw [upd_ne n2.symm];exact M.cl⟩
   wtm_at "uu"
   refine Sx.ixN M2.cl (by omega) (by omega) ?_
   wtm_at "uu"
   have e1:((0:Int) + (i:Int)).toNat = i:=by omega
   have e2:(pl + (0 + (i:Int))) % 64 = (pl + (i:Int)) % 64:=by rw [Int.zero_add]
   rw [e2]
   refine Sx.setN upd_same (by omega) (by rw [storeN_len];omega) ?_
   rw [e1,upd_upd]
   exact ⟨_,rfl,rfl⟩
  ·rintro _ H2 ⟨v,rfl,e⟩
   wtm_at "uu"
   exact k _ e
theorem ok_block (R:Raw K mg "do_with_block" s_do_with_block) (T:TxtP K mg CP CM) (G_move_on:GF P w K mg base "move_on" ["machine"] 2 (spM CM (fun _=>True) moveOn)) (G_fetch_block:GF P w K mg base "fetch_block" ["machine","block","place"] 1 (sp_fetch CM)) (G_store_block:GF P w K mg base "store_block" ["machine","block","place"] 1 (sp_store CM)) :
  GF P w K mg base "do_with_block" ["person","asked"] 3 (spP1 CP CM (fun u a=>RgU u∧(a = 5∨a = 6)) carryU):=by
 refine GF.mk R sc_do_with_block (by wtm_at "2") (fun vs H Q E h=>?_) (fun f cdv A outer s H vs Q E hr h=>?_)
 ·obtain ⟨B,u,a,rfl,_⟩:=h;rfl
 ·obtain ⟨B,u,pl,rfl,D,⟨hR,hp⟩,k⟩:=h
  have hm:=hR.rm
  have hlen:=hm.len
  have a0:=hm.a0
  have a1:=hm.a1
  have t0:=hm.t0
  have hbl:=hR.bl
  refine ⟨_,(@pss_cons _ _ _ _ _ (@ps_set _ _ (2) _ _ _ _ sc_do_with_block.nd rfl (Or.inl rfl) (@pe_fldK _ (K) _ _ _ _ rfl (pv 0) rfl) rfl (by first | exact .inl rfl | exact .inr rfl | assumption)) (@pss_cons _ _ _ _ _ (@ps_set _ _ (3) _ _ _ _ sc_do_with_block.nd rfl (Or.inl rfl) (@pe_op _ _ _ _ _ _ _ _ op_mod (@pe_ix _ _ _ _ _ _ _ (ix_listK (K:=K) rfl) (@pe_fldK _ (K) _ _ _ _ rfl (pv 2) rfl) (@pe_fldK _ (K) _ _ _ _ rfl (pv 2) rfl) (fun _ _=>rfl)) (@pe_gint _ _ _ _ rfl T.PLACES (by decide))) rfl (by first | exact .inl rfl | exact .inr rfl | assumption)) (@pss_cons _ _ _ _ _ (@ps_expr _ _ _ _ (@pe_gcallN _ _ _ _ _ _ _ _ _ _ G_move_on (hr.mono (by decide)) rfl (@pa_c _ _ _ _ _ (pv 2) pa_nil rfl) (by decide) rfl) rfl) (@pss_cons _ _ _ _ _ (@ps_if _ _ _ _ _ _ _ _ (@pt_cmpR _ _ _ _ _ _ _ _ op_ge (@pe_fldK _ (K) _ _ _ _ rfl (pv 2) rfl) (@pe_gint _ _ _ _ rfl T.BLOCKS (by decide)) (nomark _)) (@pss_cons _ _ _ _ _ (@ps_fldK _ (K) _ _ _ _ _ _ _ rfl (pv 2) (@pe_op _ _ _ _ _ _ _ _ op_sub (@pe_gint _ _ _ _ rfl T.WORDS (by decide)) pe_int) rfl) (@pss_one _ _ _ ps_retN)) pss_nil) (@pss_cons _ _ _ _ _ (@ps_set _ _ (4) _ _ _ _ sc_do_with_block.nd rfl (Or.inl rfl) (@pe_ix _ _ _ _ _ _ _ (ix_listK (K:=K) rfl) (@pe_fldK _ (K) _ _ _ _ rfl (pv 0) rfl) (@pe_fldK _ (K) _ _ _ _ rfl (pv 2) rfl) (fun _ _=>rfl)) rfl (by first | exact .inl rfl | exact .inr rfl | assumption)) (@pss_cons _ _ _ _ _ (@ps_cut _ _ _ (@ps_if _ _ _ _ _ _ _ _ (@pt_cmpR _ _ _ _ _ _ _ _ op_eq (pv 1) (@pe_gint _ _ _ _ rfl T.FETCH (by decide)) (nomark _)) (@pss_one _ _ _ (@ps_expr _ _ _ _ (@pe_gcallN _ _ _ _ _ _ _ _ _ _ G_fetch_block (hr.mono (by decide)) rfl (@pa_c _ _ _ _ _ (pv 2) (@pa_c _ _ _ _ _ (pv 4) (@pa_c _ _ _ _ _ (pv 3) pa_nil rfl) rfl) rfl) (by decide) rfl) rfl)) (@pss_one _ _ _ (@ps_expr _ _ _ _ (@pe_gcallN _ _ _ _ _ _ _ _ _ _ G_store_block (hr.mono (by decide)) rfl (@pa_c _ _ _ _ _ (pv 2) (@pa_c _ _ _ _ _ (pv 4) (@pa_c _ _ _ _ _ (pv 3) pa_nil rfl) rfl) rfl) (by decide) rfl) rfl)))) (@pss_one _ _ _ (@ps_fldK _ (K) _ _ _ _ _ _ _ rfl (pv 2) pe_int rfl)))))))),?_⟩
  wtm_at "uu"
  refine Sx.ixN D.m.cl a0 (by omega) ?_
  have ec:u.m.cells.getD u.m.at_.toNat 0 = cellM u.m u.m.at_:=rfl
  rw [ec]
  wtm_at "uu"
  refine ⟨B.mp,B.c,B.dm,u.m,rfl,D.m,trivial,fun H1 M1 F1=>?_⟩
  have D1:PAt CP CM H1 B (pastU u):=D.setM M1 F1
  have F1':FrL H H1 (foot B):=frM F1
  generalize hbb:cellM u.m u.m.at_ % 64 = b
  wtm_at "uu"
  refine iteD (fun g=>?_) (fun g=>?_)
  ·have g':4≤u.m.total:=g
   wtm_at "uu"
   refine w_total T D1 fun H2 D2 F2=>?_
   wtm_at "uu"
   refine k _ (D2.same ?_) (F1'.trans F2)
   unfold carryU
   dsimp only
   rw [if_pos (by omega)]
   rfl
  have g':¬ 4≤u.m.total:=g
  have g3:¬ 3 < u.m.total:=by omega
  have ht4:u.m.total.toNat < 4:=by omega
  have hbs:B.bs.length = 4:=by rw [D.blk.1];exact hbl
  obtain ⟨bt,hbt⟩:∃ bt,B.bs[u.m.total.toNat]? = some bt:=⟨B.bs[u.m.total.toNat]'(by omega),List.getElem?_eq_getElem (by omega)⟩
  obtain ⟨wt,hwt⟩:∃ wt,u.blk[u.m.total.toNat]? = some wt:=⟨u.blk[u.m.total.toNat]'(by omega),List.getElem?_eq_getElem (by omega)⟩
  have hwl:=hR.bw wt (List.mem_of_getElem? hwt)
  have ewt:u.blk.getD u.m.total.toNat [] = wt:=by rw [List.getD_eq_getElem?_getD,hwt];rfl
  have hd:bt∈foot B:=f_bs (List.mem_of_getElem? hbt)
  wtm_at "uu"
  refine Sx.ixL D1.l_blk (v:=.ref bt) ?_ ?_
  ·show atI (B.bs.map V.ref) u.m.total = some (.ref bt)
   have e:u.m.total = ((u.m.total.toNat:Nat):Int):=by omega
   rw [e]
   exact atI_nat (by rw [List.getElem?_map,hbt];rfl)
  wtm_at "uu"
  generalize htt:u.m.total.toNat = tn at *
  have n1:bt≠B.mp:=D.nb D.mp_bs hbt
  have n2:bt≠B.c:=D.nb D.c_bs hbt
  have hb1:H1 bt = some (.lst (wt.map V.int)):=D1.blk.2 _ _ _ hbt hwt
  refine Sx.cut (fun σ' H'=>σ' = [some (.ref B.p),some (.int pl),some (.ref B.mp),some (.int b),some (.ref bt)]∧PAt CP CM H' B (if pl = 5 then { pastU u with m:={ (pastU u).m with cells:=fetchN b wt 16 u.m.cells } } else { pastU u with blk:=u.blk.set tn (storeN b u.m.cells 16 wt) })∧FrL H H' (foot B)) ?_ ?_
  ·wtm_at "uu"
   refine iteD (fun g5=>?_) (fun g5=>?_)
   ·wtm_at "uu"
    refine ⟨B.mp,B.c,B.dm,(pastU u).m,bt,wt,b,rfl,D1.m,hb1,n1,n2,hwl,hlen,fun H2 M2 F2=>⟨rfl,(D1.setM M2 F2).same ?_,F1'.trans (frM F2)⟩⟩
    rw [if_pos g5]
    rfl
   ·wtm_at "uu"
    refine ⟨B.mp,B.c,B.dm,(pastU u).m,bt,wt,b,rfl,D1.m,hb1,n1,n2,hwl,hlen,fun H2 e2=>?_⟩
    subst e2
    refine ⟨rfl,(D1.setB hbt hwt).same ?_,F1'.trans (FrL.upd hd)⟩
    rw [if_neg g5]
    rfl
  rintro _ H2 ⟨rfl,D2,F2⟩
  wtm_at "uu"
  refine w_total T D2 fun H3 D3 F3=>?_
  refine k _ (D3.same ?_) (F2.trans F3)
  unfold carryU
  dsimp only
  rw [if_neg g3,hbb,htt,ewt]
  split <;> rfl
theorem ok_ask (R:Raw K mg "do_ask" s_do_ask) (T:TxtP K mg CP CM) (G_skip_if:GF P w K mg base "skip_if" ["machine","so"] 3 (sp_skip CM)) (G_do_hear:GF P w K mg base "do_hear" ["person","place"] 2 (spP1 CP CM preB (fun u _=>hearU u))) (G_do_say:GF P w K mg base "do_say" ["person","place"] 2 (spP1 CP CM preB (fun u _=>sayU u)))
  (G_do_sleep:GF P w K mg base "do_sleep" ["person"] 1 (spP CP CM RgU sleepU)) (G_do_with_block:GF P w K mg base "do_with_block" ["person","asked"] 3 (spP1 CP CM (fun u a=>RgU u∧(a = 5∨a = 6)) carryU)) :
  GF P w K mg base "do_ask" ["person","asked","place"] 4 (spP2 CP CM (fun u _ b=>preB u b) askU):=by
 refine GF.mk R sc_do_ask (by wtm_at "3") (fun vs H Q E h=>?_) (fun f cdv A outer s H vs Q E hr h=>?_)
 ·obtain ⟨B,u,a,b,rfl,_⟩:=h;rfl
 ·obtain ⟨B,u,a,b,rfl,D,hB,k⟩:=h
  have hR:=hB.1
  have hol:=hR.outl
  refine ⟨_,(@pss_cons _ _ _ _ _ (@ps_set _ _ (3) _ _ _ _ sc_do_ask.nd rfl (Or.inl rfl) (@pe_fldK _ (K) _ _ _ _ rfl (pv 0) rfl) rfl (by first | exact .inl rfl | exact .inr rfl | assumption)) (@pss_one _ _ _ (@ps_if _ _ _ _ _ _ _ _ (@pt_cmpR _ _ _ _ _ _ _ _ op_eq (pv 1) (@pe_gint _ _ _ _ rfl T.HEARD (by decide)) (nomark _)) (@pss_one _ _ _ (@ps_expr _ _ _ _ (@pe_gcallN _ _ _ _ _ _ _ _ _ _ G_skip_if (hr.mono (by decide)) rfl (@pa_c _ _ _ _ _ (pv 3) (@pa_c _ _ _ _ _ (@pe_cmpR _ _ _ _ _ _ _ _ op_gt (@pe_callBN _ _ _ _ _ _ _ _ _ (call_len_seqK (K:=K) rfl) (by rfl) T.len_ bo_len (@pa_c _ _ _ _ _ (@pe_fldK _ (K) _ _ _ _ rfl (pv 0) rfl) pa_nil rfl) (by decide) (by decide) rfl) pe_int (nomark _)) pa_nil rfl) rfl) (by decide) rfl) rfl)) (@pss_one _ _ _ (@ps_if _ _ _ _ _ _ _ _ (@pt_cmpR _ _ _ _ _ _ _ _ op_eq (pv 1) (@pe_gint _ _ _ _ rfl T.HEAR (by decide)) (nomark _)) (@pss_one _ _ _ (@ps_expr _ _ _ _ (@pe_gcallN _ _ _ _ _ _ _ _ _ _ G_do_hear (hr.mono (by decide)) rfl (@pa_c _ _ _ _ _ (pv 0) (@pa_c _ _ _ _ _ (pv 2) pa_nil rfl) rfl) (by decide) rfl) rfl)) (@pss_one _ _ _ (@ps_if _ _ _ _ _ _ _ _ (@pt_cmpR _ _ _ _ _ _ _ _ op_eq (pv 1) (@pe_gint _ _ _ _ rfl T.ROOM (by decide)) (nomark _)) (@pss_one _ _ _ (@ps_expr _ _ _ _ (@pe_gcallN _ _ _ _ _ _ _ _ _ _ G_skip_if (hr.mono (by decide)) rfl (@pa_c _ _ _ _ _ (pv 3) (@pa_c _ _ _ _ _ (@pe_cmpR _ _ _ _ _ _ _ _ op_lt (@pe_callBN _ _ _ _ _ _ _ _ _ (call_len_seqK (K:=K) rfl) (by rfl) T.len_ bo_len (@pa_c _ _ _ _ _ (@pe_fldK _ (K) _ _ _ _ rfl (pv 0) rfl) pa_nil rfl) (by decide) (by decide) rfl) (@pe_gint _ _ _ _ rfl T.MOST_LETTERS (by decide)) (nomark _)) pa_nil rfl) rfl) (by decide) rfl) rfl)) (@pss_one _ _ _ (@ps_if _ _ _ _ _ _ _ _ (@pt_cmpR _ _ _ _ _ _ _ _ op_eq (pv 1) (@pe_gint _ _ _ _ rfl T.SAY (by decide)) (nomark _)) (@pss_one _ _ _ (@ps_expr _ _ _ _ (@pe_gcallN _ _ _ _ _ _ _ _ _ _ G_do_say (hr.mono (by decide)) rfl (@pa_c _ _ _ _ _ (pv 0) (@pa_c _ _ _ _ _ (pv 2) pa_nil rfl) rfl) (by decide) rfl) rfl)) (@pss_one _ _ _ (@ps_if _ _ _ _ _ _ _ _ (@pt_cmpR _ _ _ _ _ _ _ _ op_eq (pv 1) (@pe_gint _ _ _ _ rfl T.SLEEP (by decide)) (nomark _)) (@pss_one _ _ _ (@ps_expr _ _ _ _ (@pe_gcallN _ _ _ _ _ _ _ _ _ _ G_do_sleep (hr.mono (by decide)) rfl (@pa_c _ _ _ _ _ (pv 0) pa_nil rfl) (by decide) rfl) rfl)) (@pss_one _ _ _ (@ps_if _ _ _ _ _ _ _ _ (@PW.pt _ _ _ (@pw_or _ _ _ _ _ _ _ (@pt_cmpR _ _ _ _ _ _ _ _ op_eq (pv 1) (@pe_gint _ _ _ _ rfl T.FETCH (by decide)) (nomark _)) (@pw_or1 _ _ _ _ (@pt_cmpR _ _ _ _ _ _ _ _ op_eq (pv 1) (@pe_gint _ _ _ _ rfl T.STORE (by decide)) (nomark _))))) (@pss_one _ _ _ (@ps_expr _ _ _ _ (@pe_gcallN _ _ _ _ _ _ _ _ _ _ G_do_with_block (hr.mono (by decide)) rfl (@pa_c _ _ _ _ _ (pv 0) (@pa_c _ _ _ _ _ (pv 1) pa_nil rfl) rfl) (by decide) rfl) rfl)) (@pss_one _ _ _ (@ps_if _ _ _ _ _ _ _ _ (@pt_cmpR _ _ _ _ _ _ _ _ op_eq (pv 1) (@pe_gint _ _ _ _ rfl T.STOP (by decide)) (nomark _)) (@pss_one _ _ _ (@ps_fldK _ (K) _ _ _ _ _ _ _ rfl (pv 0) (@pe_gstr _ _ _ _ rfl T.STOPPED (by decide)) rfl)) (@pss_one _ _ _ (@ps_if _ _ _ _ _ _ _ _ (@pt_cmpR _ _ _ _ _ _ _ _ op_eq (pv 1) (@pe_gint _ _ _ _ rfl T.LOOK (by decide)) (nomark _)) (@pss_one _ _ _ (@ps_fldK _ (K) _ _ _ _ _ _ _ rfl (pv 3) (@pe_fldK _ (K) _ _ _ _ rfl (pv 0) rfl) rfl)) pss_nil))))))))))))))))),?_⟩
  wtm_at "uu"
  unfold askU at k
  refine iteD (fun g=>?_) (fun g0=>?_)
  ·rw [if_pos g] at k
   wtm_at "uu"
   refine ⟨B.ib,_,rfl,.inl (SqL.of D.l_in),?_⟩
   rw [List.length_map]
   wtm_at "uu"
   refine ⟨B.mp,B.c,B.dm,u.m,_,rfl,D.m,fun H1 M1 F1=>k _ ((D.setM M1 F1).same ?_) (frM F1)⟩
   by_cases z:u.inb = []
   ·have:decide ((0:Int) < ((u.inb.length:Nat):Int)) = false:=decide_eq_false (by rw [z];decide)
    rw [this,if_neg Bool.false_ne_true,if_pos z]
   ·have:decide ((0:Int) < ((u.inb.length:Nat):Int)) = true:=decide_eq_true (by have:=List.length_pos_iff.mpr z;omega)
    rw [this,if_pos rfl,if_neg z]
    rfl
  rw [if_neg g0] at k
  wtm_at "uu"
  refine iteD (fun g=>?_) (fun g1=>?_)
  ·rw [if_pos g] at k
   wtm_at "uu"
   exact ⟨B,u,b,rfl,D,hB,k⟩
  rw [if_neg g1] at k
  wtm_at "uu"
  refine iteD (fun g=>?_) (fun g2=>?_)
  ·rw [if_pos g] at k
   wtm_at "uu"
   refine ⟨B.ob,_,rfl,.inl (SqL.of D.l_out),?_⟩
   rw [List.length_map]
   wtm_at "uu"
   refine ⟨B.mp,B.c,B.dm,u.m,_,rfl,D.m,fun H1 M1 F1=>k _ ((D.setM M1 F1).same ?_) (frM F1)⟩
   by_cases z:u.outb.length < 16
   ·have:decide (((u.outb.length:Nat):Int) < 16) = true:=decide_eq_true (by omega)
    rw [this,if_pos rfl,if_pos z]
    rfl
   ·have:decide (((u.outb.length:Nat):Int) < 16) = false:=decide_eq_false (by omega)
    rw [this,if_neg Bool.false_ne_true,if_neg z]
  rw [if_neg g2] at k
  wtm_at "uu"
  refine iteD (fun g=>?_) (fun g3=>?_)
  ·rw [if_pos g] at k
   wtm_at "uu"
   exact ⟨B,u,b,rfl,D,hB,k⟩
  rw [if_neg g3] at k
  wtm_at "uu"
  refine iteD (fun g=>?_) (fun g4=>?_)
  ·rw [if_pos g] at k
   wtm_at "uu"
   exact ⟨B,u,rfl,D,hR,k⟩
  rw [if_neg g4] at k
  have blk:(a = 5∨a = 6)→spP1 CP CM (fun u a=>RgU u∧(a = 5∨a = 6)) carryU [.ref B.p,.int a] H Q E:=fun z=>by
   rw [if_pos z] at k
   exact ⟨B,u,a,rfl,D,⟨hR,z⟩,k⟩
  have rest:¬ (a = 5∨a = 6)→∀ H',PAt CP CM H' B (if a = 7 then { u with st:=.stopped } else if a = 8 then setT u u.sw else u)→FrL H H' (foot B)→Q .non H':=fun z=>by
   rw [if_neg z] at k
   exact k
  wtm_at "uu"
  refine iteD (fun g=>?_) (fun g5=>?_)
  ·wtm_at "uu"
   exact blk (.inl g)
  wtm_at "uu"
  refine iteD (fun g=>?_) (fun g6=>?_)
  ·wtm_at "uu"
   exact blk (.inr g)
  have k:=rest (fun z=>z.elim g5 g6)
  wtm_at "uu"
  refine iteD (fun g=>?_) (fun g7=>?_)
  ·rw [if_pos g] at k
   wtm_at "uu"
   exact w_state (y:=.stopped) T D k
  rw [if_neg g7] at k
  wtm_at "uu"
  refine iteD (fun g=>?_) (fun g8=>?_)
  ·rw [if_pos g] at k
   wtm_at "uu"
   exact w_total T D k
  rw [if_neg g8] at k
  exact k _ D FrL.refl
theorem ok_step (R:Raw K mg "take_step" s_take_step) (T:TxtP K mg CP CM) (G_deed:GF P w K mg base "deed" ["machine"] 5 (sp_deed CM)) (G_do_ask:GF P w K mg base "do_ask" ["person","asked","place"] 4 (spP2 CP CM (fun u _ b=>preB u b) askU)):GF P w K mg base "take_step" ["person"] 6 (spP CP CM RgU stepU):=by
 refine GF.mk R sc_take_step (by wtm_at "1") (fun vs H Q E h=>?_) (fun f cdv A outer s H vs Q E hr h=>?_)
 ·obtain ⟨B,u,rfl,_⟩:=h;rfl
 ·obtain ⟨B,u,rfl,D,hR,k⟩:=h
  have hm:=hR.rm
  have a0:=hm.a0
  have a1:=hm.a1
  refine ⟨_,(@pss_one _ _ _ (@ps_if _ _ _ _ _ _ _ _ (@pt_cmpR _ _ _ _ _ _ _ _ op_eq (@pe_fldK _ (K) _ _ _ _ rfl (pv 0) rfl) (@pe_gstr _ _ _ _ rfl T.READY (by decide)) (nomark _)) (@pss_cons _ _ _ _ _ (@ps_fldK _ (K) _ _ _ _ _ _ _ rfl (pv 0) (@pe_op _ _ _ _ _ _ _ _ op_add (@pe_fldK _ (K) _ _ _ _ rfl (pv 0) rfl) pe_int) rfl) (@pss_cons _ _ _ _ _ (@ps_set _ _ (1) _ _ _ _ sc_take_step.nd rfl (Or.inl rfl) (@pe_fldK _ (K) _ _ _ _ rfl (@pe_fldK _ (K) _ _ _ _ rfl (pv 0) rfl) rfl) rfl (by first | exact .inl rfl | exact .inr rfl | assumption)) (@pss_cons _ _ _ _ _ (@ps_set _ _ (2) _ _ _ _ sc_take_step.nd rfl (Or.inl rfl) (@pe_gcallN _ _ _ _ _ _ _ _ _ _ G_deed (hr.mono (by decide)) rfl (@pa_c _ _ _ _ _ (@pe_fldK _ (K) _ _ _ _ rfl (pv 0) rfl) pa_nil rfl) (by decide) rfl) rfl (by first | exact .inl rfl | exact .inr rfl | assumption)) (@pss_one _ _ _ (@ps_if _ _ _ _ _ _ _ _ (@pt_cmpR _ _ _ _ _ _ _ _ op_notN (pv 2) pe_non (nomark _)) (@pss_one _ _ _ (@ps_expr _ _ _ _ (@pe_gcallN _ _ _ _ _ _ _ _ _ _ G_do_ask (hr.mono (by decide)) rfl (@pa_c _ _ _ _ _ (pv 0) (@pa_c _ _ _ _ _ (pv 2) (@pa_c _ _ _ _ _ (pv 1) pa_nil rfl) rfl) rfl) (by decide) rfl) rfl)) pss_nil))))) pss_nil)),?_⟩
  wtm_at "uu"
  refine iteD (fun g=>?_) (fun g=>?_)
  ·have g':u.st = .ready:=St5.inj.mp g
   have es:stepU u = deedU u:=by unfold stepU;rw [if_pos g']
   rw [es] at k
   wtm_at "uu"
   refine w_done T D fun H1 D1 F1=>?_
   wtm_at "uu"
   refine ⟨B.mp,B.c,B.dm,u.m,rfl,D1.m,⟨hm.len,a0,a1⟩,fun H2 M2 F2=>?_⟩
   have D2:PAt CP CM H2 B { u with done:=u.done + 1,m:=(deedM u.m).2 }:=D1.setM M2 F2
   have F02:FrL H H2 (foot B):=F1.trans (frM F2)
   cases ha:(deedM u.m).1 with
   | none =>
    wtm_at "uu"
    refine iteNS rfl ?_
    refine k _ (D2.same ?_) F02
    unfold deedU
    dsimp only
    rw [ha]
   | some p =>
    wtm_at "uu"
    refine iteN (fun _=>?_) (fun z=>by cases z)
    wtm_at "uu"
    refine ⟨B,_,p,u.m.at_,rfl,D2,⟨hR.deed,?_⟩,fun H3 D3 F3=>k _ (D3.same ?_) (F02.trans F3)⟩
    ·show u.m.at_ = ((deedM u.m).2.at_ + 63) % 64
     rw [deed_ask2 ha]
     show u.m.at_ = ((u.m.at_ + 1) % 64 + 63) % 64
     omega
    ·unfold deedU
     dsimp only
     rw [ha]
  ·have g':¬ u.st = .ready:=fun z=>g (St5.inj.mpr z)
   refine k _ (D.same ?_) FrL.refl
   unfold stepU
   rw [if_neg g']
def sp_happenP (K:PySem.W.Frag) (CP CM:Addr):Sp:=fun vs H Q _=>∃ A u e ev,vs = [.ref A.p,.ref e]∧PAt CP CM H A u∧RgU u∧SqT K H e (evV ev)∧∀ H',PAt CP CM H' A (happenU u ev)→FrL H H' (foot A)→Q .non H'
theorem ok_happen (R:Raw K mg "happen" s_happen) (T:TxtP K mg CP CM) (G_take_start:GF P w K mg base "take_start" ["person","place"] 1 (spP1 CP CM (fun _ _=>True) startU)) (G_take_key:GF P w K mg base "take_key" ["person","letter"] 1 (spP1 CP CM (fun u _=>RgU u) keyU))
  (G_take_tick:GF P w K mg base "take_tick" ["person"] 1 (spP CP CM RgU tickU)) (G_take_step:GF P w K mg base "take_step" ["person"] 6 (spP CP CM RgU stepU)):GF P w K mg base "happen" ["person","event"] 7 (sp_happenP K CP CM):=by
 refine GF.mk R sc_happen (by wtm_at "2") (fun vs H Q E h=>?_) (fun f cdv A outer s H vs Q E hr h=>?_)
 ·obtain ⟨B,u,e,ev,rfl,_⟩:=h;rfl
 ·obtain ⟨B,u,e,ev,rfl,D,hR,hS,k⟩:=h
  refine ⟨_,(@pss_cons _ _ _ _ _ (@ps_set _ _ (2) _ _ _ _ sc_happen.nd rfl (Or.inl rfl) (@pe_ix _ _ _ _ _ _ _ (ix_tupK (K:=K) rfl) (pv 1) pe_int (fun _ _=>rfl)) rfl (by first | exact .inl rfl | exact .inr rfl | assumption)) (@pss_one _ _ _ (@ps_if _ _ _ _ _ _ _ _ (@pt_cmpR _ _ _ _ _ _ _ _ op_eq (pv 2) pe_str (nomark _)) (@pss_one _ _ _ (@ps_expr _ _ _ _ (@pe_gcallN _ _ _ _ _ _ _ _ _ _ G_take_start (hr.mono (by decide)) rfl (@pa_c _ _ _ _ _ (pv 0) (@pa_c _ _ _ _ _ (@pe_ix _ _ _ _ _ _ _ (ix_tupK (K:=K) rfl) (pv 1) pe_int (fun _ _=>rfl)) pa_nil rfl) rfl) (by decide) rfl) rfl)) (@pss_one _ _ _ (@ps_if _ _ _ _ _ _ _ _ (@pt_cmpR _ _ _ _ _ _ _ _ op_eq (pv 2) pe_str (nomark _)) (@pss_one _ _ _ (@ps_expr _ _ _ _ (@pe_gcallN _ _ _ _ _ _ _ _ _ _ G_take_key (hr.mono (by decide)) rfl (@pa_c _ _ _ _ _ (pv 0) (@pa_c _ _ _ _ _ (@pe_ix _ _ _ _ _ _ _ (ix_tupK (K:=K) rfl) (pv 1) pe_int (fun _ _=>rfl)) pa_nil rfl) rfl) (by decide) rfl) rfl)) (@pss_one _ _ _ (@ps_if _ _ _ _ _ _ _ _ (@pt_cmpR _ _ _ _ _ _ _ _ op_eq (pv 2) pe_str (nomark _)) (@pss_one _ _ _ (@ps_expr _ _ _ _ (@pe_gcallN _ _ _ _ _ _ _ _ _ _ G_take_tick (hr.mono (by decide)) rfl (@pa_c _ _ _ _ _ (pv 0) pa_nil rfl) (by decide) rfl) rfl)) (@pss_one _ _ _ (@ps_if _ _ _ _ _ _ _ _ (@pt_cmpR _ _ _ _ _ _ _ _ op_eq (pv 2) pe_str (nomark _)) (@pss_one _ _ _ (@ps_expr _ _ _ _ (@pe_gcallN _ _ _ _ _ _ _ _ _ _ G_take_step (hr.mono (by decide)) rfl (@pa_c _ _ _ _ _ (pv 0) pa_nil rfl) (by decide) rfl) rfl)) pss_nil))))))))),?_⟩
  have n1:¬ ("key" : Str) = "tick":=by decide +kernel
  have n2:¬ ("key" : Str) = "start":=by decide +kernel
  have n3:¬ ("key" : Str) = "step":=by decide +kernel
  have n4:¬ ("tick" : Str) = "start":=by decide +kernel
  have n5:¬ ("tick" : Str) = "step":=by decide +kernel
  have n6:¬ ("start" : Str) = "step":=by decide +kernel
  cases ev with
  | start p =>
   wtm_at "uu"
   refine ixTS (i:=0) hS rfl ?_
   wtm_at "uu"
   refine iteD (fun _=>?_) (fun z=>(z rfl).elim)
   wtm_at "uu"
   refine ixTS (i:=1) hS rfl ?_
   wtm_at "uu"
   exact ⟨B,u,p,rfl,D,trivial,k⟩
  | key l =>
   wtm_at "uu"
   refine ixTS (i:=0) hS rfl ?_
   wtm_at "uu"
   refine iteD (fun z=>(n2 z).elim) (fun _=>?_)
   wtm_at "uu"
   refine iteD (fun _=>?_) (fun z=>(z rfl).elim)
   wtm_at "uu"
   refine ixTS (i:=1) hS rfl ?_
   wtm_at "uu"
   exact ⟨B,u,l,rfl,D,hR,k⟩
  | tick =>
   wtm_at "uu"
   refine ixTS (i:=0) hS rfl ?_
   wtm_at "uu"
   refine iteD (fun z=>(n4 z).elim) (fun _=>?_)
   wtm_at "uu"
   refine iteD (fun z=>(n1 z.symm).elim) (fun _=>?_)
   wtm_at "uu"
   refine iteD (fun _=>?_) (fun z=>(z rfl).elim)
   wtm_at "uu"
   exact ⟨B,u,rfl,D,hR,k⟩
  | step =>
   wtm_at "uu"
   refine ixTS (i:=0) hS rfl ?_
   wtm_at "uu"
   refine iteD (fun z=>(n6 z.symm).elim) (fun _=>?_)
   wtm_at "uu"
   refine iteD (fun z=>(n3 z.symm).elim) (fun _=>?_)
   wtm_at "uu"
   refine iteD (fun z=>(n5 z.symm).elim) (fun _=>?_)
   wtm_at "uu"
   refine iteD (fun _=>?_) (fun z=>(z rfl).elim)
   wtm_at "uu"
   exact ⟨B,u,rfl,D,hR,k⟩
end
end Pp
namespace Pp
open PySem L2 Mir Pr Tx Lw Dm Us Du
def sp_initT (C:Addr) (K:PySem.W.Frag):Sp:=fun vs H Q _=>∃ (p dx l:Addr) (ns:List Int) (t k a:Int),vs = [.ref p,.ref l,.int t,.int k,.int a]∧H p = some (.ins C dx [])∧(SqL K H l (ns.map V.int)∨SqT K H l (ns.map V.int))∧ns.length≤1000 ∧
 ∀ c H',H c = none→MAt C H' p c dx ⟨ns,t,k,a⟩→(∀ b o,H b = some o→b≠p→H' b = some o)→Q .non H'
def sp_initP (K:PySem.W.Frag) (CP CM:Addr):Sp:=fun vs H Q _=>∃ (p dx l:Addr) (ns:List Int) (sw:Int),vs = [.ref p,.ref l,.int sw]∧H p = some (.ins CP dx [])∧(SqL K H l (ns.map V.int)∨SqT K H l (ns.map V.int))∧ns.length≤1000 ∧
 ∀ A H',A.p = p→PAt CP CM H' A (newU ns sw)→(∀ x∈foot A,x = p∨H x = none)→FrL H H' [p]→Q .non H'
theorem mem1 {p:Addr}:p∈[p]:=List.mem_cons_self
theorem nmem1 {x p:Addr} (h:x≠p):x∉[p]:=fun z=>h (List.mem_singleton.mp z)
theorem two {H:Hp} {p a x:Addr} {o1 o2 v:HO} (h:H x = some v) (hx:x≠p) (na:H a = none):(upd (upd H a o1) p o2) x = some v:=by rw [upd_ne hx,upd_ne (ne_of_none h na)];exact h
theorem twoA {H:Hp} {p a:Addr} {o1 o2:HO} (na:a≠p):(upd (upd H a o1) p o2) a = some o1:=by rw [upd_ne na,upd_same]
theorem SqLT.same {K:PySem.W.Frag} {H H':Hp} {l:Addr} {xs:List V} (s:Same H H') (h:SqL K H l xs∨SqT K H l xs):SqL K H' l xs∨SqT K H' l xs:=h.elim (fun z=>.inl (s.seq z)) (fun z=>.inr (s.seqT z))
theorem make_mT {K:PySem.W.Frag} {C l:Addr} {H:Hp} {c1:List Int} {t k a:Int} {Q:Addr→Hp→Prop} (hS:SqL K H l (c1.map V.int)∨SqT K H l (c1.map V.int)) (hlen:c1.length≤1000)
  (q:∀ x c dx H',H x = none→H c = none→MAt C H' x c dx ⟨c1,t,k,a⟩→Same H H'→Q x H') :
  ∀ x dx,H x = none→H dx = none→dx≠x→sp_initT C K (.ref x::([.ref l,.int t,.int k,.int a] ++ [])) (upd (upd H dx (.own x)) x (.ins C dx [])) (fun v H2=>v = .non∧Q x H2) E0:=by
 intro x dx nx ndx nex
 have s1:Same H (upd (upd H dx (.own x)) x (.ins C dx [])):=((Same.refl H).upd ndx).upd nx
 refine ⟨x,dx,l,c1,t,k,a,rfl,upd_same,SqLT.same s1 hS,hlen,fun c H' hc M F=>⟨rfl,q x c dx H' nx (s1.free hc) M fun b o e=>F b o (s1 b o e) (ne_of_none e nx)⟩⟩
theorem make_p {K:PySem.W.Frag} {CP CM l:Addr} {H:Hp} {c1:List Int} {sw:Int} {Q:Addr→Hp→Prop} (hS:SqL K H l (c1.map V.int)∨SqT K H l (c1.map V.int)) (hlen:c1.length≤1000)
  (q:∀ A H',(∀ x∈foot A,H x = none)→PAt CP CM H' A (newU c1 sw)→Same H H'→Q A.p H') :
  ∀ x dx,H x = none→H dx = none→dx≠x→sp_initP K CP CM (.ref x::([.ref l,.int sw] ++ [])) (upd (upd H dx (.own x)) x (.ins CP dx [])) (fun v H2=>v = .non∧Q x H2) E0:=by
 intro x dx nx ndx nex
 have s1:Same H (upd (upd H dx (.own x)) x (.ins CP dx [])):=((Same.refl H).upd ndx).upd nx
 refine ⟨x,dx,l,c1,sw,rfl,upd_same,SqLT.same s1 hS,hlen,fun A H' ep D hf F=>⟨rfl,?_⟩⟩
 have:=q A H' (fun y hy=>(hf y hy).elim (fun e=>by rw [e];exact nx) fun e=>s1.free e) D fun b o e=>F b o (s1 b o e) (nmem1 (ne_of_none e nx))
 rw [ep] at this
 exact this
section
variable {P:Program} {w:World} {K:PySem.W.Frag} {mg:Str→Option Value} {base:Heap} {CP CM:Addr}
theorem ok_initT {q:Str} (R:RawC K mg "Machine" q CM s_Machine_init) (T:TxtM K mg CM):GC P w K mg base "Machine" CM ["self","cells","total","mark","at"] 1 (sp_initT CM K):=by
 refine GC.mk R sc_Machine_init (fun _ _ _ _ _ _ us hl=>match us,hl with | [_,_,_,_,_],_=>rfl) (fun vs H Q E h=>?_) (fun f cdv A outer s H vs Q E hr h=>?_)
 ·obtain ⟨p,dx,l,ns,t,k,a,rfl,_⟩:=h;rfl
 ·obtain ⟨p,dx,l,ns,t,kk,a,rfl,hp,hS,hl,k⟩:=h
  refine ⟨_,(pss_cons (ps_fld (pv 0) (pe_callTy call_list_of (by rfl) T.list_ bo_list (pa_cons (pv 1) pa_nil)) rfl)
   (pss_cons (ps_fld (pv 0) (pv 2) rfl)
   (pss_cons (ps_fld (pv 0) (pv 3) rfl)
   (pss_one (ps_fld (pv 0) (pv 4) rfl))))),?_⟩
  refine ⟨_,rfl,l,_,rfl,hS,fun c hc=>?_⟩
  have npc:p≠c:=ne_of_none hp hc
  refine ⟨_,rfl,p,CM,dx,[],rfl,(by rw [upd_ne npc];exact hp),T.cl,T.n_cells,(by show 0 < 1000;decide),?_⟩
  refine ⟨_,rfl,_,rfl,p,CM,dx,_,rfl,upd_same,T.cl,T.n_total,(by show 1 < 1000;decide),?_⟩
  refine ⟨_,rfl,_,rfl,p,CM,dx,_,rfl,upd_same,T.cl,T.n_mark,(Nat.lt_of_le_of_lt (length_putF _ _ _) (by show 2 < 1000;decide)),?_⟩
  refine ⟨_,rfl,_,rfl,p,CM,dx,_,rfl,upd_same,T.cl,T.n_at,(Nat.lt_of_le_of_lt (length_putF _ _ _) (Nat.lt_of_le_of_lt (Nat.succ_le_succ (length_putF _ _ _)) (by show 3 < 1000;decide))),?_⟩
  refine k c _ hc ⟨?_,?_⟩ fun b o e hb=>?_
  ·rw [upd_same]
   exact congrArg (fun x=>some (HO.ins CM dx x)) (pf_init c ⟨ns,t,kk,a⟩)
  ·rw [upd_ne npc.symm,upd_ne npc.symm,upd_ne npc.symm,upd_ne npc.symm,upd_same]
  ·rw [upd_ne hb,upd_ne hb,upd_ne hb,upd_ne hb,upd_ne (ne_of_none e hc)]
   exact e
theorem ok_initP {q:Str} (R:RawC K mg "Person" q CP s_Person_init) (T:TxtP K mg CP CM) (M_Machine:GC P w K mg base "Machine" CM ["self","cells","total","mark","at"] 1 (sp_initT CM K)):GC P w K mg base "Person" CP ["self","cells","switches"] 3 (sp_initP K CP CM):=by
 refine GC.mk R sc_Person_init (by wtm_at "3") (fun vs H Q E h=>?_) (fun f cdv A outer s H vs Q E hr h=>?_)
 ·obtain ⟨p,dx,l,ns,sw,rfl,_⟩:=h;rfl
 ·obtain ⟨p,dx,l,ns,sw,rfl,hp,hS,hl,k⟩:=h
  refine ⟨_,(@pss_cons _ _ _ _ _ (@ps_fldK _ (K) _ _ _ _ _ _ _ rfl (pv 0) (@pe_gmakeN _ _ _ _ _ _ _ _ _ _ _ M_Machine (hr.mono (by decide)) rfl (@pa_c _ _ _ _ _ (pv 1) (@pa_c _ _ _ _ _ pe_int (@pa_c _ _ _ _ _ pe_int (@pa_c _ _ _ _ _ pe_int pa_nil rfl) rfl) rfl) rfl) (by decide) rfl) rfl) (@pss_cons _ _ _ _ _ (@ps_fldK _ (K) _ _ _ _ _ _ _ rfl (pv 0) (@pe_lst _ _ _ _ pa_nil) rfl) (@pss_cons _ _ _ _ _ (@ps_fldK _ (K) _ _ _ _ _ _ _ rfl (pv 0) (@pe_lst _ _ _ _ pa_nil) rfl) (@pss_cons _ _ _ _ _ (@ps_fldK _ (K) _ _ _ _ _ _ _ rfl (pv 0) (@pe_lst _ _ _ _ pa_nil) rfl) (@pss_cons _ _ _ _ _ (@ps_fldK _ (K) _ _ _ _ _ _ _ rfl (pv 0) (@pe_lcomp _ _ _ _ _ _ _ _ _ _ _ _ ([]) rfl (@pi_range1 _ _ _ _ _ _ rfl T.range_ (@pa_c _ _ _ _ _ (@pe_gint _ _ _ _ rfl T.BLOCKS (by decide)) pa_nil rfl) rfl) ⟨rfl,rfl,by decide +kernel,by decide +kernel,rfl,by decide +kernel,trivial,rfl,trivial⟩ (fun _ _ _ _=>pts_nil) (fun _ _ _ _=>(@pe_op _ _ _ _ _ _ _ _ op_rep (@pe_lst _ _ _ _ (@pa_c _ _ _ _ _ pe_int pa_nil rfl)) (@pe_gint _ _ _ _ rfl T.BLOCK_WORDS (by decide)))) (fun _=>rfl)) rfl) (@pss_cons _ _ _ _ _ (@ps_fldK _ (K) _ _ _ _ _ _ _ rfl (pv 0) (pv 2) rfl) (@pss_cons _ _ _ _ _ (@ps_fldK _ (K) _ _ _ _ _ _ _ rfl (pv 0) (@pe_gstr _ _ _ _ rfl T.STOPPED (by decide)) rfl) (@pss_cons _ _ _ _ _ (@ps_fldK _ (K) _ _ _ _ _ _ _ rfl (pv 0) pe_int rfl) (@pss_cons _ _ _ _ _ (@ps_fldK _ (K) _ _ _ _ _ _ _ rfl (pv 0) pe_int rfl) (@pss_one _ _ _ (@ps_fldK _ (K) _ _ _ _ _ _ _ rfl (pv 0) pe_int rfl))))))))))),?_⟩
  wtm_at "uu"
  refine make_mT hS hl fun mp c dm H1 nmp nc M1 s1=>?_
  have npm:p≠mp:=ne_of_none hp nmp
  have npc:p≠c:=ne_of_none hp nc
  have nmc:mp≠c:=M1.ne
  have hp1:=s1 _ _ hp
  have F1:FrL H H1 [p]:=fun b o e _=>s1 b o e
  wtm_at "uu"
  refine ⟨p,CP,dx,[],rfl,hp1,T.clP,T.n_machine,by show 0 < 1000;decide,?_⟩
  have hp2:(upd H1 p (.ins CP dx (putF "machine" (.ref mp) []))) p = some (.ins CP dx [("machine",.ref mp)]):=by rw [upd_same];rfl
  have M2:MAt CM (upd H1 p (.ins CP dx (putF "machine" (.ref mp) []))) mp c dm ⟨ns,0,0,0⟩:=M1.other npm.symm npc.symm
  have F2:FrL H (upd H1 p (.ins CP dx (putF "machine" (.ref mp) []))) [p]:=F1.trans (FrL.upd mem1)
  generalize upd H1 p (.ins CP dx (putF "machine" (.ref mp) [])) = H2 at hp2 M2 F2 ⊢
  wtm_at "uu"
  refine ⟨by decide,fun ib nib=>?_⟩
  have nib_p:=ne_of_none hp2 nib
  have nib_m:=ne_of_none M2.ob nib
  have nib_c:=ne_of_none M2.cl nib
  have gib:H ib = none:=by
   cases z:H ib with
   | none=>rfl
   | some o=>have:=F2 _ _ z (nmem1 nib_p.symm);rw [nib] at this;cases this
  wtm_at "uu"
  refine ⟨p,CP,dx,_,rfl,by rw [upd_ne nib_p];exact hp2,T.clP,T.n_inbox,by show 1 < 1000;decide,?_⟩
  obtain ⟨H3,eH3⟩:∃ h,h = upd (upd H2 ib (.lst [])) p (.ins CP dx (putF "inbox" (.ref ib) [("machine",.ref mp)])):=⟨_,rfl⟩
  have hp3:H3 p = some (.ins CP dx [("machine",.ref mp),("inbox",.ref ib)]):=by rw [eH3,upd_same,putF_add (by simp only [List.map_cons,List.map_nil];decide +kernel)];rfl
  have M3:MAt CM H3 mp c dm ⟨ns,0,0,0⟩:=by rw [eH3];exact (M2.new nib).other npm.symm npc.symm
  have hib3:H3 ib = some (.lst []):=by rw [eH3];exact twoA nib_p.symm
  have F3:FrL H H3 [p]:=by rw [eH3];exact (F2.trans (FrL.new nib)).trans (FrL.upd mem1)
  rw [← eH3]
  clear eH3
  wtm_at "uu"
  refine ⟨by decide,fun ob nob=>?_⟩
  have nob_p:=ne_of_none hp3 nob
  have nob_m:=ne_of_none M3.ob nob
  have nob_c:=ne_of_none M3.cl nob
  have nob_ib:=ne_of_none hib3 nob
  have gob:H ob = none:=by
   cases z:H ob with
   | none=>rfl
   | some o=>have:=F3 _ _ z (nmem1 nob_p.symm);rw [nob] at this;cases this
  wtm_at "uu"
  refine ⟨p,CP,dx,_,rfl,by rw [upd_ne nob_p];exact hp3,T.clP,T.n_outbox,by show 2 < 1000;decide,?_⟩
  obtain ⟨H4,eH4⟩:∃ h,h = upd (upd H3 ob (.lst [])) p (.ins CP dx (putF "outbox" (.ref ob) [("machine",.ref mp),("inbox",.ref ib)])):=⟨_,rfl⟩
  have hp4:H4 p = some (.ins CP dx [("machine",.ref mp),("inbox",.ref ib),("outbox",.ref ob)]):=by rw [eH4,upd_same,putF_add (by simp only [List.map_cons,List.map_nil];decide +kernel)];rfl
  have M4:MAt CM H4 mp c dm ⟨ns,0,0,0⟩:=by rw [eH4];exact (M3.new nob).other npm.symm npc.symm
  have hib4:H4 ib = some (.lst []):=by rw [eH4];exact two hib3 nib_p.symm nob
  have hob4:H4 ob = some (.lst []):=by rw [eH4];exact twoA nob_p.symm
  have F4:FrL H H4 [p]:=by rw [eH4];exact (F3.trans (FrL.new nob)).trans (FrL.upd mem1)
  rw [← eH4]
  clear eH4
  wtm_at "uu"
  refine ⟨by decide,fun pp npp=>?_⟩
  have npp_p:=ne_of_none hp4 npp
  have npp_m:=ne_of_none M4.ob npp
  have npp_c:=ne_of_none M4.cl npp
  have npp_ib:=ne_of_none hib4 npp
  have npp_ob:=ne_of_none hob4 npp
  have gpp:H pp = none:=by
   cases z:H pp with
   | none=>rfl
   | some o=>have:=F4 _ _ z (nmem1 npp_p.symm);rw [npp] at this;cases this
  wtm_at "uu"
  refine ⟨p,CP,dx,_,rfl,by rw [upd_ne npp_p];exact hp4,T.clP,T.n_paper,by show 3 < 1000;decide,?_⟩
  obtain ⟨H5,eH5⟩:∃ h,h = upd (upd H4 pp (.lst [])) p (.ins CP dx (putF "paper" (.ref pp) [("machine",.ref mp),("inbox",.ref ib),("outbox",.ref ob)])):=⟨_,rfl⟩
  have hp5:H5 p = some (.ins CP dx [("machine",.ref mp),("inbox",.ref ib),("outbox",.ref ob),("paper",.ref pp)]):=by rw [eH5,upd_same,putF_add (by simp only [List.map_cons,List.map_nil];decide +kernel)];rfl
  have M5:MAt CM H5 mp c dm ⟨ns,0,0,0⟩:=by rw [eH5];exact (M4.new npp).other npm.symm npc.symm
  have hib5:H5 ib = some (.lst []):=by rw [eH5];exact two hib4 nib_p.symm npp
  have hob5:H5 ob = some (.lst []):=by rw [eH5];exact two hob4 nob_p.symm npp
  have hpp5:H5 pp = some (.lst []):=by rw [eH5];exact twoA npp_p.symm
  have F5:FrL H H5 [p]:=by rw [eH5];exact (F4.trans (FrL.new npp)).trans (FrL.upd mem1)
  rw [← eH5]
  clear eH5
  wtm_at "uu"
  refine ⟨4,rfl,by decide,by decide,lc_rangeI (lo:=0) (n:=4) (fun i acc H'=>Same H5 H'∧∃ bs:List Addr,bs.length = i∧acc = bs.map V.ref∧(∀ b∈bs,H' b = some (.lst ((List.replicate 16 (0:Int)).map V.int)))∧bs.Nodup∧∀ b∈bs,H5 b = none) (by decide) ⟨Same.refl _,[],rfl,rfl,by simp,List.nodup_nil,by simp⟩ (fun i acc H' h=>?_) (fun i acc H' hi h Q' q'=>?_) (fun acc H6 h bk nbk=>?_)⟩
  ·obtain ⟨_,bs,hl,rfl,_⟩:=h
   rw [List.length_map];exact hl
  ·obtain ⟨sm,bs,hl,rfl,hb,hn,hf⟩:=h
   wtm_at "uu"
   refine ⟨by show 1≤sizeLine;decide,fun q1 nq1=>?_⟩
   have sm1:=sm.new' (o:=.lst [.int 0]) nq1
   have hb1:∀ b∈bs,(upd H' q1 (.lst [.int 0])) b = some (.lst ((List.replicate 16 (0:Int)).map V.int)):=fun b z=>by rw [upd_ne (ne_of_none (hb b z) nq1)];exact hb b z
   wtm_at "uu"
   refine Sx.rep (x:=.int 0) upd_same (by decide) (by decide) fun p hp=>?_
   have nb:p∉bs:=fun z=>by rw [hb1 p z] at hp;cases hp
   have e16:List.replicate (16:Int).toNat (V.int 0) = (List.replicate 16 (0:Int)).map V.int:=rfl
   rw [e16]
   refine q' _ _ ⟨sm1.new' hp,bs ++ [p],by rw [List.length_append];simp [hl],by rw [List.map_append];rfl,fun b hb'=>?_,?_,fun b hb'=>?_⟩
   ·rcases List.mem_append.mp hb' with z | z
    ·rw [upd_ne (fun e=>nb (by rw [← e];exact z))];exact hb1 b z
    ·rw [List.mem_singleton.mp z,upd_same]
   ·rw [List.nodup_append]
    exact ⟨hn,by simp,fun x hx y hy=>by rw [List.mem_singleton.mp hy];exact fun e=>nb (by rw [← e];exact hx)⟩
   ·rcases List.mem_append.mp hb' with z | z
    ·exact hf b z
    ·rw [List.mem_singleton.mp z];exact sm1.free hp
  obtain ⟨s56,bs,hbl,rfl,hbs,hbn,hbf⟩:=h
  have hp6:=s56 _ _ hp5
  have M6:=M5.keep s56
  have hib6:=s56 _ _ hib5
  have hob6:=s56 _ _ hob5
  have hpp6:=s56 _ _ hpp5
  have F6:FrL H H6 [p]:=fun b o e n=>s56 _ _ (F5 b o e n)
  have nbk_p:=ne_of_none hp6 nbk
  have nbk_m:=ne_of_none M6.ob nbk
  have nbk_c:=ne_of_none M6.cl nbk
  have nbk_ib:=ne_of_none hib6 nbk
  have nbk_ob:=ne_of_none hob6 nbk
  have nbk_pp:=ne_of_none hpp6 nbk
  have gone:∀ {x:Addr},H5 x = none→H x = none:=fun {x} z=>by
   cases y:H x with
   | none=>rfl
   | some o =>
    by_cases e:x = p
    ·rw [e,hp5] at z;cases z
    ·have:=F5 _ _ y (nmem1 e);rw [z] at this;cases this
  have gbk:H bk = none:=gone (s56.free nbk)
  have off:∀ {x:Addr} {o:HO},H5 x = some o→x∉bs:=fun {x o} z y=>by rw [hbf x y] at z;cases z
  have nbk':bk∉bs:=fun z=>by have:=hbs bk z;rw [nbk] at this;cases this
  wtm_at "uu"
  refine ⟨p,CP,dx,_,rfl,by rw [upd_ne nbk_p];exact hp6,T.clP,T.n_blocks,by show 4 < 1000;decide,?_⟩
  obtain ⟨H7,eH7⟩:∃ h,h = upd (upd H6 bk (.lst (bs.map V.ref))) p (.ins CP dx (putF "blocks" (.ref bk) [("machine",.ref mp),("inbox",.ref ib),("outbox",.ref ob),("paper",.ref pp)])):=⟨_,rfl⟩
  have hp7:H7 p = some (.ins CP dx [("machine",.ref mp),("inbox",.ref ib),("outbox",.ref ob),("paper",.ref pp),("blocks",.ref bk)]):=by rw [eH7,upd_same,putF_add (by simp only [List.map_cons,List.map_nil];decide +kernel)];rfl
  have M7:MAt CM H7 mp c dm ⟨ns,0,0,0⟩:=by rw [eH7];exact (M6.new nbk).other npm.symm npc.symm
  have hib7:H7 ib = some (.lst []):=by rw [eH7];exact two hib6 nib_p.symm nbk
  have hob7:H7 ob = some (.lst []):=by rw [eH7];exact two hob6 nob_p.symm nbk
  have hpp7:H7 pp = some (.lst []):=by rw [eH7];exact two hpp6 npp_p.symm nbk
  have hbk7:H7 bk = some (.lst (bs.map V.ref)):=by rw [eH7];exact twoA nbk_p.symm
  have hbs7:∀ b∈bs,H7 b = some (.lst ((List.replicate 16 (0:Int)).map V.int)):=by rw [eH7];exact fun b z=>two (hbs b z) (fun e=>off hp5 (by rw [← e];exact z)) nbk
  have F7:FrL H H7 [p]:=by rw [eH7];exact (F6.trans (FrL.new nbk)).trans (FrL.upd mem1)
  rw [← eH7]
  clear eH7
  wtm_at "uu"
  refine ⟨p,CP,dx,_,rfl,hp7,T.clP,T.n_switches,by show 5 < 1000;decide,?_⟩
  obtain ⟨H8,eH8⟩:∃ h,h = upd H7 p (.ins CP dx (putF "switches" (.int sw) [("machine",.ref mp),("inbox",.ref ib),("outbox",.ref ob),("paper",.ref pp),("blocks",.ref bk)])):=⟨_,rfl⟩
  have hp8:H8 p = some (.ins CP dx [("machine",.ref mp),("inbox",.ref ib),("outbox",.ref ob),("paper",.ref pp),("blocks",.ref bk),("switches",.int sw)]):=by rw [eH8,upd_same,putF_add (by simp only [List.map_cons,List.map_nil];decide +kernel)];rfl
  have o8:∀ x,x≠p→H8 x = H7 x:=by rw [eH8];exact fun x hx=>upd_ne hx
  have F8:FrL H H8 [p]:=by rw [eH8];exact F7.trans (FrL.upd mem1)
  rw [← eH8]
  clear eH8
  wtm_at "uu"
  refine ⟨p,CP,dx,_,rfl,hp8,T.clP,T.n_state,by show 6 < 1000;decide,?_⟩
  obtain ⟨H9,eH9⟩:∃ h,h = upd H8 p (.ins CP dx (putF "state" (.str "stopped") [("machine",.ref mp),("inbox",.ref ib),("outbox",.ref ob),("paper",.ref pp),("blocks",.ref bk),("switches",.int sw)])):=⟨_,rfl⟩
  have hp9:H9 p = some (.ins CP dx [("machine",.ref mp),("inbox",.ref ib),("outbox",.ref ob),("paper",.ref pp),("blocks",.ref bk),("switches",.int sw),("state",.str "stopped")]):=by rw [eH9,upd_same,putF_add (by simp only [List.map_cons,List.map_nil];decide +kernel)];rfl
  have o9:∀ x,x≠p→H9 x = H7 x:=by rw [eH9];exact fun x hx=>(upd_ne hx).trans (o8 x hx)
  have F9:FrL H H9 [p]:=by rw [eH9];exact F8.trans (FrL.upd mem1)
  rw [← eH9]
  clear eH9
  wtm_at "uu"
  refine ⟨p,CP,dx,_,rfl,hp9,T.clP,T.n_nap,by show 7 < 1000;decide,?_⟩
  obtain ⟨H10,eH10⟩:∃ h,h = upd H9 p (.ins CP dx (putF "nap" (.int 0) [("machine",.ref mp),("inbox",.ref ib),("outbox",.ref ob),("paper",.ref pp),("blocks",.ref bk),("switches",.int sw),("state",.str "stopped")])):=⟨_,rfl⟩
  have hp10:H10 p = some (.ins CP dx [("machine",.ref mp),("inbox",.ref ib),("outbox",.ref ob),("paper",.ref pp),("blocks",.ref bk),("switches",.int sw),("state",.str "stopped"),("nap",.int 0)]):=by rw [eH10,upd_same,putF_add (by simp only [List.map_cons,List.map_nil];decide +kernel)];rfl
  have o10:∀ x,x≠p→H10 x = H7 x:=by rw [eH10];exact fun x hx=>(upd_ne hx).trans (o9 x hx)
  have F10:FrL H H10 [p]:=by rw [eH10];exact F9.trans (FrL.upd mem1)
  rw [← eH10]
  clear eH10
  wtm_at "uu"
  refine ⟨p,CP,dx,_,rfl,hp10,T.clP,T.n_lost,by show 8 < 1000;decide,?_⟩
  obtain ⟨H11,eH11⟩:∃ h,h = upd H10 p (.ins CP dx (putF "lost" (.int 0) [("machine",.ref mp),("inbox",.ref ib),("outbox",.ref ob),("paper",.ref pp),("blocks",.ref bk),("switches",.int sw),("state",.str "stopped"),("nap",.int 0)])):=⟨_,rfl⟩
  have hp11:H11 p = some (.ins CP dx [("machine",.ref mp),("inbox",.ref ib),("outbox",.ref ob),("paper",.ref pp),("blocks",.ref bk),("switches",.int sw),("state",.str "stopped"),("nap",.int 0),("lost",.int 0)]):=by rw [eH11,upd_same,putF_add (by simp only [List.map_cons,List.map_nil];decide +kernel)];rfl
  have o11:∀ x,x≠p→H11 x = H7 x:=by rw [eH11];exact fun x hx=>(upd_ne hx).trans (o10 x hx)
  have F11:FrL H H11 [p]:=by rw [eH11];exact F10.trans (FrL.upd mem1)
  rw [← eH11]
  clear eH11
  wtm_at "uu"
  refine ⟨p,CP,dx,_,rfl,hp11,T.clP,T.n_done,by show 9 < 1000;decide,?_⟩
  obtain ⟨H12,eH12⟩:∃ h,h = upd H11 p (.ins CP dx (putF "done" (.int 0) [("machine",.ref mp),("inbox",.ref ib),("outbox",.ref ob),("paper",.ref pp),("blocks",.ref bk),("switches",.int sw),("state",.str "stopped"),("nap",.int 0),("lost",.int 0)])):=⟨_,rfl⟩
  have hp12:H12 p = some (.ins CP dx [("machine",.ref mp),("inbox",.ref ib),("outbox",.ref ob),("paper",.ref pp),("blocks",.ref bk),("switches",.int sw),("state",.str "stopped"),("nap",.int 0),("lost",.int 0),("done",.int 0)]):=by rw [eH12,upd_same,putF_add (by simp only [List.map_cons,List.map_nil];decide +kernel)];rfl
  have o12:∀ x,x≠p→H12 x = H7 x:=by rw [eH12];exact fun x hx=>(upd_ne hx).trans (o11 x hx)
  have F12:FrL H H12 [p]:=by rw [eH12];exact F11.trans (FrL.upd mem1)
  rw [← eH12]
  clear eH12
  refine k ⟨p,mp,c,ib,ob,pp,bk,dx,dm,bs⟩ H12 rfl ⟨hp12,⟨by rw [o12 _ npm.symm];exact M7.ob,by rw [o12 _ npc.symm];exact M7.cl⟩,by rw [o12 _ nib_p.symm];exact hib7,by rw [o12 _ nob_p.symm];exact hob7,by rw [o12 _ npp_p.symm];exact hpp7,by rw [o12 _ nbk_p.symm];exact hbk7,⟨by rw [hbl];rfl,fun i b w h1 h2=>?_⟩,?_⟩ (fun x hx=>?_) F12
  ·have hb:=List.mem_of_getElem? h1
   have hw:w = List.replicate 16 0:=List.eq_of_mem_replicate (List.mem_of_getElem? h2)
   rw [o12 _ (fun e=>off hp5 (by rw [← e];exact hb)),hw]
   exact hbs7 b hb
  ·show (p::mp::c::ib::ob::pp::bk::bs).Nodup
   simp only [List.nodup_cons,List.mem_cons,not_or]
   exact ⟨⟨npm,npc,nib_p,nob_p,npp_p,nbk_p,off hp5⟩,⟨nmc,nib_m,nob_m,npp_m,nbk_m,off M5.ob⟩,⟨nib_c,nob_c,npp_c,nbk_c,off M5.cl⟩,⟨nob_ib,npp_ib,nbk_ib,off hib5⟩,⟨npp_ob,nbk_ob,off hob5⟩,⟨nbk_pp,off hpp5⟩,nbk',hbn⟩
  ·have hx':x∈p::mp::c::ib::ob::pp::bk::bs:=hx
   simp only [List.mem_cons] at hx'
   rcases hx' with e | e | e | e | e | e | e | e
   ·exact .inl e
   ·exact .inr (by rw [e];exact nmp)
   ·exact .inr (by rw [e];exact nc)
   ·exact .inr (by rw [e];exact gib)
   ·exact .inr (by rw [e];exact gob)
   ·exact .inr (by rw [e];exact gpp)
   ·exact .inr (by rw [e];exact gbk)
   ·exact .inr (gone (hbf x e))
end
end Pp
namespace Pp
open PySem L2 Mir Pr Tx Lw Dm Us Du
section
variable {P:Program} {w:World} {K:PySem.W.Frag} {mg:Str→Option Value} {base:Heap} {CP CM:Addr}
def sp_picP (K:PySem.W.Frag) (CP CM:Addr):Sp:=fun vs H Q _=>∃ A u,vs = [.ref A.p]∧PAt CP CM H A u∧u.blk.length≤8∧∀ t tc ti to_ tp tb tbs H',PicAt K H' t tc ti to_ tp tb tbs u→Same H H'→Q (.ref t) H'
theorem ok_picture (R:Raw K mg "picture" s_picture) (T:TxtP K mg CP CM):GF P w K mg base "picture" ["person"] 1 (sp_picP K CP CM):=by
 refine GF.mk R sc_picture (by wtm_at "1") (fun vs H Q E h=>?_) (fun f cdv A outer s H vs Q E hr h=>?_)
 ·obtain ⟨B,u,rfl,_⟩:=h;rfl
 ·obtain ⟨B,u,rfl,D,hbl,k⟩:=h
  refine ⟨_,(@pss_cons _ _ _ _ _ (@ps_set _ _ (1) _ _ _ _ sc_picture.nd rfl (Or.inl rfl) (@pe_fldK _ (K) _ _ _ _ rfl (pv 0) rfl) rfl (by first | exact .inl rfl | exact .inr rfl | assumption)) (@pss_one _ _ _ (@ps_ret _ _ _ _ (@pe_tup _ _ _ _ _ (@pa_c _ _ _ _ _ (@pe_callTyN _ _ _ _ _ _ _ _ _ (call_tuple_ofK (K:=K) rfl) (by rfl) T.tuple_ bo_tuple (@pa_c _ _ _ _ _ (@pe_fldK _ (K) _ _ _ _ rfl (pv 1) rfl) pa_nil rfl) (by decide) (by decide) rfl) (@pa_c _ _ _ _ _ (@pe_fldK _ (K) _ _ _ _ rfl (pv 1) rfl) (@pa_c _ _ _ _ _ (@pe_fldK _ (K) _ _ _ _ rfl (pv 1) rfl) (@pa_c _ _ _ _ _ (@pe_fldK _ (K) _ _ _ _ rfl (pv 1) rfl) (@pa_c _ _ _ _ _ (@pe_callTyN _ _ _ _ _ _ _ _ _ (call_tuple_ofK (K:=K) rfl) (by rfl) T.tuple_ bo_tuple (@pa_c _ _ _ _ _ (@pe_fldK _ (K) _ _ _ _ rfl (pv 0) rfl) pa_nil rfl) (by decide) (by decide) rfl) (@pa_c _ _ _ _ _ (@pe_callTyN _ _ _ _ _ _ _ _ _ (call_tuple_ofK (K:=K) rfl) (by rfl) T.tuple_ bo_tuple (@pa_c _ _ _ _ _ (@pe_fldK _ (K) _ _ _ _ rfl (pv 0) rfl) pa_nil rfl) (by decide) (by decide) rfl) (@pa_c _ _ _ _ _ (@pe_callTyN _ _ _ _ _ _ _ _ _ (call_tuple_ofK (K:=K) rfl) (by rfl) T.tuple_ bo_tuple (@pa_c _ _ _ _ _ (@pe_fldK _ (K) _ _ _ _ rfl (pv 0) rfl) pa_nil rfl) (by decide) (by decide) rfl) (@pa_c _ _ _ _ _ (@pe_callTyN _ _ _ _ _ _ _ _ _ (call_tuple_ofK (K:=K) rfl) (by rfl) T.tuple_ bo_tuple (@pa_c _ _ _ _ _ (@pe_lcomp _ _ _ _ _ _ _ _ _ _ _ _ ([]) rfl (@pi_listK _ (K) _ _ _ rfl (@pe_fldK _ (K) _ _ _ _ rfl (pv 0) rfl)) ⟨rfl,rfl,by decide +kernel,by decide +kernel,rfl,by decide +kernel,trivial,rfl,trivial⟩ (fun _ _ _ _=>pts_nil) (fun _ _ _ _=>(@pe_callTyN _ _ _ _ _ _ _ _ _ (call_tuple_ofK (K:=K) rfl) (by rfl) T.tuple_ bo_tuple (@pa_c _ _ _ _ _ (pv 0) pa_nil rfl) (by decide) (by decide) rfl)) (fun _=>rfl)) pa_nil rfl) (by decide) (by decide) rfl) (@pa_c _ _ _ _ _ (@pe_fldK _ (K) _ _ _ _ rfl (pv 0) rfl) (@pa_c _ _ _ _ _ (@pe_fldK _ (K) _ _ _ _ rfl (pv 0) rfl) (@pa_c _ _ _ _ _ (@pe_fldK _ (K) _ _ _ _ rfl (pv 0) rfl) (@pa_c _ _ _ _ _ (@pe_fldK _ (K) _ _ _ _ rfl (pv 0) rfl) (@pa_c _ _ _ _ _ (@pe_fldK _ (K) _ _ _ _ rfl (pv 0) rfl) pa_nil rfl) rfl) rfl) rfl) rfl) rfl) rfl) rfl) rfl) rfl) rfl) rfl) rfl))))),?_⟩
  wtm_at "uu"
  refine ⟨B.c,_,rfl,.inl ⟨SqL.of D.m.cl,fun tc ntc=>?_⟩⟩
  have s1:Same H (upd H tc (.tup (u.m.cells.map V.int))):=Same.new ntc
  have htc:(upd H tc (.tup (u.m.cells.map V.int))) tc = some (.tup (u.m.cells.map V.int)):=upd_same
  generalize upd H tc (.tup (u.m.cells.map V.int)) = H1 at s1 htc ⊢
  have D1:=D.keep s1
  wtm_at "uu"
  refine ⟨B.ib,_,rfl,.inl ⟨SqL.of D1.l_in,fun ti nti=>?_⟩⟩
  have s2:Same H1 (upd H1 ti (.tup (u.inb.map V.int))):=Same.new nti
  have hti:(upd H1 ti (.tup (u.inb.map V.int))) ti = some (.tup (u.inb.map V.int)):=upd_same
  generalize upd H1 ti (.tup (u.inb.map V.int)) = H2 at s2 hti ⊢
  have D2:=D1.keep s2
  wtm_at "uu"
  refine ⟨B.ob,_,rfl,.inl ⟨SqL.of D2.l_out,fun to_ nto_=>?_⟩⟩
  have s3:Same H2 (upd H2 to_ (.tup (u.outb.map V.int))):=Same.new nto_
  have hto_:(upd H2 to_ (.tup (u.outb.map V.int))) to_ = some (.tup (u.outb.map V.int)):=upd_same
  generalize upd H2 to_ (.tup (u.outb.map V.int)) = H3 at s3 hto_ ⊢
  have D3:=D2.keep s3
  wtm_at "uu"
  refine ⟨B.pp,_,rfl,.inl ⟨SqL.of D3.l_pap,fun tp ntp=>?_⟩⟩
  have s4:Same H3 (upd H3 tp (.tup (u.pap.map V.int))):=Same.new ntp
  have htp:(upd H3 tp (.tup (u.pap.map V.int))) tp = some (.tup (u.pap.map V.int)):=upd_same
  generalize upd H3 tp (.tup (u.pap.map V.int)) = H4 at s4 htp ⊢
  have D4:=D3.keep s4
  wtm_at "uu"
  have hbl2:B.bs.length≤8:=by rw [D.blk.1];exact hbl
  refine ⟨B.bk,rfl,⟨_,SqL.of D4.l_blk⟩,lc_listI (xs:=B.bs.map V.ref) (fun i acc H'=>Same H4 H'∧∃ tbs:List Addr,tbs.length = i∧acc = tbs.map V.ref∧∀ (j:Nat) b w,tbs[j]? = some b→u.blk[j]? = some w→H' b = some (.tup (w.map V.int))) (by rw [List.length_map,sizeLine_eq];omega) ⟨Same.refl _,[],rfl,rfl,by simp⟩ (fun i acc H' h=>?_) (fun i acc H' h=>SqL.of (h.1 _ _ D4.l_blk)) (fun i x acc H' hx h Q' q'=>?_) (fun acc H5 h tl2 ntl2=>?_)⟩
  ·obtain ⟨_,tbs,hl,rfl,_⟩:=h
   rw [List.length_map];exact hl
  ·obtain ⟨sm,tbs,hl,rfl,hb⟩:=h
   rw [List.getElem?_map] at hx
   cases hbx:B.bs[i]? with
   | none=>rw [hbx] at hx;cases hx
   | some b =>
    rw [hbx] at hx
    cases hx
    have hi:i < u.blk.length:=by
     rw [← D.blk.1]
     rcases Nat.lt_or_ge i B.bs.length with z | z
     ·exact z
     ·rw [List.getElem?_eq_none z] at hbx;cases hbx
    have hbh:H' b = some (.lst (u.blk[i].map V.int)):=sm _ _ (D4.blk.2 i b u.blk[i] hbx (List.getElem?_eq_getElem hi))
    wtm_at "uu"
    refine ⟨b,_,rfl,.inl ⟨SqL.of hbh,fun tn ntn=>?_⟩⟩
    refine q' _ _ ⟨sm.new' ntn,tbs ++ [tn],by rw [List.length_append,hl];rfl,by rw [List.map_append];rfl,fun j b2 w2 h1 h2=>?_⟩
    rcases Nat.lt_or_ge j tbs.length with z | z
    ·rw [List.getElem?_append_left z] at h1
     have:=hb j b2 w2 h1 h2
     rw [upd_ne (ne_of_none this ntn)]
     exact this
    ·rw [List.getElem?_append_right z] at h1
     have ej:j = tbs.length:=by
      rcases Nat.lt_or_ge (j - tbs.length) 1 with z2 | z2
      ·omega
      ·rw [List.getElem?_eq_none (by simpa using z2)] at h1;cases h1
     subst ej
     rw [Nat.sub_self] at h1
     cases h1
     rw [hl,List.getElem?_eq_getElem hi] at h2
     cases h2
     exact upd_same
  obtain ⟨s45,tbs,htbl,rfl,htbs⟩:=h
  rw [List.length_map] at htbl
  have htl2:(upd H5 tl2 (.lst (tbs.map V.ref))) tl2 = some (.lst (tbs.map V.ref)):=upd_same
  have s5:Same H5 (upd H5 tl2 (.lst (tbs.map V.ref))):=Same.new ntl2
  generalize upd H5 tl2 (.lst (tbs.map V.ref)) = H6 at htl2 s5 ⊢
  have D6:=(D4.keep s45).keep s5
  wtm_at "uu"
  refine ⟨tl2,_,rfl,.inl ⟨SqL.of htl2,fun tb ntb=>?_⟩⟩
  have s7:Same H6 (upd H6 tb (.tup (tbs.map V.ref))):=Same.new ntb
  have htb:(upd H6 tb (.tup (tbs.map V.ref))) tb = some (.tup (tbs.map V.ref)):=upd_same
  generalize upd H6 tb (.tup (tbs.map V.ref)) = H7 at s7 htb ⊢
  have D7:=D6.keep s7
  wtm_at "uu"
  refine ⟨by show 13≤sizeLine;decide,fun t nt=>?_⟩
  have s8:Same H7 (upd H7 t (.tup [.ref tc,.int u.m.total,.int u.m.mark,.int u.m.at_,.ref ti,.ref to_,.ref tp,.ref tb,.int u.sw,.str u.st.s,.int u.nap,.int u.lost,.int u.done])):=Same.new nt
  have s58:=s5.trans (s7.trans s8)
  have s48:=s45.trans s58
  refine k t tc ti to_ tp tb tbs _ ⟨upd_same,(s2.trans (s3.trans (s4.trans s48))) _ _ htc,(s3.trans (s4.trans s48)) _ _ hti,(s4.trans s48) _ _ hto_,s48 _ _ htp,s8 _ _ htb,by rw [htbl];exact D.blk.1,fun i b w h1 h2=>s58 _ _ (htbs i b w h1 h2)⟩ (s1.trans (s2.trans (s3.trans (s4.trans s48))))
end
end Pp
namespace Pp
open PySem L2 Mir Pr Tx Lw Dm Us Du
theorem pf_cellsM (c q:Addr) (m:Mach):putF "cells" (.ref q) (fldsM c m) = fldsM q m:=by
 unfold fldsM;rw [putF_hit]
theorem n_load {CP CM:Addr} {H:Hp} {A:PAd} {u:Usr} {q:Addr} {c:List Int} (h:PAt CP CM H A u) (hq:H q = some (.lst (c.map V.int))) (hn:q∉foot A):PAt CP CM (upd H A.mp (.ins CM A.dm (fldsM q u.m))) { A with c:=q } { u with m:={ u.m with cells:=c } }:=by
 have h_c:¬ q = A.p∧¬ q = A.mp∧¬ q = A.c∧¬ q = A.ib∧¬ q = A.ob∧¬ q = A.pp∧¬ q = A.bk∧q∉A.bs:=by
  have h:=hn
  unfold foot at h
  simp only [List.mem_cons,not_or] at h
  exact h
 have n:=nds h.nd
 refine ⟨by rw [upd_ne h.p_mp];exact h.o,⟨upd_same,by rw [upd_ne h_c.2.1];exact hq⟩,by rw [upd_ne h.ib_mp];exact h.l_in,by rw [upd_ne h.ob_mp];exact h.l_out,by rw [upd_ne h.pp_mp];exact h.l_pap,by rw [upd_ne h.bk_mp];exact h.l_blk,⟨h.blk.1,fun i b w h1 h2=>by rw [upd_ne (h.nb h.mp_bs h1)];exact h.blk.2 i b w h1 h2⟩,?_⟩
 show (A.p::A.mp::q::A.ib::A.ob::A.pp::A.bk::A.bs).Nodup
 simp only [List.nodup_cons,List.mem_cons,not_or]
 exact ⟨⟨n.1.1,(fun e=>h_c.1 e.symm),n.1.2.2.1,n.1.2.2.2.1,n.1.2.2.2.2.1,n.1.2.2.2.2.2.1,n.1.2.2.2.2.2.2⟩,⟨(fun e=>h_c.2.1 e.symm),n.2.1.2.1,n.2.1.2.2.1,n.2.1.2.2.2.1,n.2.1.2.2.2.2.1,n.2.1.2.2.2.2.2⟩,⟨h_c.2.2.2.1,h_c.2.2.2.2.1,h_c.2.2.2.2.2.1,h_c.2.2.2.2.2.2.1,h_c.2.2.2.2.2.2.2⟩,⟨n.2.2.2.1.1,n.2.2.2.1.2.1,n.2.2.2.1.2.2.1,n.2.2.2.1.2.2.2⟩,⟨n.2.2.2.2.1.1,n.2.2.2.2.1.2.1,n.2.2.2.2.1.2.2⟩,⟨n.2.2.2.2.2.1.1,n.2.2.2.2.2.1.2⟩,n.2.2.2.2.2.2.1,n.2.2.2.2.2.2.2⟩
end Pp
namespace Hs
open PySem Mir Us
structure Hse where
 us:List Usr
 di:List (List Ev)
 rooms:List (Option Nat)
 quantum:Int
 beat:Int
 runs:Option Nat
 row:List Nat
 steps:Int
 idle:Int
 ticks:Int
 swaps:Int
 turn:Int
 left:Int
def U0:Usr:=newU (List.replicate 64 0) 0
def usr (s:Hse) (u:Nat):Usr:=s.us.getD u U0
def happenIn (s:Hse) (u:Nat) (e:Ev):Hse :=
 { s with us:=s.us.set u (happenU (usr s u) e),di:=s.di.set u (s.di.getD u [] ++ [e]),row:=if (happenU (usr s u) e).st = .ready∧¬ (usr s u).st = .ready then s.row ++ [u] else s.row }
def findR (u:Nat):List (Option Nat)→Option Nat
 | []=>none
 | g::r=>if g = some u then some 0 else (findR u r).map (· + 1)
def bringIn (s:Hse) (u:Nat):Hse :=
 match findR u s.rooms with
 | some _=>s
 | none=>{ s with rooms:=s.rooms.set s.turn.toNat (some u),swaps:=s.swaps + 1,turn:=(s.turn + 1) % (s.rooms.length:Int) }
def letNext (s:Hse):Hse :=
 match s.runs,s.row with
 | none,u::r=>bringIn { s with runs:=some u,row:=r,left:=s.quantum } u
 | _,_=>s
def endTurn (s:Hse):Hse:={ s with runs:=none,left:=0 }
def shorten (s:Hse) (u:Nat):Hse:=if s.left - 1 = 0 then endTurn { s with left:=s.left - 1,row:=s.row ++ [u] } else { s with left:=s.left - 1 }
def ticksN:Nat→Hse→Hse
 | 0,s=>s
 | n + 1,s=>happenIn (ticksN n s) n .tick
def lastT (s:Hse):Hse:=match s.runs with
 | none=>s
 | some u=>shorten s u
def doTick (s:Hse):Hse:=lastT (ticksN s.us.length { s with ticks:=s.ticks + 1 })
def stepWho (s:Hse) (u:Nat):Hse:=if (usr (happenIn s u .step) u).st = .ready then happenIn s u .step else endTurn (happenIn s u .step)
def step1 (s:Hse):Hse:=match s.runs with
 | none=>{ s with steps:=s.steps + 1,idle:=s.idle + 1 }
 | some u=>stepWho { s with steps:=s.steps + 1 } u
def step2 (s:Hse):Hse:=if s.steps % s.beat = 0 then doTick s else s
def doStep (s:Hse):Hse:=letNext (step2 (step1 s))
def runN:Nat→Hse→Hse
 | 0,s=>s
 | n + 1,s=>doStep (runN n s)
def startH (s:Hse) (u:Nat) (p:Int):Hse:=letNext (happenIn s u (.start p))
def setU (s:Hse) (u:Nat) (x:Usr):Hse:={ s with us:=s.us.set u x }
def loadH (s:Hse) (u:Nat) (c:List Int):Hse:=setU s u { usr s u with m:={ (usr s u).m with cells:=c } }
def newH (n r:Nat) (q b:Int):Hse:=⟨List.replicate n U0,List.replicate n [],List.replicate r none,q,b,none,[],0,0,0,0,0,0⟩
end Hs
namespace Hs
open PySem L2 Mir Pr Tx Lw Dm Us Du Pp
structure HAd where
 h:Addr
 dx:Addr
 lp:Addr
 ld:Addr
 lr:Addr
 lw:Addr
 ps:List PAd
 ds:List Addr
def vU:Option Nat→V
 | none=>.non
 | some n=>.int (n:Int)
def core (A:HAd):List Addr:=A.h::A.lp::A.ld::A.lr::A.lw::A.ds
def footH (A:HAd):List Addr:=core A ++ A.ps.flatMap foot
def rowV (r:List Nat):List V:=r.map fun (n:Nat)=>V.int (n:Int)
def fldsH (A:HAd) (s:Hse):List (Str×V):=[("people",.ref A.lp),("diaries",.ref A.ld),("rooms",.ref A.lr),("quantum",.int s.quantum),("beat",.int s.beat),("runs",vU s.runs),("row",.ref A.lw),("steps",.int s.steps),("idle",.int s.idle),("ticks",.int s.ticks),("swaps",.int s.swaps),("turn",.int s.turn),("left",.int s.left)]
theorem len_fldsH (A:HAd) (s:Hse):(fldsH A s).length < 1000:=by show 13 < 1000;decide
theorem lk_people (A:HAd) (s:Hse):(fldsH A s).lookup ("people" : Str) = some (.ref A.lp):=by
 unfold fldsH;exact look_hit
theorem lk_diaries (A:HAd) (s:Hse):(fldsH A s).lookup ("diaries" : Str) = some (.ref A.ld):=by
 unfold fldsH;wtm_at "l"
theorem lk_rooms (A:HAd) (s:Hse):(fldsH A s).lookup ("rooms" : Str) = some (.ref A.lr):=by
 unfold fldsH;wtm_at "l"
theorem lk_quantum (A:HAd) (s:Hse):(fldsH A s).lookup ("quantum" : Str) = some (.int s.quantum):=by
 unfold fldsH;wtm_at "l"
theorem lk_beat (A:HAd) (s:Hse):(fldsH A s).lookup ("beat" : Str) = some (.int s.beat):=by
 unfold fldsH;wtm_at "l"
theorem lk_runs (A:HAd) (s:Hse):(fldsH A s).lookup ("runs" : Str) = some (vU s.runs):=by
 unfold fldsH;wtm_at "l"
theorem lk_row (A:HAd) (s:Hse):(fldsH A s).lookup ("row" : Str) = some (.ref A.lw):=by
 unfold fldsH;wtm_at "l"
theorem lk_steps (A:HAd) (s:Hse):(fldsH A s).lookup ("steps" : Str) = some (.int s.steps):=by
 unfold fldsH;wtm_at "l"
theorem lk_idle (A:HAd) (s:Hse):(fldsH A s).lookup ("idle" : Str) = some (.int s.idle):=by
 unfold fldsH;wtm_at "l"
theorem lk_ticks (A:HAd) (s:Hse):(fldsH A s).lookup ("ticks" : Str) = some (.int s.ticks):=by
 unfold fldsH;wtm_at "l"
theorem lk_swaps (A:HAd) (s:Hse):(fldsH A s).lookup ("swaps" : Str) = some (.int s.swaps):=by
 unfold fldsH;wtm_at "l"
theorem lk_turn (A:HAd) (s:Hse):(fldsH A s).lookup ("turn" : Str) = some (.int s.turn):=by
 unfold fldsH;wtm_at "l"
theorem lk_left (A:HAd) (s:Hse):(fldsH A s).lookup ("left" : Str) = some (.int s.left):=by
 unfold fldsH;wtm_at "l"
theorem pf_runs (A:HAd) (s:Hse) (y:Option Nat):putF "runs" (vU y) (fldsH A s) = fldsH A { s with runs:=y }:=by
 unfold fldsH;wtm_at "p"
theorem pf_steps (A:HAd) (s:Hse) (y:Int):putF "steps" (.int y) (fldsH A s) = fldsH A { s with steps:=y }:=by
 unfold fldsH;wtm_at "p"
theorem pf_idle (A:HAd) (s:Hse) (y:Int):putF "idle" (.int y) (fldsH A s) = fldsH A { s with idle:=y }:=by
 unfold fldsH;wtm_at "p"
theorem pf_ticks (A:HAd) (s:Hse) (y:Int):putF "ticks" (.int y) (fldsH A s) = fldsH A { s with ticks:=y }:=by
 unfold fldsH;wtm_at "p"
theorem pf_swaps (A:HAd) (s:Hse) (y:Int):putF "swaps" (.int y) (fldsH A s) = fldsH A { s with swaps:=y }:=by
 unfold fldsH;wtm_at "p"
theorem pf_turn (A:HAd) (s:Hse) (y:Int):putF "turn" (.int y) (fldsH A s) = fldsH A { s with turn:=y }:=by
 unfold fldsH;wtm_at "p"
theorem pf_left (A:HAd) (s:Hse) (y:Int):putF "left" (.int y) (fldsH A s) = fldsH A { s with left:=y }:=by
 unfold fldsH;wtm_at "p"
structure HAt (CH CP CM:Addr) (H:Hp) (A:HAd) (s:Hse):Prop where
 o:H A.h = some (.ins CH A.dx (fldsH A s))
 lp:H A.lp = some (.lst (A.ps.map fun B=>V.ref B.p))
 ld:H A.ld = some (.lst (A.ds.map V.ref))
 lr:H A.lr = some (.lst (s.rooms.map vU))
 lw:H A.lw = some (.lst (rowV s.row))
 ul:A.ps.length = s.us.length
 us:∀ (i:Nat) B u,A.ps[i]? = some B→s.us[i]? = some u→PAt CP CM H B u
 dl:A.ds.length = s.di.length
 di:∀ (i:Nat) d e,A.ds[i]? = some d→s.di[i]? = some e→∃ rs,EvsAt H d rs e
 nd0:(core A).Nodup
 nd1:∀ (i:Nat) B,A.ps[i]? = some B→∀ x∈foot B,x∉core A
 nd2:∀ (i j:Nat) B C,i≠j→A.ps[i]? = some B→A.ps[j]? = some C→∀ x∈foot B,x∉foot C
structure TxtH (K:PySem.W.Frag) (mg:Str→Option Value) (CH CP CM:Addr):Prop extends TxtP K mg CP CM where
 clH:Cls K CH
 n_people:NoAttr K CH "people"
 n_diaries:NoAttr K CH "diaries"
 n_rooms:NoAttr K CH "rooms"
 n_quantum:NoAttr K CH "quantum"
 n_beat:NoAttr K CH "beat"
 n_runs:NoAttr K CH "runs"
 n_row:NoAttr K CH "row"
 n_steps:NoAttr K CH "steps"
 n_idle:NoAttr K CH "idle"
 n_ticks:NoAttr K CH "ticks"
 n_swaps:NoAttr K CH "swaps"
 n_turn:NoAttr K CH "turn"
 n_left:NoAttr K CH "left"
 enumerate_:mg "enumerate" = none
section
variable {CH CP CM:Addr} {H H':Hp} {A:HAd} {s s':Hse} {K:PySem.W.Frag} {mg:Str→Option Value} {q:Addr} {ho:HO} {Q:VK} {PH:Hp→Prop} {P:V→Prop}
theorem nds0 (h:(core A).Nodup):(¬ A.h = A.lp∧¬ A.h = A.ld∧¬ A.h = A.lr∧¬ A.h = A.lw∧A.h∉A.ds)∧(¬ A.lp = A.ld∧¬ A.lp = A.lr∧¬ A.lp = A.lw∧A.lp∉A.ds)∧(¬ A.ld = A.lr∧¬ A.ld = A.lw∧A.ld∉A.ds)∧(¬ A.lr = A.lw∧A.lr∉A.ds)∧A.lw∉A.ds∧A.ds.Nodup:=by
 have n:=h
 unfold core at n
 simp only [List.nodup_cons,List.mem_cons,not_or] at n
 exact n
theorem c_h:A.h∈core A:=List.mem_cons_self
theorem c_lp:A.lp∈core A:=List.mem_cons_of_mem _ List.mem_cons_self
theorem c_ld:A.ld∈core A:=List.mem_cons_of_mem _ (List.mem_cons_of_mem _ List.mem_cons_self)
theorem c_lr:A.lr∈core A:=List.mem_cons_of_mem _ (List.mem_cons_of_mem _ (List.mem_cons_of_mem _ List.mem_cons_self))
theorem c_lw:A.lw∈core A:=List.mem_cons_of_mem _ (List.mem_cons_of_mem _ (List.mem_cons_of_mem _ (List.mem_cons_of_mem _ List.mem_cons_self)))
theorem c_ds {d:Addr} (h:d∈A.ds):d∈core A:=List.mem_cons_of_mem _ (List.mem_cons_of_mem _ (List.mem_cons_of_mem _ (List.mem_cons_of_mem _ (List.mem_cons_of_mem _ h))))
theorem h_core {x:Addr} (h:x∈core A):x∈footH A:=List.mem_append_left _ h
theorem h_foot {i:Nat} {B:PAd} (h:A.ps[i]? = some B) {x:Addr} (hx:x∈foot B):x∈footH A:=List.mem_append_right _ (List.mem_flatMap.mpr ⟨B,List.mem_of_getElem? h,hx⟩)
theorem h_cases {x:Addr} (h:x∈footH A):x∈core A∨∃ (i:Nat) (B:PAd),A.ps[i]? = some B∧x∈foot B:=by
 rcases List.mem_append.mp h with z | z
 ·exact .inl z
 ·obtain ⟨B,hB,hx⟩:=List.mem_flatMap.mp z
  obtain ⟨i,hi,e⟩:=List.getElem_of_mem hB
  exact .inr ⟨i,B,by rw [List.getElem?_eq_getElem hi,e],hx⟩
theorem HAt.same (h:HAt CH CP CM H A s) (e:s = s'):HAt CH CP CM H A s':=by rw [← e];exact h
theorem HAt.move (h:HAt CH CP CM H A s) (m:∀ x∈footH A,∀ o,H x = some o→H' x = some o) (t:∀ x xs,H x = some (.tup xs)→H' x = some (.tup xs)):HAt CH CP CM H' A s :=
 ⟨m _ (h_core c_h) _ h.o,m _ (h_core c_lp) _ h.lp,m _ (h_core c_ld) _ h.ld,m _ (h_core c_lr) _ h.lr,m _ (h_core c_lw) _ h.lw,h.ul,fun i B u e1 e2=>(h.us i B u e1 e2).move fun x hx o e=>m x (h_foot e1 hx) o e,h.dl,
  fun i d e e1 e2=>by
   obtain ⟨rs,E⟩:=h.di i d e e1 e2
   exact ⟨rs,m _ (h_core (c_ds (List.mem_of_getElem? e1))) _ E.1,E.2.1,fun j r ev g1 g2=>t _ _ (E.2.2 j r ev g1 g2)⟩,h.nd0,h.nd1,h.nd2⟩
theorem HAt.keep (h:HAt CH CP CM H A s) (sm:Same H H'):HAt CH CP CM H' A s:=h.move (fun x _ o e=>sm x o e) (fun x xs e=>sm _ _ e)
theorem HAt.kind (h:HAt CH CP CM H A s) {x:Addr} (hx:x∈footH A):∀ xs,H x≠some (.tup xs):=by
 intro xs
 rcases h_cases hx with z | ⟨i,B,e,z⟩
 ·unfold core at z
  simp only [List.mem_cons] at z
  rcases z with z | z | z | z | z | z
  ·rw [z,h.o];intro y;cases y
  ·rw [z,h.lp];intro y;cases y
  ·rw [z,h.ld];intro y;cases y
  ·rw [z,h.lr];intro y;cases y
  ·rw [z,h.lw];intro y;cases y
  ·obtain ⟨i,hi,e⟩:=List.getElem_of_mem z
   have hi2:i < s.di.length:=by rw [← h.dl];exact hi
   obtain ⟨rs,E⟩:=h.di i x s.di[i] (by rw [List.getElem?_eq_getElem hi,e]) (List.getElem?_eq_getElem hi2)
   rw [E.1];intro y;cases y
 ·have hi:i < s.us.length:=by
   rw [← h.ul]
   rcases Nat.lt_or_ge i A.ps.length with y | y
   ·exact y
   ·rw [List.getElem?_eq_none y] at e;cases e
  exact (h.us i B s.us[i] e (List.getElem?_eq_getElem hi)).kind z xs
theorem HAt.there (h:HAt CH CP CM H A s) {x:Addr} (hx:x∈footH A):∃ o,H x = some o:=by
 rcases h_cases hx with z | ⟨i,B,e,z⟩
 ·unfold core at z
  simp only [List.mem_cons] at z
  rcases z with z | z | z | z | z | z
  ·rw [z];exact ⟨_,h.o⟩
  ·rw [z];exact ⟨_,h.lp⟩
  ·rw [z];exact ⟨_,h.ld⟩
  ·rw [z];exact ⟨_,h.lr⟩
  ·rw [z];exact ⟨_,h.lw⟩
  ·obtain ⟨i,hi,e⟩:=List.getElem_of_mem z
   have hi2:i < s.di.length:=by rw [← h.dl];exact hi
   obtain ⟨rs,E⟩:=h.di i x s.di[i] (by rw [List.getElem?_eq_getElem hi,e]) (List.getElem?_eq_getElem hi2)
   exact ⟨_,E.1⟩
 ·have hi:i < s.us.length:=by
   rw [← h.ul]
   rcases Nat.lt_or_ge i A.ps.length with y | y
   ·exact y
   ·rw [List.getElem?_eq_none y] at e;cases e
  exact (h.us i B s.us[i] e (List.getElem?_eq_getElem hi)).there z
theorem HAt.fresh (h:HAt CH CP CM H A s) (n:H q = none):q∉footH A:=fun z=>by
 obtain ⟨o,e⟩:=h.there z
 rw [e] at n
 cases n
theorem HAt.at (h:HAt CH CP CM H A s) {i:Nat} (hi:i < s.us.length):∃ B,A.ps[i]? = some B∧PAt CP CM H B (usr s i)∧atI (A.ps.map fun B=>V.ref B.p) (i:Int) = some (.ref B.p):=by
 have hi2:i < A.ps.length:=by rw [h.ul];exact hi
 refine ⟨A.ps[i],List.getElem?_eq_getElem hi2,?_,?_⟩
 ·have e:usr s i = s.us[i]:=by unfold usr;rw [List.getD_eq_getElem?_getD,List.getElem?_eq_getElem hi];rfl
  rw [e]
  exact h.us i _ _ (List.getElem?_eq_getElem hi2) (List.getElem?_eq_getElem hi)
 ·exact atI_nat (by rw [List.getElem?_map,List.getElem?_eq_getElem hi2];rfl)
theorem HAt.dat (h:HAt CH CP CM H A s) {i:Nat} (hi:i < s.di.length):∃ d rs,A.ds[i]? = some d∧EvsAt H d rs (s.di.getD i [])∧atI (A.ds.map V.ref) (i:Int) = some (.ref d):=by
 have hi2:i < A.ds.length:=by rw [h.dl];exact hi
 have e:s.di.getD i [] = s.di[i]:=by rw [List.getD_eq_getElem?_getD,List.getElem?_eq_getElem hi];rfl
 obtain ⟨rs,E⟩:=h.di i _ _ (List.getElem?_eq_getElem hi2) (List.getElem?_eq_getElem hi)
 refine ⟨A.ds[i],rs,List.getElem?_eq_getElem hi2,by rw [e];exact E,?_⟩
 exact atI_nat (by rw [List.getElem?_map,List.getElem?_eq_getElem hi2];rfl)
theorem HAt.nus (h:HAt CH CP CM H A s) (hq:q∈core A):∀ (i:Nat) B u,A.ps[i]? = some B→s.us[i]? = some u→PAt CP CM (upd H q ho) B u:=fun i B u e1 e2=>(h.us i B u e1 e2).move fun x hx o e=>by rw [upd_ne (fun z=>h.nd1 i B e1 x hx (by rw [z];exact hq))];exact e
theorem EvsAt.oth {H:Hp} {d q:Addr} {rs:List Addr} {e:List Ev} {ho:HO} (E:EvsAt H d rs e) (n:d≠q) (nt:∀ xs,H q≠some (.tup xs)):EvsAt (upd H q ho) d rs e :=
 ⟨by rw [upd_ne n];exact E.1,E.2.1,fun j r ev g1 g2=>by rw [upd_ne (fun z=>nt _ (by rw [← z];exact E.2.2 j r ev g1 g2))];exact E.2.2 j r ev g1 g2⟩
theorem HAt.ndi (h:HAt CH CP CM H A s) (hq:q∈core A) (hn:q∉A.ds):∀ (i:Nat) d e,A.ds[i]? = some d→s.di[i]? = some e→∃ rs,EvsAt (upd H q ho) d rs e:=fun i d e e1 e2=>by
 obtain ⟨rs,E⟩:=h.di i d e e1 e2
 exact ⟨rs,EvsAt.oth E (fun z=>hn (by rw [← z];exact List.mem_of_getElem? e1)) (h.kind (h_core hq))⟩
theorem HAt.setO (h:HAt CH CP CM H A s) (s':Hse) (e1:s'.us = s.us) (e2:s'.di = s.di) (e3:s'.rooms = s.rooms) (e4:s'.row = s.row):HAt CH CP CM (upd H A.h (.ins CH A.dx (fldsH A s'))) A s':=by
 obtain ⟨⟨n1,n2,n3,n4,n5⟩,_⟩:=nds0 h.nd0
 exact ⟨upd_same,by rw [upd_ne (Ne.symm n1)];exact h.lp,by rw [upd_ne (Ne.symm n2)];exact h.ld,by rw [upd_ne (Ne.symm n3),e3];exact h.lr,by rw [upd_ne (Ne.symm n4),e4];exact h.lw,by rw [e1];exact h.ul,by rw [e1];exact h.nus c_h,by rw [e2];exact h.dl,by rw [e2];exact h.ndi c_h n5,h.nd0,h.nd1,h.nd2⟩
theorem HAt.setRow (h:HAt CH CP CM H A s) (r:List Nat):HAt CH CP CM (upd H A.lw (.lst (rowV r))) A { s with row:=r }:=by
 obtain ⟨⟨n1,n2,n3,n4,n5⟩,⟨m1,m2,m3,m4⟩,⟨k1,k2,k3⟩,⟨j1,j2⟩,i1,_⟩:=nds0 h.nd0
 exact ⟨by rw [upd_ne n4];exact h.o,by rw [upd_ne m3];exact h.lp,by rw [upd_ne k2];exact h.ld,by rw [upd_ne j1];exact h.lr,upd_same,h.ul,h.nus c_lw,h.dl,h.ndi c_lw i1,h.nd0,h.nd1,h.nd2⟩
theorem HAt.setRooms (h:HAt CH CP CM H A s) (r:List (Option Nat)):HAt CH CP CM (upd H A.lr (.lst (r.map vU))) A { s with rooms:=r }:=by
 obtain ⟨⟨n1,n2,n3,n4,n5⟩,⟨m1,m2,m3,m4⟩,⟨k1,k2,k3⟩,⟨j1,j2⟩,i1,_⟩:=nds0 h.nd0
 exact ⟨by rw [upd_ne n3];exact h.o,by rw [upd_ne m2];exact h.lp,by rw [upd_ne k1];exact h.ld,upd_same,by rw [upd_ne (Ne.symm j1)];exact h.lw,h.ul,h.nus c_lr,h.dl,h.ndi c_lr j2,h.nd0,h.nd1,h.nd2⟩
theorem HAt.setU (h:HAt CH CP CM H A s) {i:Nat} {B:PAd} {u':Usr} (e:A.ps[i]? = some B) (D:PAt CP CM H' B u') (F:FrL H H' (foot B)) (D0:∀ x∈foot B,∀ xs,H x≠some (.tup xs)):HAt CH CP CM H' A { s with us:=s.us.set i u' }:=by
 have nc:∀ x∈core A,x∉foot B:=fun x hx hy=>h.nd1 i B e x hy hx
 have hi:i < s.us.length:=by
  rw [← h.ul]
  rcases Nat.lt_or_ge i A.ps.length with y | y
  ·exact y
  ·rw [List.getElem?_eq_none y] at e;cases e
 refine ⟨F _ _ h.o (nc _ c_h),F _ _ h.lp (nc _ c_lp),F _ _ h.ld (nc _ c_ld),F _ _ h.lr (nc _ c_lr),F _ _ h.lw (nc _ c_lw),by rw [List.length_set];exact h.ul,fun j C u e1 e2=>?_,h.dl,fun j d ev e1 e2=>?_,h.nd0,h.nd1,h.nd2⟩
 ·by_cases g:j = i
  ·subst g
   rw [e] at e1
   cases e1
   rw [List.getElem?_set_self hi] at e2
   cases e2
   exact D
  ·rw [List.getElem?_set_ne (Ne.symm g)] at e2
   exact (h.us j C u e1 e2).far F (h.nd2 j i C B g e1 e)
 ·obtain ⟨rs,E⟩:=h.di j d ev e1 e2
  exact ⟨rs,E.far F (nc _ (c_ds (List.mem_of_getElem? e1))) D0⟩
theorem HAt.setD (h:HAt CH CP CM H A s) {i:Nat} {d r:Addr} {rs:List Addr} {ev:Ev} (e:A.ds[i]? = some d) (E:EvsAt H d rs (s.di.getD i [])) (hr:H r = some (.tup (evV ev))):HAt CH CP CM (upd H d (.lst ((rs ++ [r]).map V.ref))) A { s with di:=s.di.set i (s.di.getD i [] ++ [ev]) }:=by
 obtain ⟨⟨n1,n2,n3,n4,n5⟩,⟨m1,m2,m3,m4⟩,⟨k1,k2,k3⟩,⟨j1,j2⟩,i1,nds⟩:=nds0 h.nd0
 have hd:=List.mem_of_getElem? e
 have ne:∀ {x:Addr},x∉A.ds→x≠d:=fun hx z=>hx (by rw [z];exact hd)
 have hi:i < s.di.length:=by
  rw [← h.dl]
  rcases Nat.lt_or_ge i A.ds.length with y | y
  ·exact y
  ·rw [List.getElem?_eq_none y] at e;cases e
 have nr:∀ {x:Addr} {xs:List V},H x = some (.tup xs)→x≠d:=fun hx z=>by rw [z,E.1] at hx;cases hx
 refine ⟨by rw [upd_ne (ne n5)];exact h.o,by rw [upd_ne (ne m4)];exact h.lp,by rw [upd_ne (ne k3)];exact h.ld,by rw [upd_ne (ne j2)];exact h.lr,by rw [upd_ne (ne i1)];exact h.lw,h.ul,h.nus (c_ds hd),by rw [List.length_set];exact h.dl,fun j d2 e2 g1 g2=>?_,h.nd0,h.nd1,h.nd2⟩
 by_cases g:j = i
 ·subst g
  rw [e] at g1
  cases g1
  rw [List.getElem?_set_self hi] at g2
  cases g2
  refine ⟨rs ++ [r],upd_same,by rw [List.length_append,List.length_append,E.2.1];rfl,fun k r2 ev2 y1 y2=>?_⟩
  rcases Nat.lt_or_ge k rs.length with z | z
  ·rw [List.getElem?_append_left z] at y1
   rw [List.getElem?_append_left (by rw [← E.2.1];exact z)] at y2
   have:=E.2.2 k r2 ev2 y1 y2
   rw [upd_ne (nr this)]
   exact this
  ·rw [List.getElem?_append_right z] at y1
   rw [List.getElem?_append_right (by rw [← E.2.1];exact z)] at y2
   have ei:k - rs.length = 0:=by
    rcases Nat.lt_or_ge (k - rs.length) 1 with z2 | z2
    ·omega
    ·rw [List.getElem?_eq_none (by simpa using z2)] at y1;cases y1
   rw [ei] at y1
   rw [← E.2.1,ei] at y2
   cases y1
   cases y2
   rw [upd_ne (nr hr)]
   exact hr
 ·rw [List.getElem?_set_ne (Ne.symm g)] at g2
  obtain ⟨rs2,E2⟩:=h.di j d2 e2 g1 g2
  have nd:d2≠d:=fun z=>by
   subst z
   exact g ((List.getElem?_inj (by
    rcases Nat.lt_or_ge j A.ds.length with y | y
    ·exact y
    ·rw [List.getElem?_eq_none y] at g1;cases g1) nds).mp (g1.trans e.symm))
  exact ⟨rs2,EvsAt.oth E2 nd (by rw [E.1];intro xs z;cases z)⟩
theorem r_people (T:TxtH K mg CH CP CM) (h:HAt CH CP CM H A s) (q:P (.ref A.lp)):∃ a C dx fs v,V.ref A.h = .ref a∧H a = some (.ins C dx fs)∧Cls K C∧NoAttr K C "people"∧fs.lookup ("people" : Str) = some v∧P v:=⟨A.h,CH,A.dx,_,_,rfl,h.o,T.clH,T.n_people,lk_people _ _,q⟩
theorem r_diaries (T:TxtH K mg CH CP CM) (h:HAt CH CP CM H A s) (q:P (.ref A.ld)):∃ a C dx fs v,V.ref A.h = .ref a∧H a = some (.ins C dx fs)∧Cls K C∧NoAttr K C "diaries"∧fs.lookup ("diaries" : Str) = some v∧P v:=⟨A.h,CH,A.dx,_,_,rfl,h.o,T.clH,T.n_diaries,lk_diaries _ _,q⟩
theorem r_rooms (T:TxtH K mg CH CP CM) (h:HAt CH CP CM H A s) (q:P (.ref A.lr)):∃ a C dx fs v,V.ref A.h = .ref a∧H a = some (.ins C dx fs)∧Cls K C∧NoAttr K C "rooms"∧fs.lookup ("rooms" : Str) = some v∧P v:=⟨A.h,CH,A.dx,_,_,rfl,h.o,T.clH,T.n_rooms,lk_rooms _ _,q⟩
theorem r_quantum (T:TxtH K mg CH CP CM) (h:HAt CH CP CM H A s) (q:P (.int s.quantum)):∃ a C dx fs v,V.ref A.h = .ref a∧H a = some (.ins C dx fs)∧Cls K C∧NoAttr K C "quantum"∧fs.lookup ("quantum" : Str) = some v∧P v:=⟨A.h,CH,A.dx,_,_,rfl,h.o,T.clH,T.n_quantum,lk_quantum _ _,q⟩
theorem r_beat (T:TxtH K mg CH CP CM) (h:HAt CH CP CM H A s) (q:P (.int s.beat)):∃ a C dx fs v,V.ref A.h = .ref a∧H a = some (.ins C dx fs)∧Cls K C∧NoAttr K C "beat"∧fs.lookup ("beat" : Str) = some v∧P v:=⟨A.h,CH,A.dx,_,_,rfl,h.o,T.clH,T.n_beat,lk_beat _ _,q⟩
theorem r_runs (T:TxtH K mg CH CP CM) (h:HAt CH CP CM H A s) (q:P (vU s.runs)):∃ a C dx fs v,V.ref A.h = .ref a∧H a = some (.ins C dx fs)∧Cls K C∧NoAttr K C "runs"∧fs.lookup ("runs" : Str) = some v∧P v:=⟨A.h,CH,A.dx,_,_,rfl,h.o,T.clH,T.n_runs,lk_runs _ _,q⟩
theorem r_row (T:TxtH K mg CH CP CM) (h:HAt CH CP CM H A s) (q:P (.ref A.lw)):∃ a C dx fs v,V.ref A.h = .ref a∧H a = some (.ins C dx fs)∧Cls K C∧NoAttr K C "row"∧fs.lookup ("row" : Str) = some v∧P v:=⟨A.h,CH,A.dx,_,_,rfl,h.o,T.clH,T.n_row,lk_row _ _,q⟩
theorem r_steps (T:TxtH K mg CH CP CM) (h:HAt CH CP CM H A s) (q:P (.int s.steps)):∃ a C dx fs v,V.ref A.h = .ref a∧H a = some (.ins C dx fs)∧Cls K C∧NoAttr K C "steps"∧fs.lookup ("steps" : Str) = some v∧P v:=⟨A.h,CH,A.dx,_,_,rfl,h.o,T.clH,T.n_steps,lk_steps _ _,q⟩
theorem r_idle (T:TxtH K mg CH CP CM) (h:HAt CH CP CM H A s) (q:P (.int s.idle)):∃ a C dx fs v,V.ref A.h = .ref a∧H a = some (.ins C dx fs)∧Cls K C∧NoAttr K C "idle"∧fs.lookup ("idle" : Str) = some v∧P v:=⟨A.h,CH,A.dx,_,_,rfl,h.o,T.clH,T.n_idle,lk_idle _ _,q⟩
theorem r_ticks (T:TxtH K mg CH CP CM) (h:HAt CH CP CM H A s) (q:P (.int s.ticks)):∃ a C dx fs v,V.ref A.h = .ref a∧H a = some (.ins C dx fs)∧Cls K C∧NoAttr K C "ticks"∧fs.lookup ("ticks" : Str) = some v∧P v:=⟨A.h,CH,A.dx,_,_,rfl,h.o,T.clH,T.n_ticks,lk_ticks _ _,q⟩
theorem r_swaps (T:TxtH K mg CH CP CM) (h:HAt CH CP CM H A s) (q:P (.int s.swaps)):∃ a C dx fs v,V.ref A.h = .ref a∧H a = some (.ins C dx fs)∧Cls K C∧NoAttr K C "swaps"∧fs.lookup ("swaps" : Str) = some v∧P v:=⟨A.h,CH,A.dx,_,_,rfl,h.o,T.clH,T.n_swaps,lk_swaps _ _,q⟩
theorem r_turn (T:TxtH K mg CH CP CM) (h:HAt CH CP CM H A s) (q:P (.int s.turn)):∃ a C dx fs v,V.ref A.h = .ref a∧H a = some (.ins C dx fs)∧Cls K C∧NoAttr K C "turn"∧fs.lookup ("turn" : Str) = some v∧P v:=⟨A.h,CH,A.dx,_,_,rfl,h.o,T.clH,T.n_turn,lk_turn _ _,q⟩
theorem r_left (T:TxtH K mg CH CP CM) (h:HAt CH CP CM H A s) (q:P (.int s.left)):∃ a C dx fs v,V.ref A.h = .ref a∧H a = some (.ins C dx fs)∧Cls K C∧NoAttr K C "left"∧fs.lookup ("left" : Str) = some v∧P v:=⟨A.h,CH,A.dx,_,_,rfl,h.o,T.clH,T.n_left,lk_left _ _,q⟩
theorem w_runs {y:Option Nat} (T:TxtH K mg CH CP CM) (h:HAt CH CP CM H A s) (k:∀ H',HAt CH CP CM H' A { s with runs:=y }→FrL H H' (footH A)→PH H'):∃ a C dx fs,V.ref A.h = .ref a∧H a = some (.ins C dx fs)∧Cls K C∧NoAttr K C "runs"∧fs.length < 1000∧PH (upd H a (.ins C dx (putF "runs" (vU y) fs))) :=
 ⟨A.h,CH,A.dx,_,rfl,h.o,T.clH,T.n_runs,len_fldsH _ _,by rw [pf_runs];exact k _ (h.setO _ rfl rfl rfl rfl) (FrL.upd (h_core c_h))⟩
theorem w_steps {y:Int} (T:TxtH K mg CH CP CM) (h:HAt CH CP CM H A s) (k:∀ H',HAt CH CP CM H' A { s with steps:=y }→FrL H H' (footH A)→PH H'):∃ a C dx fs,V.ref A.h = .ref a∧H a = some (.ins C dx fs)∧Cls K C∧NoAttr K C "steps"∧fs.length < 1000∧PH (upd H a (.ins C dx (putF "steps" (.int y) fs))) :=
 ⟨A.h,CH,A.dx,_,rfl,h.o,T.clH,T.n_steps,len_fldsH _ _,by rw [pf_steps];exact k _ (h.setO _ rfl rfl rfl rfl) (FrL.upd (h_core c_h))⟩
theorem w_idle {y:Int} (T:TxtH K mg CH CP CM) (h:HAt CH CP CM H A s) (k:∀ H',HAt CH CP CM H' A { s with idle:=y }→FrL H H' (footH A)→PH H'):∃ a C dx fs,V.ref A.h = .ref a∧H a = some (.ins C dx fs)∧Cls K C∧NoAttr K C "idle"∧fs.length < 1000∧PH (upd H a (.ins C dx (putF "idle" (.int y) fs))) :=
 ⟨A.h,CH,A.dx,_,rfl,h.o,T.clH,T.n_idle,len_fldsH _ _,by rw [pf_idle];exact k _ (h.setO _ rfl rfl rfl rfl) (FrL.upd (h_core c_h))⟩
theorem w_ticks {y:Int} (T:TxtH K mg CH CP CM) (h:HAt CH CP CM H A s) (k:∀ H',HAt CH CP CM H' A { s with ticks:=y }→FrL H H' (footH A)→PH H'):∃ a C dx fs,V.ref A.h = .ref a∧H a = some (.ins C dx fs)∧Cls K C∧NoAttr K C "ticks"∧fs.length < 1000∧PH (upd H a (.ins C dx (putF "ticks" (.int y) fs))) :=
 ⟨A.h,CH,A.dx,_,rfl,h.o,T.clH,T.n_ticks,len_fldsH _ _,by rw [pf_ticks];exact k _ (h.setO _ rfl rfl rfl rfl) (FrL.upd (h_core c_h))⟩
theorem w_swaps {y:Int} (T:TxtH K mg CH CP CM) (h:HAt CH CP CM H A s) (k:∀ H',HAt CH CP CM H' A { s with swaps:=y }→FrL H H' (footH A)→PH H'):∃ a C dx fs,V.ref A.h = .ref a∧H a = some (.ins C dx fs)∧Cls K C∧NoAttr K C "swaps"∧fs.length < 1000∧PH (upd H a (.ins C dx (putF "swaps" (.int y) fs))) :=
 ⟨A.h,CH,A.dx,_,rfl,h.o,T.clH,T.n_swaps,len_fldsH _ _,by rw [pf_swaps];exact k _ (h.setO _ rfl rfl rfl rfl) (FrL.upd (h_core c_h))⟩
theorem w_turn {y:Int} (T:TxtH K mg CH CP CM) (h:HAt CH CP CM H A s) (k:∀ H',HAt CH CP CM H' A { s with turn:=y }→FrL H H' (footH A)→PH H'):∃ a C dx fs,V.ref A.h = .ref a∧H a = some (.ins C dx fs)∧Cls K C∧NoAttr K C "turn"∧fs.length < 1000∧PH (upd H a (.ins C dx (putF "turn" (.int y) fs))) :=
 ⟨A.h,CH,A.dx,_,rfl,h.o,T.clH,T.n_turn,len_fldsH _ _,by rw [pf_turn];exact k _ (h.setO _ rfl rfl rfl rfl) (FrL.upd (h_core c_h))⟩
theorem w_left {y:Int} (T:TxtH K mg CH CP CM) (h:HAt CH CP CM H A s) (k:∀ H',HAt CH CP CM H' A { s with left:=y }→FrL H H' (footH A)→PH H'):∃ a C dx fs,V.ref A.h = .ref a∧H a = some (.ins C dx fs)∧Cls K C∧NoAttr K C "left"∧fs.length < 1000∧PH (upd H a (.ins C dx (putF "left" (.int y) fs))) :=
 ⟨A.h,CH,A.dx,_,rfl,h.o,T.clH,T.n_left,len_fldsH _ _,by rw [pf_left];exact k _ (h.setO _ rfl rfl rfl rfl) (FrL.upd (h_core c_h))⟩
end
end Hs
local macro_rules | `(tactic| wtm_at "v") => `(tactic| (with_reducible first | refine Hs.r_people (by assumption) (by assumption) ?_ | refine Hs.r_diaries (by assumption) (by assumption) ?_ | refine Hs.r_rooms (by assumption) (by assumption) ?_ | refine Hs.r_quantum (by assumption) (by assumption) ?_ | refine Hs.r_beat (by assumption) (by assumption) ?_ | refine Hs.r_runs (by assumption) (by assumption) ?_ | refine Hs.r_row (by assumption) (by assumption) ?_ | refine Hs.r_steps (by assumption) (by assumption) ?_ | refine Hs.r_idle (by assumption) (by assumption) ?_ | refine Hs.r_ticks (by assumption) (by assumption) ?_ | refine Hs.r_swaps (by assumption) (by assumption) ?_ | refine Hs.r_turn (by assumption) (by assumption) ?_ | refine Hs.r_left (by assumption) (by assumption) ?_))
namespace Hs
open PySem L2 Mir Pr Tx Lw Dm Us Du Pp
structure Bd (s:Hse) (M:Nat):Prop where
 ru:∀ u∈s.us,RgU u
 pa:∀ u∈s.us,u.pap.length≤M
 dl:∀ d∈s.di,d.length≤M
 rl:s.row.length≤M
 n1:s.us.length≤8
 n2:s.di.length = s.us.length
 rr:∀ u∈s.row,u < s.us.length
 rn:∀ u,s.runs = some u→u < s.us.length
 ro:0 < s.rooms.length∧s.rooms.length≤8
 tu:0≤s.turn∧s.turn < (s.rooms.length:Int)
 be:0 < s.beat
theorem mem_setL {α:Type} {l:List α} {i:Nat} {v w:α} {P:α→Prop} (h:∀ x∈l,P x) (hv:P v) (hw:w∈l.set i v):P w:=by
 rcases List.mem_or_eq_of_mem_set hw with h1 | h1
 ·exact h w h1
 ·rw [h1];exact hv
theorem usr_mem {s:Hse} {u:Nat} (h:u < s.us.length):usr s u∈s.us:=by
 unfold usr
 rw [List.getD_eq_getElem?_getD,List.getElem?_eq_getElem h]
 exact List.getElem_mem h
theorem di_mem {s:Hse} {u:Nat} (h:u < s.di.length):s.di.getD u []∈s.di:=by
 rw [List.getD_eq_getElem?_getD,List.getElem?_eq_getElem h]
 exact List.getElem_mem h
theorem happenIn_len (s:Hse) (u:Nat) (e:Ev):(happenIn s u e).us.length = s.us.length:=by unfold happenIn;exact List.length_set
theorem Bd.happen {s:Hse} {M:Nat} (h:Bd s M) {u:Nat} (hu:u < s.us.length) {e:Ev} (he:EvOk e) (hM:M < 900000):Bd (happenIn s u e) (M + 1):=by
 have hp:=h.pa _ (usr_mem hu)
 have hr:=(h.ru _ (usr_mem hu)).happen he (by omega)
 have hpp:=pap_happen (usr s u) e
 have hd:=h.dl _ (di_mem (by rw [h.n2];exact hu))
 refine ⟨fun x hx=>mem_setL h.ru hr hx,fun x hx=>mem_setL (P:=fun x=>x.pap.length≤M + 1) (fun y hy=>Nat.le_succ_of_le (h.pa y hy)) (by omega) hx,fun x hx=>mem_setL (P:=fun x=>x.length≤M + 1) (fun y hy=>Nat.le_succ_of_le (h.dl y hy)) (by rw [List.length_append,List.length_singleton];omega) hx,?_,by rw [happenIn_len];exact h.n1,?_,?_,fun v hv=>by rw [happenIn_len];exact h.rn v hv,h.ro,h.tu,h.be⟩
 ·unfold happenIn
  dsimp only
  have:=h.rl
  split
  ·rw [List.length_append,List.length_singleton];omega
  ·omega
 ·rw [happenIn_len]
  unfold happenIn
  exact List.length_set.trans h.n2
 ·rw [happenIn_len]
  unfold happenIn
  dsimp only
  split
  ·intro v hv
   rcases List.mem_append.mp hv with z | z
   ·exact h.rr v z
   ·rw [List.mem_singleton.mp z];exact hu
  ·exact h.rr
theorem Bd.endT {s:Hse} {M:Nat} (h:Bd s M):Bd (endTurn s) M:=⟨h.ru,h.pa,h.dl,h.rl,h.n1,h.n2,h.rr,(fun u hu=>by cases hu),h.ro,h.tu,h.be⟩
theorem Bd.mono {s:Hse} {M N:Nat} (h:Bd s M) (hM:M≤N):Bd s N:=⟨h.ru,fun u hu=>Nat.le_trans (h.pa u hu) hM,fun d hd=>Nat.le_trans (h.dl d hd) hM,Nat.le_trans h.rl hM,h.n1,h.n2,h.rr,h.rn,h.ro,h.tu,h.be⟩
theorem Bd.bring {s:Hse} {M:Nat} (h:Bd s M) {u:Nat}:Bd (bringIn s u) M:=by
 unfold bringIn
 split
 ·exact h
 ·have:=h.ro
  exact ⟨h.ru,h.pa,h.dl,h.rl,h.n1,h.n2,h.rr,h.rn,by rw [List.length_set];exact h.ro,by rw [List.length_set];exact ⟨Int.emod_nonneg _ (by omega),Int.emod_lt_of_pos _ (by omega)⟩,h.be⟩
theorem Bd.next {s:Hse} {M:Nat} (h:Bd s M):Bd (letNext s) M:=by
 unfold letNext
 split
 ·rename_i u r e1 e2
  refine Bd.bring (s:={ s with runs:=some u,row:=r,left:=s.quantum }) ⟨h.ru,h.pa,h.dl,?_,h.n1,h.n2,?_,?_,h.ro,h.tu,h.be⟩
  ·have:=h.rl;rw [e2,List.length_cons] at this;dsimp only;omega
  ·intro v hv;exact h.rr v (by rw [e2];exact List.mem_cons_of_mem _ hv)
  ·intro v hv;cases hv;exact h.rr u (by rw [e2];exact List.mem_cons_self)
 ·exact h
theorem Bd.short {s:Hse} {M:Nat} (h:Bd s M) {u:Nat} (hu:u < s.us.length):Bd (shorten s u) (M + 1):=by
 have hr:=h.rl
 unfold shorten
 split
 ·refine Bd.endT ⟨h.ru,fun u hu=>Nat.le_succ_of_le (h.pa u hu),fun d hd=>Nat.le_succ_of_le (h.dl d hd),by dsimp only;rw [List.length_append,List.length_singleton];omega,h.n1,h.n2,fun v hv=>?_,h.rn,h.ro,h.tu,h.be⟩
  rcases List.mem_append.mp hv with z | z
  ·exact h.rr v z
  ·rw [List.mem_singleton.mp z];exact hu
 ·exact ⟨h.ru,fun u hu=>Nat.le_succ_of_le (h.pa u hu),fun d hd=>Nat.le_succ_of_le (h.dl d hd),Nat.le_succ_of_le h.rl,h.n1,h.n2,h.rr,h.rn,h.ro,h.tu,h.be⟩
theorem ticksN_len (s:Hse):∀ n,(ticksN n s).us.length = s.us.length
 | 0=>rfl
 | n + 1=>by rw [ticksN,happenIn_len,ticksN_len s n]
theorem Bd.ticks {s:Hse} {M:Nat} (h:Bd s M) (hM:M < 800000):∀ n,n≤s.us.length→Bd (ticksN n s) (M + n)
 | 0,_=>h
 | n + 1,hn=>by
  have:=h.n1
  exact (Bd.ticks h hM n (by omega)).happen (by rw [ticksN_len];omega) trivial (by omega)
theorem Bd.count {s:Hse} {M:Nat} (h:Bd s M) {t:Int}:Bd { s with ticks:=t } M:=⟨h.ru,h.pa,h.dl,h.rl,h.n1,h.n2,h.rr,h.rn,h.ro,h.tu,h.be⟩
theorem Bd.tick {s:Hse} {M:Nat} (h:Bd s M) (hM:M < 800000):Bd (doTick s) (M + 9):=by
 have hn:=h.n1
 have h1:=(h.count (t:=s.ticks + 1)).ticks hM s.us.length (Nat.le_refl _)
 unfold doTick lastT
 split
 ·exact h1.mono (by omega)
 ·rename_i u e
  exact (h1.short (h1.rn u e)).mono (by omega)
theorem Bd.who {s:Hse} {M:Nat} (h:Bd s M) {u:Nat} (hu:u < s.us.length) (hM:M < 800000):Bd (stepWho s u) (M + 1):=by
 have h1:=h.happen hu (e:=.step) trivial (by omega)
 unfold stepWho
 split
 ·exact h1
 ·exact h1.endT
theorem Bd.s1 {s:Hse} {M:Nat} (h:Bd s M) (hM:M < 800000):Bd (step1 s) (M + 1):=by
 unfold step1
 split
 ·exact Bd.mono (M:=M) ⟨h.ru,h.pa,h.dl,h.rl,h.n1,h.n2,h.rr,h.rn,h.ro,h.tu,h.be⟩ (Nat.le_succ _)
 ·rename_i u e
  exact Bd.who (s:={ s with steps:=s.steps + 1 }) ⟨h.ru,h.pa,h.dl,h.rl,h.n1,h.n2,h.rr,h.rn,h.ro,h.tu,h.be⟩ (h.rn u e) hM
theorem Bd.s2 {s:Hse} {M:Nat} (h:Bd s M) (hM:M < 800000):Bd (step2 s) (M + 9):=by
 unfold step2
 split
 ·exact h.tick hM
 ·exact h.mono (by omega)
theorem Bd.step {s:Hse} {M:Nat} (h:Bd s M) (hM:M < 790000):Bd (doStep s) (M + 10):=((h.s1 (by omega)).s2 (by omega)).next
theorem Bd.run {s:Hse} {M:Nat} (h:Bd s M):∀ n,M + 10 * n < 790000→Bd (runN n s) (M + 10 * n)
 | 0,_=>h
 | n + 1,hn=>by
  have:=(Bd.run h n (by omega)).step (by omega)
  exact this.mono (by omega)
end Hs
namespace Hs
open PySem L2 Mir Pr Tx Lw Dm Us Du Pp
def sp_rw:Sp:=fun vs H Q _=>∃ (lr:Addr) (rs:List (Option Nat)) (u:Nat),vs = [.ref lr,.int (u:Int)]∧H lr = some (.lst (rs.map vU))∧rs.length≤1000∧∀ H',Same H H'→Q (vU (findR u rs)) H'
def spH (CH CP CM:Addr) (pre:Hse→Prop) (f:Hse→Hse):Sp:=fun vs H Q _=>∃ A s,vs = [.ref A.h]∧HAt CH CP CM H A s∧pre s∧∀ H',HAt CH CP CM H' A (f s)→FrL H H' (footH A)→Q .non H'
def spHu (CH CP CM:Addr) (pre:Hse→Nat→Prop) (f:Hse→Nat→Hse):Sp:=fun vs H Q _=>∃ A s u,vs = [.ref A.h,.int ((u:Nat):Int)]∧HAt CH CP CM H A s∧pre s u∧∀ H',HAt CH CP CM H' A (f s u)→FrL H H' (footH A)→Q .non H'
def sp_hin (CH CP CM:Addr):Sp:=fun vs H Q _=>∃ A s M u e ev,vs = [.ref A.h,.int ((u:Nat):Int),.ref e]∧HAt CH CP CM H A s∧Bd s M∧M < 900000∧u < s.us.length∧H e = some (.tup (evV ev))∧∀ H',HAt CH CP CM H' A (happenIn s u ev)→FrL H H' (footH A)→Q .non H'
theorem findR_drop {u:Nat} {rs:List (Option Nat)} {i:Nat} {g:Option Nat} (h:rs[i]? = some g):findR u (rs.drop i) = if g = some u then some 0 else (findR u (rs.drop (i + 1))).map (· + 1):=by
 obtain ⟨hi,e⟩:=List.getElem?_eq_some_iff.mp h
 rw [List.drop_eq_getElem_cons hi,findR,e]
section
variable {P:Program} {w:World} {K:PySem.W.Frag} {mg:Str→Option Value} {base:Heap} {CH CP CM:Addr}
theorem ok_rw (R:Raw K mg "room_with" s_room_with) (T:TxtH K mg CH CP CM):GF P w K mg base "room_with" ["rooms","user"] 1 sp_rw:=by
 refine GF.mk R sc_room_with (by wtm_at "2") (fun vs H Q E h=>?_) (fun f cdv A outer s H vs Q E hr h=>?_)
 ·obtain ⟨lr,rs,u,rfl,_⟩:=h;rfl
 ·obtain ⟨lr,rs,u,rfl,hr1,hl,k⟩:=h
  refine ⟨_,(@pss_cons _ _ _ _ _ (@ps_for _ _ _ _ _ _ _ _ PassesOwn.never rfl (@pi_enumK _ (K) _ _ _ _ _ _ _ rfl rfl T.enumerate_ (@pa_c _ _ _ _ _ (pv 0) pa_nil rfl) rfl) (@pg_tupK _ (K) _ _ _ _ (2) rfl rfl (@pgs_cons _ _ _ _ _ (@pg_name _ _ (2) _ sc_room_with.nd rfl (Or.inl rfl) (by first | exact .inl rfl | exact .inr rfl | assumption)) (@pgs_cons _ _ _ _ _ (@pg_name _ _ (3) _ sc_room_with.nd rfl (Or.inl rfl) (by first | exact .inl rfl | exact .inr rfl | assumption)) pgs_nil rfl) rfl) rfl rfl) (@pss_one _ _ _ (@ps_if _ _ _ _ _ _ _ _ (@pt_cmpR _ _ _ _ _ _ _ _ op_eq (pv 3) (pv 1) (nomark _)) (@pss_one _ _ _ (@ps_ret _ _ _ _ (pv 2))) pss_nil)) (fun _=>rfl)) (@pss_one _ _ _ (@ps_ret _ _ _ _ pe_non))),?_⟩
  wtm_at "vv"
  refine ⟨lr,_,rfl,SqL.of hr1,for_enum (xs:=rs.map vU) (fun i σ' H'=>∃ x y,σ' = [some (.ref lr),some (.int (u:Int)),x,y]∧Same H H'∧findR u rs = (findR u (rs.drop i)).map (· + i)) ?_ ?_ ?_ ?_⟩
  ·refine ⟨_,_,rfl,Same.refl _,?_⟩
   rw [List.drop_zero]
   cases findR u rs <;> rfl
  ·rintro i _ H' _ ⟨x,y,rfl,sm,_⟩
   exact SqL.of (sm _ _ hr1)
  ·rintro i v t _ H' hv ⟨x,y,rfl,sm,hf⟩ nt
   rw [List.getElem?_map] at hv
   cases hg:rs[i]? with
   | none=>rw [hg] at hv;cases hv
   | some g =>
    rw [hg] at hv
    cases hv
    rw [findR_drop hg] at hf
    refine ⟨t,_,rfl,SqT.of upd_same,rfl,_,_,rfl,_,_,rfl,rfl,?_⟩
    have s8:Same H' (upd H' t (.tup [.int i,vU g])):=Same.newH nt
    generalize upd H' t (.tup [.int i,vU g]) = H8 at s8 ⊢
    wtm_at "vv"
    refine ⟨by cases g <;> rfl,?_⟩
    wtm_at "vv"
    refine iteD (fun e=>?_) (fun e=>?_)
    ·have e':g = some u:=by
      cases g with
      | none=>cases e
      | some n =>
       have:V.int (n:Int) = V.int (u:Int):=e
       injection this with z
       rw [Int.ofNat_inj.mp z]
     rw [if_pos e'] at hf
     have hfi:findR u rs = some i:=by rw [hf];simp
     rw [hfi] at k
     wtm_at "vv"
     exact k H8 (sm.trans s8)
    ·have e':¬ g = some u:=fun z=>e (by rw [z];rfl)
     rw [if_neg e'] at hf
     refine ⟨_,_,rfl,sm.trans s8,?_⟩
     rw [hf]
     cases findR u (rs.drop (i + 1)) with
     | none=>rfl
     | some n=>show some (n + 1 + i) = some (n + (i + 1));congr 1;omega
  ·rintro _ H' ⟨x,y,rfl,sm,hf⟩
   rw [List.length_map,List.drop_length] at hf
   rw [hf] at k
   wtm_at "vv"
   exact k H' sm
theorem ok_bring (R:Raw K mg "bring_in" s_bring_in) (T:TxtH K mg CH CP CM) (G_room_with:GF P w K mg base "room_with" ["rooms","user"] 1 sp_rw):GF P w K mg base "bring_in" ["house","user"] 2 (spHu CH CP CM (fun s _=>∃ M,Bd s M) bringIn):=by
 refine GF.mk R sc_bring_in (by wtm_at "2") (fun vs H Q E h=>?_) (fun f cdv A outer s H vs Q E hr h=>?_)
 ·obtain ⟨A,s,u,rfl,_⟩:=h;rfl
 ·obtain ⟨A,s,u,rfl,D,⟨M,hB⟩,k⟩:=h
  obtain ⟨r0,r1⟩:=hB.ro
  obtain ⟨t0,t1⟩:=hB.tu
  refine ⟨_,(@pss_one _ _ _ (@ps_if _ _ _ _ _ _ _ _ (@pt_cmpR _ _ _ _ _ _ _ _ op_isN (@pe_gcallN _ _ _ _ _ _ _ _ _ _ G_room_with (hr.mono (by decide)) rfl (@pa_c _ _ _ _ _ (@pe_fldK _ (K) _ _ _ _ rfl (pv 0) rfl) (@pa_c _ _ _ _ _ (pv 1) pa_nil rfl) rfl) (by decide) rfl) pe_non (nomark _)) (@pss_cons _ _ _ _ _ (ps_asg (pv 1) (pg_sub (@pe_fldK _ (K) _ _ _ _ rfl (pv 0) rfl) (@pe_fldK _ (K) _ _ _ _ rfl (pv 0) rfl) set_list)) (@pss_cons _ _ _ _ _ (@ps_fldK _ (K) _ _ _ _ _ _ _ rfl (pv 0) (@pe_op _ _ _ _ _ _ _ _ op_add (@pe_fldK _ (K) _ _ _ _ rfl (pv 0) rfl) pe_int) rfl) (@pss_one _ _ _ (@ps_fldK _ (K) _ _ _ _ _ _ _ rfl (pv 0) (@pe_op _ _ _ _ _ _ _ _ op_mod (@pe_op _ _ _ _ _ _ _ _ op_add (@pe_fldK _ (K) _ _ _ _ rfl (pv 0) rfl) pe_int) (@pe_callBN _ _ _ _ _ _ _ _ _ (call_len_seqN (K:=K) rfl) (by rfl) T.len_ bo_len (@pa_c _ _ _ _ _ (@pe_fldK _ (K) _ _ _ _ rfl (pv 0) rfl) pa_nil rfl) (by decide) (by decide) rfl)) rfl)))) pss_nil)),?_⟩
  wtm_at "vv"
  refine ⟨A.lr,s.rooms,u,rfl,D.lr,by omega,fun H1 s1=>?_⟩
  have D1:=D.keep s1
  unfold bringIn at k
  cases hf:findR u s.rooms with
  | some i =>
   rw [hf] at k
   wtm_at "vv"
   refine iteD (fun z=>by cases z) (fun _=>?_)
   exact k H1 D1 (fun b o e _=>s1 b o e)
  | none =>
   rw [hf] at k
   dsimp only at k
   wtm_at "vv"
   refine ⟨A.lr,_,s.turn,_,rfl,rfl,D1.lr,ixN_ints t0 (by rw [List.length_map];exact t1),?_⟩
   have D2:=D1.setRooms (s.rooms.set s.turn.toNat (some u))
   rw [List.map_set] at D2
   have F2:FrL H (upd H1 A.lr (.lst ((s.rooms.map vU).set s.turn.toNat (vU (some u))))) (footH A):=fun b o e n=>by rw [upd_ne (fun z=>n (by rw [z];exact h_core c_lr))];exact s1 b o e
   have eH:upd H1 A.lr (.lst ((s.rooms.map vU).set s.turn.toNat (V.int (u:Int)))) = upd H1 A.lr (.lst ((s.rooms.map vU).set s.turn.toNat (vU (some u)))):=rfl
   rw [eH]
   generalize upd H1 A.lr (.lst ((s.rooms.map vU).set s.turn.toNat (vU (some u)))) = H2 at D2 F2 ⊢
   wtm_at "vv"
   refine w_swaps T D2 fun H3 D3 F3=>?_
   wtm_at "vv"
   refine Sx.lenL D3.lr ?_
   have el:((s.rooms.set s.turn.toNat (some u)).map vU).length = s.rooms.length:=by rw [List.length_map,List.length_set]
   rw [el]
   wtm_at "vv"
   refine w_turn T D3 fun H4 D4 F4=>?_
   exact k H4 D4 (F2.trans (F3.trans F4))
theorem ok_next (R:Raw K mg "let_next_run" s_let_next_run) (T:TxtH K mg CH CP CM) (G_bring_in:GF P w K mg base "bring_in" ["house","user"] 2 (spHu CH CP CM (fun s _=>∃ M,Bd s M) bringIn)):GF P w K mg base "let_next_run" ["house"] 3 (spH CH CP CM (fun s=>∃ M,Bd s M) letNext):=by
 refine GF.mk R sc_let_next_run (by wtm_at "1") (fun vs H Q E h=>?_) (fun f cdv A outer s H vs Q E hr h=>?_)
 ·obtain ⟨A,s,rfl,_⟩:=h;rfl
 ·obtain ⟨A,s,rfl,D,⟨M,hB⟩,k⟩:=h
  refine ⟨_,(@pss_one _ _ _ (@ps_if _ _ _ _ _ _ _ _ (@PW.pt _ _ _ (@pw_and _ _ _ _ _ _ _ (@pt_cmpR _ _ _ _ _ _ _ _ op_isN (@pe_fldK _ (K) _ _ _ _ rfl (pv 0) rfl) pe_non (nomark _)) (@pw_and1 _ _ _ _ (@pt_cmpR _ _ _ _ _ _ _ _ op_gt (@pe_callBN _ _ _ _ _ _ _ _ _ (call_len_seqN (K:=K) rfl) (by rfl) T.len_ bo_len (@pa_c _ _ _ _ _ (@pe_fldK _ (K) _ _ _ _ rfl (pv 0) rfl) pa_nil rfl) (by decide) (by decide) rfl) pe_int (nomark _))))) (@pss_cons _ _ _ _ _ (@ps_fldK _ (K) _ _ _ _ _ _ _ rfl (pv 0) (pe_bm PySem.F.plainAttrs_list PySem.F.slot_list_pop PySem.F.type_list_pop mt_popAt (@pe_fldK _ (K) _ _ _ _ rfl (pv 0) rfl) (@pa_c _ _ _ _ _ pe_int pa_nil rfl)) rfl) (@pss_cons _ _ _ _ _ (@ps_fldK _ (K) _ _ _ _ _ _ _ rfl (pv 0) (@pe_fldK _ (K) _ _ _ _ rfl (pv 0) rfl) rfl) (@pss_one _ _ _ (@ps_expr _ _ _ _ (@pe_gcallN _ _ _ _ _ _ _ _ _ _ G_bring_in (hr.mono (by decide)) rfl (@pa_c _ _ _ _ _ (pv 0) (@pa_c _ _ _ _ _ (@pe_fldK _ (K) _ _ _ _ rfl (pv 0) rfl) pa_nil rfl) rfl) (by decide) rfl) rfl)))) pss_nil)),?_⟩
  unfold letNext at k
  wtm_at "vv"
  cases hru:s.runs with
  | some v =>
   rw [hru] at k
   dsimp only at k
   refine iteD (fun z=>by cases z) (fun _=>?_)
   wtm_at "vv"
   exact k H D FrL.refl
  | none =>
   rw [hru] at k
   refine iteD (fun _=>?_) (fun z=>(z rfl).elim)
   wtm_at "vv"
   refine Sx.lenL D.lw ?_
   wtm_at "vv"
   cases hrow:s.row with
   | nil =>
    rw [hrow] at k
    dsimp only at k
    refine iteD (fun g=>by simp [rowV] at g) (fun _=>?_)
    exact k H D FrL.refl
   | cons v r =>
    rw [hrow] at k
    dsimp only at k
    refine iteD (fun _=>?_) (fun g=>(g (by simp [rowV])).elim)
    have hw:H A.lw = some (.lst (V.int (v:Int)::rowV r)):=by rw [D.lw,hrow];rfl
    wtm_at "vv"
    refine ⟨Sx.tyL hw,?_⟩
    wtm_at "vv"
    refine Sx.pop0 hw ?_
    have D1:=D.setRow r
    have F1:FrL H (upd H A.lw (.lst (rowV r))) (footH A):=FrL.upd (h_core c_lw)
    generalize upd H A.lw (.lst (rowV r)) = H1 at D1 F1 ⊢
    wtm_at "vv"
    refine w_runs (y:=some v) T D1 fun H2 D2 F2=>?_
    wtm_at "vv"
    refine w_left T D2 fun H3 D3 F3=>?_
    wtm_at "vv"
    refine ⟨A,_,v,rfl,D3,⟨M,⟨hB.ru,hB.pa,hB.dl,?_,hB.n1,hB.n2,?_,?_,hB.ro,hB.tu,hB.be⟩⟩,fun H4 D4 F4=>k H4 (D4.same ?_) (F1.trans (F2.trans (F3.trans F4)))⟩
    ·have:=hB.rl;rw [hrow,List.length_cons] at this;dsimp only;omega
    ·intro x hx;exact hB.rr x (by rw [hrow];exact List.mem_cons_of_mem _ hx)
    ·intro x hx;cases hx;exact hB.rr v (by rw [hrow];exact List.mem_cons_self)
    ·rfl
theorem ok_end (R:Raw K mg "end_turn" s_end_turn) (T:TxtH K mg CH CP CM):GF P w K mg base "end_turn" ["house"] 1 (spH CH CP CM (fun _=>True) endTurn):=by
 refine GF.mk R sc_end_turn (by wtm_at "1") (fun vs H Q E h=>?_) (fun f cdv A outer s H vs Q E hr h=>?_)
 ·obtain ⟨A,s,rfl,_⟩:=h;rfl
 ·obtain ⟨A,s,rfl,D,_,k⟩:=h
  refine ⟨_,(@pss_cons _ _ _ _ _ (@ps_fldK _ (K) _ _ _ _ _ _ _ rfl (pv 0) pe_non rfl) (@pss_one _ _ _ (@ps_fldK _ (K) _ _ _ _ _ _ _ rfl (pv 0) pe_int rfl))),?_⟩
  wtm_at "vv"
  refine w_runs (y:=none) T D fun H1 D1 F1=>?_
  wtm_at "vv"
  refine w_left T D1 fun H2 D2 F2=>?_
  exact k H2 D2 (F1.trans F2)
theorem ok_short (R:Raw K mg "shorten_turn" s_shorten_turn) (T:TxtH K mg CH CP CM) (G_end_turn:GF P w K mg base "end_turn" ["house"] 1 (spH CH CP CM (fun _=>True) endTurn)):GF P w K mg base "shorten_turn" ["house"] 2 (spH CH CP CM (fun s=>s.row.length < 1000000∧∃ u,s.runs = some u) lastT):=by
 refine GF.mk R sc_shorten_turn (by wtm_at "1") (fun vs H Q E h=>?_) (fun f cdv A outer s H vs Q E hr h=>?_)
 ·obtain ⟨A,s,rfl,_⟩:=h;rfl
 ·obtain ⟨A,s,rfl,D,⟨hl,u,hu⟩,k⟩:=h
  refine ⟨_,(@pss_cons _ _ _ _ _ (@ps_fldK _ (K) _ _ _ _ _ _ _ rfl (pv 0) (@pe_op _ _ _ _ _ _ _ _ op_sub (@pe_fldK _ (K) _ _ _ _ rfl (pv 0) rfl) pe_int) rfl) (@pss_one _ _ _ (@ps_if _ _ _ _ _ _ _ _ (@pt_cmpR _ _ _ _ _ _ _ _ op_eq (@pe_fldK _ (K) _ _ _ _ rfl (pv 0) rfl) pe_int (nomark _)) (@pss_cons _ _ _ _ _ (@ps_expr _ _ _ _ (pe_bm PySem.F.plainAttrs_list PySem.F.slot_list_append PySem.F.type_list_append mt_append (@pe_fldK _ (K) _ _ _ _ rfl (pv 0) rfl) (@pa_c _ _ _ _ _ (@pe_fldK _ (K) _ _ _ _ rfl (pv 0) rfl) pa_nil rfl)) rfl) (@pss_one _ _ _ (@ps_expr _ _ _ _ (@pe_gcallN _ _ _ _ _ _ _ _ _ _ G_end_turn (hr.mono (by decide)) rfl (@pa_c _ _ _ _ _ (pv 0) pa_nil rfl) (by decide) rfl) rfl))) pss_nil))),?_⟩
  have ek:lastT s = shorten s u:=by unfold lastT;rw [hu]
  rw [ek] at k
  unfold shorten at k
  wtm_at "vv"
  refine w_left T D fun H1 D1 F1=>?_
  wtm_at "vv"
  refine iteD (fun g=>?_) (fun g=>?_)
  ·have g':s.left - 1 = 0:=g
   rw [if_pos g'] at k
   wtm_at "vv"
   refine ⟨Sx.tyL D1.lw,?_⟩
   wtm_at "vv"
   have eu:vU ({ s with left:=s.left - 1 }:Hse).runs = .int (u:Int):=by show vU s.runs = _;rw [hu];rfl
   rw [eu]
   refine Sx.app D1.lw (by unfold rowV;rw [List.length_map];show s.row.length < _;omega) ?_
   have D2:=D1.setRow (s.row ++ [u])
   have er:rowV (s.row ++ [u]) = rowV s.row ++ [.int (u:Int)]:=by unfold rowV;rw [List.map_append];rfl
   rw [er] at D2
   have F2:FrL H1 (upd H1 A.lw (.lst (rowV s.row ++ [.int (u:Int)]))) (footH A):=FrL.upd (h_core c_lw)
   have eH:upd H1 A.lw (.lst (rowV ({ s with left:=s.left - 1 }:Hse).row ++ [.int (u:Int)])) = upd H1 A.lw (.lst (rowV s.row ++ [.int (u:Int)])):=rfl
   rw [eH]
   generalize upd H1 A.lw (.lst (rowV s.row ++ [.int (u:Int)])) = H2 at D2 F2 ⊢
   wtm_at "vv"
   exact ⟨A,_,rfl,D2,trivial,fun H3 D3 F3=>k H3 D3 (F1.trans (F2.trans F3))⟩
  ·have g':¬ s.left - 1 = 0:=g
   rw [if_neg g'] at k
   exact k H1 D1 F1
theorem ok_hin (R:Raw K mg "happen_in" s_happen_in) (T:TxtH K mg CH CP CM) (G_happen:GF P w K mg base "happen" ["person","event"] 7 (sp_happenP K CP CM)):GF P w K mg base "happen_in" ["house","user","event"] 8 (sp_hin CH CP CM):=by
 refine GF.mk R sc_happen_in (by wtm_at "3") (fun vs H Q E h=>?_) (fun f cdv A outer s H vs Q E hr h=>?_)
 ·obtain ⟨A,s,M,u,e,ev,rfl,_⟩:=h;rfl
 ·obtain ⟨A,s,M,u,e,ev,rfl,D,hB,hM,hu,he,k⟩:=h
  have TP:=T.toTxtP
  obtain ⟨B,hp,DB,hix⟩:=D.at hu
  obtain ⟨d,rs,hd,Ed,hdx⟩:=D.dat (i:=u) (by rw [hB.n2];exact hu)
  have hdl:=hB.dl _ (di_mem (s:=s) (u:=u) (by rw [hB.n2];exact hu))
  have hrl:=hB.rl
  refine ⟨_,(@pss_cons _ _ _ _ _ (@ps_set _ _ (3) _ _ _ _ sc_happen_in.nd rfl (Or.inl rfl) (@pe_ix _ _ _ _ _ _ _ (ix_listK (K:=K) rfl) (@pe_fldK _ (K) _ _ _ _ rfl (pv 0) rfl) (pv 1) (fun _ _=>rfl)) rfl (by first | exact .inl rfl | exact .inr rfl | assumption)) (@pss_cons _ _ _ _ _ (@ps_set _ _ (4) _ _ _ _ sc_happen_in.nd rfl (Or.inl rfl) (@pe_cmpR _ _ _ _ _ _ _ _ op_eq (@pe_fldK _ (K) _ _ _ _ rfl (pv 3) rfl) (@pe_gstr _ _ _ _ rfl T.READY (by decide)) (nomark _)) rfl (by first | exact .inl rfl | exact .inr rfl | assumption)) (@pss_cons _ _ _ _ _ (@ps_expr _ _ _ _ (pe_bm PySem.F.plainAttrs_list PySem.F.slot_list_append PySem.F.type_list_append mt_append (@pe_ix _ _ _ _ _ _ _ (ix_listK (K:=K) rfl) (@pe_fldK _ (K) _ _ _ _ rfl (pv 0) rfl) (pv 1) (fun _ _=>rfl)) (@pa_c _ _ _ _ _ (pv 2) pa_nil rfl)) rfl) (@pss_cons _ _ _ _ _ (@ps_expr _ _ _ _ (@pe_gcallN _ _ _ _ _ _ _ _ _ _ G_happen (hr.mono (by decide)) rfl (@pa_c _ _ _ _ _ (pv 3) (@pa_c _ _ _ _ _ (pv 2) pa_nil rfl) rfl) (by decide) rfl) rfl) (@pss_one _ _ _ (@ps_if _ _ _ _ _ _ _ _ (@PW.pt _ _ _ (@pw_and _ _ _ _ _ _ _ (@pt_cmpR _ _ _ _ _ _ _ _ op_eq (@pe_fldK _ (K) _ _ _ _ rfl (pv 3) rfl) (@pe_gstr _ _ _ _ rfl T.READY (by decide)) (nomark _)) (@pw_and1 _ _ _ _ (@pt_not _ _ _ _ (@pt_val _ _ _ (pv 4) (fun _=>rfl)))))) (@pss_one _ _ _ (@ps_expr _ _ _ _ (pe_bm PySem.F.plainAttrs_list PySem.F.slot_list_append PySem.F.type_list_append mt_append (@pe_fldK _ (K) _ _ _ _ rfl (pv 0) rfl) (@pa_c _ _ _ _ _ (pv 1) pa_nil rfl)) rfl)) pss_nil)))))),?_⟩
  wtm_at "vv"
  refine Sx.ixL D.lp hix ?_
  wtm_at "vv"
  refine Sx.ixL D.ld hdx ?_
  refine ⟨Sx.tyL Ed.1,?_⟩
  wtm_at "vv"
  refine Sx.app Ed.1 (by rw [List.length_map,Ed.2.1];omega) ?_
  have D1:=D.setD hd Ed he
  rw [List.map_append] at D1
  have hdm:=List.mem_of_getElem? hd
  have F1:FrL H (upd H d (.lst (rs.map V.ref ++ [.ref e]))) (footH A):=FrL.upd (h_core (c_ds hdm))
  have he1:(upd H d (.lst (rs.map V.ref ++ [.ref e]))) e = some (.tup (evV ev)):=by rw [upd_ne (fun z=>by rw [z,Ed.1] at he;cases he)];exact he
  have DB1:PAt CP CM (upd H d (.lst (rs.map V.ref ++ [.ref e]))) B (usr s u):=DB.move fun x hx o ex=>by rw [upd_ne (fun z=>D.nd1 u B hp x hx (by rw [z];exact c_ds hdm))];exact ex
  have D1':HAt CH CP CM (upd H d (.lst (rs.map V.ref ++ [.ref e]))) A { s with di:=s.di.set u (s.di.getD u [] ++ [ev]) }:=D1
  generalize upd H d (.lst (rs.map V.ref ++ [.ref e])) = H1 at D1' F1 he1 DB1 ⊢
  clear D1
  wtm_at "vv"
  refine ⟨B,usr s u,e,ev,rfl,DB1,hB.ru _ (usr_mem hu),SqT.of he1,fun H2 DB2 F2=>?_⟩
  have D2:=D1'.setU (i:=u) hp DB2 F2 (fun x hx=>DB1.kind hx)
  have F2':FrL H1 H2 (footH A):=F2.mono fun x hx=>h_foot hp hx
  have F02:=F1.trans F2'
  unfold happenIn at k
  generalize hu':happenU (usr s u) ev = u' at DB2 D2 k
  wtm_at "vv"
  refine iteD (fun g=>?_) (fun g=>?_)
  ·have g':u'.st = .ready:=St5.inj.mp g
   wtm_at "vv"
   by_cases g2:(usr s u).st = .ready
   ·have e2:decide ((usr s u).st.s = "ready") = true:=decide_eq_true (by rw [g2];rfl)
    rw [e2]
    wtm_at "vv"
    refine k H2 (D2.same ?_) F02
    rw [if_neg (fun z=>z.2 g2)]
   ·have e2:decide ((usr s u).st.s = "ready") = false:=decide_eq_false (fun z=>g2 (St5.inj.mp z))
    rw [e2]
    wtm_at "vv"
    refine ⟨Sx.tyL D2.lw,?_⟩
    wtm_at "vv"
    refine Sx.app D2.lw (by unfold rowV;rw [List.length_map];show s.row.length < _;omega) ?_
    have D3:=D2.setRow (s.row ++ [u])
    have er:rowV (s.row ++ [u]) = rowV s.row ++ [.int (u:Int)]:=by unfold rowV;rw [List.map_append];rfl
    rw [er] at D3
    refine k _ (D3.same ?_) (F02.trans (FrL.upd (h_core c_lw)))
    rw [if_pos ⟨g',g2⟩]
  ·have g':¬ u'.st = .ready:=fun z=>g (St5.inj.mpr z)
   refine k H2 (D2.same ?_) F02
   rw [if_neg (fun z=>g' z.1)]
theorem ok_who (R:Raw K mg "step_who_runs" s_step_who_runs) (T:TxtH K mg CH CP CM) (G_happen_in:GF P w K mg base "happen_in" ["house","user","event"] 8 (sp_hin CH CP CM)) (G_end_turn:GF P w K mg base "end_turn" ["house"] 1 (spH CH CP CM (fun _=>True) endTurn)):GF P w K mg base "step_who_runs" ["house"] 9 (fun vs H Q _=>∃ A s M u,vs = [.ref A.h]∧HAt CH CP CM H A s∧Bd s M∧M < 900000∧s.runs = some u∧∀ H',HAt CH CP CM H' A (stepWho s u)→FrL H H' (footH A)→Q .non H'):=by
 refine GF.mk R sc_step_who_runs (by wtm_at "1") (fun vs H Q E h=>?_) (fun f cdv A outer s H vs Q E hr h=>?_)
 ·obtain ⟨A,s,M,u,rfl,_⟩:=h;rfl
 ·obtain ⟨A,s,M,u,rfl,D,hB,hM,hru,k⟩:=h
  have TP:=T.toTxtP
  have hu:=hB.rn u hru
  refine ⟨_,(@pss_cons _ _ _ _ _ (@ps_set _ _ (1) _ _ _ _ sc_step_who_runs.nd rfl (Or.inl rfl) (@pe_fldK _ (K) _ _ _ _ rfl (pv 0) rfl) rfl (by first | exact .inl rfl | exact .inr rfl | assumption)) (@pss_cons _ _ _ _ _ (@ps_expr _ _ _ _ (@pe_gcallN _ _ _ _ _ _ _ _ _ _ G_happen_in (hr.mono (by decide)) rfl (@pa_c _ _ _ _ _ (pv 0) (@pa_c _ _ _ _ _ (pv 1) (@pa_c _ _ _ _ _ (@pe_tup _ _ _ _ _ (@pa_c _ _ _ _ _ pe_str pa_nil rfl)) pa_nil rfl) rfl) rfl) (by decide) rfl) rfl) (@pss_one _ _ _ (@ps_if _ _ _ _ _ _ _ _ (@pt_cmpR _ _ _ _ _ _ _ _ op_ne (@pe_fldK _ (K) _ _ _ _ rfl (@pe_ix _ _ _ _ _ _ _ (ix_listK (K:=K) rfl) (@pe_fldK _ (K) _ _ _ _ rfl (pv 0) rfl) (pv 1) (fun _ _=>rfl)) rfl) (@pe_gstr _ _ _ _ rfl T.READY (by decide)) (nomark _)) (@pss_one _ _ _ (@ps_expr _ _ _ _ (@pe_gcallN _ _ _ _ _ _ _ _ _ _ G_end_turn (hr.mono (by decide)) rfl (@pa_c _ _ _ _ _ (pv 0) pa_nil rfl) (by decide) rfl) rfl)) pss_nil)))),?_⟩
  wtm_at "vv"
  rw [show vU s.runs = V.int (u:Int) by rw [hru];rfl]
  refine Sx.newT (by show 1≤sizeLine;decide) fun e H1 ne he s1=>?_
  wtm_at "vv"
  refine ⟨A,s,M,u,e,.step,rfl,D.keep s1,hB,hM,hu,he,fun H2 D2 F2=>?_⟩
  have F02:FrL H H2 (footH A):=fun b o x n=>F2 b o (s1 b o x) n
  obtain ⟨B,hp,DB,hix⟩:=D2.at (i:=u) (by rw [happenIn_len];exact hu)
  unfold stepWho at k
  wtm_at "vv"
  refine Sx.ixL D2.lp hix ?_
  wtm_at "vv"
  refine iteN (fun g=>?_) (fun g=>?_)
  ·have g':¬ (usr (happenIn s u .step) u).st = .ready:=fun z=>g (St5.inj.mpr z)
   rw [if_neg g'] at k
   wtm_at "vv"
   exact ⟨A,_,rfl,D2,trivial,fun H3 D3 F3=>k H3 D3 (F02.trans F3)⟩
  ·have g':(usr (happenIn s u .step) u).st = .ready:=St5.inj.mp g
   rw [if_pos g'] at k
   exact k H2 D2 F02
def preM (n:Nat) (s:Hse):Prop:=∃ M,Bd s M∧M < n
theorem ok_tickH (R:Raw K mg "do_tick" s_do_tick) (T:TxtH K mg CH CP CM) (G_happen_in:GF P w K mg base "happen_in" ["house","user","event"] 8 (sp_hin CH CP CM)) (G_shorten_turn:GF P w K mg base "shorten_turn" ["house"] 2 (spH CH CP CM (fun s=>s.row.length < 1000000∧∃ u,s.runs = some u) lastT)):GF P w K mg base "do_tick" ["house"] 9 (spH CH CP CM (preM 800000) doTick):=by
 refine GF.mk R sc_do_tick (by wtm_at "1") (fun vs H Q E h=>?_) (fun f cdv A outer s H vs Q E hr h=>?_)
 ·obtain ⟨A,s,rfl,_⟩:=h;rfl
 ·obtain ⟨A,s,rfl,D,⟨M,hB,hM⟩,k⟩:=h
  have hn:=hB.n1
  refine ⟨_,(@pss_cons _ _ _ _ _ (@ps_fldK _ (K) _ _ _ _ _ _ _ rfl (pv 0) (@pe_op _ _ _ _ _ _ _ _ op_add (@pe_fldK _ (K) _ _ _ _ rfl (pv 0) rfl) pe_int) rfl) (@pss_cons _ _ _ _ _ (@ps_for _ _ _ _ _ _ _ _ PassesOwn.never rfl (@pi_range1 _ _ _ _ _ _ rfl T.range_ (@pa_c _ _ _ _ _ (@pe_callBN _ _ _ _ _ _ _ _ _ (call_len_seqN (K:=K) rfl) (by rfl) T.len_ bo_len (@pa_c _ _ _ _ _ (@pe_fldK _ (K) _ _ _ _ rfl (pv 0) rfl) pa_nil rfl) (by decide) (by decide) rfl) pa_nil rfl) rfl) (@pg_name _ _ (1) _ sc_do_tick.nd rfl (Or.inl rfl) (by first | exact .inl rfl | exact .inr rfl | assumption)) (@pss_one _ _ _ (@ps_expr _ _ _ _ (@pe_gcallN _ _ _ _ _ _ _ _ _ _ G_happen_in (hr.mono (by decide)) rfl (@pa_c _ _ _ _ _ (pv 0) (@pa_c _ _ _ _ _ (pv 1) (@pa_c _ _ _ _ _ (@pe_tup _ _ _ _ _ (@pa_c _ _ _ _ _ pe_str pa_nil rfl)) pa_nil rfl) rfl) rfl) (by decide) rfl) rfl)) (fun _=>rfl)) (@pss_one _ _ _ (@ps_if _ _ _ _ _ _ _ _ (@pt_cmpR _ _ _ _ _ _ _ _ op_notN (@pe_fldK _ (K) _ _ _ _ rfl (pv 0) rfl) pe_non (nomark _)) (@pss_one _ _ _ (@ps_expr _ _ _ _ (@pe_gcallN _ _ _ _ _ _ _ _ _ _ G_shorten_turn (hr.mono (by decide)) rfl (@pa_c _ _ _ _ _ (pv 0) pa_nil rfl) (by decide) rfl) rfl)) pss_nil)))),?_⟩
  wtm_at "vv"
  refine w_ticks T D fun H1 D1 F1=>?_
  have hB1:=hB.count (t:=s.ticks + 1)
  have hl1:({ s with ticks:=s.ticks + 1 }:Hse).us.length = s.us.length:=rfl
  unfold doTick at k
  generalize ({ s with ticks:=s.ticks + 1 }:Hse) = s1 at D1 hB1 hl1 k
  wtm_at "vv"
  refine Sx.lenL D1.lp ?_
  rw [List.length_map,D1.ul,hl1]
  refine ⟨_,rfl,by omega,by omega,for_range (n:=s.us.length) (fun i σ' H'=>∃ v1,σ' = [some (.ref A.h),v1]∧HAt CH CP CM H' A (ticksN i s1)∧FrL H H' (footH A)) ⟨_,rfl,D1,F1⟩ ?_ ?_⟩
  ·rintro i _ H2 hi ⟨v1,rfl,D2,F2⟩
   have hB2:=hB1.ticks hM i (by omega)
   rw [Int.zero_add]
   wtm_at "vv"
   refine Sx.newT (by show 1≤sizeLine;decide) fun e H3 ne he s3=>?_
   wtm_at "vv"
   refine ⟨A,_,_,i,e,.tick,rfl,D2.keep s3,hB2,by omega,by rw [ticksN_len];omega,he,fun H4 D4 F4=>⟨_,rfl,D4,fun b o x n=>F4 b o (s3 _ _ (F2 b o x n)) n⟩⟩
  ·rintro _ H2 ⟨v1,rfl,D2,F2⟩
   have hB2:=hB1.ticks hM s.us.length (by omega)
   have hrl:=hB2.rl
   generalize ticksN s.us.length s1 = s2 at D2 hB2 hrl k
   wtm_at "vv"
   cases hru:s2.runs with
   | none =>
    refine iteN (fun z=>(z rfl).elim) (fun _=>?_)
    exact k H2 (D2.same (by unfold lastT;rw [hru])) F2
   | some u =>
    refine iteN (fun _=>?_) (fun z=>by cases z)
    wtm_at "vv"
    exact ⟨A,s2,rfl,D2,⟨by omega,u,hru⟩,fun H3 D3 F3=>k H3 D3 (F2.trans F3)⟩
theorem ok_stepH (R:Raw K mg "do_step" s_do_step) (T:TxtH K mg CH CP CM) (G_step_who_runs:GF P w K mg base "step_who_runs" ["house"] 9 (fun vs H Q _=>∃ A s M u,vs = [.ref A.h]∧HAt CH CP CM H A s∧Bd s M∧M < 900000∧s.runs = some u∧∀ H',HAt CH CP CM H' A (stepWho s u)→FrL H H' (footH A)→Q .non H')) (G_do_tick:GF P w K mg base "do_tick" ["house"] 9 (spH CH CP CM (preM 800000) doTick)) (G_let_next_run:GF P w K mg base "let_next_run" ["house"] 3 (spH CH CP CM (fun s=>∃ M,Bd s M) letNext)):GF P w K mg base "do_step" ["house"] 10 (spH CH CP CM (preM 790000) doStep):=by
 refine GF.mk R sc_do_step (by wtm_at "1") (fun vs H Q E h=>?_) (fun f cdv A outer s H vs Q E hr h=>?_)
 ·obtain ⟨A,s,rfl,_⟩:=h;rfl
 ·obtain ⟨A,s,rfl,D,⟨M,hB,hM⟩,k⟩:=h
  refine ⟨_,(@pss_cons _ _ _ _ _ (@ps_fldK _ (K) _ _ _ _ _ _ _ rfl (pv 0) (@pe_op _ _ _ _ _ _ _ _ op_add (@pe_fldK _ (K) _ _ _ _ rfl (pv 0) rfl) pe_int) rfl) (@pss_cons _ _ _ _ _ (@ps_cut _ _ _ (@ps_if _ _ _ _ _ _ _ _ (@pt_cmpR _ _ _ _ _ _ _ _ op_isN (@pe_fldK _ (K) _ _ _ _ rfl (pv 0) rfl) pe_non (nomark _)) (@pss_one _ _ _ (@ps_fldK _ (K) _ _ _ _ _ _ _ rfl (pv 0) (@pe_op _ _ _ _ _ _ _ _ op_add (@pe_fldK _ (K) _ _ _ _ rfl (pv 0) rfl) pe_int) rfl)) (@pss_one _ _ _ (@ps_expr _ _ _ _ (@pe_gcallN _ _ _ _ _ _ _ _ _ _ G_step_who_runs (hr.mono (by decide)) rfl (@pa_c _ _ _ _ _ (pv 0) pa_nil rfl) (by decide) rfl) rfl)))) (@pss_cons _ _ _ _ _ (@ps_cut _ _ _ (@ps_if _ _ _ _ _ _ _ _ (@pt_cmpR _ _ _ _ _ _ _ _ op_eq (@pe_op _ _ _ _ _ _ _ _ op_mod (@pe_fldK _ (K) _ _ _ _ rfl (pv 0) rfl) (@pe_fldK _ (K) _ _ _ _ rfl (pv 0) rfl)) pe_int (nomark _)) (@pss_one _ _ _ (@ps_expr _ _ _ _ (@pe_gcallN _ _ _ _ _ _ _ _ _ _ G_do_tick (hr.mono (by decide)) rfl (@pa_c _ _ _ _ _ (pv 0) pa_nil rfl) (by decide) rfl) rfl)) pss_nil)) (@pss_one _ _ _ (@ps_expr _ _ _ _ (@pe_gcallN _ _ _ _ _ _ _ _ _ _ G_let_next_run (hr.mono (by decide)) rfl (@pa_c _ _ _ _ _ (pv 0) pa_nil rfl) (by decide) rfl) rfl))))),?_⟩
  wtm_at "vv"
  refine w_steps T D fun H1 D1 F1=>?_
  have hB1:=hB.s1 (by omega)
  have hB2:=hB1.s2 (by omega)
  unfold doStep at k
  wtm_at "vv"
  refine Sx.cut (fun σ' H'=>σ' = [some (.ref A.h)]∧HAt CH CP CM H' A (step1 s)∧FrL H H' (footH A)) ?_ ?_
  ·wtm_at "vv"
   show if decide (vU s.runs = V.non) = true then _ else _
   cases hru:s.runs with
   | none =>
    refine iteD (fun _=>?_) (fun z=>(z rfl).elim)
    wtm_at "vv"
    refine w_idle T D1 fun H2 D2 F2=>⟨rfl,D2.same ?_,F1.trans F2⟩
    unfold step1;rw [hru]
   | some u =>
    refine iteD (fun z=>by cases z) (fun _=>?_)
    wtm_at "vv"
    refine ⟨A,_,M,u,rfl,D1,⟨hB.ru,hB.pa,hB.dl,hB.rl,hB.n1,hB.n2,hB.rr,hB.rn,hB.ro,hB.tu,hB.be⟩,by omega,hru,fun H2 D2 F2=>⟨rfl,D2.same ?_,F1.trans F2⟩⟩
    unfold step1;rw [hru]
  rintro _ H2 ⟨rfl,D2,F2⟩
  generalize step1 s = s1 at D2 hB1 hB2 k
  have hbe:=hB1.be
  wtm_at "vv"
  refine Sx.cut (fun σ' H'=>σ' = [some (.ref A.h)]∧HAt CH CP CM H' A (step2 s1)∧FrL H H' (footH A)) ?_ ?_
  ·wtm_at "vv"
   refine iteD (fun g=>?_) (fun g=>?_)
   ·wtm_at "vv"
    refine ⟨A,s1,rfl,D2,⟨_,hB1,by omega⟩,fun H3 D3 F3=>⟨rfl,D3.same ?_,F2.trans F3⟩⟩
    unfold step2;rw [if_pos g]
   ·refine ⟨rfl,D2.same ?_,F2⟩
    unfold step2;rw [if_neg g]
  rintro _ H3 ⟨rfl,D3,F3⟩
  wtm_at "vv"
  exact ⟨A,_,rfl,D3,⟨_,hB2⟩,fun H4 D4 F4=>k H4 D4 (F3.trans F4)⟩
theorem ok_run (R:Raw K mg "run" s_run) (T:TxtH K mg CH CP CM) (G_do_step:GF P w K mg base "do_step" ["house"] 10 (spH CH CP CM (preM 790000) doStep)):GF P w K mg base "run" ["house","count"] 11 (spHu CH CP CM (fun s n=>∃ M,Bd s M∧M + 10 * n < 790000) (fun s n=>runN n s)):=by
 refine GF.mk R sc_run (by wtm_at "2") (fun vs H Q E h=>?_) (fun f cdv A outer s H vs Q E hr h=>?_)
 ·obtain ⟨A,s,n,rfl,_⟩:=h;rfl
 ·obtain ⟨A,s,n,rfl,D,⟨M,hB,hM⟩,k⟩:=h
  refine ⟨_,(@pss_one _ _ _ (@ps_for _ _ _ _ _ _ _ _ PassesOwn.never rfl (@pi_range1 _ _ _ _ _ _ rfl T.range_ (@pa_c _ _ _ _ _ (pv 1) pa_nil rfl) rfl) (@pg_name _ _ (2) _ sc_run.nd rfl (Or.inl rfl) (by first | exact .inl rfl | exact .inr rfl | assumption)) (@pss_one _ _ _ (@ps_expr _ _ _ _ (@pe_gcallN _ _ _ _ _ _ _ _ _ _ G_do_step (hr.mono (by decide)) rfl (@pa_c _ _ _ _ _ (pv 0) pa_nil rfl) (by decide) rfl) rfl)) (fun _=>rfl))),?_⟩
  wtm_at "vv"
  refine ⟨_,rfl,by omega,by omega,for_range (n:=n) (fun i σ' H'=>∃ v2,σ' = [some (.ref A.h),some (.int (n:Int)),v2]∧HAt CH CP CM H' A (runN i s)∧FrL H H' (footH A)) ⟨_,rfl,D,FrL.refl⟩ ?_ ?_⟩
  ·rintro i _ H2 hi ⟨v2,rfl,D2,F2⟩
   wtm_at "vv"
   refine ⟨A,_,rfl,D2,⟨_,hB.run i (by omega),by omega⟩,fun H3 D3 F3=>⟨_,rfl,D3,F2.trans F3⟩⟩
  ·rintro _ H2 ⟨v2,rfl,D2,F2⟩
   exact k H2 D2 F2
end
end Hs
namespace Hs
open PySem L2 Mir Pr Tx Lw Dm Us Du Pp
def sp_empty:Sp:=fun vs H Q _=>∃ n:Nat,vs = [.int (n:Int)]∧n≤1000∧∀ l H',H l = none→H' l = some (.lst ((List.replicate n (none:Option Nat)).map vU))→Same H H'→Q (.ref l) H'
def sp_initH (CH CP CM:Addr):Sp:=fun vs H Q _=>∃ (p dx:Addr) (n r:Nat) (qu be:Int),vs = [.ref p,.int (n:Int),.int (r:Int),.int qu,.int be]∧H p = some (.ins CH dx [])∧n≤8∧r≤8 ∧
 ∀ A H',A.h = p→HAt CH CP CM H' A (newH n r qu be)→(∀ x∈footH A,x = p∨H x = none)→FrL H H' [p]→Q .non H'
theorem make_h {CH CP CM:Addr} {H:Hp} {n r:Nat} {qu be:Int} {Q:Addr→Hp→Prop} (hn:n≤8) (hr:r≤8) (k:∀ A H',(∀ x∈footH A,H x = none)→HAt CH CP CM H' A (newH n r qu be)→Same H H'→Q A.h H') :
  ∀ x dx,H x = none→H dx = none→dx≠x→sp_initH CH CP CM (.ref x::([.int (n:Int),.int (r:Int),.int qu,.int be] ++ [])) (upd (upd H dx (.own x)) x (.ins CH dx [])) (fun v H2=>v = .non∧Q x H2) E0:=by
 intro x dx nx ndx nex
 have s1:Same H (upd (upd H dx (.own x)) x (.ins CH dx [])):=((Same.refl H).upd ndx).upd nx
 refine ⟨x,dx,n,r,qu,be,rfl,upd_same,hn,hr,fun A H' ep D hf F=>⟨rfl,?_⟩⟩
 have:=k A H' (fun y hy=>(hf y hy).elim (fun e=>by rw [e];exact nx) fun e=>s1.free e) D fun b o e=>F b o (s1 b o e) (nmem1 (ne_of_none e nx))
 rw [ep] at this
 exact this
section
variable {P:Program} {w:World} {K:PySem.W.Frag} {mg:Str→Option Value} {base:Heap} {CH CP CM:Addr}
theorem ok_empty (R:Raw K mg "empty_rooms" s_empty_rooms):GF P w K mg base "empty_rooms" ["count"] 1 sp_empty:=by
 refine GF.mk R sc_empty_rooms (by wtm_at "1") (fun vs H Q E h=>?_) (fun f cdv A outer s H vs Q E hr h=>?_)
 ·obtain ⟨n,rfl,_⟩:=h;rfl
 ·obtain ⟨n,rfl,hn,k⟩:=h
  refine ⟨_,(@pss_one _ _ _ (@ps_ret _ _ _ _ (@pe_op _ _ _ _ _ _ _ _ op_rep (@pe_lst _ _ _ _ (@pa_c _ _ _ _ _ pe_non pa_nil rfl)) (pv 0)))),?_⟩
  wtm_at "vv"
  refine Sx.newL (by show 1≤sizeLine;decide) fun q H1 nq hq s1=>?_
  wtm_at "vv"
  refine Sx.rep hq (by omega) (by omega) fun l nl=>?_
  have e:List.replicate (n:Int).toNat V.non = (List.replicate n (none:Option Nat)).map vU:=by rw [List.map_replicate,Int.toNat_natCast];rfl
  rw [e]
  exact k l _ (s1.free nl) upd_same (s1.trans (Same.newH nl))
theorem ok_initH {q:Str} (R:RawC K mg "House" q CH s_House_init) (T:TxtH K mg CH CP CM) (M_Person:GC P w K mg base "Person" CP ["self","cells","switches"] 3 (sp_initP K CP CM)) (G_empty_rooms:GF P w K mg base "empty_rooms" ["count"] 1 sp_empty):GC P w K mg base "House" CH ["self","users","rooms","quantum","beat"] 5 (sp_initH CH CP CM):=by
 refine GC.mk R sc_House_init (fun _ _ _ _ _ _ us hl=>match us,hl with | [_,_,_,_,_],_=>rfl) (fun vs H Q E h=>?_) (fun f cdv A outer s H vs Q E hr h=>?_)
 ·obtain ⟨p,dx,n,r,qu,be,rfl,_⟩:=h;rfl
 ·obtain ⟨p,dx,n,r,qu,be,rfl,hp,hn,hr8,k⟩:=h
  refine ⟨_,(@pss_cons _ _ _ _ _ (@ps_fldK _ (K) _ _ _ _ _ _ _ rfl (pv 0) (@pe_lcomp _ _ _ _ _ _ _ _ _ _ _ _ ([]) rfl (@pi_range1 _ _ _ _ _ _ rfl T.range_ (@pa_c _ _ _ _ _ (pv 1) pa_nil rfl) rfl) ⟨rfl,rfl,by decide +kernel,by decide +kernel,rfl,by decide +kernel,trivial,rfl,trivial⟩ (fun _ _ _ _=>pts_nil) (fun _ _ _ _=>(@pe_gmakeN _ _ _ _ _ _ _ _ _ _ _ M_Person (hr.mono (by decide)) rfl (@pa_c _ _ _ _ _ (@pe_op _ _ _ _ _ _ _ _ op_rep (@pe_lst _ _ _ _ (@pa_c _ _ _ _ _ pe_int pa_nil rfl)) (@pe_gint _ _ _ _ rfl T.PLACES (by decide))) (@pa_c _ _ _ _ _ pe_int pa_nil rfl) rfl) (by decide) rfl)) (fun _=>rfl)) rfl) (@pss_cons _ _ _ _ _ (@ps_fldK _ (K) _ _ _ _ _ _ _ rfl (pv 0) (@pe_lcomp _ _ _ _ _ _ _ _ _ _ _ _ ([]) rfl (@pi_range1 _ _ _ _ _ _ rfl T.range_ (@pa_c _ _ _ _ _ (pv 1) pa_nil rfl) rfl) ⟨rfl,rfl,by decide +kernel,by decide +kernel,rfl,by decide +kernel,trivial,rfl,trivial⟩ (fun _ _ _ _=>pts_nil) (fun _ _ _ _=>(@pe_lst _ _ _ _ pa_nil)) (fun _=>rfl)) rfl) (@pss_cons _ _ _ _ _ (@ps_fldK _ (K) _ _ _ _ _ _ _ rfl (pv 0) (@pe_gcallN _ _ _ _ _ _ _ _ _ _ G_empty_rooms (hr.mono (by decide)) rfl (@pa_c _ _ _ _ _ (pv 2) pa_nil rfl) (by decide) rfl) rfl) (@pss_cons _ _ _ _ _ (@ps_fldK _ (K) _ _ _ _ _ _ _ rfl (pv 0) (pv 3) rfl) (@pss_cons _ _ _ _ _ (@ps_fldK _ (K) _ _ _ _ _ _ _ rfl (pv 0) (pv 4) rfl) (@pss_cons _ _ _ _ _ (@ps_fldK _ (K) _ _ _ _ _ _ _ rfl (pv 0) pe_non rfl) (@pss_cons _ _ _ _ _ (@ps_fldK _ (K) _ _ _ _ _ _ _ rfl (pv 0) (@pe_lst _ _ _ _ pa_nil) rfl) (@pss_cons _ _ _ _ _ (@ps_fldK _ (K) _ _ _ _ _ _ _ rfl (pv 0) pe_int rfl) (@pss_cons _ _ _ _ _ (@ps_fldK _ (K) _ _ _ _ _ _ _ rfl (pv 0) pe_int rfl) (@pss_cons _ _ _ _ _ (@ps_fldK _ (K) _ _ _ _ _ _ _ rfl (pv 0) pe_int rfl) (@pss_cons _ _ _ _ _ (@ps_fldK _ (K) _ _ _ _ _ _ _ rfl (pv 0) pe_int rfl) (@pss_cons _ _ _ _ _ (@ps_fldK _ (K) _ _ _ _ _ _ _ rfl (pv 0) pe_int rfl) (@pss_one _ _ _ (@ps_fldK _ (K) _ _ _ _ _ _ _ rfl (pv 0) pe_int rfl)))))))))))))),?_⟩
  wtm_at "vv"
  refine ⟨_,rfl,by omega,by omega,lc_rangeI (lo:=0) (n:=n) (fun i acc H'=>Same H H'∧∃ ps:List PAd,ps.length = i∧acc = (ps.map fun B=>V.ref B.p)∧(∀ (j:Nat) B,ps[j]? = some B→PAt CP CM H' B U0)∧(∀ B∈ps,∀ x∈foot B,H x = none)∧∀ (i j:Nat) B C,i≠j→ps[i]? = some B→ps[j]? = some C→∀ x∈foot B,x∉foot C) (by rw [sizeLine_eq];omega) ⟨Same.refl _,[],rfl,rfl,by simp,by simp,by simp⟩ (fun i acc H' h=>?_) (fun i acc H' hi h Q' q'=>?_) (fun acc Ha h lp nlp=>?_)⟩
  ·obtain ⟨_,ps,hl,rfl,_⟩:=h
   rw [List.length_map];exact hl
  ·obtain ⟨sm,ps,hl,rfl,hP,hf,hd⟩:=h
   wtm_at "vv"
   refine Sx.newL (by show 1≤sizeLine;decide) fun q1 G1 nq1 hq1 s1=>?_
   wtm_at "vv"
   refine Sx.rep hq1 (by decide) (by decide) fun q2 nq2=>?_
   have e64:List.replicate (64:Int).toNat (V.int 0) = (List.replicate 64 (0:Int)).map V.int:=rfl
   rw [e64]
   have s2:Same G1 (upd G1 q2 (.lst ((List.replicate 64 (0:Int)).map V.int))):=Same.newH nq2
   have hq2:(upd G1 q2 (.lst ((List.replicate 64 (0:Int)).map V.int))) q2 = some (.lst ((List.replicate 64 (0:Int)).map V.int)):=upd_same
   generalize upd G1 q2 (.lst ((List.replicate 64 (0:Int)).map V.int)) = G2 at s2 hq2 ⊢
   wtm_at "vv"
   refine make_p (.inl (SqL.of hq2)) (by decide) fun B G3 nB DB s3=>?_
   have s03:=s1.trans (s2.trans s3)
   have nB0:∀ x∈foot B,H' x = none:=fun x hx=>(s1.trans s2).free (nB x hx)
   have dis:∀ (j:Nat) C,ps[j]? = some C→∀ x∈foot C,x∉foot B:=fun j C e x hx hy=>by
    obtain ⟨o,z⟩:=(hP j C e).there hx
    rw [nB0 x hy] at z
    cases z
   have last:∀ {j:Nat} {C:PAd},(ps ++ [B])[j]? = some C→ps[j]? = some C∧j < ps.length∨j = ps.length∧C = B:=by
    intro j C e
    rcases Nat.lt_or_ge j ps.length with z | z
    ·rw [List.getElem?_append_left z] at e
     exact .inl ⟨e,z⟩
    ·rw [List.getElem?_append_right z] at e
     rcases Nat.lt_or_ge (j - ps.length) 1 with z2 | z2
     ·have:j - ps.length = 0:=by omega
      rw [this] at e
      cases e
      exact .inr ⟨by omega,rfl⟩
     ·rw [List.getElem?_eq_none (by simpa using z2)] at e;cases e
   refine q' _ _ ⟨sm.trans s03,ps ++ [B],by rw [List.length_append];simp [hl],by rw [List.map_append];rfl,fun j C e=>?_,fun C hC x hx=>?_,fun i j C E g e1 e2 x hx=>?_⟩
   ·rcases last e with ⟨e,_⟩ | ⟨_,rfl⟩
    ·exact (hP j C e).keep s03
    ·exact DB
   ·rcases List.mem_append.mp hC with z | z
    ·exact hf C z x hx
    ·rw [List.mem_singleton.mp z] at hx;exact sm.free (nB0 x hx)
   ·rcases last e1 with ⟨f1,z1⟩ | ⟨z1,y1⟩ <;> rcases last e2 with ⟨f2,z2⟩ | ⟨z2,y2⟩
    ·exact hd i j C E g f1 f2 x hx
    ·rw [y2];exact dis i C f1 x hx
    ·rw [y1] at hx;exact fun y=>dis j E f2 x y hx
    ·exact (g (z1.trans z2.symm)).elim
  obtain ⟨sa,ps,hpl,rfl,hP,hf,hd⟩:=h
  have hpa:=sa _ _ hp
  have npl:=ne_of_none hpa nlp
  have glp:H lp = none:=sa.free nlp
  have alive:∀ {x:Addr},(∃ B∈ps,x∈foot B)→∃ o,Ha x = some o:=fun {x} ⟨B,hB,hx⟩=>by
   obtain ⟨i,hi,e⟩:=List.getElem_of_mem hB
   exact (hP i B (by rw [List.getElem?_eq_getElem hi,e])).there hx
  have nlpf:∀ B∈ps,lp∉foot B:=fun B hB z=>by
   obtain ⟨o,e⟩:=alive ⟨B,hB,z⟩
   rw [nlp] at e;cases e
  have npf:∀ B∈ps,∀ x∈foot B,x∉[p]:=fun B hB x hx z=>by
   have:=hf B hB x hx
   rw [List.mem_singleton.mp z,hp] at this;cases this
  wtm_at "vv"
  refine ⟨p,CH,dx,[],rfl,by rw [upd_ne npl];exact hpa,T.clH,T.n_people,by show 0 < 1000;decide,?_⟩
  obtain ⟨H1,eH1⟩:∃ h,h = upd (upd Ha lp (.lst (ps.map fun B=>V.ref B.p))) p (.ins CH dx (putF "people" (.ref lp) [])):=⟨_,rfl⟩
  have hp1:H1 p = some (.ins CH dx [("people",.ref lp)]):=by rw [eH1,upd_same];rfl
  have Fa:FrL Ha H1 [p]:=by rw [eH1];exact (FrL.new nlp).trans (FrL.upd mem1)
  have hlp1:H1 lp = some (.lst (ps.map fun B=>V.ref B.p)):=by rw [eH1];exact twoA npl.symm
  have F1:FrL H H1 [p]:=FrL.trans (fun b o e _=>sa b o e) Fa
  rw [← eH1]
  clear eH1
  have hP1:∀ (j:Nat) B,ps[j]? = some B→PAt CP CM H1 B U0:=fun j B e=>(hP j B e).far Fa (npf B (List.mem_of_getElem? e))
  wtm_at "vv"
  refine ⟨_,rfl,by omega,by omega,lc_rangeI (lo:=0) (n:=n) (fun i acc H'=>Same H1 H'∧∃ ds:List Addr,ds.length = i∧acc = ds.map V.ref∧(∀ d∈ds,H' d = some (.lst []))∧ds.Nodup∧∀ d∈ds,H1 d = none) (by rw [sizeLine_eq];omega) ⟨Same.refl _,[],rfl,rfl,by simp,List.nodup_nil,by simp⟩ (fun i acc H' h=>?_) (fun i acc H' hi h Q' q'=>?_) (fun acc Hb h ld nld=>?_)⟩
  ·obtain ⟨_,ds,hl,rfl,_⟩:=h
   rw [List.length_map];exact hl
  ·obtain ⟨sm,ds,hl,rfl,hb,hnn,hf⟩:=h
   wtm_at "vv"
   refine Sx.newL (by decide) fun q1 G1 nq1 hq1 s1=>?_
   have nb:q1∉ds:=fun z=>by rw [hb q1 z] at nq1;cases nq1
   refine q' _ _ ⟨sm.trans s1,ds ++ [q1],by rw [List.length_append];simp [hl],by rw [List.map_append];rfl,fun d hd'=>?_,?_,fun d hd'=>?_⟩
   ·rcases List.mem_append.mp hd' with z | z
    ·exact s1 _ _ (hb d z)
    ·rw [List.mem_singleton.mp z];exact hq1
   ·rw [List.nodup_append]
    exact ⟨hnn,by simp,fun x hx y hy=>by rw [List.mem_singleton.mp hy];exact fun e=>nb (by rw [← e];exact hx)⟩
   ·rcases List.mem_append.mp hd' with z | z
    ·exact hf d z
    ·rw [List.mem_singleton.mp z];exact sm.free nq1
  obtain ⟨sb,ds,hdl,rfl,hds,hdn,hdf⟩:=h
  have hpb:=sb _ _ hp1
  have npd:=ne_of_none hpb nld
  wtm_at "vv"
  refine ⟨p,CH,dx,_,rfl,by rw [upd_ne npd];exact hpb,T.clH,T.n_diaries,by show 1 < 1000;decide,?_⟩
  obtain ⟨H2,eH2⟩:∃ h,h = upd (upd Hb ld (.lst (ds.map V.ref))) p (.ins CH dx (putF "diaries" (.ref ld) [("people",.ref lp)])):=⟨_,rfl⟩
  have hp2:H2 p = some (.ins CH dx [("people",.ref lp),("diaries",.ref ld)]):=by rw [eH2,upd_same,putF_add (by simp only [List.map_cons,List.map_nil];decide +kernel)];rfl
  have Fb:FrL Hb H2 [p]:=by rw [eH2];exact (FrL.new nld).trans (FrL.upd mem1)
  have F12:FrL H1 H2 [p]:=FrL.trans (fun b o e _=>sb b o e) Fb
  have hld2:H2 ld = some (.lst (ds.map V.ref)):=by rw [eH2];exact twoA npd.symm
  rw [← eH2]
  clear eH2
  have nold:∀ {x:Addr} {o:HO},H1 x = some o→x∉ds:=fun {x o} z y=>by rw [hdf x y] at z;cases z
  have npds:p∉ds:=nold hp1
  have hds2:∀ d∈ds,H2 d = some (.lst []):=fun d z=>Fb _ _ (hds d z) (nmem1 (fun e=>npds (by rw [← e];exact z)))
  wtm_at "vv"
  refine ⟨r,rfl,by omega,fun lr Hc nlr hlr sc=>?_⟩
  have hpc:=sc _ _ hp2
  have npr:p≠lr:=ne_of_none hp2 nlr
  wtm_at "vv"
  refine ⟨p,CH,dx,_,rfl,hpc,T.clH,T.n_rooms,by show 2 < 1000;decide,?_⟩
  obtain ⟨H3,eH3⟩:∃ h,h = upd Hc p (.ins CH dx (putF "rooms" (.ref lr) [("people",.ref lp),("diaries",.ref ld)])):=⟨_,rfl⟩
  have hp3:H3 p = some (.ins CH dx [("people",.ref lp),("diaries",.ref ld),("rooms",.ref lr)]):=by rw [eH3,upd_same,putF_add (by simp only [List.map_cons,List.map_nil];decide +kernel)];rfl
  have Fc:FrL Hc H3 [p]:=by rw [eH3];exact FrL.upd mem1
  have F23:FrL H2 H3 [p]:=FrL.trans (fun b o e _=>sc b o e) Fc
  have hlr3:H3 lr = some (.lst ((List.replicate r (none:Option Nat)).map vU)):=by rw [eH3,upd_ne npr.symm];exact hlr
  rw [← eH3]
  clear eH3
  wtm_at "vv"
  refine ⟨p,CH,dx,_,rfl,hp3,T.clH,T.n_quantum,by show 3 < 1000;decide,?_⟩
  obtain ⟨H4,eH4⟩:∃ h,h = upd H3 p (.ins CH dx (putF "quantum" (.int qu) [("people",.ref lp),("diaries",.ref ld),("rooms",.ref lr)])):=⟨_,rfl⟩
  have hp4:H4 p = some (.ins CH dx [("people",.ref lp),("diaries",.ref ld),("rooms",.ref lr),("quantum",.int qu)]):=by rw [eH4,upd_same,putF_add (by simp only [List.map_cons,List.map_nil];decide +kernel)];rfl
  have F34:FrL H3 H4 [p]:=by rw [eH4];exact FrL.upd mem1
  rw [← eH4]
  clear eH4
  wtm_at "vv"
  refine ⟨p,CH,dx,_,rfl,hp4,T.clH,T.n_beat,by show 4 < 1000;decide,?_⟩
  obtain ⟨H5,eH5⟩:∃ h,h = upd H4 p (.ins CH dx (putF "beat" (.int be) [("people",.ref lp),("diaries",.ref ld),("rooms",.ref lr),("quantum",.int qu)])):=⟨_,rfl⟩
  have hp5:H5 p = some (.ins CH dx [("people",.ref lp),("diaries",.ref ld),("rooms",.ref lr),("quantum",.int qu),("beat",.int be)]):=by rw [eH5,upd_same,putF_add (by simp only [List.map_cons,List.map_nil];decide +kernel)];rfl
  have F45:FrL H4 H5 [p]:=by rw [eH5];exact FrL.upd mem1
  rw [← eH5]
  clear eH5
  wtm_at "vv"
  refine ⟨p,CH,dx,_,rfl,hp5,T.clH,T.n_runs,by show 5 < 1000;decide,?_⟩
  obtain ⟨H6,eH6⟩:∃ h,h = upd H5 p (.ins CH dx (putF "runs" (.non) [("people",.ref lp),("diaries",.ref ld),("rooms",.ref lr),("quantum",.int qu),("beat",.int be)])):=⟨_,rfl⟩
  have hp6:H6 p = some (.ins CH dx [("people",.ref lp),("diaries",.ref ld),("rooms",.ref lr),("quantum",.int qu),("beat",.int be),("runs",.non)]):=by rw [eH6,upd_same,putF_add (by simp only [List.map_cons,List.map_nil];decide +kernel)];rfl
  have F56:FrL H5 H6 [p]:=by rw [eH6];exact FrL.upd mem1
  rw [← eH6]
  clear eH6
  wtm_at "vv"
  refine Sx.newL (by decide) fun lw Hw nlw hlw sw=>?_
  have npw:p≠lw:=ne_of_none hp6 nlw
  wtm_at "vv"
  refine ⟨p,CH,dx,_,rfl,sw _ _ hp6,T.clH,T.n_row,by show 6 < 1000;decide,?_⟩
  obtain ⟨H7,eH7⟩:∃ h,h = upd Hw p (.ins CH dx (putF "row" (.ref lw) [("people",.ref lp),("diaries",.ref ld),("rooms",.ref lr),("quantum",.int qu),("beat",.int be),("runs",.non)])):=⟨_,rfl⟩
  have hp7:H7 p = some (.ins CH dx [("people",.ref lp),("diaries",.ref ld),("rooms",.ref lr),("quantum",.int qu),("beat",.int be),("runs",.non),("row",.ref lw)]):=by rw [eH7,upd_same,putF_add (by simp only [List.map_cons,List.map_nil];decide +kernel)];rfl
  have F67:FrL H6 H7 [p]:=by rw [eH7];exact FrL.trans (fun b o e _=>sw b o e) (FrL.upd mem1)
  have hlw7:H7 lw = some (.lst []):=by rw [eH7,upd_ne npw.symm];exact hlw
  rw [← eH7]
  clear eH7
  wtm_at "vv"
  refine ⟨p,CH,dx,_,rfl,hp7,T.clH,T.n_steps,by show 7 < 1000;decide,?_⟩
  obtain ⟨H8,eH8⟩:∃ h,h = upd H7 p (.ins CH dx (putF "steps" (.int 0) [("people",.ref lp),("diaries",.ref ld),("rooms",.ref lr),("quantum",.int qu),("beat",.int be),("runs",.non),("row",.ref lw)])):=⟨_,rfl⟩
  have hp8:H8 p = some (.ins CH dx [("people",.ref lp),("diaries",.ref ld),("rooms",.ref lr),("quantum",.int qu),("beat",.int be),("runs",.non),("row",.ref lw),("steps",.int 0)]):=by rw [eH8,upd_same,putF_add (by simp only [List.map_cons,List.map_nil];decide +kernel)];rfl
  have F78:FrL H7 H8 [p]:=by rw [eH8];exact FrL.upd mem1
  rw [← eH8]
  clear eH8
  wtm_at "vv"
  refine ⟨p,CH,dx,_,rfl,hp8,T.clH,T.n_idle,by show 8 < 1000;decide,?_⟩
  obtain ⟨H9,eH9⟩:∃ h,h = upd H8 p (.ins CH dx (putF "idle" (.int 0) [("people",.ref lp),("diaries",.ref ld),("rooms",.ref lr),("quantum",.int qu),("beat",.int be),("runs",.non),("row",.ref lw),("steps",.int 0)])):=⟨_,rfl⟩
  have hp9:H9 p = some (.ins CH dx [("people",.ref lp),("diaries",.ref ld),("rooms",.ref lr),("quantum",.int qu),("beat",.int be),("runs",.non),("row",.ref lw),("steps",.int 0),("idle",.int 0)]):=by rw [eH9,upd_same,putF_add (by simp only [List.map_cons,List.map_nil];decide +kernel)];rfl
  have F89:FrL H8 H9 [p]:=by rw [eH9];exact FrL.upd mem1
  rw [← eH9]
  clear eH9
  wtm_at "vv"
  refine ⟨p,CH,dx,_,rfl,hp9,T.clH,T.n_ticks,by show 9 < 1000;decide,?_⟩
  obtain ⟨H10,eH10⟩:∃ h,h = upd H9 p (.ins CH dx (putF "ticks" (.int 0) [("people",.ref lp),("diaries",.ref ld),("rooms",.ref lr),("quantum",.int qu),("beat",.int be),("runs",.non),("row",.ref lw),("steps",.int 0),("idle",.int 0)])):=⟨_,rfl⟩
  have hp10:H10 p = some (.ins CH dx [("people",.ref lp),("diaries",.ref ld),("rooms",.ref lr),("quantum",.int qu),("beat",.int be),("runs",.non),("row",.ref lw),("steps",.int 0),("idle",.int 0),("ticks",.int 0)]):=by rw [eH10,upd_same,putF_add (by simp only [List.map_cons,List.map_nil];decide +kernel)];rfl
  have F910:FrL H9 H10 [p]:=by rw [eH10];exact FrL.upd mem1
  rw [← eH10]
  clear eH10
  wtm_at "vv"
  refine ⟨p,CH,dx,_,rfl,hp10,T.clH,T.n_swaps,by show 10 < 1000;decide,?_⟩
  obtain ⟨H11,eH11⟩:∃ h,h = upd H10 p (.ins CH dx (putF "swaps" (.int 0) [("people",.ref lp),("diaries",.ref ld),("rooms",.ref lr),("quantum",.int qu),("beat",.int be),("runs",.non),("row",.ref lw),("steps",.int 0),("idle",.int 0),("ticks",.int 0)])):=⟨_,rfl⟩
  have hp11:H11 p = some (.ins CH dx [("people",.ref lp),("diaries",.ref ld),("rooms",.ref lr),("quantum",.int qu),("beat",.int be),("runs",.non),("row",.ref lw),("steps",.int 0),("idle",.int 0),("ticks",.int 0),("swaps",.int 0)]):=by rw [eH11,upd_same,putF_add (by simp only [List.map_cons,List.map_nil];decide +kernel)];rfl
  have F1011:FrL H10 H11 [p]:=by rw [eH11];exact FrL.upd mem1
  rw [← eH11]
  clear eH11
  wtm_at "vv"
  refine ⟨p,CH,dx,_,rfl,hp11,T.clH,T.n_turn,by show 11 < 1000;decide,?_⟩
  obtain ⟨H12,eH12⟩:∃ h,h = upd H11 p (.ins CH dx (putF "turn" (.int 0) [("people",.ref lp),("diaries",.ref ld),("rooms",.ref lr),("quantum",.int qu),("beat",.int be),("runs",.non),("row",.ref lw),("steps",.int 0),("idle",.int 0),("ticks",.int 0),("swaps",.int 0)])):=⟨_,rfl⟩
  have hp12:H12 p = some (.ins CH dx [("people",.ref lp),("diaries",.ref ld),("rooms",.ref lr),("quantum",.int qu),("beat",.int be),("runs",.non),("row",.ref lw),("steps",.int 0),("idle",.int 0),("ticks",.int 0),("swaps",.int 0),("turn",.int 0)]):=by rw [eH12,upd_same,putF_add (by simp only [List.map_cons,List.map_nil];decide +kernel)];rfl
  have F1112:FrL H11 H12 [p]:=by rw [eH12];exact FrL.upd mem1
  rw [← eH12]
  clear eH12
  wtm_at "vv"
  refine ⟨p,CH,dx,_,rfl,hp12,T.clH,T.n_left,by show 12 < 1000;decide,?_⟩
  obtain ⟨H13,eH13⟩:∃ h,h = upd H12 p (.ins CH dx (putF "left" (.int 0) [("people",.ref lp),("diaries",.ref ld),("rooms",.ref lr),("quantum",.int qu),("beat",.int be),("runs",.non),("row",.ref lw),("steps",.int 0),("idle",.int 0),("ticks",.int 0),("swaps",.int 0),("turn",.int 0)])):=⟨_,rfl⟩
  have hp13:H13 p = some (.ins CH dx [("people",.ref lp),("diaries",.ref ld),("rooms",.ref lr),("quantum",.int qu),("beat",.int be),("runs",.non),("row",.ref lw),("steps",.int 0),("idle",.int 0),("ticks",.int 0),("swaps",.int 0),("turn",.int 0),("left",.int 0)]):=by rw [eH13,upd_same,putF_add (by simp only [List.map_cons,List.map_nil];decide +kernel)];rfl
  have F1213:FrL H12 H13 [p]:=by rw [eH13];exact FrL.upd mem1
  rw [← eH13]
  clear eH13
  have F7z:FrL H7 H13 [p]:=F78.trans (F89.trans (F910.trans (F1011.trans (F1112.trans F1213))))
  have F3z:FrL H3 H13 [p]:=F34.trans (F45.trans (F56.trans (F67.trans F7z)))
  have F2z:FrL H2 H13 [p]:=F23.trans F3z
  have F1z:FrL H1 H13 [p]:=F12.trans F2z
  have F0z:FrL H H13 [p]:=F1.trans F1z
  have gone1:∀ {x:Addr},H1 x = none→H x = none:=fun {x} z=>by
   cases y:H x with
   | none=>rfl
   | some o =>
    by_cases e:x = p
    ·rw [e,hp1] at z;cases z
    ·have:=F1 _ _ y (nmem1 e);rw [z] at this;cases this
  have gone2:∀ {x:Addr},H2 x = none→H1 x = none:=fun {x} z=>by
   cases y:H1 x with
   | none=>rfl
   | some o =>
    by_cases e:x = p
    ·rw [e,hp2] at z;cases z
    ·have:=F12 _ _ y (nmem1 e);rw [z] at this;cases this
  have F26:FrL H2 H6 [p]:=F23.trans (F34.trans (F45.trans F56))
  have gone6:∀ {x:Addr},H6 x = none→H2 x = none:=fun {x} z=>by
   cases y:H2 x with
   | none=>rfl
   | some o =>
    by_cases e:x = p
    ·rw [e,hp6] at z;cases z
    ·have:=F26 _ _ y (nmem1 e);rw [z] at this;cases this
  have gld1:H1 ld = none:=sb.free nld
  have gld:H ld = none:=gone1 gld1
  have glr1:H1 lr = none:=gone2 nlr
  have glr:H lr = none:=gone1 glr1
  have glw2:H2 lw = none:=gone6 nlw
  have glw1:H1 lw = none:=gone2 glw2
  have glw:H lw = none:=gone1 glw1
  have hld3:H3 ld = some (.lst (ds.map V.ref)):=F23 _ _ hld2 (nmem1 npd.symm)
  have n_pd_r:ld≠lr:=ne_of_none hld2 nlr
  have n_ld_w:ld≠lw:=fun e=>by rw [← e,hld2] at glw2;cases glw2
  have n_lr_w:lr≠lw:=fun e=>by rw [← e] at nlw;have:=(F34.trans (F45.trans F56)) _ _ hlr3 (nmem1 npr.symm);rw [nlw] at this;cases this
  have n_lp_d:lp≠ld:=fun e=>by rw [← e,hlp1] at gld1;cases gld1
  have n_lp_r:lp≠lr:=fun e=>by rw [← e,hlp1] at glr1;cases glr1
  have n_lp_w:lp≠lw:=fun e=>by rw [← e,hlp1] at glw1;cases glw1
  have nd_ld:ld∉ds:=fun z=>by have:=hds ld z;rw [nld] at this;cases this
  have nd_lr:lr∉ds:=fun z=>by have:=hds2 lr z;rw [nlr] at this;cases this
  have nd_lw:lw∉ds:=fun z=>by have:=hds2 lw z;rw [glw2] at this;cases this
  have all1:∀ B∈ps,∀ x∈foot B,∃ o,H1 x = some o:=fun B hB x hx=>by
   obtain ⟨i,hi,e⟩:=List.getElem_of_mem hB
   exact (hP1 i B (by rw [List.getElem?_eq_getElem hi,e])).there hx
  refine k ⟨p,dx,lp,ld,lr,lw,ps,ds⟩ H13 rfl ⟨hp13,F1z _ _ hlp1 (nmem1 npl.symm),F2z _ _ hld2 (nmem1 npd.symm),F3z _ _ hlr3 (nmem1 npr.symm),F7z _ _ hlw7 (nmem1 npw.symm),by rw [hpl];exact List.length_replicate.symm,fun i B u e1 e2=>?_,by rw [hdl];exact List.length_replicate.symm,fun i d e e1 e2=>?_,?_,fun i B e x hx z=>?_,hd⟩ (fun x hx=>?_) F0z
  ·have hu:u = U0:=List.eq_of_mem_replicate (List.mem_of_getElem? e2)
   rw [hu]
   exact (hP1 i B e1).far F1z (npf B (List.mem_of_getElem? e1))
  ·have he:e = []:=List.eq_of_mem_replicate (List.mem_of_getElem? e2)
   have hdm:=List.mem_of_getElem? e1
   rw [he]
   exact ⟨[],F2z _ _ (hds2 d hdm) (nmem1 (fun y=>npds (by rw [← y];exact hdm))),rfl,by simp⟩
  ·show (p::lp::ld::lr::lw::ds).Nodup
   simp only [List.nodup_cons,List.mem_cons,not_or]
   exact ⟨⟨npl,npd,npr,npw,npds⟩,⟨n_lp_d,n_lp_r,n_lp_w,nold hlp1⟩,⟨n_pd_r,n_ld_w,nd_ld⟩,⟨n_lr_w,nd_lr⟩,nd_lw,hdn⟩
  ·have hB:=List.mem_of_getElem? e
   obtain ⟨ob,hob⟩:=all1 B hB x hx
   have z':x∈p::lp::ld::lr::lw::ds:=z
   simp only [List.mem_cons] at z'
   rcases z' with y | y | y | y | y | y
   ·exact npf B hB x hx (by rw [y];exact mem1)
   ·exact nlpf B hB (by rw [← y];exact hx)
   ·rw [y,gld1] at hob;cases hob
   ·rw [y,glr1] at hob;cases hob
   ·rw [y,glw1] at hob;cases hob
   ·exact nold hob y
  ·rcases h_cases hx with z | ⟨i,B,e,z⟩
   ·have z':x∈p::lp::ld::lr::lw::ds:=z
    simp only [List.mem_cons] at z'
    rcases z' with y | y | y | y | y | y
    ·exact .inl y
    ·exact .inr (by rw [y];exact glp)
    ·exact .inr (by rw [y];exact gld)
    ·exact .inr (by rw [y];exact glr)
    ·exact .inr (by rw [y];exact glw)
    ·exact .inr (gone1 (hdf x y))
   ·exact .inr (hf B (List.mem_of_getElem? e) x z)
end
end Hs
namespace Hs
open PySem L2 Mir Pr Tx Lw Dm Us Du Pp
section
variable {P:Program} {w:World} {K:PySem.W.Frag} {mg:Str→Option Value} {base:Heap} {CH CP CM:Addr}
def sp_startH (CH CP CM:Addr):Sp:=fun vs H Q _=>∃ A s M u p,vs = [.ref A.h,.int ((u:Nat):Int),.int p]∧HAt CH CP CM H A s∧Bd s M∧M < 900000∧u < s.us.length∧EvOk (.start p)∧∀ H',HAt CH CP CM H' A (startH s u p)→FrL H H' (footH A)→Q .non H'
def sp_load (K:PySem.W.Frag) (CH CP CM:Addr):Sp:=fun vs H Q _=>∃ A s u l c,vs = [.ref A.h,.int ((u:Nat):Int),.ref l]∧HAt CH CP CM H A s∧u < s.us.length∧SqL K H l ((c:List Int).map V.int)∧∀ A' H',A'.h = A.h→HAt CH CP CM H' A' (loadH s u c)→FrL H H' (footH A)→(∀ x∈footH A',x∈footH A∨H x = none)→Q .non H'
theorem ok_startH (R:Raw K mg "start" s_start) (T:TxtH K mg CH CP CM) (G_happen_in:GF P w K mg base "happen_in" ["house","user","event"] 8 (sp_hin CH CP CM)) (G_let_next_run:GF P w K mg base "let_next_run" ["house"] 3 (spH CH CP CM (fun s=>∃ M,Bd s M) letNext)):GF P w K mg base "start" ["house","user","place"] 9 (sp_startH CH CP CM):=by
 refine GF.mk R sc_start (by wtm_at "3") (fun vs H Q E h=>?_) (fun f cdv A outer s H vs Q E hr h=>?_)
 ·obtain ⟨A,s,M,u,p,rfl,_⟩:=h;rfl
 ·obtain ⟨A,s,M,u,p,rfl,D,hB,hM,hu,hE,k⟩:=h
  refine ⟨_,(@pss_cons _ _ _ _ _ (@ps_expr _ _ _ _ (@pe_gcallN _ _ _ _ _ _ _ _ _ _ G_happen_in (hr.mono (by decide)) rfl (@pa_c _ _ _ _ _ (pv 0) (@pa_c _ _ _ _ _ (pv 1) (@pa_c _ _ _ _ _ (@pe_tup _ _ _ _ _ (@pa_c _ _ _ _ _ pe_str (@pa_c _ _ _ _ _ (pv 2) pa_nil rfl) rfl)) pa_nil rfl) rfl) rfl) (by decide) rfl) rfl) (@pss_one _ _ _ (@ps_expr _ _ _ _ (@pe_gcallN _ _ _ _ _ _ _ _ _ _ G_let_next_run (hr.mono (by decide)) rfl (@pa_c _ _ _ _ _ (pv 0) pa_nil rfl) (by decide) rfl) rfl))),?_⟩
  wtm_at "vv"
  refine Sx.newT (by show 2≤sizeLine;decide) fun e H1 ne he s1=>?_
  have he':H1 e = some (.tup (evV (.start p))):=he
  wtm_at "vv"
  refine ⟨A,s,M,u,e,.start p,rfl,D.keep s1,hB,hM,hu,he',fun H2 D2 F2=>?_⟩
  wtm_at "vv"
  exact ⟨A,_,rfl,D2,⟨_,hB.happen hu hE hM⟩,fun H3 D3 F3=>k H3 D3 (fun b o x n=>F3 b o (F2 b o (s1 b o x) n) n)⟩
theorem ok_loadH (R:Raw K mg "load" s_load) (T:TxtH K mg CH CP CM):GF P w K mg base "load" ["house","user","cells"] 1 (sp_load K CH CP CM):=by
 refine GF.mk R sc_load (by wtm_at "3") (fun vs H Q E h=>?_) (fun f cdv A outer s H vs Q E hr h=>?_)
 ·obtain ⟨A,s,u,l,c,rfl,_⟩:=h;rfl
 ·obtain ⟨A,s,u,l,c,rfl,D,hu,hS,k⟩:=h
  have TP:=T.toTxtP
  obtain ⟨B,hp,DB,hix⟩:=D.at hu
  have hpl:u < A.ps.length:=by rw [D.ul];exact hu
  refine ⟨_,(@pss_cons _ _ _ _ _ (@ps_set _ _ (3) _ _ _ _ sc_load.nd rfl (Or.inl rfl) (@pe_fldK _ (K) _ _ _ _ rfl (@pe_ix _ _ _ _ _ _ _ (ix_listK (K:=K) rfl) (@pe_fldK _ (K) _ _ _ _ rfl (pv 0) rfl) (pv 1) (fun _ _=>rfl)) rfl) rfl (by first | exact .inl rfl | exact .inr rfl | assumption)) (@pss_one _ _ _ (@ps_fldK _ (K) _ _ _ _ _ _ _ rfl (pv 3) (@pe_callTyN _ _ _ _ _ _ _ _ _ (call_list_ofN (K:=K) rfl) (by rfl) T.list_ bo_list (@pa_c _ _ _ _ _ (pv 2) pa_nil rfl) (by decide) (by decide) rfl) rfl))),?_⟩
  wtm_at "vv"
  refine Sx.ixL D.lp hix ?_
  wtm_at "vv"
  refine Sx.listOf (.inl hS) fun q H1 nq hq s1=>?_
  have D1:=D.keep s1
  have DB1:=DB.keep s1
  have nqB:q∉foot B:=DB.fresh nq
  wtm_at "vv"
  refine ⟨B.mp,CM,B.dm,_,rfl,DB1.m.ob,TP.cl,TP.n_cells,Pr.len_flds _ _,?_⟩
  rw [pf_cellsM]
  have DB2:=n_load DB1 hq nqB
  have hmB:B.mp∈footH A:=h_foot hp f_mp
  have hmc:∀ x∈core A,x≠B.mp:=fun x hx z=>D.nd1 u B hp B.mp f_mp (by rw [← z];exact hx)
  have F2:FrL H (upd H1 B.mp (.ins CM B.dm (fldsM q (usr s u).m))) (footH A):=fun b o e n=>by rw [upd_ne (fun z=>n (by rw [z];exact hmB))];exact s1 b o e
  have hqA:q∉footH A:=D.fresh nq
  have fB:∀ x∈foot { B with c:=q },x∈foot B∨x = q:=by
   intro x hx
   have hx':x∈B.p::B.mp::q::B.ib::B.ob::B.pp::B.bk::B.bs:=hx
   simp only [List.mem_cons] at hx'
   rcases hx' with e | e | e | e | e | e | e | e
   ·rw [e];exact .inl f_p
   ·rw [e];exact .inl f_mp
   ·exact .inr e
   ·rw [e];exact .inl f_ib
   ·rw [e];exact .inl f_ob
   ·rw [e];exact .inl f_pp
   ·rw [e];exact .inl f_bk
   ·exact .inl (f_bs e)
  have get:∀ {j:Nat} {C:PAd},(A.ps.set u { B with c:=q })[j]? = some C→(j = u∧C = { B with c:=q })∨(j≠u∧A.ps[j]? = some C):=by
   intro j C e
   by_cases g:j = u
   ·subst g
    rw [List.getElem?_set_self hpl] at e
    cases e
    exact .inl ⟨rfl,rfl⟩
   ·rw [List.getElem?_set_ne (Ne.symm g)] at e
    exact .inr ⟨g,e⟩
  have inF:∀ {j:Nat} {C:PAd},(A.ps.set u { B with c:=q })[j]? = some C→∀ x∈foot C,(∃ D,A.ps[j]? = some D∧x∈foot D)∨(j = u∧x = q):=by
   intro j C e x hx
   rcases get e with ⟨g,rfl⟩ | ⟨g,e⟩
   ·rcases fB x hx with z | z
    ·exact .inl ⟨B,by rw [g];exact hp,z⟩
    ·exact .inr ⟨g,z⟩
   ·exact .inl ⟨C,e,hx⟩
  refine k { A with ps:=A.ps.set u { B with c:=q } } _ rfl ⟨?_,?_,?_,?_,?_,?_,fun j C v e1 e2=>?_,D.dl,fun j d ev e1 e2=>?_,D.nd0,fun j C e x hx=>?_,fun i j C E g e1 e2 x hx=>?_⟩ F2 (fun x hx=>?_)
  ·rw [upd_ne (hmc _ c_h)];exact D1.o
  ·rw [upd_ne (hmc _ c_lp),D1.lp]
   show some (HO.lst (A.ps.map fun B=>V.ref B.p)) = some (HO.lst ((A.ps.set u { B with c:=q }).map fun B=>V.ref B.p))
   rw [List.map_set]
   congr 2
   refine (set_self ?_).symm
   rw [List.getElem?_map,hp]
   rfl
  ·rw [upd_ne (hmc _ c_ld)];exact D1.ld
  ·rw [upd_ne (hmc _ c_lr)];exact D1.lr
  ·rw [upd_ne (hmc _ c_lw)];exact D1.lw
  ·show (A.ps.set u _).length = (s.us.set u _).length
   rw [List.length_set,List.length_set]
   exact D.ul
  ·rcases get e1 with ⟨g,rfl⟩ | ⟨g,e1⟩
   ·subst g
    have e2':(s.us.set j _)[j]? = some v:=e2
    rw [List.getElem?_set_self hu] at e2'
    cases e2'
    exact DB2
   ·have e2':(s.us.set u _)[j]? = some v:=e2
    rw [List.getElem?_set_ne (Ne.symm g)] at e2'
    exact (D1.us j C v e1 e2').move fun x hx o e=>by rw [upd_ne (fun z=>D.nd2 j u C B g e1 hp x hx (by rw [z];exact f_mp))];exact e
  ·obtain ⟨rs,E⟩:=D1.di j d ev e1 e2
   exact ⟨rs,EvsAt.oth E (hmc _ (c_ds (List.mem_of_getElem? e1))) (DB1.kind f_mp)⟩
  ·rcases inF e x hx with ⟨C2,e2,hx2⟩ | ⟨_,z⟩
   ·exact D.nd1 j C2 e2 x hx2
   ·rw [z];exact fun y=>hqA (h_core y)
  ·rcases inF e1 x hx with ⟨C2,h1,hx2⟩ | ⟨g1,z⟩
   ·intro hy
    rcases inF e2 x hy with ⟨C3,h3,hx3⟩ | ⟨g2,z⟩
    ·exact D.nd2 i j C2 C3 g h1 h3 x hx2 hx3
    ·exact hqA (by rw [← z];exact h_foot h1 hx2)
   ·intro hy
    rcases inF e2 x hy with ⟨C3,h3,hx3⟩ | ⟨g2,_⟩
    ·exact hqA (by rw [← z];exact h_foot h3 hx3)
    ·exact g (g1.trans g2.symm)
  ·rcases h_cases hx with z | ⟨i,C,e,z⟩
   ·exact .inl (h_core z)
   ·rcases inF e x z with ⟨C2,h1,hx2⟩ | ⟨_,y⟩
    ·exact .inl (h_foot h1 hx2)
    ·exact .inr (by rw [y];exact nq)
end
end Hs
namespace Hs
open PySem L2 Mir Pr Tx Lw Dm Us Du Pp
section
variable {P:Program} {w:World} {K:PySem.W.Frag} {mg:Str→Option Value} {base:Heap} {CH CP CM:Addr}
def sp_seen (K:PySem.W.Frag) (CH CP CM:Addr):Sp:=fun vs H Q _=>∃ A s M u,vs = [.ref A.h,.int ((u:Nat):Int)]∧HAt CH CP CM H A s∧Bd s M∧u < s.us.length∧∀ t tc ti to_ tp tb tbs H',PicAt K H' t tc ti to_ tp tb tbs (usr s u)→Same H H'→Q (.ref t) H'
theorem ok_seen (R:Raw K mg "seen" s_seen) (T:TxtH K mg CH CP CM) (G_picture:GF P w K mg base "picture" ["person"] 1 (sp_picP K CP CM)):GF P w K mg base "seen" ["house","user"] 2 (sp_seen K CH CP CM):=by
 refine GF.mk R sc_seen (by wtm_at "2") (fun vs H Q E h=>?_) (fun f cdv A outer s H vs Q E hr h=>?_)
 ·obtain ⟨A,s,M,u,rfl,_⟩:=h;rfl
 ·obtain ⟨A,s,M,u,rfl,D,hB,hu,k⟩:=h
  obtain ⟨B,hp,DB,hix⟩:=D.at hu
  have hbl:=(hB.ru _ (usr_mem hu)).bl
  refine ⟨_,(@pss_one _ _ _ (@ps_ret _ _ _ _ (@pe_gcallN _ _ _ _ _ _ _ _ _ _ G_picture (hr.mono (by decide)) rfl (@pa_c _ _ _ _ _ (@pe_ix _ _ _ _ _ _ _ (ix_listK (K:=K) rfl) (@pe_fldK _ (K) _ _ _ _ rfl (pv 0) rfl) (pv 1) (fun _ _=>rfl)) pa_nil rfl) (by decide) rfl))),?_⟩
  wtm_at "vv"
  refine Sx.ixL D.lp hix ?_
  wtm_at "vv"
  exact ⟨B,_,rfl,DB,by omega,k⟩
end
end Hs
namespace Lh
open PySem L2 Mir Pr Tx Lw Dm Us Du Pp Hs
structure HFr (A A':HAd) (H H':Hp):Prop where
 h:A'.h = A.h
 f:FrL H H' (footH A)
 n:∀ x∈footH A',x∈footH A∨H x = none
section
variable {A A' A'':HAd} {H H' H'' H0:Hp} {x:Addr} {o:HO}
theorem HFr.of (F:FrL H H' (footH A)):HFr A A H H':=⟨rfl,F,fun _ hx=>.inl hx⟩
theorem HFr.safe (F:HFr A A' H H') (e:H x = some o) (n:x∉footH A):H' x = some o∧x∉footH A':=⟨F.f _ _ e n,fun z=>(F.n x z).elim n fun y=>by rw [y] at e;cases e⟩
theorem HFr.base (F:HFr A A' H H') (s:Same H0 H) (n:∀ x∈footH A,H0 x = none):Same H0 H'∧∀ x∈footH A',H0 x = none :=
 ⟨(fun b o e=>F.f b o (s b o e) (fun z=>by rw [n b z] at e;cases e)),fun x hx=>(F.n x hx).elim (n x) fun z=>s.free z⟩
end
theorem _root_.Hs.HAt.other {CH CP CM:Addr} {H:Hp} {A:HAd} {s:Hse} {l:Addr} {xs:List V} {o:HO} (h:HAt CH CP CM H A s) (hl:H l = some (.lst xs)) (n:l∉footH A):HAt CH CP CM (upd H l o) A s :=
 h.move (fun x hx v e=>by rw [upd_ne (fun z=>n (by rw [← z];exact hx))];exact e) (fun x ys e=>by rw [upd_ne (fun z=>by rw [z,hl] at e;cases e)];exact e)
theorem setU_len (s:Hse) (u:Nat) (x:Usr):(setU s u x).us.length = s.us.length:=List.length_set
theorem Bd.setUsr {s:Hse} {M:Nat} (h:Bd s M) {u:Nat} {x:Usr} (hx:RgU x) (hp:x.pap.length≤M):Bd (setU s u x) M :=
 ⟨fun y hy=>mem_setL h.ru hx hy,fun y hy=>mem_setL (P:=fun y=>y.pap.length≤M) h.pa hp hy,h.dl,h.rl,by rw [setU_len];exact h.n1,by rw [setU_len];exact h.n2,fun v hv=>by rw [setU_len];exact h.rr v hv,fun v hv=>by rw [setU_len];exact h.rn v hv,h.ro,h.tu,h.be⟩
theorem Bd.loadB {s:Hse} {M:Nat} (h:Bd s M) {u:Nat} (hu:u < s.us.length) {c:List Int} (hl:c.length = 64) (hr:∀ v∈c,0≤v∧v < 1024):Bd (loadH s u c) M:=by
 have hx:=h.ru _ (usr_mem hu)
 exact Bd.setUsr h ⟨⟨hl,hr,hx.rm.t0,hx.rm.t1,hx.rm.k0,hx.rm.k1,hx.rm.a0,hx.rm.a1⟩,hx.inl,hx.inr,hx.outl,hx.papl,hx.bl,hx.bw,hx.br,hx.s0,hx.s1⟩ (show (usr s u).pap.length≤M from h.pa _ (usr_mem hu))
theorem bring_len (s:Hse) (u:Nat):(bringIn s u).us.length = s.us.length:=by unfold bringIn;split <;> rfl
theorem next_len (s:Hse):(letNext s).us.length = s.us.length:=by
 unfold letNext
 split
 ·rw [bring_len]
 ·rfl
theorem doTick_len (s:Hse):(doTick s).us.length = s.us.length:=by
 unfold doTick lastT
 have e:=ticksN_len ({ s with ticks:=s.ticks + 1 }:Hse) s.us.length
 split
 ·exact e
 ·unfold shorten
  split
  ·exact e
  ·exact e
theorem doStep_len (s:Hse):(doStep s).us.length = s.us.length:=by
 unfold doStep
 rw [next_len]
 have e1:(step1 s).us.length = s.us.length:=by
  unfold step1
  split
  ·rfl
  ·unfold stepWho
   split
   ·exact happenIn_len _ _ _
   ·exact happenIn_len _ _ _
 unfold step2
 split
 ·rw [doTick_len,e1]
 ·exact e1
theorem runN_len (s:Hse):∀ n,(runN n s).us.length = s.us.length
 | 0=>rfl
 | n + 1=>by rw [Hs.runN,doStep_len,runN_len s n]
end Lh
namespace Hs
open PySem Mir Us Du
structure Rm (s t:Hse):Prop where
 us:t.us = s.us
 di:t.di = s.di
 qu:t.quantum = s.quantum
 be:t.beat = s.beat
 ru:t.runs = s.runs
 ro:t.row = s.row
 st:t.steps = s.steps
 id:t.idle = s.idle
 ti:t.ticks = s.ticks
 le:t.left = s.left
theorem bring_rm (s:Hse) (u:Nat):Rm s (bringIn s u):=by
 unfold bringIn
 split
 ·exact ⟨rfl,rfl,rfl,rfl,rfl,rfl,rfl,rfl,rfl,rfl⟩
 ·exact ⟨rfl,rfl,rfl,rfl,rfl,rfl,rfl,rfl,rfl,rfl⟩
structure Nx (s t:Hse):Prop where
 us:t.us = s.us
 di:t.di = s.di
 qu:t.quantum = s.quantum
 be:t.beat = s.beat
 st:t.steps = s.steps
 id:t.idle = s.idle
 ti:t.ticks = s.ticks
theorem next_nx (s:Hse):Nx s (letNext s):=by
 unfold letNext
 split
 ·rename_i u r _ _
  have h:=bring_rm { s with runs:=some u,row:=r,left:=s.quantum } u
  exact ⟨h.us,h.di,h.qu,h.be,h.st,h.id,h.ti⟩
 ·exact ⟨rfl,rfl,rfl,rfl,rfl,rfl,rfl⟩
theorem next_some {s:Hse} {u:Nat} (h:s.runs = some u):letNext s = s:=by
 unfold letNext
 split
 ·rename_i e _;rw [h] at e;cases e
 ·rfl
theorem next_nil {s:Hse} (h:s.row = []):letNext s = s:=by
 unfold letNext
 split
 ·rename_i e;rw [h] at e;cases e
 ·rfl
theorem next_cons {s:Hse} {u:Nat} {r:List Nat} (h:s.runs = none) (g:s.row = u::r):letNext s = bringIn { s with runs:=some u,row:=r,left:=s.quantum } u:=by
 unfold letNext
 split
 ·rename_i e1 e2;rw [g] at e2;cases e2;rfl
 ·rename_i z;exact (z u r h g).elim
theorem usr_of {s t:Hse} (h:t.us = s.us) (i:Nat):usr t i = usr s i:=by unfold usr;rw [h]
theorem getD_setL {α:Type} {l:List α} {u i:Nat} {x d:α} (hu:u < l.length):(l.set u x).getD i d = if i = u then x else l.getD i d:=by
 rw [List.getD_eq_getElem?_getD,List.getD_eq_getElem?_getD]
 by_cases e:i = u
 ·subst e
  rw [List.getElem?_set_self hu,if_pos rfl];rfl
 ·rw [List.getElem?_set_ne (Ne.symm e),if_neg e]
theorem usr_happen {s:Hse} {u:Nat} (hu:u < s.us.length) (e:Ev) (i:Nat):usr (happenIn s u e) i = if i = u then happenU (usr s u) e else usr s i:=getD_setL hu
theorem di_happen {s:Hse} {u:Nat} (hu:u < s.di.length) (e:Ev) (i:Nat):(happenIn s u e).di.getD i [] = if i = u then s.di.getD u [] ++ [e] else s.di.getD i []:=getD_setL hu
theorem di_len (s:Hse) (u:Nat) (e:Ev):(happenIn s u e).di.length = s.di.length:=List.length_set
theorem ticks_di (s:Hse):∀ n,(ticksN n s).di.length = s.di.length
 | 0=>rfl
 | n + 1=>by rw [ticksN,di_len,ticks_di s n]
theorem usr_ticks (s:Hse):∀ n,n≤s.us.length→∀ i,usr (ticksN n s) i = if i < n then happenU (usr s i) .tick else usr s i
 | 0,_,i=>by rw [if_neg (Nat.not_lt_zero i)];rfl
 | n + 1,h,i=>by
  rw [ticksN,usr_happen (by rw [ticksN_len];omega),usr_ticks s n (by omega),usr_ticks s n (by omega),if_neg (Nat.lt_irrefl n)]
  by_cases e:i = n
  ·subst e;rw [if_pos rfl,if_pos (by omega)]
  ·rw [if_neg e]
   by_cases g:i < n
   ·rw [if_pos g,if_pos (by omega)]
   ·rw [if_neg g,if_neg (by omega)]
theorem di_ticks (s:Hse):∀ n,n≤s.di.length→∀ i,(ticksN n s).di.getD i [] = if i < n then s.di.getD i [] ++ [.tick] else s.di.getD i []
 | 0,_,i=>by rw [if_neg (Nat.not_lt_zero i)];rfl
 | n + 1,h,i=>by
  rw [ticksN,di_happen (by rw [ticks_di];omega),di_ticks s n (by omega),di_ticks s n (by omega),if_neg (Nat.lt_irrefl n)]
  by_cases e:i = n
  ·subst e;rw [if_pos rfl,if_pos (by omega)]
  ·rw [if_neg e]
   by_cases g:i < n
   ·rw [if_pos g,if_pos (by omega)]
   ·rw [if_neg g,if_neg (by omega)]
structure Tk (s t:Hse):Prop where
 qu:t.quantum = s.quantum
 be:t.beat = s.beat
 ru:t.runs = s.runs
 st:t.steps = s.steps
 id:t.idle = s.idle
 ti:t.ticks = s.ticks
 le:t.left = s.left
 rs:t.rooms = s.rooms
 sw:t.swaps = s.swaps
 tu:t.turn = s.turn
theorem ticks_tk (s:Hse):∀ n,Tk s (ticksN n s)
 | 0=>⟨rfl,rfl,rfl,rfl,rfl,rfl,rfl,rfl,rfl,rfl⟩
 | n + 1=>by
  have h:=ticks_tk s n
  exact ⟨h.qu,h.be,h.ru,h.st,h.id,h.ti,h.le,h.rs,h.sw,h.tu⟩
theorem last_us (s:Hse):(lastT s).us = s.us∧(lastT s).di = s.di∧(lastT s).quantum = s.quantum∧(lastT s).beat = s.beat∧(lastT s).steps = s.steps∧(lastT s).idle = s.idle∧(lastT s).ticks = s.ticks∧(lastT s).rooms = s.rooms∧(lastT s).swaps = s.swaps∧(lastT s).turn = s.turn:=by
 unfold lastT
 split
 ·exact ⟨rfl,rfl,rfl,rfl,rfl,rfl,rfl,rfl,rfl,rfl⟩
 ·unfold shorten
  split
  ·exact ⟨rfl,rfl,rfl,rfl,rfl,rfl,rfl,rfl,rfl,rfl⟩
  ·exact ⟨rfl,rfl,rfl,rfl,rfl,rfl,rfl,rfl,rfl,rfl⟩
structure Dt (s t:Hse):Prop where
 us:∀ i,i < s.us.length→usr t i = happenU (usr s i) .tick
 di:s.di.length = s.us.length→∀ i,i < s.us.length→t.di.getD i [] = s.di.getD i [] ++ [.tick]
 qu:t.quantum = s.quantum
 be:t.beat = s.beat
 st:t.steps = s.steps
 id:t.idle = s.idle
 ti:t.ticks = s.ticks + 1
 rs:t.rooms = s.rooms
 sw:t.swaps = s.swaps
 tu:t.turn = s.turn
theorem tick_dt (s:Hse):Dt s (doTick s):=by
 unfold doTick
 have h:=ticks_tk ({ s with ticks:=s.ticks + 1 }:Hse) s.us.length
 obtain ⟨a1,a2,a3,a4,a5,a6,a7,a8,a9,a10⟩:=last_us (ticksN s.us.length { s with ticks:=s.ticks + 1 })
 refine ⟨fun i hi=>?_,fun hd i hi=>?_,a3.trans h.qu,a4.trans h.be,a5.trans h.st,a6.trans h.id,a7.trans h.ti,a8.trans h.rs,a9.trans h.sw,a10.trans h.tu⟩
 ·rw [usr_of a1,usr_ticks { s with ticks:=s.ticks + 1 } s.us.length (show s.us.length≤s.us.length from Nat.le_refl _),if_pos hi];rfl
 ·rw [a2,di_ticks { s with ticks:=s.ticks + 1 } s.us.length (show s.us.length≤s.di.length from Nat.le_of_eq hd.symm),if_pos hi]
structure S1 (s t:Hse):Prop where
 us:∀ i,usr t i = if s.runs = some i then happenU (usr s i) .step else usr s i
 di:s.di.length = s.us.length→∀ i,t.di.getD i [] = if s.runs = some i then s.di.getD i [] ++ [.step] else s.di.getD i []
 qu:t.quantum = s.quantum
 be:t.beat = s.beat
 st:t.steps = s.steps + 1
 id:t.idle = if s.runs = none then s.idle + 1 else s.idle
 ti:t.ticks = s.ticks
 rs:t.rooms = s.rooms
 sw:t.swaps = s.swaps
 tu:t.turn = s.turn
theorem s1_none {s:Hse} (h:s.runs = none):step1 s = { s with steps:=s.steps + 1,idle:=s.idle + 1 }:=by
 unfold step1
 split
 ·rfl
 ·rename_i u e;rw [h] at e;cases e
theorem s1_some {s:Hse} {u:Nat} (h:s.runs = some u):step1 s = stepWho { s with steps:=s.steps + 1 } u:=by
 unfold step1
 split
 ·rename_i e;rw [h] at e;cases e
 ·rename_i v e;rw [h] at e;cases e;rfl
theorem step1_s1 {s:Hse} (hr:∀ u,s.runs = some u→u < s.us.length):S1 s (step1 s):=by
 rcases Option.eq_none_or_eq_some s.runs with h | ⟨u,h⟩
 ·rw [s1_none h]
  have n:∀ i,¬ s.runs = some i:=fun i z=>by rw [h] at z;cases z
  exact ⟨fun i=>by rw [if_neg (n i)];rfl,fun _ i=>by rw [if_neg (n i)],rfl,rfl,rfl,by rw [if_pos h],rfl,rfl,rfl,rfl⟩
 ·rw [s1_some h]
  have hu:=hr u h
  have e1:∀ i,usr (happenIn { s with steps:=s.steps + 1 } u .step) i = if s.runs = some i then happenU (usr s i) .step else usr s i:=fun i=>by
   rw [usr_happen (s:={ s with steps:=s.steps + 1 }) hu,h]
   by_cases e:i = u
   ·subst e;rw [if_pos rfl,if_pos rfl];rfl
   ·rw [if_neg e,if_neg (fun z=>e (Option.some.inj z).symm)];rfl
  have e2:s.di.length = s.us.length→∀ i,(happenIn { s with steps:=s.steps + 1 } u .step).di.getD i [] = if s.runs = some i then s.di.getD i [] ++ [.step] else s.di.getD i []:=fun hd i=>by
   rw [di_happen (s:={ s with steps:=s.steps + 1 }) (by show u < s.di.length;rw [hd];exact hu),h]
   by_cases e:i = u
   ·subst e;rw [if_pos rfl,if_pos rfl]
   ·rw [if_neg e,if_neg (fun z=>e (Option.some.inj z).symm)]
  have e3:s.idle = if s.runs = none then s.idle + 1 else s.idle:=by rw [if_neg (by rw [h];exact fun z=>by cases z)]
  unfold stepWho
  split
  ·exact ⟨e1,e2,rfl,rfl,rfl,e3,rfl,rfl,rfl,rfl⟩
  ·exact ⟨e1,e2,rfl,rfl,rfl,e3,rfl,rfl,rfl,rfl⟩
theorem step1_len (s:Hse):(step1 s).us.length = s.us.length:=by
 unfold step1
 split
 ·rfl
 ·unfold stepWho
  split
  ·exact happenIn_len _ _ _
  ·exact happenIn_len _ _ _
theorem step1_dlen (s:Hse):(step1 s).di.length = s.di.length:=by
 unfold step1
 split
 ·rfl
 ·unfold stepWho
  split
  ·exact di_len _ _ _
  ·exact di_len _ _ _
structure Ds (s t:Hse):Prop where
 us:∀ i,i < s.us.length→usr t i = (if (s.steps + 1) % s.beat = 0 then happenU (if s.runs = some i then happenU (usr s i) .step else usr s i) .tick else (if s.runs = some i then happenU (usr s i) .step else usr s i))
 di:s.di.length = s.us.length→∀ i,i < s.us.length→t.di.getD i [] = (if s.runs = some i then s.di.getD i [] ++ [.step] else s.di.getD i []) ++ (if (s.steps + 1) % s.beat = 0 then [.tick] else [])
 qu:t.quantum = s.quantum
 be:t.beat = s.beat
 st:t.steps = s.steps + 1
 id:t.idle = if s.runs = none then s.idle + 1 else s.idle
 ti:t.ticks = if (s.steps + 1) % s.beat = 0 then s.ticks + 1 else s.ticks
theorem step_ds {s:Hse} (hr:∀ u,s.runs = some u→u < s.us.length):Ds s (doStep s):=by
 have h1:=step1_s1 hr
 have hl:=step1_len s
 have hdl:=step1_dlen s
 unfold doStep
 have h3:=next_nx (step2 (step1 s))
 have h2:(step2 (step1 s)) = if (s.steps + 1) % s.beat = 0 then doTick (step1 s) else step1 s:=by
  unfold step2
  rw [h1.st,h1.be]
 by_cases g:(s.steps + 1) % s.beat = 0
 ·rw [if_pos g] at h2
  have ht:=tick_dt (step1 s)
  rw [← h2] at ht
  refine ⟨fun i hi=>?_,fun hd i hi=>?_,h3.qu.trans (ht.qu.trans h1.qu),h3.be.trans (ht.be.trans h1.be),h3.st.trans (ht.st.trans h1.st),h3.id.trans (ht.id.trans h1.id),?_⟩
  ·rw [usr_of h3.us,ht.us i (by rw [hl];exact hi),h1.us i,if_pos g]
  ·rw [h3.di,ht.di (by rw [hl,hdl];exact hd) i (by rw [hl];exact hi),h1.di hd i,if_pos g]
  ·rw [if_pos g,h3.ti,ht.ti,h1.ti]
 ·rw [if_neg g] at h2
  rw [h2] at h3 ⊢
  refine ⟨fun i hi=>?_,fun hd i hi=>?_,h3.qu.trans h1.qu,h3.be.trans h1.be,h3.st.trans h1.st,h3.id.trans h1.id,?_⟩
  ·rw [usr_of h3.us,h1.us i,if_neg g]
  ·rw [h3.di,h1.di hd i,if_neg g,List.append_nil]
  ·rw [if_neg g,h3.ti,h1.ti]
theorem usr_act {s:Hse} {u:Nat} {e:Ev} (hu:u < s.us.length) (i:Nat):usr (letNext (happenIn s u e)) i = if i = u then happenU (usr s u) e else usr s i:=by
 rw [usr_of (next_nx _).us,usr_happen hu]
theorem usr_set {s:Hse} {u:Nat} {x:Usr} (hu:u < s.us.length) (i:Nat):usr (setU s u x) i = if i = u then x else usr s i:=getD_setL hu
end Hs
namespace Hs
open PySem Mir Us Du
structure Fair0 (s:Hse):Prop where
 nd:s.row.Nodup
 rd:∀ u∈s.row,u < s.us.length∧(usr s u).st = .ready∧s.runs≠some u
 al:∀ u,u < s.us.length→(usr s u).st = .ready→u∈s.row∨s.runs = some u
 rr:∀ u,s.runs = some u→u < s.us.length∧(usr s u).st = .ready
 l0:s.runs = none→s.left = 0
 l1:∀ u,s.runs = some u→1≤s.left∧s.left≤s.quantum
 qu:1≤s.quantum
structure Fair (s:Hse):Prop extends Fair0 s where
 no:s.runs = none→s.row = []
theorem Fair0.cong {s t:Hse} (h:Fair0 s) (e1:t.us = s.us) (e2:t.row = s.row) (e3:t.runs = s.runs) (e4:t.left = s.left) (e5:t.quantum = s.quantum):Fair0 t:=by
 refine ⟨by rw [e2];exact h.nd,fun u hu=>?_,fun u hu hr=>?_,fun u hu=>?_,fun hu=>?_,fun u hu=>?_,by rw [e5];exact h.qu⟩
 ·rw [e1,usr_of e1,e3];exact h.rd u (by rw [← e2];exact hu)
 ·rw [e2,e3];exact h.al u (by rw [← e1];exact hu) (by rw [← usr_of e1];exact hr)
 ·rw [e1,usr_of e1];exact h.rr u (by rw [← e3];exact hu)
 ·rw [e4];exact h.l0 (by rw [← e3];exact hu)
 ·rw [e4,e5];exact h.l1 u (by rw [← e3];exact hu)
theorem Fair0.next {s:Hse} (h:Fair0 s):Fair (letNext s):=by
 rcases Option.eq_none_or_eq_some s.runs with hr | ⟨v,hr⟩
 ·cases hw:s.row with
  | nil =>
   rw [next_nil hw]
   exact ⟨h,fun _=>hw⟩
  | cons u r =>
   rw [next_cons hr hw]
   have hnd:=h.nd
   rw [hw] at hnd
   have hrm:=bring_rm { s with runs:=some u,row:=r,left:=s.quantum } u
   have hu:=h.rd u (by rw [hw];exact List.mem_cons_self)
   have h1:Fair0 { s with runs:=some u,row:=r,left:=s.quantum }:=by
    refine ⟨(List.nodup_cons.mp hnd).2,fun v hv=>?_,fun v hv hx=>?_,fun v hv=>?_,fun z=>(by cases z),fun v hv=>⟨h.qu,Int.le_refl _⟩,h.qu⟩
    ·have:=h.rd v (by rw [hw];exact List.mem_cons_of_mem _ hv)
     exact ⟨this.1,this.2.1,fun z=>(List.nodup_cons.mp hnd).1 (by rw [Option.some.inj z];exact hv)⟩
    ·rcases h.al v hv hx with z | z
     ·rw [hw] at z
      rcases List.mem_cons.mp z with y | y
      ·exact .inr (by rw [y])
      ·exact .inl y
     ·rw [hr] at z;cases z
    ·cases hv;exact ⟨hu.1,hu.2.1⟩
   exact ⟨h1.cong hrm.us hrm.ro hrm.ru hrm.le hrm.qu,fun z=>by rw [hrm.ru] at z;cases z⟩
 ·rw [next_some hr]
  exact ⟨h,fun z=>by rw [hr] at z;cases z⟩
theorem ready_stays {u:Usr} {e:Ev} (h:u.st = .ready) (he:e≠.step):(happenU u e).st = .ready:=by
 cases e with
 | start p=>show (startU u p).st = _;unfold startU;rw [if_neg (by rw [h];decide)];exact h
 | key l =>
  show (keyU u l).st = _
  unfold keyU
  dsimp only
  rw [if_neg (by rw [h];decide)]
  split
  ·exact h
  ·exact h
 | tick =>
  show (napU (printU u)).st = _
  have e:(printU u).st = .ready:=by
   unfold printU
   split
   ·exact h
   ·dsimp only;rw [if_neg (by rw [h];decide)];exact h
  unfold napU
  rw [if_neg (by rw [e];decide)]
  exact e
 | step=>exact (he rfl).elim
theorem Fair0.happen {s:Hse} (h:Fair0 s) {u:Nat} (hu:u < s.us.length) {e:Ev} (hst:(usr s u).st = .ready→(happenU (usr s u) e).st = .ready):Fair0 (happenIn s u e):=by
 have hl:=happenIn_len s u e
 by_cases g:(happenU (usr s u) e).st = .ready∧¬ (usr s u).st = .ready
 ·have er:(happenIn s u e).row = s.row ++ [u]:=by show (if _ then _ else _) = _;rw [if_pos g]
  have nu:u∉s.row:=fun z=>g.2 (h.rd u z).2.1
  have nr:s.runs≠some u:=fun z=>g.2 (h.rr u z).2
  refine ⟨?_,fun v hv=>?_,fun v hv hx=>?_,fun v hv=>?_,h.l0,h.l1,h.qu⟩
  ·rw [er]
   exact List.nodup_append.mpr ⟨h.nd,by simp,fun a ha b hb=>by rw [List.mem_singleton.mp hb];exact fun z=>nu (by rw [← z];exact ha)⟩
  ·rw [er] at hv
   rw [hl,usr_happen hu]
   rcases List.mem_append.mp hv with z | z
   ·have ne:v≠u:=fun y=>nu (by rw [← y];exact z)
    rw [if_neg ne]
    exact h.rd v z
   ·rw [List.mem_singleton.mp z,if_pos rfl]
    exact ⟨hu,g.1,nr⟩
  ·rw [hl] at hv
   rw [er]
   by_cases e1:v = u
   ·exact .inl (List.mem_append.mpr (.inr (by rw [e1];exact List.mem_singleton_self _)))
   ·rw [usr_happen hu,if_neg e1] at hx
    exact (h.al v hv hx).imp (fun z=>List.mem_append.mpr (.inl z)) id
  ·have:=h.rr v hv
   rw [hl,usr_happen hu,if_neg (fun z=>nr (by rw [← z];exact hv))]
   exact this
 ·have er:(happenIn s u e).row = s.row:=by show (if _ then _ else _) = _;rw [if_neg g]
  have st:∀ v,(usr s v).st = .ready→(usr (happenIn s u e) v).st = .ready:=fun v hx=>by
   rw [usr_happen hu]
   by_cases e1:v = u
   ·rw [if_pos e1];exact hst (by rw [← e1];exact hx)
   ·rw [if_neg e1];exact hx
  refine ⟨by rw [er];exact h.nd,fun v hv=>?_,fun v hv hx=>?_,fun v hv=>?_,h.l0,h.l1,h.qu⟩
  ·rw [er] at hv
   have:=h.rd v hv
   rw [hl]
   exact ⟨this.1,st v this.2.1,this.2.2⟩
  ·rw [hl] at hv
   rw [er]
   refine h.al v hv ?_
   rw [usr_happen hu] at hx
   by_cases e1:v = u
   ·rw [if_pos e1] at hx
    rw [e1]
    by_cases y:(usr s u).st = .ready
    ·exact y
    ·exact (g ⟨hx,y⟩).elim
   ·rw [if_neg e1] at hx;exact hx
  ·have:=h.rr v hv
   rw [hl]
   exact ⟨this.1,st v this.2⟩
theorem Fair0.ticks {s:Hse} (h:Fair0 s):∀ n,n≤s.us.length→Fair0 (ticksN n s)
 | 0,_=>h
 | n + 1,hn=>(Fair0.ticks h n (by omega)).happen (by rw [ticksN_len];omega) (fun z=>ready_stays z (by intro y;cases y))
theorem Fair0.last {s:Hse} (h:Fair0 s):Fair0 (lastT s):=by
 unfold lastT
 split
 ·exact h
 ·rename_i u hr
  have hu:=h.rr u hr
  have hl:=h.l1 u hr
  unfold shorten
  split
  ·refine ⟨?_,fun v hv=>?_,fun v hv hx=>?_,fun v hv=>(by cases hv),fun _=>rfl,fun v hv=>(by cases hv),h.qu⟩
   ·show (s.row ++ [u]).Nodup
    exact List.nodup_append.mpr ⟨h.nd,by simp,fun a ha b hb=>by rw [List.mem_singleton.mp hb];exact fun z=>(h.rd a ha).2.2 (by rw [z];exact hr)⟩
   ·rcases List.mem_append.mp hv with z | z
    ·have:=h.rd v z
     exact ⟨this.1,this.2.1,fun y=>by cases y⟩
    ·rw [List.mem_singleton.mp z]
     exact ⟨hu.1,hu.2,fun y=>by cases y⟩
   ·refine .inl (List.mem_append.mpr ?_)
    rcases h.al v hv hx with z | z
    ·exact .inl z
    ·rw [hr] at z;exact .inr (by rw [Option.some.inj z];exact List.mem_singleton_self _)
  ·rename_i g
   exact ⟨h.nd,h.rd,h.al,h.rr,fun z=>(by rw [show s.runs = none from z] at hr;cases hr),fun v hv=>⟨by show 1≤s.left - 1;omega,by show s.left - 1≤s.quantum;omega⟩,h.qu⟩
theorem Fair0.tick {s:Hse} (h:Fair0 s):Fair0 (doTick s):=by
 unfold doTick
 have h1:Fair0 { s with ticks:=s.ticks + 1 }:=h.cong rfl rfl rfl rfl rfl
 exact (h1.ticks s.us.length (Nat.le_refl _)).last
theorem Fair0.s1 {s:Hse} (h:Fair0 s):Fair0 (step1 s):=by
 rcases Option.eq_none_or_eq_some s.runs with hr | ⟨u,hr⟩
 ·rw [s1_none hr]
  exact h.cong rfl rfl rfl rfl rfl
 ·rw [s1_some hr]
  have h1:Fair0 { s with steps:=s.steps + 1 }:=h.cong rfl rfl rfl rfl rfl
  have hu:=h.rr u hr
  have hu1:u < ({ s with steps:=s.steps + 1 }:Hse).us.length:=hu.1
  have e0:usr (happenIn { s with steps:=s.steps + 1 } u .step) u = happenU (usr s u) .step:=by rw [usr_happen hu1,if_pos rfl];rfl
  unfold stepWho
  split
  ·rename_i g
   exact h1.happen hu1 (fun _=>by rw [e0] at g;exact g)
  ·rename_i g
   rw [e0] at g
   have er:(happenIn { s with steps:=s.steps + 1 } u .step).row = s.row:=by show (if _ then _ else _) = _;rw [if_neg (fun z=>g z.1)]
   have hl:=happenIn_len { s with steps:=s.steps + 1 } u .step
   refine ⟨by show (happenIn _ _ _).row.Nodup;rw [er];exact h.nd,fun v hv=>?_,fun v hv hx=>?_,fun v hv=>(by cases hv),fun _=>rfl,fun v hv=>(by cases hv),h.qu⟩
   ·have hv:v∈s.row:=by rw [← er];exact hv
    have:=h.rd v hv
    refine ⟨by show v < (happenIn _ _ _).us.length;rw [hl];exact this.1,?_,fun y=>by cases y⟩
    show (usr (happenIn _ _ _) v).st = _
    rw [usr_happen hu1,if_neg (fun y=>this.2.2 (by rw [y];exact hr))]
    exact this.2.1
   ·have hv:v < s.us.length:=by rw [← hl];exact hv
    have hx:(usr (happenIn { s with steps:=s.steps + 1 } u .step) v).st = .ready:=hx
    rw [usr_happen hu1] at hx
    by_cases e1:v = u
    ·rw [if_pos e1] at hx;exact (g hx).elim
    ·rw [if_neg e1] at hx
     refine .inl ?_
     show v∈(happenIn _ _ _).row
     rw [er]
     rcases h.al v hv hx with z | z
     ·exact z
     ·rw [hr] at z;exact (e1 (Option.some.inj z).symm).elim
theorem Fair0.step {s:Hse} (h:Fair0 s):Fair (doStep s):=by
 unfold doStep
 refine Fair0.next ?_
 unfold step2
 split
 ·exact h.s1.tick
 ·exact h.s1
theorem Fair.setSt {s:Hse} (h:Fair s) {u:Nat} (hu:u < s.us.length) {x:Usr} (hx:x.st = (usr s u).st):Fair (setU s u x):=by
 have e:∀ v,(usr (setU s u x) v).st = (usr s v).st:=fun v=>by
  rw [usr_set hu]
  by_cases y:v = u
  ·rw [if_pos y,hx,y]
  ·rw [if_neg y]
 have hl:(setU s u x).us.length = s.us.length:=List.length_set
 exact ⟨⟨h.nd,fun v hv=>by rw [hl,e];exact h.rd v hv,fun v hv hz=>h.al v (by rw [← hl];exact hv) (by rw [← e];exact hz),fun v hv=>by rw [hl,e];exact h.rr v hv,h.l0,h.l1,h.qu⟩,h.no⟩
end Hs
namespace Lh
open PySem Mir Us Du Hs
theorem usr_new {n r:Nat} {q b:Int} (v:Nat):usr (newH n r q b) v = U0:=by
 unfold usr newH
 dsimp only
 rw [List.getD_eq_getElem?_getD,List.getElem?_replicate]
 split <;> rfl
theorem fair_new {n r:Nat} {q b:Int} (hq:1≤q):Fair (newH n r q b) :=
 ⟨⟨List.nodup_nil,fun u hu=>(by cases hu),fun u hu hx=>(by rw [usr_new] at hx;cases hx),fun u hu=>(by cases hu),fun _=>rfl,fun u hu=>(by cases hu),hq⟩,fun _=>rfl⟩
end Lh
namespace Ls
open PySem L2 Tx
def numS (i:Int):Str:=(toString i:String)
def kindsS:List Str:=["and","add","rise","put","call","go"]
def asksS:List Str:=["heard","hear","room","say","sleep","fetch","store","stop","look"]
def changesS:List Str:=["zero","turn","flip","more","left","right"]
def testsS:List Str:=["minus","none","mark","not","zero","flat"]
def bitsL:List Int:=[32,16,8,4,2,1]
theorem log_ok {i:Int} (h0:0≤i) (h1:i < 100000):i.natAbs.log2 < 1920:=by
 have h:i.natAbs < 2 ^ 1920:=Nat.lt_of_lt_of_le (show i.natAbs < 2 ^ 17 by omega) (Nat.pow_le_pow_right (by decide) (by decide))
 by_cases e:i.natAbs = 0
 ·rw [e];decide
 ·exact (Nat.log2_lt e).mpr h
theorem num_cps (n:Nat):(numS (n:Int)).cps.toList = (Nat.toDigits 10 n).map Char.toNat:=by
 have e:(toString (n:Int):String) = String.ofList (Nat.toDigits 10 n):=rfl
 unfold numS
 rw [e,Str.ofString_eq_toList,String.toList_ofList]
theorem num_len {i:Nat} (h:i < 10000):(numS (i:Int)).length≤4:=by
 have e:(numS (i:Int)).length = (Nat.toDigits 10 i).length:=by
  rw [← List.length_map (f:=Char.toNat),← num_cps,Array.length_toList]
  rfl
 rw [e]
 exact (Nat.length_toDigits_le_iff (by decide) (by decide)).mpr h
theorem join_cons (sep a:Str) (b:Str) (r:List Str):Str.join sep (a::b::r) = a ++ sep ++ Str.join sep (b::r):=rfl
theorem join_len (sep:Str):∀ (ts:List Str) (m:Nat),(∀ t∈ts,t.length≤m)→(Str.join sep ts).length≤ts.length * (m + sep.length)
 | [],m,_=>Nat.zero_le _
 | [a],m,h=>by
  have:=h a List.mem_cons_self
  show a.length≤1 * (m + sep.length)
  omega
 | a::b::r,m,h=>by
  have h1:=h a List.mem_cons_self
  have h2:=join_len sep (b::r) m fun t ht=>h t (List.mem_cons_of_mem _ ht)
  rw [join_cons,strLen_append,strLen_append]
  have e:(a::b::r).length * (m + sep.length) = (m + sep.length) + (b::r).length * (m + sep.length):=by rw [List.length_cons,Nat.succ_mul,Nat.add_comm]
  omega
theorem fold_len (sep:Str):∀ (ts:List Str) (acc m:Nat),(∀ t∈ts,t.length≤m)→ts.foldl (fun n (t:Str)=>n + t.length + sep.length) acc≤acc + ts.length * (m + sep.length)
 | [],acc,m,_=>by simp
 | a::r,acc,m,h=>by
  have h1:=h a List.mem_cons_self
  have h2:=fold_len sep r (acc + a.length + sep.length) m fun t ht=>h t (List.mem_cons_of_mem _ ht)
  rw [List.foldl_cons]
  have e:(a::r).length * (m + sep.length) = (m + sep.length) + r.length * (m + sep.length):=by rw [List.length_cons,Nat.succ_mul,Nat.add_comm]
  omega
theorem joinOk {sep:Str} {ts:List Str} (m:Nat) (h:∀ t∈ts,t.length≤m) (hz:ts.length * (m + sep.length)≤sizeLine):JoinOk sep ts = true:=by
 unfold JoinOk Builtin.Str.tooLong
 have:=fold_len sep ts 0 m h
 rw [List.foldl_toArray] at *
 simp only [Bool.not_eq_true',decide_eq_false_iff_not]
 omega
theorem l_nl:("\n":Str).length = 1:=by decide +kernel
theorem sz:(100000:Nat)≤sizeLine:=by decide
end Ls
local macro_rules | `(tactic| wtm_at "t") => `(tactic| first | (with_reducible first | refine Sx.tupN ?_ | refine Sx.lstN ?_ | refine Sx.intB ?_ | refine Sx.fs ?_ | refine Sx.jv ?_ | refine Sx.iZ ?_) | ((with_reducible refine' Sx.bmS ?_)) | wtm_at "s" | (with_reducible refine iteNS rfl ?_) | (with_reducible refine iteDS rfl ?_))
local macro_rules | `(tactic| wtm_at "tt") => `(tactic| repeat wtm_at "t")
namespace Sc
open PySem L2 Tx
def cs (x:Str):List Nat:=x.cps.toList
def oc (l:List Nat):Str:=⟨l.toArray⟩
theorem cs_oc (l:List Nat):cs (oc l) = l:=by simp [cs,oc]
theorem oc_cs (x:Str):oc (cs x) = x:=by simp [cs,oc]
theorem cs_inj {x y:Str} (h:cs x = cs y):x = y:=by rw [← oc_cs x,h,oc_cs]
theorem cs_app (x y:Str):cs (x ++ y) = cs x ++ cs y:=by
 show (x.cps ++ y.cps).toList = _
 simp [cs]
theorem cs_len (x:Str):(cs x).length = x.length:=by simp [cs,Str.length]
def splitC (c:Nat):List Nat→List (List Nat)
 | []=>[[]]
 | a::r=>if a = c then []::splitC c r else match splitC c r with
  | h::t=>(a::h)::t
  | []=>[[a]]
def joinC (c:List Nat):List (List Nat)→List Nat
 | []=>[]
 | [a]=>a
 | a::b::r=>a ++ c ++ joinC c (b::r)
theorem split_ne (c:Nat):∀ l,splitC c l≠[]
 | []=>by simp [splitC]
 | a::r=>by
  unfold splitC
  split
  ·simp
  ·split <;> simp
theorem split_skip {c a:Nat} {r h:List Nat} {t:List (List Nat)} (n:¬ a = c) (e:splitC c r = h::t):splitC c (a::r) = (a::h)::t:=by
 rw [splitC,if_neg n,e]
theorem split_one {c:Nat}:∀ {l:List Nat},c∉l→splitC c l = [l]
 | [],_=>rfl
 | a::r,h=>split_skip (fun e=>h (by simp [e])) (split_one fun m=>h (List.mem_cons_of_mem _ m))
theorem split_app {c:Nat} {r:List Nat}:∀ {l:List Nat},c∉l→splitC c (l ++ c::r) = l::splitC c r
 | [],_=>by show splitC c (c::r) = _;rw [splitC,if_pos rfl]
 | a::l,h=>split_skip (fun e=>h (by simp [e])) (split_app fun m=>h (List.mem_cons_of_mem _ m))
theorem split_join {c:Nat}:∀ {ts:List (List Nat)},ts≠[]→(∀ t∈ts,c∉t)→splitC c (joinC [c] ts) = ts
 | [],n,_=>absurd rfl n
 | [a],_,h=>split_one (h a List.mem_cons_self)
 | a::b::r,_,h=>by
  show splitC c (a ++ [c] ++ joinC [c] (b::r)) = _
  rw [List.append_assoc]
  show splitC c (a ++ c::joinC [c] (b::r)) = _
  rw [split_app (h a List.mem_cons_self),split_join (List.cons_ne_nil _ _) fun t ht=>h t (List.mem_cons_of_mem _ ht)]
theorem cs_join (sep:Str):∀ ts:List Str,cs (Str.join sep ts) = joinC (cs sep) (ts.map cs)
 | []=>rfl
 | [_]=>rfl
 | a::b::r=>by
  show cs (a ++ sep ++ Str.join sep (b::r)) = _
  rw [cs_app,cs_app,cs_join sep (b::r)]
  rfl
theorem tsplit_ne (x:Str) (c:Nat):Txt.split x ⟨#[c]⟩≠[]:=by
 unfold Txt.split
 split
 ·simp
 ·split
  ·simp
  ·rw [StrLaws.partsBetween_eq]
   obtain ⟨p,r,e⟩:=StrLaws.partsFrom_ne x (Str.length ⟨#[c]⟩) 0 (Builtin.Str.occurrences x ⟨#[c]⟩ 0 x.length (x.length + 1))
   rw [e]
   simp
theorem tsplit (x:Str) (c:Nat):(Txt.split x ⟨#[c]⟩).map cs = splitC c (cs x):=by
 have h:=StrLaws.join_split x ⟨#[c]⟩
 have e:cs x = joinC [c] ((Txt.split x ⟨#[c]⟩).map cs):=by
  conv=>lhs;rw [← h]
  exact cs_join ⟨#[c]⟩ _
 rw [e,split_join]
 ·intro z
  exact tsplit_ne x c (List.map_eq_nil_iff.mp z)
 ·intro t ht
  obtain ⟨p,hp,rfl⟩:=List.mem_map.mp ht
  exact StrLaws.split_free x c p hp
def replC (c:Nat) (z:List Nat) (l:List Nat):List Nat:=l.flatMap fun a=>if a = c then z else [a]
theorem repl_free {c:Nat} {z:List Nat}:∀ {l:List Nat},c∉l→replC c z l = l
 | [],_=>rfl
 | a::r,h=>by
  have ih:=repl_free (z:=z) (l:=r) fun m=>h (List.mem_cons_of_mem _ m)
  show (if a = c then z else [a]) ++ replC c z r = _
  rw [if_neg (fun e=>h (by simp [e])),ih]
  rfl
theorem repl_app (c:Nat) (z:List Nat) (l m:List Nat):replC c z (l ++ m) = replC c z l ++ replC c z m:=by unfold replC;rw [List.flatMap_append]
theorem join_repl {c:Nat} {z:List Nat}:∀ {ts:List (List Nat)},(∀ t∈ts,c∉t)→joinC z ts = replC c z (joinC [c] ts)
 | [],_=>rfl
 | [a],h=>(repl_free (h a List.mem_cons_self)).symm
 | a::b::r,h=>by
  show a ++ z ++ joinC z (b::r) = replC c z (a ++ [c] ++ joinC [c] (b::r))
  rw [repl_app,repl_app,repl_free (h a List.mem_cons_self),join_repl fun t ht=>h t (List.mem_cons_of_mem _ ht)]
  have e:replC c z [c] = z:=by simp [replC]
  rw [e]
theorem treplace (x z:Str) (c:Nat):cs (Txt.replace x ⟨#[c]⟩ z) = replC c (cs z) (cs x):=by
 rw [StrLaws.replace_one,cs_join,tsplit]
 have h:=StrLaws.join_split x ⟨#[c]⟩
 have e:cs x = joinC [c] ((Txt.split x ⟨#[c]⟩).map cs):=by
  conv=>lhs;rw [← h]
  exact cs_join ⟨#[c]⟩ _
 rw [join_repl (c:=c)]
 ·congr 1
  rw [← tsplit]
  exact e.symm
 ·rw [← tsplit]
  intro t ht
  obtain ⟨p,hp,rfl⟩:=List.mem_map.mp ht
  exact StrLaws.split_free x c p hp
end Sc
namespace Sc
open PySem L2 Tx
def partS (x:Str) (c:Nat):Str:=match Builtin.Str.occurrences x ⟨#[c]⟩ 0 x.length 1 with
 | i::_=>Builtin.Str.strSub x 0 i
 | []=>x
theorem at_iff (x:Str) (c i:Nat):StrLaws.At x ⟨#[c]⟩ x.length i↔(cs x)[i]? = some c:=StrLaws.subAt_one x c i
theorem take_first {c:Nat}:∀ {l:List Nat} {i:Nat},l[i]? = some c→(∀ k,k < i→¬ l[k]? = some c)→l.takeWhile (fun a=>!decide (a = c)) = l.take i
 | [],i,h,_=>by simp at h
 | a::r,0,h,_=>by
  simp at h
  subst h
  simp
 | a::r,i + 1,h,n=>by
  have ha:¬ a = c:=fun e=>n 0 (by omega) (by simp [e])
  have ih:=take_first (l:=r) (i:=i) (by simpa using h) fun k hk e=>n (k + 1) (by omega) (by simpa using e)
  rw [List.takeWhile_cons,decide_eq_false ha,List.take_succ_cons,← ih]
  rfl
theorem take_none {c:Nat}:∀ {l:List Nat},c∉l→l.takeWhile (fun a=>!decide (a = c)) = l
 | [],_=>rfl
 | a::r,h=>by
  have ha:¬ a = c:=fun e=>h (by simp [e])
  rw [List.takeWhile_cons,decide_eq_false ha,take_none fun m=>h (List.mem_cons_of_mem _ m)]
  rfl
theorem cs_part (x:Str) (c:Nat):cs (partS x c) = (cs x).takeWhile (fun a=>!decide (a = c)):=by
 unfold partS
 rcases StrLaws.occ_head x ⟨#[c]⟩ 1 (Nat.le_refl _) with ⟨e,h⟩ | ⟨i,r,e,h1,h2⟩
 ·rw [e]
  exact (take_none fun m=>by
   obtain ⟨i,hi⟩:=List.mem_iff_getElem?.mp m
   exact h i ((at_iff x c i).mpr hi)).symm
 ·rw [e]
  rw [take_first ((at_iff x c i).mp h1) fun k hk z=>h2 k hk ((at_iff x c k).mpr z)]
  show (Builtin.Str.strSub x 0 i).cps.toList = _
  rw [StrLaws.strSub_toList,List.drop_zero,Nat.sub_zero]
  rfl
theorem tstart (x:Str) (c:Nat):Txt.startswith x ⟨#[c]⟩ = decide ((cs x)[0]? = some c):=by
 rw [Bool.eq_iff_iff,decide_eq_true_eq,← at_iff]
 unfold Txt.startswith StrLaws.At
 simp
theorem tend (x:Str) (c:Nat):Txt.endswith x ⟨#[c]⟩ = decide ((cs x)[(cs x).length - 1]? = some c):=by
 have e:(cs x).length = x.length:=cs_len x
 rw [Bool.eq_iff_iff,decide_eq_true_eq,e,← at_iff]
 unfold Txt.endswith StrLaws.At
 have l1:(Str.mk #[c]).length = 1:=rfl
 simp [l1]
 omega
theorem in_one (x:Str) (c:Nat):(!(Builtin.Str.occurrences x ⟨#[c]⟩ 0 x.length 1).isEmpty) = decide (c∈cs x):=StrLaws.found_one x c
end Sc
namespace Sc
open PySem L2 Tx Ls
inductive Bad where
 | noDeed | twice | noName | bounds | taken
 deriving DecidableEq
abbrev R (α:Type):=Except (Bad×Int) α
def letters:Str:="abcdefghijklmnopqrstuvwxyz"
def figures:Str:="0123456789"
def isLet (c:Nat):Bool:=decide (c∈cs letters)
def isFig (c:Nat):Bool:=decide (c∈cs figures)
def otherS:List Str:=["place","word","far","ask","change","test","here"]
def shortName (p:Str):Bool:=(decide (1≤p.length) && decide (p.length≤8)) && ((cs p).head?.any isLet && (cs p).all fun c=>isLet c || isFig c)
def toldWord (p:Str):Bool:=decide (p∈kindsS) || (decide (p∈asksS) || (decide (p∈changesS) || (decide (p∈testsS) || decide (p∈otherS))))
def isName (p:Str):Bool:=shortName p && !toldWord p
def isFigs (p:Str):Bool:=(decide (1≤p.length) && decide (p.length≤4)) && (cs p).all isFig
def isTerm (p:Str):Bool:=decide (p = "here") || (isName p || isFigs p)
structure Ln where
 num:Int
 label:Option Str
 name:Option Str
 base:Int
 pooled:Bool
 terms:List (Int×Str)
def newLn (n:Int):Ln:=⟨n,none,none,0,false,[]⟩
def pieces (row:Str):List Str:=(Txt.split (partS row 59) " ").filter fun p=>!decide (p = "")
def termPieces (v:Str):List Str:=Txt.split (Txt.replace (Txt.replace v "+" " + ") "-" " - ") " "
def goTerms (ln:Int):Nat→Int→List Str→List (Int×Str)→R (List (Int×Str))
 | _,_,[],acc=>.ok acc
 | n,f,p::r,acc=>if n % 2 = 1 then goTerms ln (n + 1) (if p = "+" then 1 else -1) r acc
  else if isTerm p = true then goTerms ln (n + 1) f r (acc ++ [(f,p)]) else .error (.noDeed,ln)
def readValue (L:Ln):List Str→R Ln
 | [v]=>match goTerms L.num 0 1 (termPieces v) L.terms with
  | .ok ts=>.ok { L with terms:=ts }
  | .error e=>.error e
 | _=>.error (.noDeed,L.num)
def goBits (ln:Int) (names behind:List Str):List Str→Int→R Int
 | [],a=>.ok a
 | p::r,a=>if p∉names∨1 < behind.count p then .error (.noDeed,ln) else goBits ln names behind r (a + bitsL.getD (names.idxOf p) 0)
def readAsk (L:Ln):List Str→R Int
 | [p]=>if p∈asksS then .ok (asksS.idxOf p:Nat) else .error (.noDeed,L.num)
 | _=>.error (.noDeed,L.num)
def readPool (L:Ln):List Str→R Ln
 | []=>readValue L []
 | v::r=>if (cs v)[0]? = some 61 then readValue { L with pooled:=true } (oc ((cs v).drop 1)::r) else readValue L (v::r)
def readCell (L:Ln) (nm:Str):List Str→R Ln
 | []=>readPool { L with base:=(kindsS.idxOf nm:Nat) * 128 } []
 | v::r=>if v = "far" then readPool { L with base:=(kindsS.idxOf nm:Nat) * 128 + 64 } r else readPool { L with base:=(kindsS.idxOf nm:Nat) * 128 } (v::r)
def readDeed (L0:Ln) (nm:Str) (behind:List Str):R Ln :=
 let L:={ L0 with name:=some nm }
 if nm = "place"∨nm = "word" then readValue L behind
 else if nm∈kindsS then readCell L nm behind
 else if nm = "ask" then match readAsk L behind with
  | .ok p=>.ok { L with base:=768 + p }
  | .error e=>.error e
 else if nm = "change" then match goBits L.num changesS behind behind 0 with
  | .ok p=>.ok { L with base:=896 + p }
  | .error e=>.error e
 else if nm = "test" then match goBits L.num testsS behind behind 0 with
  | .ok p=>.ok { L with base:=960 + p }
  | .error e=>.error e
 else .error (.noDeed,L.num)
def readRest (L:Ln):List Str→R Ln
 | []=>.ok L
 | nm::r=>readDeed L nm r
def readLine (row:Str) (n:Int):R Ln :=
 match pieces row with
 | []=>.ok (newLn n)
 | p::r=>if (cs p)[(cs p).length - 1]? = some 58 then
   (if isName (oc ((cs p).take ((cs p).length - 1))) = true then readRest { newLn n with label:=some (oc ((cs p).take ((cs p).length - 1))) } r else .error (.noDeed,n))
  else readDeed (newLn n) p r
structure Sh where
 labels:List (Str×Int)
 made:List (Int×Int)
 pool:List (Int×Int)
 here:Int
def figVal (l:List Nat):Int:=l.foldl (fun (v:Int) (c:Nat)=>v * 10 + ((c:Int) - 48)) 0
def termVal (S:Sh) (ln:Int) (t:Str):R Int :=
 if t = "here" then .ok S.here
 else if (cs t).head?.any isFig = true then .ok (figVal (cs t))
 else match S.labels.lookup t with
  | some i=>.ok i
  | none=>.error (.noName,ln)
def sumTerms (S:Sh) (ln:Int):List (Int×Str)→Int→R Int
 | [],a=>.ok a
 | (f,t)::r,a=>match termVal S ln t with
  | .ok v=>sumTerms S ln r (a + f * v)
  | .error e=>.error e
def boundVal (S:Sh) (L:Ln) (b:Int):R Int:=match sumTerms S L.num L.terms 0 with
 | .ok v=>if 0≤v∧v < b then .ok v else .error (.bounds,L.num)
 | .error e=>.error e
def makes (L:Ln):Bool:=match L.name with
 | none=>false
 | some nm=>!decide (nm = "place")
def moveHere (S:Sh) (L:Ln):R Sh :=
 if L.name = some ("place" : Str) then match boundVal S L 64 with
  | .ok v=>.ok { S with here:=v }
  | .error e=>.error e
 else if makes L = true then (if 64≤S.here then .error (.bounds,L.num) else .ok { S with here:=S.here + 1 })
 else .ok S
def tellLabel (S:Sh) (L:Ln):R Sh:=match L.label with
 | none=>.ok S
 | some x=>match S.labels.lookup x with
  | some _=>.error (.twice,L.num)
  | none=>.ok { S with labels:=S.labels ++ [(x,S.here)] }
def goFirst:List Str→Int→Sh→List Ln→R (Sh×List Ln)
 | [],_,S,Ls=>.ok (S,Ls)
 | row::r,n,S,Ls=>match readLine row n with
  | .error e=>.error e
  | .ok L=>match tellLabel S L with
   | .error e=>.error e
   | .ok S1=>match moveHere S1 L with
    | .error e=>.error e
    | .ok S2=>goFirst r (n + 1) S2 (Ls ++ [L])
def makeCell (S:Sh) (ln place word:Int):R Sh :=
 if place < 0 then .error (.taken,ln) else match S.made.lookup place with
  | some _=>.error (.taken,ln)
  | none=>.ok { S with made:=S.made ++ [(place,word)] }
def poolPlace (S:Sh) (L:Ln):R (Sh×Int):=match boundVal S L 1024 with
 | .error e=>.error e
 | .ok v=>match S.pool.lookup v with
  | some p=>.ok (S,p)
  | none=>match makeCell S L.num (63 - (S.pool.length:Int)) v with
   | .error e=>.error e
   | .ok S1=>.ok ({ S1 with pool:=S1.pool ++ [(v,63 - (S.pool.length:Int))] },63 - (S.pool.length:Int))
def wordOf (S:Sh) (L:Ln):R (Sh×Int) :=
 if L.pooled = true then match poolPlace S L with
  | .error e=>.error e
  | .ok (S1,p)=>.ok (S1,L.base + p)
 else match boundVal S L (if L.name = some ("word" : Str) then 1024 else 64) with
  | .error e=>.error e
  | .ok v=>.ok (S,L.base + v)
def againOne (S:Sh) (L:Ln):R Sh :=
 if makes L = true then match wordOf S L with
  | .error e=>.error e
  | .ok (S1,v)=>makeCell S1 L.num S.here v
 else .ok S
def goAgain:List Ln→Sh→R Sh
 | [],S=>.ok S
 | L::r,S=>match againOne S L with
  | .error e=>.error e
  | .ok S1=>match moveHere S1 L with
   | .error e=>.error e
   | .ok S2=>goAgain r S2
def assembledR (text:Str):R (List Int):=match goFirst (Txt.split text "\n") 1 ⟨[],[],[],0⟩ [] with
 | .error e=>.error e
 | .ok (S,Ls)=>match goAgain Ls { S with here:=0 } with
  | .error e=>.error e
  | .ok S=>.ok ((List.range 64).map fun (i:Nat)=>(S.made.lookup (i:Int)).getD 0)
end Sc
namespace Sc
open PySem L2 Tx Ls
theorem num_pos (n:Nat):cs (numS (n:Int)) = (Nat.toDigits 10 n).map Char.toNat:=num_cps n
theorem fig_digit {k:Nat} (h:k < 10):isFig (Nat.digitChar k).toNat = true:=by
 rw [Nat.toNat_digitChar_of_lt_ten h]
 have e:∀ i:Fin 10,isFig (48 + i.val) = true:=by decide +kernel
 exact e ⟨k,h⟩
theorem figs_of (n:Nat):∀ c∈cs (numS (n:Int)),isFig c = true∧48≤c∧c≤57:=by
 rw [num_pos]
 induction n using Nat.strongRecOn with
 | ind n ih =>
  rw [Nat.toDigits_eq_if (by decide)]
  split
  ·intro c hc
   rw [List.map_singleton,List.mem_singleton] at hc
   subst hc
   exact ⟨fig_digit (by omega),by rw [Nat.toNat_digitChar_of_lt_ten (by omega)];omega⟩
  ·intro c hc
   rw [List.map_append,List.mem_append,List.map_singleton,List.mem_singleton] at hc
   rcases hc with hc | hc
   ·exact ih (n / 10) (by omega) c hc
   ·subst hc
    exact ⟨fig_digit (by omega),by rw [Nat.toNat_digitChar_of_lt_ten (by omega)];omega⟩
theorem figVal_snoc (l:List Nat) (c:Nat):figVal (l ++ [c]) = figVal l * 10 + ((c:Int) - 48):=by unfold figVal;rw [List.foldl_append];rfl
theorem figVal_num (n:Nat):figVal (cs (numS (n:Int))) = n:=by
 rw [num_pos]
 induction n using Nat.strongRecOn with
 | ind n ih =>
  rw [Nat.toDigits_eq_if (by decide)]
  split
  ·rw [List.map_singleton,Nat.toNat_digitChar_of_lt_ten (by omega)]
   show (0:Int) * 10 + (((48 + n:Nat):Int) - 48) = n
   omega
  ·rw [List.map_append,List.map_singleton,figVal_snoc,ih (n / 10) (by omega),Nat.toNat_digitChar_of_lt_ten (by omega)]
   omega
theorem num_ne (n:Nat):cs (numS (n:Int))≠[]:=by
 rw [num_pos]
 intro z
 exact Nat.toDigits_ne_nil (List.map_eq_nil_iff.mp z)
theorem num_free {n:Nat} {c:Nat} (h:c < 48∨57 < c):c∉cs (numS (n:Int)):=fun m=>by
 have:=(figs_of n c m).2
 omega
def toksC (l:List Nat):List (List Nat):=(splitC 32 l).filter fun p=>!decide (p = [])
theorem split_cat (c:Nat) (r:List Nat):∀ l,splitC c (l ++ c::r) = splitC c l ++ splitC c r
 | []=>by show splitC c (c::r) = [[]] ++ _;rw [splitC,if_pos rfl];rfl
 | a::l=>by
  have ih:=split_cat c r l
  show splitC c (a::(l ++ c::r)) = _
  rw [splitC,splitC]
  split
  ·rw [ih];rfl
  ·rw [ih]
   cases e:splitC c l with
   | nil=>exact absurd e (split_ne c l)
   | cons h t=>rfl
theorem toks_cat (l r:List Nat):toksC (l ++ 32::r) = toksC l ++ toksC r:=by unfold toksC;rw [split_cat,List.filter_append]
theorem toks_bl (r:List Nat):toksC (32::r) = toksC r:=toks_cat [] r
theorem toks_one {a:List Nat} (h:32∉a) (n:a≠[]):toksC a = [a]:=by
 unfold toksC
 rw [split_one h]
 simp [n]
theorem ne_emp (p:Str):(p = "")↔cs p = []:=⟨fun h=>by rw [h];decide +kernel,fun h=>cs_inj (by rw [h];decide +kernel)⟩
theorem pieces_cs (row:Str):(pieces row).map cs = toksC ((cs row).takeWhile fun a=>!decide (a = 59)):=by
 have e:(" " : Str) = ⟨#[32]⟩:=by decide +kernel
 unfold pieces toksC
 rw [← cs_part,e,← tsplit]
 generalize Txt.split (partS row 59) ⟨#[32]⟩ = l
 induction l with
 | nil=>rfl
 | cons a r ih =>
  rw [List.map_cons,List.filter_cons,List.filter_cons]
  by_cases h:a = ""
  ·have h2:=(ne_emp a).mp h
   rw [decide_eq_true h,decide_eq_true h2]
   exact ih
  ·have h2:¬ cs a = []:=fun z=>h ((ne_emp a).mpr z)
   rw [decide_eq_false h,decide_eq_false h2]
   show (a::_).map cs = cs a::_
   rw [List.map_cons,ih]
theorem map_cs_inj:∀ {a b:List Str},a.map cs = b.map cs→a = b
 | [],[],_=>rfl
 | [],_::_,h=>nomatch h
 | _::_,[],h=>nomatch h
 | x::a,y::b,h=>by
  rw [List.map_cons,List.map_cons] at h
  injection h with h1 h2
  rw [cs_inj h1,map_cs_inj h2]
theorem pieces_row {row:Str} {ps:List Str} (body tail:List Nat) (e:(cs row).takeWhile (fun a=>!decide (a = 59)) = body) (h:toksC body = ps.map cs):pieces row = ps:=by
 apply map_cs_inj
 rw [pieces_cs,e,h]
def Tk (p:Str):Prop:=32∉cs p∧59∉cs p∧cs p≠[]∧10∉cs p
theorem tk_num (n:Nat):Tk (numS (n:Int)):=⟨num_free (by omega),num_free (by omega),num_ne n,num_free (by omega)⟩
theorem termPieces_cs (v:Str):(termPieces v).map cs = splitC 32 (replC 45 [32,45,32] (replC 43 [32,43,32] (cs v))):=by
 have e1:(" " : Str) = ⟨#[32]⟩:=by decide +kernel
 have e2:("+" : Str) = ⟨#[43]⟩:=by decide +kernel
 have e3:("-" : Str) = ⟨#[45]⟩:=by decide +kernel
 have e4:cs (" + " : Str) = [32,43,32]:=by decide +kernel
 have e5:cs (" - " : Str) = [32,45,32]:=by decide +kernel
 unfold termPieces
 rw [e1,tsplit,e3,treplace,e2,treplace,e4,e5]
theorem figs_num {n:Nat} (h:n < 10000):isFigs (numS (n:Int)) = true:=by
 unfold isFigs
 have l1:=num_len h
 have l2:1≤(numS (n:Int)).length:=by
  rw [← cs_len]
  have:=List.length_pos_iff.mpr (num_ne n)
  omega
 rw [decide_eq_true l1,decide_eq_true l2]
 show (cs (numS (n:Int))).all isFig = true
 rw [List.all_eq_true]
 exact fun c hc=>(figs_of n c hc).1
theorem term_num {n:Nat} (h:n < 10000):isTerm (numS (n:Int)) = true:=by
 unfold isTerm
 rw [figs_num h]
 simp
theorem here_not_num {l:List Nat} (h:l≠[]) (hf:∀ c∈l,isFig c = true):¬ (oc l = "here"):=fun z=>by
 have e:=congrArg cs z
 rw [cs_oc] at e
 have:isFig 104 = true:=hf 104 (by rw [e];decide +kernel)
 revert this
 decide +kernel
theorem termVal_figs {S:Sh} {ln:Int} {v:Str} (h:cs v≠[]) (hf:∀ c∈cs v,isFig c = true):termVal S ln v = .ok (figVal (cs v)):=by
 unfold termVal
 have n:=here_not_num h hf
 rw [oc_cs] at n
 rw [if_neg n]
 have e:(cs v).head?.any isFig = true:=by
  cases e:cs v with
  | nil=>exact absurd e h
  | cons c r=>exact hf c (by rw [e];exact List.mem_cons_self)
 rw [if_pos e]
def Plain (row:Str) (c:Int):Prop:=∀ n,∃ L,readLine row n = .ok L∧L.num = n∧L.label = none∧makes L = true∧L.name≠some ("place" : Str)∧∀ S,wordOf S L = .ok (S,c)
theorem readLine_of {row p:Str} {r:List Str} {n:Int} (h:pieces row = p::r) (hc:¬ (cs p)[(cs p).length - 1]? = some 58):readLine row n = readDeed (newLn n) p r:=by
 unfold readLine
 rw [h]
 exact if_neg hc
theorem kinds_not:∀ p∈kindsS,¬ (cs p)[(cs p).length - 1]? = some 58∧¬ p = "place"∧¬ p = "word":=by decide +kernel
theorem bound_nil {S:Sh} {L:Ln} {b:Int} (ht:L.terms = []) (h1:0 < b):boundVal S L b = .ok 0:=by
 unfold boundVal
 rw [ht]
 simp [sumTerms,h1]
theorem num_nat {i:Int} (h:0≤i):∃ k:Nat,i = k:=Int.eq_ofNat_of_zero_le h
end Sc
namespace Sc
open PySem L2 Tx Ls
theorem bits_go {ln:Int} {names behind:List Str}:∀ (rest:List Str) (a:Int),(∀ p∈rest,p∈names∧behind.count p≤1) →
  goBits ln names behind rest a = .ok (a + (rest.map fun p=>bitsL.getD (names.idxOf p) 0).sum)
 | [],a,_=>by simp [goBits]
 | p::r,a,h=>by
  obtain ⟨h1,h2⟩:=h p List.mem_cons_self
  unfold goBits
  rw [if_neg (by intro z;rcases z with z | z;exact z h1;omega),bits_go r _ fun q hq=>h q (List.mem_cons_of_mem _ hq),List.map_cons,List.sum_cons,Int.add_assoc]
theorem plain_bits {row nm:Str} {names ps:List Str} {b:Int} (hp:pieces row = nm::ps) (hb:(nm = "change"∧names = changesS∧b = 896)∨(nm = "test"∧names = testsS∧b = 960)) (h:∀ p∈ps,p∈names∧ps.count p≤1) :
  Plain row (b + (ps.map fun p=>bitsL.getD (names.idxOf p) 0).sum):=by
 intro n
 have k:¬ (cs nm)[(cs nm).length - 1]? = some 58∧¬ nm = "place"∧¬ nm = "word"∧¬ nm∈kindsS∧¬ nm = "ask":=by
  rcases hb with ⟨rfl,_⟩ | ⟨rfl,_⟩ <;> decide +kernel
 obtain ⟨k1,k2,k3,k4,k5⟩:=k
 have g:=bits_go (ln:=n) (names:=names) (behind:=ps) ps 0 h
 rw [Int.zero_add] at g
 refine ⟨⟨n,none,some nm,b + (ps.map fun p=>bitsL.getD (names.idxOf p) 0).sum,false,[]⟩,?_,rfl,rfl,by simp [makes,k2],by simp [k2],fun S=>?_⟩
 ·rw [readLine_of hp k1]
  unfold readDeed
  dsimp only
  rw [if_neg (by simp [k2,k3]),if_neg k4,if_neg k5]
  rcases hb with ⟨e1,e2,e3⟩ | ⟨e1,e2,e3⟩
  ·rw [if_pos e1]
   subst e2 e3
   have g':goBits (newLn n).num changesS ps ps 0 = .ok (ps.map fun p=>bitsL.getD (changesS.idxOf p) 0).sum:=g
   rw [g']
   rfl
  ·rw [if_neg (by rw [e1];decide +kernel),if_pos e1]
   subst e2 e3
   have g':goBits (newLn n).num testsS ps ps 0 = .ok (ps.map fun p=>bitsL.getD (testsS.idxOf p) 0).sum:=g
   rw [g']
   rfl
 ·unfold wordOf
  simp only [Bool.false_eq_true,if_false]
  rw [if_neg (show ¬ (some nm = some ("word" : Str)) from fun z=>k3 (Option.some.inj z)),bound_nil rfl (by decide)]
  simp
theorem plain_ask {row p:Str} (hp:pieces row = [("ask" : Str),p]) (h:p∈asksS):Plain row (768 + (asksS.idxOf p:Nat)):=by
 intro n
 have k:¬ (cs "ask")[(cs "ask").length - 1]? = some 58∧¬ ("ask" : Str) = "place"∧¬ ("ask" : Str) = "word"∧¬ ("ask" : Str)∈kindsS:=by decide +kernel
 obtain ⟨k1,k2,k3,k4⟩:=k
 refine ⟨⟨n,none,some ("ask" : Str),768 + (asksS.idxOf p:Nat),false,[]⟩,?_,rfl,rfl,by simp [makes,k2],by simp [k2],fun S=>?_⟩
 ·rw [readLine_of hp k1]
  unfold readDeed
  dsimp only
  rw [if_neg (by simp [k2,k3]),if_neg k4,if_pos rfl]
  unfold readAsk
  dsimp only
  rw [if_pos h]
  rfl
 ·unfold wordOf
  simp only [Bool.false_eq_true,if_false]
  rw [if_neg (show ¬ (some ("ask" : Str) = some ("word" : Str)) from fun z=>k3 (Option.some.inj z)),bound_nil rfl (by decide)]
  simp
end Sc
namespace Sc
open PySem L2 Tx Ls
end Sc
namespace Sc
open PySem L2 Tx Ls
end Sc
namespace Sc
open PySem L2 Tx Ls
inductive All2 {α β:Type} (P:α→β→Prop):List α→List β→Prop where
 | nil:All2 P [] []
 | cons {a b as bs}:P a b→All2 P as bs→All2 P (a::as) (b::bs)
theorem All2.append {α β:Type} {P:α→β→Prop}:∀ {a c:List α} {b d:List β},All2 P a b→All2 P c d→All2 P (a ++ c) (b ++ d)
 | _,_,_,_,.nil,h=>h
 | _,_,_,_,.cons p q,h=>.cons p (q.append h)
theorem All2.snoc {α β:Type} {P:α→β→Prop} {a:List α} {b:List β} {x:α} {y:β} (h:All2 P a b) (p:P x y):All2 P (a ++ [x]) (b ++ [y]):=h.append (.cons p .nil)
theorem nl_eq:("\n":Str) = ⟨#[10]⟩:=by decide +kernel
theorem split_rows {rows:List Str} (hn:rows≠[]) (h:∀ r∈rows,10∉cs r):Txt.split (Str.join "\n" rows) "\n" = rows:=by
 apply map_cs_inj
 rw [nl_eq,tsplit,cs_join]
 refine split_join ?_ fun t ht=>?_
 ·intro z;exact hn (List.map_eq_nil_iff.mp z)
 ·obtain ⟨q,hq,rfl⟩:=List.mem_map.mp ht
  exact h q hq
theorem lookup_snoc {m:List (Int×Int)} {k v i:Int} (h:m.lookup k = none):(m ++ [(k,v)]).lookup i = if i = k then some v else m.lookup i:=by
 induction m with
 | nil =>
  rw [List.nil_append,List.lookup_cons]
  by_cases e:i = k
  ·rw [if_pos e,show (i == k) = true by simp [e]]
  ·rw [if_neg e,show (i == k) = false by simp [e]]
 | cons a r ih =>
  obtain ⟨x,y⟩:=a
  have hk:¬ (k == x) = true:=fun z=>by rw [List.lookup_cons,z] at h;cases h
  have hr:r.lookup k = none:=by rw [List.lookup_cons] at h;simpa [hk] using h
  show List.lookup i ((x,y)::(r ++ [(k,v)])) = _
  rw [List.lookup_cons,List.lookup_cons]
  by_cases e:(i == x) = true
  ·rw [e]
   have ne:¬ i = k:=fun z=>hk (by rw [← z];exact e)
   rw [if_neg ne]
  ·rw [Bool.not_eq_true] at e
   rw [e]
   exact ih hr
end Sc
namespace Sc
open PySem L2 Tx Ls
theorem split_flat (c:Nat):∀ ts:List (List Nat),ts≠[]→splitC c (joinC [c] ts) = ts.flatMap (splitC c)
 | [],h=>absurd rfl h
 | [a],_=>by simp [joinC]
 | a::b::r,_=>by
  show splitC c (a ++ [c] ++ joinC [c] (b::r)) = _
  rw [List.append_assoc]
  show splitC c (a ++ c::joinC [c] (b::r)) = _
  rw [split_cat,split_flat c (b::r) (List.cons_ne_nil _ _)]
  rfl
structure NumP (v:Str) (k:Nat):Prop where
 free:32∉cs v∧43∉cs v∧45∉cs v
 term:isTerm v = true
 ne:cs v≠[]
 figs:∀ c∈cs v,isFig c = true
 val:figVal (cs v) = k
 tk:Tk v
theorem numP_num {k:Nat} (h:k < 10000):NumP (numS (k:Int)) k:=⟨⟨num_free (by omega),num_free (by omega),num_free (by omega)⟩,term_num h,num_ne k,fun c hc=>(figs_of k c hc).1,figVal_num k,tk_num k⟩
end Sc
namespace Sc
open PySem L2 Tx Ls
end Sc
namespace Lt
open PySem L2 Tx Lw
section
variable {K:PySem.W.Frag} {mg:Str→Option Value} {H:Hp} {Q:VK} {E:XK} {a:Addr} {ns:List Int}
theorem c_cell {i:Int} (hS:SqL K H a (ns.map V.int)) (h0:0≤i) (q:Q (.int (ns.getD i.toNat 0)) H):sp_cell K ([.ref a,.int i] ++ []) H Q E:=⟨a,i.toNat,ns,by rw [Int.toNat_of_nonneg h0];rfl,hS,q⟩
theorem c_mix {x y n:Int} (hp:0 < y) (hn:0 < n) (q:Q (.int (x * 48271 % y % n)) H):sp_mix ([.int x,.int y,.int n] ++ []) H Q E:=⟨x,y,n,rfl,hp,hn,q⟩
end
end Lt
local macro_rules | `(tactic| wtm_at "l") => `(tactic| first | wtm_at "t" | ((with_reducible refine' Lt.c_cell ?h ?e ?_); (case h => assumption); (case e => decide)) | ((with_reducible refine' Lt.c_mix ?h ?e ?_); (case h => decide); (case e => decide)) )
local macro_rules | `(tactic| wtm_at "ll") => `(tactic| repeat wtm_at "l")
local macro_rules | `(tactic| wtm_at "x") => `(tactic| first | (with_reducible first | refine Sx.iS ?_ | refine Sx.iCt ?_ | refine Sx.repl ?_ | refine Sx.dget2 ?_) | wtm_at "t")
local macro_rules | `(tactic| wtm_at "xx") => `(tactic| repeat wtm_at "x")
namespace Sc
open PySem L2 Tx Ls
structure TxtX (K:PySem.W.Frag) (mg:Str→Option Value):Prop where
 DEEDS:TupG K mg "DEEDS" (kindsS.map V.str)
 ASKS:TupG K mg "ASKS" (asksS.map V.str)
 CHANGES:TupG K mg "CHANGES" (changesS.map V.str)
 TESTS:TupG K mg "TESTS" (testsS.map V.str)
 OTHER_WORDS:TupG K mg "OTHER_WORDS" (otherS.map V.str)
 BIT_ROW:TupG K mg "BIT_ROW" (bitsL.map V.int)
 SMALL_LETTERS:StrG mg "SMALL_LETTERS" letters
 FIGURES:StrG mg "FIGURES" figures
 MOST_SIGNS:IntG mg "MOST_SIGNS" 8
 MOST_FIGURES:IntG mg "MOST_FIGURES" 4
 ASK:IntG mg "ASK" 6
 BITS:IntG mg "BITS" 7
 len_:mg "len" = none
 all_:mg "all" = none
 enumerate_:mg "enumerate" = none
theorem in_strs (p:Str):∀ ts:List Str,inV (.str p) (ts.map V.str) = decide (p∈ts)
 | []=>rfl
 | t::ts=>by
  have ih:=in_strs p ts
  unfold inV at ih ⊢
  rw [List.map_cons,List.any_cons,ih]
  show ((t == p) || _) = _
  by_cases e:t = p
  ·subst e
   rw [decide_eq_true (List.mem_cons_self),beq_self_eq_true,Bool.true_or]
  ·rw [show (t == p) = false from beq_eq_false_iff_ne.mpr e,Bool.false_or]
   exact decide_eq_decide.mpr ⟨fun h=>List.mem_cons_of_mem _ h,fun h=>(List.mem_cons.mp h).resolve_left fun z=>e z.symm⟩
section
variable {K:PySem.W.Frag} {H:Hp} {Q:VK}
theorem xLen {z:Str} (h:z.length≤100000) (k:Q (.int z.length) H):rLenS [.str z] H Q:=⟨z,rfl,Nat.le_trans h sz,k⟩
theorem xIn {a:Addr} {p:Str} {ts:List Str} (h:TupK K a (ts.map V.str)) (k:Q (.bl (decide (p∈ts))) H):rIn K false (.str p) (.ref a) H Q :=
 ⟨a,_,rfl,.inr h.sq,rfl,flat_strs ts,by rw [in_strs];exact k⟩
theorem xNotIn {a:Addr} {p:Str} {ts:List Str} (h:TupK K a (ts.map V.str)) (k:Q (.bl (decide (p∉ts))) H):rIn K true (.str p) (.ref a) H Q :=
 ⟨a,_,rfl,.inr h.sq,rfl,flat_strs ts,by rw [in_strs];simpa using k⟩
theorem xSign {c:Nat} {j:Str} (k:Q (.bl (decide (c∈cs j))) H):rInS (.str ⟨#[c]⟩) (.str j) H Q:=⟨_,j,rfl,rfl,by rw [in_one];exact k⟩
theorem xAll {a:Addr} {bs:List Bool} (h:SqL K H a (bs.map V.bl)) (k:Q (.bl (bs.all id)) H):rAll K [.ref a] H Q:=⟨a,bs,rfl,h,k⟩
end
def sp_short:Sp:=fun vs H Q _=>∃ p:Str,vs = [.str p]∧p.length≤100000∧∀ H',Same H H'→Q (.bl (shortName p)) H'
def sp_told:Sp:=fun vs H Q _=>∃ p:Str,vs = [.str p]∧Q (.bl (toldWord p)) H
def sp_name:Sp:=fun vs H Q _=>∃ p:Str,vs = [.str p]∧p.length≤100000∧∀ H',Same H H'→Q (.bl (isName p)) H'
def sp_figs:Sp:=fun vs H Q _=>∃ p:Str,vs = [.str p]∧p.length≤100000∧∀ H',Same H H'→Q (.bl (isFigs p)) H'
def sp_term:Sp:=fun vs H Q _=>∃ p:Str,vs = [.str p]∧p.length≤100000∧∀ H',Same H H'→Q (.bl (isTerm p)) H'
section
variable {P:Program} {w:World} {K:PySem.W.Frag} {mg:Str→Option Value} {base:Heap}
theorem ok_figs (R:Raw K mg "is_figures" s_is_figures) (T:TxtX K mg):GF P w K mg base "is_figures" ["piece"] 1 sp_figs:=by
 refine GF.mk R sc_is_figures (by wtm_at "1") (fun vs H Q E h=>?_) (fun f cdv A outer s H vs Q E hr h=>?_)
 ·obtain ⟨p,rfl,_⟩:=h;rfl
 ·obtain ⟨p,rfl,hl,k⟩:=h
  refine ⟨_,(@pss_one _ _ _ (@ps_ret _ _ _ _ (@pe_and _ _ _ _ _ _ _ (@pe_chain _ _ _ _ _ _ _ _ _ _ _ _ op_le op_le pe_int (@pe_callBN _ _ _ _ _ _ _ _ _ call_lenS (by rfl) T.len_ bo_len (@pa_c _ _ _ _ _ (pv 0) pa_nil rfl) (by decide) (by decide) rfl) (@pe_gint _ _ _ _ rfl T.MOST_FIGURES (by decide)) (by with_unfolding_all rfl)) (@pe_one _ _ _ _ _ (@pe_callBN _ _ _ _ _ _ _ _ _ (call_allB (K:=K) rfl rfl) (by rfl) T.all_ bo_all (@pa_c _ _ _ _ _ (@pe_lcomp _ _ _ _ _ _ _ _ _ _ _ _ ([]) rfl (pi_str (pv 0)) ⟨rfl,rfl,by decide +kernel,by decide +kernel,rfl,by decide +kernel,trivial,rfl,trivial⟩ (fun _ _ _ _=>pts_nil) (fun _ _ _ _=>(@pe_cmpR _ _ _ _ _ _ _ _ op_inS (pv 0) (@pe_gstr _ _ _ _ rfl T.FIGURES (by decide)) (by with_unfolding_all rfl))) (fun _=>rfl)) pa_nil rfl) (by decide) (by decide) rfl))))),?_⟩
  wtm_at "xx"
  refine xLen hl ?_
  wtm_at "xx"
  have no:¬ (1≤p.length∧p.length≤4)→isFigs p = false:=fun z=>by
   unfold isFigs
   rw [show (decide (1≤p.length) && decide (p.length≤4)) = false from by simpa using z]
   rfl
  refine iteD (fun g=>?_) (fun g=>?_)
  ·wtm_at "xx"
   refine iteD (fun g2=>?_) (fun g2=>?_)
   ·wtm_at "xx"
    have hz:=sz
    refine ⟨p,rfl,lc_str (fun c=>.bl (isFig c)) (by have:p.cps.size = p.length:=rfl;omega) (fun c hc Q' q=>?_) (fun q n=>?_)⟩
    ·wtm_at "xx"
     exact xSign q
    ·wtm_at "xx"
     refine xAll (bs:=(cs p).map isFig) (SqL.of (by rw [upd_same,List.map_map];rfl)) ?_
     have e:isFigs p = ((cs p).map isFig).all id:=by
      unfold isFigs
      rw [show (decide (1≤p.length) && decide (p.length≤4)) = true from by simp;omega,List.all_map]
      rfl
     rw [← e]
     exact k _ (Same.newH n)
   ·rw [no (by omega)] at k
    exact k _ (Same.refl _)
  ·rw [no (by omega)] at k
   wtm_at "xx"
   exact k _ (Same.refl _)
theorem ok_told (R:Raw K mg "is_told_word" s_is_told_word) (T:TxtX K mg):GF P w K mg base "is_told_word" ["piece"] 1 sp_told:=by
 refine GF.mk R sc_is_told_word (by wtm_at "1") (fun vs H Q E h=>?_) (fun f cdv A outer s H vs Q E hr h=>?_)
 ·obtain ⟨p,rfl,_⟩:=h;rfl
 ·obtain ⟨p,rfl,k⟩:=h
  refine ⟨_,(@pss_one _ _ _ (@ps_ret _ _ _ _ (@pe_or _ _ _ _ _ _ _ (@pe_cmpR _ _ _ _ _ _ _ _ (op_in_seqK (K:=K) rfl) (pv 0) (pe_gtup (K:=K) rfl rfl T.DEEDS) (by with_unfolding_all rfl)) (@pe_or _ _ _ _ _ _ _ (@pe_cmpR _ _ _ _ _ _ _ _ (op_in_seqK (K:=K) rfl) (pv 0) (pe_gtup (K:=K) rfl rfl T.ASKS) (by with_unfolding_all rfl)) (@pe_or _ _ _ _ _ _ _ (@pe_cmpR _ _ _ _ _ _ _ _ (op_in_seqK (K:=K) rfl) (pv 0) (pe_gtup (K:=K) rfl rfl T.CHANGES) (by with_unfolding_all rfl)) (@pe_or _ _ _ _ _ _ _ (@pe_cmpR _ _ _ _ _ _ _ _ (op_in_seqK (K:=K) rfl) (pv 0) (pe_gtup (K:=K) rfl rfl T.TESTS) (by with_unfolding_all rfl)) (@pe_one _ _ _ _ _ (@pe_cmpR _ _ _ _ _ _ _ _ (op_in_seqK (K:=K) rfl) (pv 0) (pe_gtup (K:=K) rfl rfl T.OTHER_WORDS) (by with_unfolding_all rfl))))))))),?_⟩
  unfold toldWord at k
  wtm_at "xx"
  refine Sx.topT fun a ha=>xIn ha ?_
  wtm_at "xx"
  refine iteD (fun g=>?_) (fun g=>?_)
  ·rw [decide_eq_true g] at k
   exact k
  rw [decide_eq_false g] at k
  wtm_at "xx"
  refine Sx.topT fun a ha=>xIn ha ?_
  wtm_at "xx"
  refine iteD (fun g=>?_) (fun g=>?_)
  ·rw [decide_eq_true g] at k
   exact k
  rw [decide_eq_false g] at k
  wtm_at "xx"
  refine Sx.topT fun a ha=>xIn ha ?_
  wtm_at "xx"
  refine iteD (fun g=>?_) (fun g=>?_)
  ·rw [decide_eq_true g] at k
   exact k
  rw [decide_eq_false g] at k
  wtm_at "xx"
  refine Sx.topT fun a ha=>xIn ha ?_
  wtm_at "xx"
  refine iteD (fun g=>?_) (fun g=>?_)
  ·rw [decide_eq_true g] at k
   exact k
  rw [decide_eq_false g] at k
  wtm_at "xx"
  refine Sx.topT fun a ha=>xIn ha ?_
  exact k
theorem ok_short (R:Raw K mg "is_short_name" s_is_short_name) (T:TxtX K mg):GF P w K mg base "is_short_name" ["piece"] 1 sp_short:=by
 refine GF.mk R sc_is_short_name (by wtm_at "1") (fun vs H Q E h=>?_) (fun f cdv A outer s H vs Q E hr h=>?_)
 ·obtain ⟨p,rfl,_⟩:=h;rfl
 ·obtain ⟨p,rfl,hl,k⟩:=h
  refine ⟨_,(@pss_cons _ _ _ _ _ (@ps_if _ _ _ _ _ _ _ _ (@pt_not _ _ _ _ (@pt_chain _ _ _ _ _ _ _ _ _ _ _ _ op_le op_le pe_int (@pe_callBN _ _ _ _ _ _ _ _ _ call_lenS (by rfl) T.len_ bo_len (@pa_c _ _ _ _ _ (pv 0) pa_nil rfl) (by decide) (by decide) rfl) (@pe_gint _ _ _ _ rfl T.MOST_SIGNS (by decide)) (by with_unfolding_all rfl))) (@pss_one _ _ _ (@ps_ret _ _ _ _ pe_bl)) pss_nil) (@pss_one _ _ _ (@ps_ret _ _ _ _ (@pe_and _ _ _ _ _ _ _ (@pe_cmpR _ _ _ _ _ _ _ _ op_inS (@pe_ix _ _ _ _ _ _ _ ix_str (pv 0) pe_int (fun _ _=>rfl)) (@pe_gstr _ _ _ _ rfl T.SMALL_LETTERS (by decide)) (by with_unfolding_all rfl)) (@pe_one _ _ _ _ _ (@pe_callBN _ _ _ _ _ _ _ _ _ (call_allB (K:=K) rfl rfl) (by rfl) T.all_ bo_all (@pa_c _ _ _ _ _ (@pe_lcomp _ _ _ _ _ _ _ _ _ _ _ _ ([]) rfl (pi_str (pv 0)) ⟨rfl,rfl,by decide +kernel,by decide +kernel,rfl,by decide +kernel,trivial,rfl,trivial⟩ (fun _ _ _ _=>pts_nil) (fun _ _ _ _=>(@pe_or _ _ _ _ _ _ _ (@pe_cmpR _ _ _ _ _ _ _ _ op_inS (pv 0) (@pe_gstr _ _ _ _ rfl T.SMALL_LETTERS (by decide)) (by with_unfolding_all rfl)) (@pe_one _ _ _ _ _ (@pe_cmpR _ _ _ _ _ _ _ _ op_inS (pv 0) (@pe_gstr _ _ _ _ rfl T.FIGURES (by decide)) (by with_unfolding_all rfl))))) (fun _=>rfl)) pa_nil rfl) (by decide) (by decide) rfl)))))),?_⟩
  have no:¬ (1≤p.length∧p.length≤8)→shortName p = false:=fun z=>by
   unfold shortName
   rw [show (decide (1≤p.length) && decide (p.length≤8)) = false from by simpa using z]
   rfl
  wtm_at "xx"
  refine xLen hl ?_
  wtm_at "xx"
  refine iteD (fun g=>?_) (fun g=>?_)
  ·wtm_at "xx"
   refine iteN (fun g2=>?_) (fun g2=>?_)
   ·rw [no (by omega)] at k
    wtm_at "xx"
    exact k _ (Same.refl _)
   ·wtm_at "xx"
    have hz:=sz
    have hsz:p.cps.size = p.length:=rfl
    obtain ⟨c,r,e⟩:∃ c r,cs p = c::r:=by
     cases e:cs p with
     | nil =>
      have:=cs_len p
      rw [e] at this
      have:p.length = 0:=this.symm
      omega
     | cons c r=>exact ⟨c,r,rfl⟩
    refine ⟨p,0,c,rfl,rfl,by omega,by show atI (cs p) ((0:Nat):Int) = _;rw [e];exact atI_nat rfl,?_⟩
    wtm_at "xx"
    refine xSign ?_
    wtm_at "xx"
    have e0:shortName p = (isLet c && (cs p).all fun c=>isLet c || isFig c):=by
     unfold shortName
     rw [show (decide (1≤p.length) && decide (p.length≤8)) = true from by simp;omega,e]
     rfl
    refine iteD (fun g3=>?_) (fun g3=>?_)
    ·wtm_at "xx"
     refine ⟨p,rfl,lc_str (fun c=>.bl (isLet c || isFig c)) (by omega) (fun c hc Q' q=>?_) (fun q n=>?_)⟩
     ·wtm_at "xx"
      refine xSign ?_
      wtm_at "xx"
      refine iteD (fun h=>?_) (fun h=>?_)
      ·rw [show isLet c = true from decide_eq_true h] at q
       exact q
      ·rw [show isLet c = false from decide_eq_false h] at q
       wtm_at "xx"
       exact xSign q
     ·wtm_at "xx"
      refine xAll (bs:=(cs p).map fun c=>isLet c || isFig c) (SqL.of (by rw [upd_same,List.map_map];rfl)) ?_
      rw [show isLet c = true from decide_eq_true g3,Bool.true_and] at e0
      rw [e0] at k
      rw [List.all_map]
      exact k _ (Same.newH n)
    ·rw [show isLet c = false from decide_eq_false g3,Bool.false_and] at e0
     rw [e0] at k
     exact k _ (Same.refl _)
  ·rw [no (by omega)] at k
   wtm_at "xx"
   exact k _ (Same.refl _)
theorem ok_name (R:Raw K mg "is_name" s_is_name) (G_is_short_name:GF P w K mg base "is_short_name" ["piece"] 1 sp_short) (G_is_told_word:GF P w K mg base "is_told_word" ["piece"] 1 sp_told):GF P w K mg base "is_name" ["piece"] 2 sp_name:=by
 refine GF.mk R sc_is_name (by wtm_at "1") (fun vs H Q E h=>?_) (fun f cdv A outer s H vs Q E hr h=>?_)
 ·obtain ⟨p,rfl,_⟩:=h;rfl
 ·obtain ⟨p,rfl,hl,k⟩:=h
  unfold isName at k
  refine ⟨_,(@pss_one _ _ _ (@ps_ret _ _ _ _ (@pe_and _ _ _ _ _ _ _ (@pe_gcallN _ _ _ _ _ _ _ _ _ _ G_is_short_name (hr.mono (by decide)) rfl (@pa_c _ _ _ _ _ (pv 0) pa_nil rfl) (by decide) rfl) (@pe_one _ _ _ _ _ (@pe_not _ _ _ _ (@pe_gcallN _ _ _ _ _ _ _ _ _ _ G_is_told_word (hr.mono (by decide)) rfl (@pa_c _ _ _ _ _ (pv 0) pa_nil rfl) (by decide) rfl)))))),?_⟩
  wtm_at "xx"
  refine ⟨p,rfl,hl,fun H1 s1=>?_⟩
  wtm_at "xx"
  refine iteB (fun g=>?_) (fun g=>?_)
  ·wtm_at "xx"
   refine ⟨p,rfl,?_⟩
   wtm_at "xx"
   rw [g,Bool.true_and] at k
   exact k _ s1
  ·rw [g,Bool.false_and] at k
   exact k _ s1
theorem ok_term (R:Raw K mg "is_term" s_is_term) (G_is_name:GF P w K mg base "is_name" ["piece"] 2 sp_name) (G_is_figures:GF P w K mg base "is_figures" ["piece"] 1 sp_figs):GF P w K mg base "is_term" ["piece"] 3 sp_term:=by
 refine GF.mk R sc_is_term (by wtm_at "1") (fun vs H Q E h=>?_) (fun f cdv A outer s H vs Q E hr h=>?_)
 ·obtain ⟨p,rfl,_⟩:=h;rfl
 ·obtain ⟨p,rfl,hl,k⟩:=h
  unfold isTerm at k
  refine ⟨_,(@pss_one _ _ _ (@ps_ret _ _ _ _ (@pe_or _ _ _ _ _ _ _ (@pe_cmpR _ _ _ _ _ _ _ _ op_eq (pv 0) pe_str (nomark _)) (@pe_or _ _ _ _ _ _ _ (@pe_gcallN _ _ _ _ _ _ _ _ _ _ G_is_name (hr.mono (by decide)) rfl (@pa_c _ _ _ _ _ (pv 0) pa_nil rfl) (by decide) rfl) (@pe_one _ _ _ _ _ (@pe_gcallN _ _ _ _ _ _ _ _ _ _ G_is_figures (hr.mono (by decide)) rfl (@pa_c _ _ _ _ _ (pv 0) pa_nil rfl) (by decide) rfl)))))),?_⟩
  wtm_at "xx"
  refine iteD (fun g=>?_) (fun g=>?_)
  ·rw [decide_eq_true g,Bool.true_or] at k
   exact k _ (Same.refl _)
  ·rw [decide_eq_false g,Bool.false_or] at k
   wtm_at "xx"
   refine ⟨p,rfl,hl,fun H1 s1=>?_⟩
   wtm_at "xx"
   refine iteB (fun g=>?_) (fun g=>?_)
   ·rw [g,Bool.true_or] at k
    exact k _ s1
   ·rw [g,Bool.false_or] at k
    wtm_at "xx"
    exact ⟨p,rfl,hl,fun H2 s2=>k _ (s1.trans s2)⟩
end
end Sc
namespace Sc
open PySem L2 Tx Ls
def FrX (H H':Hp) (A:List Addr):Prop:=(∀ b o,H b = some o→b∉A→H' b = some o)∧∀ b xs,H b = some (.tup xs)→H' b = some (.tup xs)
section
variable {H H1 H2:Hp} {A:List Addr} {b:Addr} {o:HO}
theorem FrX.same (s:Same H H1):FrX H H1 A:=⟨fun b o e _=>s b o e,fun b xs e=>s _ _ e⟩
theorem FrX.refl:FrX H H A:=.same (Same.refl _)
theorem FrX.trans (h:FrX H H1 A) (k:FrX H1 H2 A):FrX H H2 A:=⟨fun b o e n=>k.1 b o (h.1 b o e n) n,fun b xs e=>k.2 _ _ (h.2 _ _ e)⟩
theorem FrX.new (n:H b = none):FrX H (upd H b o) A:=.same (Same.newH n)
theorem FrX.at_ (hb:b∈A) (ht:∀ xs,H b≠some (.tup xs)):FrX H (upd H b o) A:=⟨fun c u e n=>by rw [upd_ne fun z=>n (by rw [z];exact hb)];exact e,fun c xs e=>by rw [upd_ne fun z=>ht xs (by rw [← z];exact e)];exact e⟩
theorem FrX.more {B:List Addr} (h:FrX H H1 A) (s:∀ x∈A,x∈B):FrX H H1 B:=⟨fun b o e n=>h.1 b o e fun z=>n (s b z),h.2⟩
theorem FrX.fresh (h:FrX H H1 A) (hA:∀ x∈A,H x = none):Same H H1:=fun b o e=>h.1 b o e fun z=>by rw [hA b z] at e;cases e
end
theorem xPut {K:PySem.W.Frag} {H:Hp} {C p dx:Addr} {fs:List (Str×V)} {f:Str} {y:V} {R:Hp→Prop} (h:H p = some (.ins C dx fs)) (c:Cls K C) (n:NoAttr K C f) (hl:fs.length < 1000)
  (k:∀ H',H' p = some (.ins C dx (putF f y fs))→(∀ b,b≠p→H' b = H b)→FrX H H' [p]→R H'):∃ a C dx fs,V.ref p = .ref a∧H a = some (.ins C dx fs)∧Cls K C∧NoAttr K C f∧fs.length < 1000∧R (upd H a (.ins C dx (putF f y fs))) :=
 ⟨p,C,dx,fs,rfl,h,c,n,hl,k _ upd_same (fun b hb=>upd_ne hb) (.at_ List.mem_cons_self fun xs z=>by rw [h] at z;cases z)⟩
structure LAd where
 a:Addr
 dx:Addr
 l:Addr
def vO:Option Str→V
 | none=>.non
 | some s=>.str s
def fldsL (A:LAd) (L:Ln):List (Str×V):=[("number",.int L.num),("label",vO L.label),("name",vO L.name),("base",.int L.base),("pooled",.bl L.pooled),("terms",.ref A.l)]
theorem len_fldsL (A:LAd) (L:Ln):(fldsL A L).length < 1000:=by show 6 < 1000;decide
theorem lk_label (A:LAd) (L:Ln):(fldsL A L).lookup ("label" : Str) = some (vO L.label):=by
 unfold fldsL;wtm_at "l"
theorem lk_name (A:LAd) (L:Ln):(fldsL A L).lookup ("name" : Str) = some (vO L.name):=by
 unfold fldsL;wtm_at "l"
theorem lk_base (A:LAd) (L:Ln):(fldsL A L).lookup ("base" : Str) = some (.int L.base):=by
 unfold fldsL;wtm_at "l"
theorem lk_pooled (A:LAd) (L:Ln):(fldsL A L).lookup ("pooled" : Str) = some (.bl L.pooled):=by
 unfold fldsL;wtm_at "l"
theorem lk_terms (A:LAd) (L:Ln):(fldsL A L).lookup ("terms" : Str) = some (.ref A.l):=by
 unfold fldsL;wtm_at "l"
theorem pf_label (A:LAd) (L:Ln) (x:Str):putF "label" (.str x) (fldsL A L) = fldsL A { L with label:=some x }:=by
 unfold fldsL;wtm_at "p";rfl
theorem pf_name (A:LAd) (L:Ln) (x:Str):putF "name" (.str x) (fldsL A L) = fldsL A { L with name:=some x }:=by
 unfold fldsL;wtm_at "p";rfl
theorem pf_base (A:LAd) (L:Ln) (x:Int):putF "base" (.int x) (fldsL A L) = fldsL A { L with base:=x }:=by
 unfold fldsL;wtm_at "p"
theorem pf_pooled (A:LAd) (L:Ln) (x:Bool):putF "pooled" (.bl x) (fldsL A L) = fldsL A { L with pooled:=x }:=by
 unfold fldsL;wtm_at "p"
def TermsAt (H:Hp) (l:Addr) (ts:List (Int×Str)):Prop:=∃ rs:List Addr,H l = some (.lst (rs.map V.ref))∧rs.length = ts.length∧∀ (i:Nat) (r:Addr) (p:Int×Str),rs[i]? = some r→ts[i]? = some p→H r = some (.tup [.int p.1,.str p.2])
structure LnAt (CL:Addr) (H:Hp) (A:LAd) (L:Ln):Prop where
 o:H A.a = some (.ins CL A.dx (fldsL A L))
 t:TermsAt H A.l L.terms
structure TxtN (K:PySem.W.Frag) (mg:Str→Option Value) (CL:Addr):Prop extends TxtX K mg where
 clL:Cls K CL
 n_number:NoAttr K CL "number"
 n_label:NoAttr K CL "label"
 n_name:NoAttr K CL "name"
 n_base:NoAttr K CL "base"
 n_pooled:NoAttr K CL "pooled"
 n_terms:NoAttr K CL "terms"
section
variable {CL:Addr} {H H':Hp} {A:LAd} {L L':Ln}
theorem LnAt.ne (h:LnAt CL H A L):A.a≠A.l:=fun z=>by
 obtain ⟨rs,e,_⟩:=h.t
 have o:=h.o
 rw [z,e] at o
 cases o
theorem TermsAt.mv {l:Addr} {ts:List (Int×Str)} (h:TermsAt H l ts) (hl:∀ o,H l = some o→H' l = some o) (ht:∀ b xs,H b = some (.tup xs)→H' b = some (.tup xs)):TermsAt H' l ts:=by
 obtain ⟨rs,e,n,k⟩:=h
 exact ⟨rs,hl _ e,n,fun i r p h1 h2=>ht _ _ (k i r p h1 h2)⟩
theorem LnAt.fr {B:List Addr} (h:LnAt CL H A L) (f:FrX H H' B) (h1:A.a∉B) (h2:A.l∉B):LnAt CL H' A L:=⟨f.1 _ _ h.o h1,h.t.mv (fun o e=>f.1 _ _ e h2) f.2⟩
theorem LnAt.keep (h:LnAt CL H A L) (s:Same H H'):LnAt CL H' A L:=⟨s _ _ h.o,h.t.mv (fun o e=>s _ _ e) fun b xs e=>s _ _ e⟩
end
section
variable {P:Program} {w:World} {K:PySem.W.Frag} {mg:Str→Option Value} {base:Heap} {CL:Addr}
def sp_initL (CL:Addr):Sp:=fun vs H Q _=>∃ (p dx:Addr) (n:Int),vs = [.ref p,.int n]∧H p = some (.ins CL dx [])∧∀ l H',H l = none→LnAt CL H' ⟨p,dx,l⟩ (newLn n)→FrX H H' [p]→Q .non H'
theorem ok_initL {q:Str} (R:RawC K mg "Line" q CL s_Line_init) (T:TxtN K mg CL):GC P w K mg base "Line" CL ["self","number"] 1 (sp_initL CL):=by
 refine GC.mk R sc_Line_init (by wtm_at "2") (fun vs H Q E h=>?_) (fun f cdv A outer s H vs Q E hr h=>?_)
 ·obtain ⟨p,dx,n,rfl,_⟩:=h;rfl
 ·obtain ⟨p,dx,n,rfl,hp,k⟩:=h
  refine ⟨_,(@pss_cons _ _ _ _ _ (@ps_fldK _ (K) _ _ _ _ _ _ _ rfl (pv 0) (pv 1) rfl) (@pss_cons _ _ _ _ _ (@ps_fldK _ (K) _ _ _ _ _ _ _ rfl (pv 0) pe_non rfl) (@pss_cons _ _ _ _ _ (@ps_fldK _ (K) _ _ _ _ _ _ _ rfl (pv 0) pe_non rfl) (@pss_cons _ _ _ _ _ (@ps_fldK _ (K) _ _ _ _ _ _ _ rfl (pv 0) pe_int rfl) (@pss_cons _ _ _ _ _ (@ps_fldK _ (K) _ _ _ _ _ _ _ rfl (pv 0) pe_bl rfl) (@pss_one _ _ _ (@ps_fldK _ (K) _ _ _ _ _ _ _ rfl (pv 0) (@pe_lst _ _ _ _ pa_nil) rfl))))))),?_⟩
  wtm_at "xx"
  refine xPut hp T.clL T.n_number (by show 0 < 1000;decide) fun H1 h1 o1 f1=>?_
  wtm_at "xx"
  refine xPut h1 T.clL T.n_label (by show 1 < 1000;decide) fun H2 h2 o2 f2=>?_
  rw [putF_add (by simp only [putF,List.map_cons,List.map_nil];decide +kernel)] at h2
  wtm_at "xx"
  refine xPut h2 T.clL T.n_name (by show 2 < 1000;decide) fun H3 h3 o3 f3=>?_
  rw [putF_add (by simp only [putF,List.map_append,List.map_cons,List.map_nil];decide +kernel)] at h3
  wtm_at "xx"
  refine xPut h3 T.clL T.n_base (by show 3 < 1000;decide) fun H4 h4 o4 f4=>?_
  rw [putF_add (by simp only [putF,List.map_append,List.map_cons,List.map_nil];decide +kernel)] at h4
  wtm_at "xx"
  refine xPut h4 T.clL T.n_pooled (by show 4 < 1000;decide) fun H5 h5 o5 f5=>?_
  rw [putF_add (by simp only [putF,List.map_append,List.map_cons,List.map_nil];decide +kernel)] at h5
  wtm_at "xx"
  refine ⟨by decide,fun l nl=>?_⟩
  wtm_at "xx"
  have npl:p≠l:=ne_of_none h5 nl
  refine xPut (by rw [upd_ne npl];exact h5) T.clL T.n_terms (by show 5 < 1000;decide) fun H6 h6 o6 f6=>?_
  rw [putF_add (by simp only [putF,List.map_append,List.map_cons,List.map_nil];decide +kernel)] at h6
  have hl:H l = none:=by rw [← o1 l npl.symm,← o2 l npl.symm,← o3 l npl.symm,← o4 l npl.symm,← o5 l npl.symm];exact nl
  refine k l H6 hl ⟨h6,[],?_,rfl,fun i r q e _=>by cases e⟩ ((f1.trans (f2.trans (f3.trans (f4.trans (f5.trans (FrX.new nl)))))).trans f6)
  rw [o6 l npl.symm,upd_same]
  rfl
def sp_pieces:Sp:=fun vs H Q _=>∃ row:Str,vs = [.str row]∧row.length≤2000∧∀ l H',H l = none→H' l = some (.lst ((pieces row).map V.str))→Same H H'→Q (.ref l) H'
def sp_ask (K:PySem.W.Frag) (CL:Addr):Sp:=fun vs H Q _=>∃ (A:LAd) (L:Ln) (b:Addr) (ts:List Str) (p:Int),vs = [.ref A.a,.ref b]∧LnAt CL H A L∧SqL K H b (ts.map V.str)∧readAsk L ts = .ok p∧Q (.int p) H
def sp_bits (K:PySem.W.Frag) (CL:Addr):Sp:=fun vs H Q _=>∃ (A:LAd) (L:Ln) (b c:Addr) (ts ns:List Str) (p:Int),vs = [.ref A.a,.ref b,.ref c]∧LnAt CL H A L∧H b = some (.lst (ts.map V.str))∧TupK K c (ns.map V.str)∧ns.length = 6∧goBits L.num ns ts ts 0 = .ok p∧Q (.int p) H
def sp_value (K:PySem.W.Frag) (CL:Addr):Sp:=fun vs H Q _=>∃ (A:LAd) (L L':Ln) (b:Addr) (ts:List Str),vs = [.ref A.a,.ref b]∧LnAt CL H A L∧SqL K H b (ts.map V.str)∧(∀ t∈ts,t.length≤2000)∧L.terms.length≤2000∧readValue L ts = .ok L'∧∀ H',LnAt CL H' A L'→FrX H H' [A.a,A.l]→Q .non H'
theorem tyT {K:PySem.W.Frag} {H:Hp} {a:Addr} {xs:List V} (h:TupK K a xs):tyV K "tuple" (.ref a) H:=by
 obtain ⟨o,its,n,h1,h2,h3,_⟩:=h
 exact .inr (.inl ⟨rfl,o,h1,h2,h3⟩)
theorem at0 {α:Type} {x:α} {xs:List α}:atI (x::xs) 0 = some x:=by
 show atI (x::xs) ((0:Nat):Int) = _
 exact atI_nat rfl
def pNE:V→Bool
 | .str z=>!decide (z = "")
 | _=>true
theorem filt:∀ ts:List Str,((ts.map V.str).filter pNE).map id = (ts.filter fun (p:Str)=>!decide (p = "")).map V.str
 | []=>rfl
 | t::ts=>by
  have ih:=filt ts
  rw [List.map_cons,List.filter_cons,List.filter_cons]
  show (if (!decide (t = "")) = true then _ else _:List V).map id = _
  split
  ·rw [List.map_cons,List.map_cons,ih];rfl
  ·exact ih
theorem part_len (x:Str) (c:Nat):(partS x c).length≤x.length:=by
 rw [← cs_len,← cs_len,cs_part]
 exact (List.takeWhile_sublist _).length_le
theorem ok_pieces (R:Raw K mg "pieces_of" s_pieces_of):GF P w K mg base "pieces_of" ["row"] 1 sp_pieces:=by
 refine GF.mk R sc_pieces_of (by wtm_at "1") (fun vs H Q E h=>?_) (fun f cdv A outer s H vs Q E hr h=>?_)
 ·obtain ⟨p,rfl,_⟩:=h;rfl
 ·obtain ⟨row,rfl,hl,k⟩:=h
  refine ⟨_,(@pss_cons _ _ _ _ _ (@ps_set _ _ (1) _ _ _ _ sc_pieces_of.nd rfl (Or.inl rfl) (@pe_ix _ _ _ _ _ _ _ (ix_tupK (K:=K) rfl) (pe_bm PySem.F.plainAttrs_str PySem.F.slot_str_partition PySem.F.type_str_partition mt_part (pv 0) (@pa_c _ _ _ _ _ pe_str pa_nil rfl)) pe_int (fun _ _=>rfl)) rfl (by first | exact .inl rfl | exact .inr rfl | assumption)) (@pss_one _ _ _ (@ps_ret _ _ _ _ (@pe_lcomp _ _ _ _ _ _ _ _ _ _ _ _ ([]) rfl (@pi_listK _ (K) _ _ _ rfl (pe_bm PySem.F.plainAttrs_str PySem.F.slot_str_split PySem.F.type_str_split mt_split (pv 1) (@pa_c _ _ _ _ _ pe_str pa_nil rfl))) ⟨rfl,rfl,by decide +kernel,by decide +kernel,rfl,by decide +kernel,trivial,rfl,trivial⟩ (fun _ _ _ _=>(@pts_one _ _ _ (@pt_cmpR _ _ _ _ _ _ _ _ op_ne (pv 0) pe_str (nomark _)))) (fun _ _ _ _=>(pv 0)) (fun _=>rfl))))),?_⟩
  wtm_at "xx"
  refine ⟨row,";",rfl,rfl,by decide +kernel,by omega,fun l1 a b H1 n1 h1 s1=>?_⟩
  have e1:headS row ";" = partS row 59:=by rw [show (";" : Str) = ⟨#[59]⟩ from by decide +kernel];rfl
  have hp:=part_len row 59
  rw [e1] at h1
  wtm_at "xx"
  refine Sx.ixT h1 at0 ?_
  wtm_at "xx"
  refine ⟨_," ",rfl,rfl,by decide +kernel,by omega,fun l2 H2 n2 h2 s2=>?_⟩
  have hl2:=split_len (partS row 59) " "
  have hz:=sz
  refine ⟨l2,rfl,⟨_,SqL.of h2⟩,lc_list pNE id (SqL.of h2) (by rw [List.length_map];omega) (fun x hx Q' q=>?_) (fun x hx _ Q' q=>?_) (fun q n=>?_)⟩
  ·obtain ⟨z,_,rfl⟩:=List.mem_map.mp hx
   wtm_at "xx"
   exact q
  ·wtm_at "xx"
   exact q
  ·rw [filt]
   exact k q _ (s1.free (s2.free n)) upd_same (s1.trans (s2.trans (Same.newH n)))
theorem ask_ok {L:Ln} {ts:List Str} {p:Int} (e:readAsk L ts = .ok p):∃ t,ts = [t]∧t∈asksS∧p = (asksS.idxOf t:Nat):=by
 unfold readAsk at e
 split at e
 ·split at e
  ·rename_i t h
   cases e
   exact ⟨t,rfl,h,rfl⟩
  ·cases e
 ·cases e
theorem ok_ask (R:Raw K mg "read_ask" s_read_ask) (T:TxtN K mg CL):GF P w K mg base "read_ask" ["line","behind"] 1 (sp_ask K CL):=by
 refine GF.mk R sc_read_ask (by wtm_at "2") (fun vs H Q E h=>?_) (fun f cdv A outer s H vs Q E hr h=>?_)
 ·obtain ⟨A,L,b,ts,p,rfl,_⟩:=h;rfl
 ·obtain ⟨A,L,b,ts,p,rfl,hA,hb,e,k⟩:=h
  obtain ⟨t,rfl,ht,rfl⟩:=ask_ok e
  refine ⟨_,(@pss_cons _ _ _ _ _ (@ps_if _ _ _ _ _ _ _ _ (@PW.pt _ _ _ (@pw_or _ _ _ _ _ _ _ (@pt_cmpR _ _ _ _ _ _ _ _ op_ne (@pe_callBN _ _ _ _ _ _ _ _ _ (call_len_seqN (K:=K) rfl) (by rfl) T.len_ bo_len (@pa_c _ _ _ _ _ (pv 1) pa_nil rfl) (by decide) (by decide) rfl) pe_int (nomark _)) (@pw_or1 _ _ _ _ (@pt_cmpR _ _ _ _ _ _ _ _ (op_notIn_seqK (K:=K) rfl) (@pe_ix _ _ _ _ _ _ _ (ix_listK (K:=K) rfl) (pv 1) pe_int (fun _ _=>rfl)) (pe_gtup (K:=K) rfl rfl T.ASKS) (by with_unfolding_all rfl))))) (@pss_one _ _ _ ps_never) pss_nil) (@pss_one _ _ _ (@ps_ret _ _ _ _ (pe_bm PySem.F.plainAttrs_tuple PySem.F.slot_tuple_index PySem.F.type_tuple_index (mt_tidx (K:=K) rfl) (pe_gtup (K:=K) rfl rfl T.ASKS) (@pa_c _ _ _ _ _ (@pe_ix _ _ _ _ _ _ _ (ix_listK (K:=K) rfl) (pv 1) pe_int (fun _ _=>rfl)) pa_nil rfl))))),?_⟩
  wtm_at "xx"
  refine ⟨b,_,rfl,.inl hb,?_⟩
  wtm_at "xx"
  refine Sx.ixS hb at0 ?_
  wtm_at "xx"
  refine Sx.topT fun a ha=>xNotIn ha ?_
  wtm_at "xx"
  refine iteD (fun g=>absurd ht g) (fun _=>?_)
  wtm_at "xx"
  refine Sx.topT fun a ha=>⟨tyT ha,?_⟩
  wtm_at "xx"
  refine Sx.ixS hb at0 ?_
  wtm_at "xx"
  exact ⟨a,asksS,t,rfl,rfl,ha,ht,k⟩
theorem bits_ok {n:Int} {ns ts:List Str}:∀ (r:List Str) (a p:Int),goBits n ns ts r a = .ok p→(∀ t∈r,t∈ns∧ts.count t≤1)∧p = a + (r.map fun t=>bitsL.getD (ns.idxOf t) 0).sum:=by
 intro r
 induction r with
 | nil =>
  intro a p e
  cases e
  exact ⟨fun t h=>(by cases h),by simp⟩
 | cons t r ih =>
  intro a p e
  unfold goBits at e
  split at e
  ·cases e
  ·rename_i g
   obtain ⟨h1,h2⟩:=ih _ _ e
   have g':t∈ns∧ts.count t≤1:=⟨Classical.not_not.mp fun z=>g (.inl z),Nat.le_of_not_lt fun z=>g (.inr z)⟩
   refine ⟨fun u hu=>(List.mem_cons.mp hu).elim (fun z=>by rw [z];exact g') (h1 u),?_⟩
   rw [h2,List.map_cons,List.sum_cons]
   omega
theorem ok_bits (R:Raw K mg "read_bits" s_read_bits) (T:TxtN K mg CL):GF P w K mg base "read_bits" ["line","behind","names"] 1 (sp_bits K CL):=by
 refine GF.mk R sc_read_bits (by wtm_at "3") (fun vs H Q E h=>?_) (fun f cdv A outer s H vs Q E hr h=>?_)
 ·obtain ⟨A,L,b,c,ts,ns,p,rfl,_⟩:=h;rfl
 ·obtain ⟨A,L,b,c,ts,ns,p,rfl,hA,hb,hc,hn,e,k⟩:=h
  obtain ⟨h1,rfl⟩:=bits_ok _ _ _ e
  refine ⟨_,(@pss_cons _ _ _ _ _ (@ps_set _ _ (3) _ _ _ _ sc_read_bits.nd rfl (Or.inl rfl) pe_int rfl (by first | exact .inl rfl | exact .inr rfl | assumption)) (@pss_cons _ _ _ _ _ (@ps_for _ _ _ _ _ _ _ _ PassesOwn.never rfl (@pi_listK _ (K) _ _ _ rfl (pv 1)) (@pg_name _ _ (4) _ sc_read_bits.nd rfl (Or.inl rfl) (by first | exact .inl rfl | exact .inr rfl | assumption)) (@pss_cons _ _ _ _ _ (@ps_if _ _ _ _ _ _ _ _ (@PW.pt _ _ _ (@pw_or _ _ _ _ _ _ _ (@pt_cmpR _ _ _ _ _ _ _ _ (op_notIn_seqK (K:=K) rfl) (pv 4) (pv 2) (by with_unfolding_all rfl)) (@pw_or1 _ _ _ _ (@pt_cmpR _ _ _ _ _ _ _ _ op_gt (pe_bm PySem.F.plainAttrs_list PySem.F.slot_list_count PySem.F.type_list_count mt_count (pv 1) (@pa_c _ _ _ _ _ (pv 4) pa_nil rfl)) pe_int (nomark _))))) (@pss_one _ _ _ ps_never) pss_nil) (@pss_one _ _ _ (@ps_set _ _ (3) _ _ _ _ sc_read_bits.nd rfl (Or.inl rfl) (@pe_op _ _ _ _ _ _ _ _ op_add (pv 3) (@pe_ix _ _ _ _ _ _ _ (ix_tupK (K:=K) rfl) (pe_gtup (K:=K) rfl rfl T.BIT_ROW) (pe_bm PySem.F.plainAttrs_tuple PySem.F.slot_tuple_index PySem.F.type_tuple_index (mt_tidx (K:=K) rfl) (pv 2) (@pa_c _ _ _ _ _ (pv 4) pa_nil rfl)) (fun _ _=>rfl))) rfl (by first | exact .inl rfl | exact .inr rfl | assumption)))) (fun _=>rfl)) (@pss_one _ _ _ (@ps_ret _ _ _ _ (pv 3))))),?_⟩
  wtm_at "xx"
  refine ⟨b,rfl,⟨_,SqL.of hb⟩,for_list (xs:=ts.map V.str) (fun i σ' H'=>∃ x,σ' = [some (.ref A.a),some (.ref b),some (.ref c),some (.int (((ts.take i).map fun t=>bitsL.getD (ns.idxOf t) 0).sum)),x]∧H' = H) ⟨_,rfl,rfl⟩ (fun i σ' H' _ h=>by obtain ⟨_,_,rfl⟩:=h;exact SqL.of hb) ?_ ?_⟩
  ·rintro i x σ' H' hx ⟨y,rfl,rfl⟩
   rw [List.getElem?_map] at hx
   cases et:ts[i]? with
   | none=>rw [et] at hx;cases hx
   | some t =>
    rw [et] at hx
    cases hx
    have hm:=h1 t (List.mem_of_getElem? et)
    wtm_at "xx"
    refine xNotIn hc ?_
    wtm_at "xx"
    refine iteD (fun g=>absurd hm.1 g) (fun _=>?_)
    wtm_at "xx"
    refine ⟨Sx.tyL hb,?_⟩
    wtm_at "xx"
    refine ⟨b,ts,t,rfl,rfl,hb,?_⟩
    wtm_at "xx"
    refine iteD (fun g=>absurd g (by have:=hm.2;omega)) (fun _=>?_)
    wtm_at "xx"
    refine Sx.topT fun a ha=>?_
    wtm_at "xx"
    refine ⟨tyT hc,?_⟩
    wtm_at "xx"
    refine ⟨c,ns,t,rfl,rfl,hc,hm.1,?_⟩
    have hi:ns.idxOf t < 6:=by rw [← hn];exact List.idxOf_lt_length_of_mem hm.1
    refine Sx.topIx (v:=.int (bitsL.getD (ns.idxOf t) 0)) ha (atI_nat (by rw [List.getElem?_map,List.getD_eq_getElem?_getD,List.getElem?_eq_getElem (by show _ < 6;exact hi)];rfl)) ?_
    wtm_at "xx"
    refine ⟨some (.str t),?_,rfl⟩
    rw [List.take_add_one,et,List.map_append,List.sum_append]
    simp only [Option.toList,List.map_cons,List.map_nil,List.sum_cons,List.sum_nil,Int.add_zero]
    rfl
  ·rintro σ' H' ⟨y,rfl,rfl⟩
   wtm_at "xx"
   rw [List.length_map,List.take_length] 
   simpa using k
theorem value_ok {L L':Ln} {ts:List Str} (e:readValue L ts = .ok L'):∃ v tt,ts = [v]∧goTerms L.num 0 1 (termPieces v) L.terms = .ok tt∧L' = { L with terms:=tt }:=by
 unfold readValue at e
 split at e
 ·rename_i v
  cases g:goTerms L.num 0 1 (termPieces v) L.terms with
  | error x=>rw [g] at e;cases e
  | ok tt =>
   rw [g] at e
   cases e
   exact ⟨v,tt,rfl,g,rfl⟩
 ·cases e
theorem split_short {c:Nat}:∀ {l p:List Nat},p∈splitC c l→p.length≤l.length:=by
 intro l
 induction l with
 | nil=>intro p h;simp [splitC] at h;subst h;exact Nat.le_refl _
 | cons a r ih =>
  intro p h
  by_cases e:a = c
  ·subst e
   rw [show splitC a (a::r) = []::splitC a r from by simp [splitC]] at h
   rcases List.mem_cons.mp h with rfl | h
   ·exact Nat.zero_le _
   ·exact Nat.le_succ_of_le (ih h)
  ·cases g:splitC c r with
   | nil=>exact absurd g (split_ne c r)
   | cons x t =>
    rw [split_skip e g] at h
    rw [g] at ih
    rcases List.mem_cons.mp h with rfl | h
    ·exact Nat.succ_le_succ (ih List.mem_cons_self)
    ·exact Nat.le_succ_of_le (ih (List.mem_cons_of_mem _ h))
theorem repl_short {c:Nat} {z:List Nat} (hz:z.length≤3):∀ l:List Nat,(replC c z l).length≤3 * l.length
 | []=>Nat.le_refl _
 | a::r=>by
  have ih:=repl_short (c:=c) hz r
  show ((if a = c then z else [a]) ++ replC c z r).length≤_
  rw [List.length_append,List.length_cons]
  have:(if a = c then z else [a]).length≤3:=by split;exact hz;show 1≤3;omega
  omega
theorem terms_short {v p:Str} (hv:v.length≤2000) (h:p∈termPieces v):p.length≤18000:=by
 have h1:cs p∈(termPieces v).map cs:=List.mem_map.mpr ⟨p,h,rfl⟩
 rw [termPieces_cs] at h1
 have h2:=split_short h1
 have h3:=repl_short (c:=45) (z:=[32,45,32]) (Nat.le_refl 3) (replC 43 [32,43,32] (cs v))
 have h4:=repl_short (c:=43) (z:=[32,43,32]) (Nat.le_refl 3) (cs v)
 rw [cs_len] at h2 h4
 omega
theorem app_get {α β:Type} {rs:List α} {ts:List β} {T r:α} {x q:β} {i:Nat} (n:rs.length = ts.length) (h1:(rs ++ [T])[i]? = some r) (h2:(ts ++ [x])[i]? = some q):(rs[i]? = some r∧ts[i]? = some q)∨(r = T∧q = x):=by
 by_cases h:i < rs.length
 ·rw [List.getElem?_append_left h] at h1
  rw [List.getElem?_append_left (by omega)] at h2
  exact .inl ⟨h1,h2⟩
 ·rw [List.getElem?_append_right (by omega)] at h1
  rw [List.getElem?_append_right (by omega)] at h2
  have hi:i - rs.length = 0:=by
   cases g:i - rs.length with
   | zero=>rfl
   | succ k=>rw [g] at h1;cases h1
  rw [hi] at h1
  rw [show i - ts.length = 0 from by omega] at h2
  cases h1
  cases h2
  exact .inr ⟨rfl,rfl⟩
theorem LnAt.app {CL:Addr} {H H':Hp} {A:LAd} {L:Ln} {rs:List Addr} {T:Addr} {f:Int} {p:Str} (h:LnAt CL H A L) (er:H A.l = some (.lst (rs.map V.ref))) (nr:rs.length = L.terms.length)
  (kr:∀ (i:Nat) (r:Addr) (p:Int×Str),rs[i]? = some r→L.terms[i]? = some p→H r = some (.tup [.int p.1,.str p.2])) (hT:H T = some (.tup [.int f,.str p]))
  (h4:H' A.l = some (.lst (rs.map V.ref ++ [.ref T]))) (fr:∀ b o,b≠A.l→H b = some o→H' b = some o):LnAt CL H' A { L with terms:=L.terms ++ [(f,p)] }∧FrX H H' [A.a,A.l]:=by
 have nl:∀ b xs,H b = some (.tup xs)→b≠A.l:=fun b xs e z=>by rw [z,er] at e;cases e
 refine ⟨⟨fr _ _ h.ne h.o,rs ++ [T],by rw [h4,List.map_append];rfl,by simp [nr],fun i r q e1 e2=>?_⟩,fun b o e n=>fr b o (fun z=>n (by simp [z])) e,fun b xs e=>fr _ _ (nl _ _ e) e⟩
 rcases app_get nr e1 e2 with ⟨a,b⟩ | ⟨rfl,rfl⟩
 ·exact fr _ _ (nl _ _ (kr i r q a b)) (kr i r q a b)
 ·exact fr _ _ (nl _ _ hT) hT
theorem ok_value (R:Raw K mg "read_value" s_read_value) (T:TxtN K mg CL) (G_is_term:GF P w K mg base "is_term" ["piece"] 3 sp_term):GF P w K mg base "read_value" ["line","behind"] 4 (sp_value K CL):=by
 refine GF.mk R sc_read_value (by wtm_at "2") (fun vs H Q E h=>?_) (fun f cdv A outer s H vs Q E hr h=>?_)
 ·obtain ⟨A,L,L',b,ts,rfl,_⟩:=h;rfl
 ·obtain ⟨A,L,L',b,ts,rfl,hA,hb,hz,ht,e,k⟩:=h
  obtain ⟨v,tt,rfl,e0,rfl⟩:=value_ok e
  have hv:v.length≤2000:=hz v List.mem_cons_self
  have h18:∀ p∈termPieces v,p.length≤18000:=fun p hp=>terms_short hv hp
  refine ⟨_,(@pss_cons _ _ _ _ _ (@ps_if _ _ _ _ _ _ _ _ (@pt_cmpR _ _ _ _ _ _ _ _ op_ne (@pe_callBN _ _ _ _ _ _ _ _ _ (call_len_seqN (K:=K) rfl) (by rfl) T.len_ bo_len (@pa_c _ _ _ _ _ (pv 1) pa_nil rfl) (by decide) (by decide) rfl) pe_int (nomark _)) (@pss_one _ _ _ ps_never) pss_nil) (@pss_cons _ _ _ _ _ (@ps_set _ _ (2) _ _ _ _ sc_read_value.nd rfl (Or.inl rfl) pe_int rfl (by first | exact .inl rfl | exact .inr rfl | assumption)) (@pss_one _ _ _ (@ps_for _ _ _ _ _ _ _ _ PassesOwn.never rfl (@pi_enumK _ (K) _ _ _ _ _ _ _ rfl rfl T.enumerate_ (@pa_c _ _ _ _ _ (pe_bm PySem.F.plainAttrs_str PySem.F.slot_str_split PySem.F.type_str_split mt_split (pe_oft (pet_repl (pet_repl (pet_ix (K:=K) rfl (pv 1) (fun _ _=>rfl)) (by decide +kernel) (by decide +kernel)) (by decide +kernel) (by decide +kernel))) (@pa_c _ _ _ _ _ pe_str pa_nil rfl)) pa_nil rfl) rfl) (@pg_tupK _ (K) _ _ _ _ (2) rfl rfl (@pgs_cons _ _ _ _ _ (@pg_name _ _ (3) _ sc_read_value.nd rfl (Or.inl rfl) (by first | exact .inl rfl | exact .inr rfl | assumption)) (@pgs_cons _ _ _ _ _ (@pg_name _ _ (4) _ sc_read_value.nd rfl (Or.inl rfl) (by first | exact .inl rfl | exact .inr rfl | assumption)) pgs_nil rfl) rfl) rfl rfl) (@pss_one _ _ _ (@ps_if _ _ _ _ _ _ _ _ (@pt_cmpR _ _ _ _ _ _ _ _ op_eq (@pe_op _ _ _ _ _ _ _ _ op_mod (pv 3) pe_int) pe_int (nomark _)) (@pss_one _ _ _ (@ps_set _ _ (2) _ _ _ _ sc_read_value.nd rfl (Or.inl rfl) (@pe_ifExp _ _ _ _ _ _ _ _ (@pt_cmpR _ _ _ _ _ _ _ _ op_eq (pv 4) pe_str (nomark _)) pe_int (@pe_un _ _ _ _ _ _ un_neg pe_int)) rfl (by first | exact .inl rfl | exact .inr rfl | assumption))) (@pss_one _ _ _ (@ps_if _ _ _ _ _ _ _ _ (@pt_val _ _ _ (@pe_gcallN _ _ _ _ _ _ _ _ _ _ G_is_term (hr.mono (by decide)) rfl (@pa_c _ _ _ _ _ (pv 4) pa_nil rfl) (by decide) rfl) (fun _=>rfl)) (@pss_one _ _ _ (@ps_expr _ _ _ _ (pe_bm PySem.F.plainAttrs_list PySem.F.slot_list_append PySem.F.type_list_append mt_append (@pe_fldK _ (K) _ _ _ _ rfl (pv 0) rfl) (@pa_c _ _ _ _ _ (@pe_tup _ _ _ _ _ (@pa_c _ _ _ _ _ (pv 2) (@pa_c _ _ _ _ _ (pv 4) pa_nil rfl) rfl)) pa_nil rfl)) rfl)) (@pss_one _ _ _ ps_never))))) (fun _=>rfl))))),?_⟩
  wtm_at "xx"
  refine ⟨b,_,rfl,.inl hb,?_⟩
  wtm_at "xx"
  refine Sx.ixS hb at0 ?_
  refine ⟨v,rfl,by omega,?_⟩
  have c4:=repl_short (c:=43) (z:=[32,43,32]) (Nat.le_refl 3) (cs v)
  have r1:(Txt.replace v "+" " + ").length≤6000:=by
   rw [← cs_len,show ("+" : Str) = ⟨#[43]⟩ from by decide +kernel,treplace,show cs " + " = [32,43,32] from by decide +kernel]
   rw [cs_len] at c4
   omega
  have c3:=repl_short (c:=45) (z:=[32,45,32]) (Nat.le_refl 3) (cs (Txt.replace v "+" " + "))
  have r2:(Txt.replace (Txt.replace v "+" " + ") "-" " - ").length≤18000:=by
   rw [← cs_len,show ("-" : Str) = ⟨#[45]⟩ from by decide +kernel,treplace,show cs " - " = [32,45,32] from by decide +kernel]
   rw [cs_len] at c3
   omega
  refine ⟨_,rfl,by omega,?_⟩
  wtm_at "xx"
  refine ⟨_," ",rfl,rfl,by decide +kernel,by omega,fun ls H1 n1 h1 s1=>?_⟩
  wtm_at "xx"
  have hls:=split_len (Txt.replace (Txt.replace v "+" " + ") "-" " - ") " "
  change H1 ls = some (.lst ((termPieces v).map V.str)) at h1
  have hl':(termPieces v).length≤18002:=by have:(termPieces v).length≤_:=hls;omega
  refine ⟨ls,_,rfl,SqL.of h1,for_enum (xs:=(termPieces v).map V.str) (fun i σ' H'=>∃ (f:Int) (acc:List (Int×Str)) (x3 x4:Option V),σ' = [some (.ref A.a),some (.ref b),some (.int f),x3,x4]∧LnAt CL H' A { L with terms:=acc }∧FrX H H' [A.a,A.l]∧goTerms L.num i f ((termPieces v).drop i) acc = .ok tt∧acc.length≤2000 + i∧H' ls = some (.lst ((termPieces v).map V.str))∧H ls = none) ?_ ?_ ?_ ?_⟩
  ·exact ⟨1,L.terms,_,_,rfl,hA.keep s1,.same s1,e0,ht,h1,n1⟩
  ·rintro i σ' H' _ ⟨_,_,_,_,_,_,_,_,_,h,_⟩
   exact SqL.of h
  ·rintro i x T0 σ' H' hx ⟨f,acc,x3,x4,rfl,hA',fr',e',hac,hls',nls⟩ hT
   rw [List.getElem?_map] at hx
   cases et:(termPieces v)[i]? with
   | none=>rw [et] at hx;cases hx
   | some p =>
    rw [et] at hx
    cases hx
    have hi:i < (termPieces v).length:=(List.getElem?_eq_some_iff.mp et).1
    have ed:(termPieces v).drop i = p::(termPieces v).drop (i + 1):=by
     rw [List.drop_eq_getElem_cons hi]
     have:=(List.getElem?_eq_some_iff.mp et).2
     rw [this]
    rw [ed] at e'
    unfold goTerms at e'
    have s3:Same H' (upd H' T0 (.tup [.int i,.str p])):=Same.newH hT
    have t3:(upd H' T0 (.tup [.int i,.str p])) T0 = some (.tup [.int i,.str p]):=upd_same
    generalize upd H' T0 (.tup [.int i,.str p]) = G3 at s3 t3 ⊢
    refine ⟨T0,_,rfl,SqT.of t3,rfl,_,_,rfl,_,_,rfl,rfl,?_⟩
    wtm_at "xx"
    refine iteD (fun g=>?_) (fun g=>?_)
    ·rw [if_pos (by omega)] at e'
     wtm_at "xx"
     refine iteD (fun g2=>?_) (fun g2=>?_)
     ·rw [if_pos g2] at e'
      wtm_at "xx"
      exact ⟨1,acc,_,_,rfl,hA'.keep s3,fr'.trans (.same s3),e',by omega,s3 _ _ hls',nls⟩
     ·rw [if_neg g2] at e'
      wtm_at "xx"
      refine ⟨1,rfl,?_⟩
      wtm_at "xx"
      exact ⟨-1,acc,_,_,rfl,hA'.keep s3,fr'.trans (.same s3),e',by omega,s3 _ _ hls',nls⟩
    ·rw [if_neg (by omega)] at e'
     wtm_at "xx"
     refine ⟨p,rfl,by have:=h18 p (List.mem_of_getElem? et);omega,fun G4 s4=>?_⟩
     wtm_at "xx"
     refine iteB (fun g=>?_) (fun g=>?_)
     ·rw [if_pos g] at e'
      have hA4:=(hA'.keep s3).keep s4
      wtm_at "xx"
      refine Sx.atF hA4.o T.clL T.n_terms (lk_terms _ _) ?_
      obtain ⟨rs,er,nr,kr⟩:=hA4.t
      refine ⟨Sx.tyL er,?_⟩
      wtm_at "xx"
      refine ⟨by show 2≤sizeLine;decide,fun T1 nT1=>?_⟩
      have s5:Same G4 (upd G4 T1 (.tup [.int f,.str p])):=Same.newH nT1
      have t5:(upd G4 T1 (.tup [.int f,.str p])) T1 = some (.tup [.int f,.str p]):=upd_same
      generalize upd G4 T1 (.tup [.int f,.str p]) = G5 at s5 t5 ⊢
      wtm_at "xx"
      refine Sx.addL (s5 _ _ er) (by rw [List.length_map,nr];show acc.length < _;omega) fun G6 h6 f6=>?_
      obtain ⟨hA6,fr6⟩:=(hA4.keep s5).app (s5 _ _ er) nr (fun i r q a b=>s5 _ _ (kr i r q a b)) t5 h6 f6
      refine ⟨f,_,_,_,rfl,hA6,((fr'.trans (.same s3)).trans ((FrX.same s4).trans (.same s5))).trans fr6,e',by show (acc ++ [(f,p)]).length≤_;rw [List.length_append,List.length_singleton];omega,?_,nls⟩
      have h5:=s5 _ _ (s4 _ _ (s3 _ _ hls'))
      refine f6 _ _ (fun z=>?_) h5
      have:=fr'.1
      obtain ⟨rs0,er0,_⟩:=hA.t
      rw [z,er0] at nls
      cases nls
     ·rw [g,if_neg Bool.false_ne_true] at e'
      cases e'
  ·rintro σ' H' ⟨f,acc,x3,x4,rfl,hA',fr',e',hac,hls',nls⟩
   rw [List.length_map,List.drop_length] at e'
   cases e'
   exact k _ hA' fr'
end
end Sc
namespace Sc
open PySem L2 Tx Ls
section
variable {P:Program} {w:World} {K:PySem.W.Frag} {mg:Str→Option Value} {base:Heap} {CL:Addr}
def sp_word:Sp:=fun vs H Q _=>∃ k f p:Int,vs = [.int k,.int f,.int p]∧k.natAbs≤1000∧f.natAbs≤1000∧Q (.int (k * 128 + f * 64 + p)) H
def sp_label (CL:Addr):Sp:=fun vs H Q _=>∃ (A:LAd) (L:Ln) (p:Str),vs = [.ref A.a,.str p]∧LnAt CL H A L∧p.length≤2000∧isName (oc ((cs p).take ((cs p).length - 1))) = true∧∀ H',LnAt CL H' A { L with label:=some (oc ((cs p).take ((cs p).length - 1))) }→FrX H H' [A.a,A.l]→Q .non H'
def sp_cell (K:PySem.W.Frag) (CL:Addr):Sp:=fun vs H Q _=>∃ (A:LAd) (L L':Ln) (b:Addr) (nm:Str) (ts:List Str),vs = [.ref A.a,.ref b]∧LnAt CL H A L∧L.name = some nm∧nm∈kindsS∧SqL K H b (ts.map V.str)∧(∀ t∈ts,t.length≤2000)∧ts.length≤3000∧L.terms.length≤2000∧readCell L nm ts = .ok L'∧∀ H',LnAt CL H' A L'→FrX H H' [A.a,A.l]→Q .non H'
def sp_deed (K:PySem.W.Frag) (CL:Addr):Sp:=fun vs H Q _=>∃ (A:LAd) (L L':Ln) (b:Addr) (nm:Str) (ts:List Str),vs = [.ref A.a,.str nm,.ref b]∧LnAt CL H A L∧H b = some (.lst (ts.map V.str))∧(∀ t∈ts,t.length≤2000)∧ts.length≤3000∧L.terms.length≤2000∧readDeed L nm ts = .ok L'∧∀ H',LnAt CL H' A L'→FrX H H' [A.a,A.l]→Q .non H'
theorem sl_last {p:Str} (h:1≤p.length):StrLaws.sliceText p none (some (-1)) = oc ((cs p).take ((cs p).length - 1)):=by
 rw [StrLaws.sliceText_neg_hi p none (by decide) (by omega),StrLaws.sliceText_to (by rw [show p.cps.toList.length = p.length from by simp [Str.length]];omega)]
 show oc _ = oc _
 rw [List.drop_zero,cs_len]
 congr 2
 omega
theorem sl_first {p:Str} (h:1≤p.length):StrLaws.sliceText p (some 1) none = oc ((cs p).drop 1):=by
 rw [StrLaws.sliceText_from (by rw [show p.cps.toList.length = p.length from by simp [Str.length]];omega)]
 show oc _ = oc _
 congr 1
 exact List.take_of_length_le (by simp)
theorem ok_word (R:Raw K mg "word" s_word):GF P w K mg base "word" ["kind","far","place"] 1 sp_word:=by
 refine GF.mk R sc_word (by wtm_at "3") (fun vs H Q E h=>?_) (fun f cdv A outer s H vs Q E hr h=>?_)
 ·obtain ⟨k,f,p,rfl,_⟩:=h;rfl
 ·obtain ⟨a,f,p,rfl,h1,h2,k⟩:=h
  refine ⟨_,(@pss_one _ _ _ (@ps_ret _ _ _ _ (@pe_op _ _ _ _ _ _ _ _ op_add (@pe_op _ _ _ _ _ _ _ _ op_add (@pe_op _ _ _ _ _ _ _ _ op_mul (pv 0) pe_int) (@pe_op _ _ _ _ _ _ _ _ op_mul (pv 1) pe_int)) (pv 2)))),?_⟩
  wtm_at "xx"
  exact k
theorem name_some {q:Str} (h:isName q = true):1≤q.length:=by
 unfold isName shortName at h
 simp only [Bool.and_eq_true,decide_eq_true_eq] at h
 exact h.1.1.1
theorem ok_label (R:Raw K mg "read_label" s_read_label) (T:TxtN K mg CL) (G_is_name:GF P w K mg base "is_name" ["piece"] 2 sp_name):GF P w K mg base "read_label" ["line","piece"] 3 (sp_label CL):=by
 refine GF.mk R sc_read_label (by wtm_at "2") (fun vs H Q E h=>?_) (fun f cdv A outer s H vs Q E hr h=>?_)
 ·obtain ⟨A,L,p,rfl,_⟩:=h;rfl
 ·obtain ⟨A,L,p,rfl,hA,hp,hn,k⟩:=h
  have h1:1≤p.length:=by
   have:=name_some hn
   rw [← cs_len,cs_oc,List.length_take] at this
   rw [← cs_len]
   omega
  have hq:(oc ((cs p).take ((cs p).length - 1))).length≤2000:=by
   rw [← cs_len,cs_oc,List.length_take,cs_len]
   omega
  refine ⟨_,(@pss_cons _ _ _ _ _ (@ps_fldK _ (K) _ _ _ _ _ _ _ rfl (pv 0) (@pe_slice _ _ _ _ _ _ _ _ _ _ sl_str (pv 1) po_none (@po_some _ _ _ (@pe_un _ _ _ _ _ _ un_neg pe_int))) rfl) (@pss_one _ _ _ (@ps_if _ _ _ _ _ _ _ _ (@pt_not _ _ _ _ (@pt_val _ _ _ (@pe_gcallN _ _ _ _ _ _ _ _ _ _ G_is_name (hr.mono (by decide)) rfl (@pa_c _ _ _ _ _ (@pe_fldK _ (K) _ _ _ _ rfl (pv 0) rfl) pa_nil rfl) (by decide) rfl) (fun _=>rfl))) (@pss_one _ _ _ ps_never) pss_nil))),?_⟩
  wtm_at "xx"
  refine ⟨1,rfl,_,rfl,p,rfl,by omega,?_⟩
  rw [sl_last h1]
  generalize oc ((cs p).take ((cs p).length - 1)) = q at hn hq k ⊢
  wtm_at "xx"
  refine xPut hA.o T.clL T.n_label (len_fldsL _ _) fun H1 h1 o1 f1=>?_
  rw [pf_label] at h1
  have hA1:LnAt CL H1 A { L with label:=some q }:=⟨h1,hA.t.mv (fun o e=>by rw [o1 _ hA.ne.symm];exact e) f1.2⟩
  have fr1:FrX H H1 [A.a,A.l]:=f1.more fun x hx=>by rw [List.mem_singleton.mp hx];exact List.mem_cons_self
  wtm_at "xx"
  refine Sx.atF h1 T.clL T.n_label (lk_label _ _) ?_
  wtm_at "xx"
  refine ⟨q,rfl,by omega,fun H2 s2=>?_⟩
  wtm_at "xx"
  rw [hn]
  wtm_at "xx"
  exact k _ (hA1.keep s2) (fr1.trans (.same s2))
theorem sq_fr {H H':Hp} {a b C dx:Addr} {fs:List (Str×V)} {xs:List V} (h:SqL K H b xs) (ho:H a = some (.ins C dx fs)) (f:∀ c,c≠a→H' c = H c):SqL K H' b xs:=by
 rcases h with (h | ⟨o,h⟩) | h
 ·exact .inl (.inl (by rw [f b fun z=>by rw [z,ho] at h;cases h];exact h))
 ·exact .inl (.inr ⟨o,by rw [f b fun z=>by rw [z,ho] at h;cases h];exact h⟩)
 ·exact .inr h
theorem LnAt.wr {H H1:Hp} {A:LAd} {L L':Ln} (hA:LnAt CL H A L) (h1:H1 A.a = some (.ins CL A.dx (fldsL A L'))) (e:L'.terms = L.terms) (o1:∀ b,b≠A.a→H1 b = H b) (f1:FrX H H1 [A.a]):LnAt CL H1 A L'∧FrX H H1 [A.a,A.l] :=
 ⟨⟨h1,by rw [e];exact hA.t.mv (fun o e=>by rw [o1 _ hA.ne.symm];exact e) f1.2⟩,f1.more fun x hx=>by rw [List.mem_singleton.mp hx];exact List.mem_cons_self⟩
theorem cell_far {L L':Ln} {nm:Str} {ts:List Str} (e:readCell L nm ts = .ok L'):(∃ r:List Str,ts = ("far" : Str)::r∧readPool { L with base:=(kindsS.idxOf nm:Nat) * 128 + 64 } r = .ok L')∨(¬ ts[0]? = some ("far" : Str))∧readPool { L with base:=(kindsS.idxOf nm:Nat) * 128 } ts = .ok L':=by
 cases ts with
 | nil=>exact .inr ⟨fun z=>(by cases z),e⟩
 | cons v r =>
  simp only [readCell] at e
  by_cases g:v = "far"
  ·subst g
   rw [if_pos rfl] at e
   exact .inl ⟨r,rfl,e⟩
  ·rw [if_neg g] at e
   exact .inr ⟨fun z=>g (Option.some.inj z),e⟩
theorem pool_eq {L L':Ln} {ts:List Str} (e:readPool L ts = .ok L'):(∃ v r,ts = v::r∧(cs v)[0]? = some 61∧readValue { L with pooled:=true } (oc ((cs v).drop 1)::r) = .ok L')∨(∀ v r,ts = v::r→¬ (cs v)[0]? = some 61)∧readValue L ts = .ok L':=by
 cases ts with
 | nil=>exact .inr ⟨fun v r z=>(by cases z),e⟩
 | cons v r =>
  simp only [readPool] at e
  by_cases g:(cs v)[0]? = some 61
  ·rw [if_pos g] at e
   exact .inl ⟨v,r,rfl,g,e⟩
  ·rw [if_neg g] at e
   exact .inr ⟨fun a b z=>by cases z;exact g,e⟩
theorem ok_cell (R:Raw K mg "read_cell_deed" s_read_cell_deed) (T:TxtN K mg CL) (G_word:GF P w K mg base "word" ["kind","far","place"] 1 sp_word) (G_read_value:GF P w K mg base "read_value" ["line","behind"] 4 (sp_value K CL)):GF P w K mg base "read_cell_deed" ["line","behind"] 5 (sp_cell K CL):=by
 refine GF.mk R sc_read_cell_deed (by wtm_at "2") (fun vs H Q E h=>?_) (fun f cdv A outer s H vs Q E hr h=>?_)
 ·obtain ⟨A,L,L',b,nm,ts,rfl,_⟩:=h;rfl
 ·obtain ⟨A,L,L',b,nm,ts,rfl,hA,hnm,hk,hb,hz,hl,ht,e,k⟩:=h
  refine ⟨_,(@pss_cons _ _ _ _ _ (@ps_set _ _ (2) _ _ _ _ sc_read_cell_deed.nd rfl (Or.inl rfl) pe_int rfl (by first | exact .inl rfl | exact .inr rfl | assumption)) (@pss_cons _ _ _ _ _ (@ps_cut _ _ _ (@ps_if _ _ _ _ _ _ _ _ (@PW.pt _ _ _ (@pw_and _ _ _ _ _ _ _ (@pt_cmpR _ _ _ _ _ _ _ _ op_gt (@pe_callBN _ _ _ _ _ _ _ _ _ (call_len_seqN (K:=K) rfl) (by rfl) T.len_ bo_len (@pa_c _ _ _ _ _ (pv 1) pa_nil rfl) (by decide) (by decide) rfl) pe_int (nomark _)) (@pw_and1 _ _ _ _ (@pt_cmpR _ _ _ _ _ _ _ _ op_eq (@pe_ix _ _ _ _ _ _ _ (ix_listK (K:=K) rfl) (pv 1) pe_int (fun _ _=>rfl)) pe_str (nomark _))))) (@pss_cons _ _ _ _ _ (@ps_set _ _ (2) _ _ _ _ sc_read_cell_deed.nd rfl (Or.inl rfl) pe_int rfl (by first | exact .inl rfl | exact .inr rfl | assumption)) (@pss_one _ _ _ (@ps_set _ _ (1) _ _ _ _ sc_read_cell_deed.nd rfl (Or.inl rfl) (@pe_slice _ _ _ _ _ _ _ _ _ _ (sl_listK (K:=K) rfl) (pv 1) (@po_some _ _ _ pe_int) po_none) rfl (by first | exact .inl rfl | exact .inr rfl | assumption)))) pss_nil)) (@pss_cons _ _ _ _ _ (@ps_fldK _ (K) _ _ _ _ _ _ _ rfl (pv 0) (@pe_gcallN _ _ _ _ _ _ _ _ _ _ G_word (hr.mono (by decide)) rfl (@pa_c _ _ _ _ _ (pe_bm PySem.F.plainAttrs_tuple PySem.F.slot_tuple_index PySem.F.type_tuple_index (mt_tidx (K:=K) rfl) (pe_gtup (K:=K) rfl rfl T.DEEDS) (@pa_c _ _ _ _ _ (@pe_fldK _ (K) _ _ _ _ rfl (pv 0) rfl) pa_nil rfl)) (@pa_c _ _ _ _ _ (pv 2) (@pa_c _ _ _ _ _ pe_int pa_nil rfl) rfl) rfl) (by decide) rfl) rfl) (@pss_cons _ _ _ _ _ (@ps_cut _ _ _ (@ps_if _ _ _ _ _ _ _ _ (@PW.pt _ _ _ (@pw_and _ _ _ _ _ _ _ (@pt_cmpR _ _ _ _ _ _ _ _ op_gt (@pe_callBN _ _ _ _ _ _ _ _ _ (call_len_seqN (K:=K) rfl) (by rfl) T.len_ bo_len (@pa_c _ _ _ _ _ (pv 1) pa_nil rfl) (by decide) (by decide) rfl) pe_int (nomark _)) (@pw_and1 _ _ _ _ (@pt_val _ _ _ (pe_bm PySem.F.plainAttrs_str PySem.F.slot_str_startswith PySem.F.type_str_startswith mt_starts (@pe_ix _ _ _ _ _ _ _ (ix_listK (K:=K) rfl) (pv 1) pe_int (fun _ _=>rfl)) (@pa_c _ _ _ _ _ pe_str pa_nil rfl)) (fun _=>rfl))))) (@pss_cons _ _ _ _ _ (@ps_fldK _ (K) _ _ _ _ _ _ _ rfl (pv 0) pe_bl rfl) (@pss_one _ _ _ (@ps_set _ _ (1) _ _ _ _ sc_read_cell_deed.nd rfl (Or.inl rfl) (@pe_op _ _ _ _ _ _ _ _ op_cat (@pe_lst _ _ _ _ (@pa_c _ _ _ _ _ (@pe_slice _ _ _ _ _ _ _ _ _ _ sl_str (@pe_ix _ _ _ _ _ _ _ (ix_listK (K:=K) rfl) (pv 1) pe_int (fun _ _=>rfl)) (@po_some _ _ _ pe_int) po_none) pa_nil rfl)) (@pe_slice _ _ _ _ _ _ _ _ _ _ (sl_listK (K:=K) rfl) (pv 1) (@po_some _ _ _ pe_int) po_none)) rfl (by first | exact .inl rfl | exact .inr rfl | assumption)))) pss_nil)) (@pss_one _ _ _ (@ps_expr _ _ _ _ (@pe_gcallN _ _ _ _ _ _ _ _ _ _ G_read_value (hr.mono (by decide)) rfl (@pa_c _ _ _ _ _ (pv 0) (@pa_c _ _ _ _ _ (pv 1) pa_nil rfl) rfl) (by decide) rfl) rfl)))))),?_⟩
  wtm_at "xx"
  refine Sx.cut (fun σ' H'=>∃ (f:Int) (b':Addr) (ts':List Str),(f = 0∨f = 1)∧σ' = [some (.ref A.a),some (.ref b'),some (.int f)]∧SqL K H' b' (ts'.map V.str)∧Same H H'∧(∀ t∈ts',t.length≤2000)∧ts'.length≤3000∧readPool { L with base:=(kindsS.idxOf nm:Nat) * 128 + f * 64 } ts' = .ok L') ?_ ?_
  ·wtm_at "xx"
   refine ⟨b,_,rfl,.inl hb,?_⟩
   wtm_at "xx"
   refine iteD (fun g=>?_) (fun g=>?_)
   ·cases ts with
    | nil=>exact absurd g (by decide)
    | cons v r =>
     wtm_at "xx"
     refine Sx.ixS hb at0 ?_
     wtm_at "xx"
     refine iteD (fun g2=>?_) (fun g2=>?_)
     ·subst g2
      wtm_at "xx"
      refine Sx.slN hb fun p H1 n1 h1 s1=>?_
      rw [show cutV (List.map V.str (("far" : Str)::r)) (some 1) none = r.map V.str from by rw [show (1:Int) = ((1:Nat):Int) from rfl,cutFrom];rfl] at h1
      wtm_at "xx"
      rcases cell_far e with ⟨r',er,e2⟩ | ⟨g3,_⟩
      ·cases er
       exact ⟨1,p,r,.inr rfl,rfl,SqL.of h1,s1,fun t ht=>hz t (List.mem_cons_of_mem _ ht),by rw [List.length_cons] at hl;omega,e2⟩
      ·exact absurd rfl g3
     ·wtm_at "xx"
      rcases cell_far e with ⟨r',er,e2⟩ | ⟨_,e2⟩
      ·cases er
       exact absurd rfl g2
      ·exact ⟨0,b,_,.inl rfl,rfl,hb,Same.refl _,hz,hl,by simpa using e2⟩
   ·cases ts with
    | nil =>
     wtm_at "xx"
     rcases cell_far e with ⟨r',er,e2⟩ | ⟨_,e2⟩
     ·cases er
     ·exact ⟨0,b,_,.inl rfl,rfl,hb,Same.refl _,hz,hl,by simpa using e2⟩
    | cons v r=>exact absurd (show (0:Int) < ((List.map V.str (v::r)).length:Nat) from by rw [List.length_map,List.length_cons];omega) g
  ·rintro σ' H1 ⟨f,b',ts',hf,rfl,hb',s1,hz',hl',e'⟩
   have hA1:=hA.keep s1
   have hix:kindsS.idxOf nm < 6:=List.idxOf_lt_length_of_mem hk
   wtm_at "xx"
   refine Sx.topT fun a ha=>⟨tyT ha,?_⟩
   wtm_at "xx"
   refine Sx.atF hA1.o T.clL T.n_name (lk_name _ _) ?_
   rw [hnm]
   wtm_at "xx"
   refine ⟨a,kindsS,nm,rfl,rfl,ha,hk,?_⟩
   wtm_at "xx"
   refine ⟨_,_,_,rfl,by omega,by omega,?_⟩
   rw [Int.add_zero]
   wtm_at "xx"
   refine xPut hA1.o T.clL T.n_base (len_fldsL _ _) fun H2 h2 o2 f2=>?_
   rw [pf_base] at h2
   obtain ⟨hA2,fr2⟩:=hA1.wr h2 rfl o2 f2
   have hb2:=sq_fr hb' hA1.o o2
   clear h2 o2 f2
   generalize hL2:({ L with base:=(kindsS.idxOf nm:Nat) * 128 + f * 64 }:Ln) = L2 at e' hA2
   have hn2:L2.terms.length≤2000:=by rw [← hL2];exact ht
   wtm_at "xx"
   refine Sx.cut (fun σ' H'=>∃ (b2:Addr) (ts2:List Str) (L3:Ln),σ' = [some (.ref A.a),some (.ref b2),some (.int f)]∧SqL K H' b2 (ts2.map V.str)∧LnAt CL H' A L3∧FrX H H' [A.a,A.l]∧(∀ t∈ts2,t.length≤2000)∧L3.terms.length≤2000∧readValue L3 ts2 = .ok L') ?_ ?_
   ·wtm_at "xx"
    refine ⟨b',_,rfl,.inl hb2,?_⟩
    wtm_at "xx"
    have fr0:FrX H H2 [A.a,A.l]:=(FrX.same s1).trans fr2
    refine iteD (fun g=>?_) (fun g=>?_)
    ·cases ts' with
     | nil=>exact absurd g (by decide)
     | cons v r =>
      wtm_at "xx"
      refine Sx.ixS hb2 at0 ?_
      wtm_at "xx"
      refine ⟨v,"=",rfl,rfl,?_⟩
      rw [show ("=" : Str) = ⟨#[61]⟩ from by decide +kernel,tstart]
      wtm_at "xx"
      have hv:v.length≤2000:=hz' v List.mem_cons_self
      refine iteD (fun g2=>?_) (fun g2=>?_)
      ·wtm_at "xx"
       refine xPut hA2.o T.clL T.n_pooled (len_fldsL _ _) fun H3 h3 o3 f3=>?_
       rw [pf_pooled] at h3
       obtain ⟨hA3,fr3⟩:=hA2.wr h3 rfl o3 f3
       have hb3:=sq_fr hb2 hA2.o o3
       wtm_at "xx"
       refine Sx.ixS hb3 at0 ?_
       wtm_at "xx"
       refine ⟨v,rfl,by omega,?_⟩
       have hv1:1≤v.length:=by
        rw [← cs_len]
        cases g:cs v with
        | nil=>rw [g] at g2;cases g2
        | cons a b=>simp
       rw [sl_first hv1]
       wtm_at "xx"
       refine Sx.newL (by show 1≤sizeLine;decide) fun p1 H4 n4 h4 s4=>?_
       wtm_at "xx"
       refine Sx.slN (s4.seq hb3) fun p2 H5 n5 h5 s5=>?_
       rw [show cutV (List.map V.str (v::r)) (some 1) none = r.map V.str from by rw [show (1:Int) = ((1:Nat):Int) from rfl,cutFrom];rfl] at h5
       wtm_at "xx"
       refine Sx.catN (s5 _ _ h4) h5 (by rw [List.length_map,List.length_singleton];rw [List.length_cons] at hl';omega) fun p3 H6 n6 h6 s6=>?_
       wtm_at "xx"
       rcases pool_eq e' with ⟨v',r',er,_,e2⟩ | ⟨g3,_⟩
       ·cases er
        refine ⟨p3,oc ((cs v).drop 1)::r,_,rfl,SqL.of h6,((hA3.keep s4).keep s5).keep s6,(fr0.trans fr3).trans (.same (s4.trans (s5.trans s6))),fun t ht=>?_,hn2,e2⟩
        rcases List.mem_cons.mp ht with rfl | ht
        ·rw [← cs_len,cs_oc,List.length_drop,cs_len];omega
        ·exact hz' t (List.mem_cons_of_mem _ ht)
       ·exact absurd g2 (g3 v r rfl)
      ·wtm_at "xx"
       rcases pool_eq e' with ⟨v',r',er,g3,e2⟩ | ⟨_,e2⟩
       ·cases er
        exact absurd g3 g2
       ·exact ⟨b',_,L2,rfl,hb2,hA2,fr0,hz',hn2,e2⟩
    ·cases ts' with
     | nil =>
      wtm_at "xx"
      rcases pool_eq e' with ⟨v',r',er,_⟩ | ⟨_,e2⟩
      ·cases er
      ·exact ⟨b',_,L2,rfl,hb2,hA2,fr0,hz',hn2,e2⟩
     | cons v r=>exact absurd (show (0:Int) < ((List.map V.str (v::r)).length:Nat) from by rw [List.length_map,List.length_cons];omega) g
   ·rintro σ' H3 ⟨b2,ts2,L3,rfl,hb3,hA3,fr3,hz3,ht3,e3⟩
    wtm_at "xx"
    exact ⟨A,L3,L',b2,ts2,rfl,hA3,hb3,hz3,ht3,e3,fun H' hA' fr'=>k _ hA' (fr3.trans fr')⟩
theorem ok_deed (R:Raw K mg "read_deed" s_read_deed) (T:TxtN K mg CL) (G_word:GF P w K mg base "word" ["kind","far","place"] 1 sp_word) (G_read_value:GF P w K mg base "read_value" ["line","behind"] 4 (sp_value K CL)) (G_read_cell_deed:GF P w K mg base "read_cell_deed" ["line","behind"] 5 (sp_cell K CL))
  (G_read_ask:GF P w K mg base "read_ask" ["line","behind"] 1 (sp_ask K CL)) (G_read_bits:GF P w K mg base "read_bits" ["line","behind","names"] 1 (sp_bits K CL)):GF P w K mg base "read_deed" ["line","name","behind"] 6 (sp_deed K CL):=by
 refine GF.mk R sc_read_deed (by wtm_at "3") (fun vs H Q E h=>?_) (fun f cdv A outer s H vs Q E hr h=>?_)
 ·obtain ⟨A,L,L',b,nm,ts,rfl,_⟩:=h;rfl
 ·obtain ⟨A,L,L',b,nm,ts,rfl,hA,hb,hz,hl,ht,e,k⟩:=h
  have hba:b≠A.a:=fun z=>by rw [z,hA.o] at hb;cases hb
  refine ⟨_,(@pss_cons _ _ _ _ _ (@ps_fldK _ (K) _ _ _ _ _ _ _ rfl (pv 0) (pv 1) rfl) (@pss_one _ _ _ (@ps_if _ _ _ _ _ _ _ _ (@PW.pt _ _ _ (@pw_or _ _ _ _ _ _ _ (@pt_cmpR _ _ _ _ _ _ _ _ op_eq (pv 1) pe_str (nomark _)) (@pw_or1 _ _ _ _ (@pt_cmpR _ _ _ _ _ _ _ _ op_eq (pv 1) pe_str (nomark _))))) (@pss_one _ _ _ (@ps_expr _ _ _ _ (@pe_gcallN _ _ _ _ _ _ _ _ _ _ G_read_value (hr.mono (by decide)) rfl (@pa_c _ _ _ _ _ (pv 0) (@pa_c _ _ _ _ _ (pv 2) pa_nil rfl) rfl) (by decide) rfl) rfl)) (@pss_one _ _ _ (@ps_if _ _ _ _ _ _ _ _ (@pt_cmpR _ _ _ _ _ _ _ _ (op_in_seqK (K:=K) rfl) (pv 1) (pe_gtup (K:=K) rfl rfl T.DEEDS) (by with_unfolding_all rfl)) (@pss_one _ _ _ (@ps_expr _ _ _ _ (@pe_gcallN _ _ _ _ _ _ _ _ _ _ G_read_cell_deed (hr.mono (by decide)) rfl (@pa_c _ _ _ _ _ (pv 0) (@pa_c _ _ _ _ _ (pv 2) pa_nil rfl) rfl) (by decide) rfl) rfl)) (@pss_one _ _ _ (@ps_if _ _ _ _ _ _ _ _ (@pt_cmpR _ _ _ _ _ _ _ _ op_eq (pv 1) pe_str (nomark _)) (@pss_one _ _ _ (@ps_fldK _ (K) _ _ _ _ _ _ _ rfl (pv 0) (@pe_gcallN _ _ _ _ _ _ _ _ _ _ G_word (hr.mono (by decide)) rfl (@pa_c _ _ _ _ _ (@pe_gint _ _ _ _ rfl T.ASK (by decide)) (@pa_c _ _ _ _ _ pe_int (@pa_c _ _ _ _ _ (@pe_gcallN _ _ _ _ _ _ _ _ _ _ G_read_ask (hr.mono (by decide)) rfl (@pa_c _ _ _ _ _ (pv 0) (@pa_c _ _ _ _ _ (pv 2) pa_nil rfl) rfl) (by decide) rfl) pa_nil rfl) rfl) rfl) (by decide) rfl) rfl)) (@pss_one _ _ _ (@ps_if _ _ _ _ _ _ _ _ (@pt_cmpR _ _ _ _ _ _ _ _ op_eq (pv 1) pe_str (nomark _)) (@pss_one _ _ _ (@ps_fldK _ (K) _ _ _ _ _ _ _ rfl (pv 0) (@pe_gcallN _ _ _ _ _ _ _ _ _ _ G_word (hr.mono (by decide)) rfl (@pa_c _ _ _ _ _ (@pe_gint _ _ _ _ rfl T.BITS (by decide)) (@pa_c _ _ _ _ _ pe_int (@pa_c _ _ _ _ _ (@pe_gcallN _ _ _ _ _ _ _ _ _ _ G_read_bits (hr.mono (by decide)) rfl (@pa_c _ _ _ _ _ (pv 0) (@pa_c _ _ _ _ _ (pv 2) (@pa_c _ _ _ _ _ (pe_gtup (K:=K) rfl rfl T.CHANGES) pa_nil rfl) rfl) rfl) (by decide) rfl) pa_nil rfl) rfl) rfl) (by decide) rfl) rfl)) (@pss_one _ _ _ (@ps_if _ _ _ _ _ _ _ _ (@pt_cmpR _ _ _ _ _ _ _ _ op_eq (pv 1) pe_str (nomark _)) (@pss_one _ _ _ (@ps_fldK _ (K) _ _ _ _ _ _ _ rfl (pv 0) (@pe_gcallN _ _ _ _ _ _ _ _ _ _ G_word (hr.mono (by decide)) rfl (@pa_c _ _ _ _ _ (@pe_gint _ _ _ _ rfl T.BITS (by decide)) (@pa_c _ _ _ _ _ pe_int (@pa_c _ _ _ _ _ (@pe_gcallN _ _ _ _ _ _ _ _ _ _ G_read_bits (hr.mono (by decide)) rfl (@pa_c _ _ _ _ _ (pv 0) (@pa_c _ _ _ _ _ (pv 2) (@pa_c _ _ _ _ _ (pe_gtup (K:=K) rfl rfl T.TESTS) pa_nil rfl) rfl) rfl) (by decide) rfl) pa_nil rfl) rfl) rfl) (by decide) rfl) rfl)) (@pss_one _ _ _ ps_never)))))))))))),?_⟩
  wtm_at "xx"
  refine xPut hA.o T.clL T.n_name (len_fldsL _ _) fun H1 h1 o1 f1=>?_
  rw [pf_name] at h1
  obtain ⟨hA1,fr1⟩:=hA.wr h1 rfl o1 f1
  have hb1:H1 b = some (.lst (ts.map V.str)):=by rw [o1 b hba];exact hb
  have ht1:({ L with name:=some nm }:Ln).terms.length≤2000:=ht
  clear h1 o1 f1
  unfold readDeed at e
  dsimp only at e
  have fin:∀ {x:Int} {G:Hp},FrX H1 G [A.a,A.l]→LnAt CL G A { L with name:=some nm }→{ L with name:=some nm,base:=x } = L'→∃ a C dx fs,V.ref A.a = .ref a∧G a = some (.ins C dx fs)∧Cls K C∧NoAttr K C "base"∧fs.length < 1000∧Q .non (upd G a (.ins C dx (putF "base" (.int x) fs))):=by
   intro x G fg hG ex
   refine xPut hG.o T.clL T.n_base (len_fldsL _ _) fun H2 h2 o2 f2=>?_
   rw [pf_base] at h2
   obtain ⟨hA2,fr2⟩:=hG.wr h2 rfl o2 f2
   rw [← ex] at k
   exact k _ hA2 (fr1.trans (fg.trans fr2))
  wtm_at "xx"
  refine iteD (fun g=>?_) (fun g=>?_)
  ·rw [if_pos (.inl g)] at e
   wtm_at "xx"
   exact ⟨A,_,L',b,ts,rfl,hA1,SqL.of hb1,hz,ht1,e,fun H' hA' fr'=>k _ hA' (fr1.trans fr')⟩
  wtm_at "xx"
  refine iteD (fun g2=>?_) (fun g2=>?_)
  ·rw [if_pos (.inr g2)] at e
   wtm_at "xx"
   exact ⟨A,_,L',b,ts,rfl,hA1,SqL.of hb1,hz,ht1,e,fun H' hA' fr'=>k _ hA' (fr1.trans fr')⟩
  rw [if_neg fun z=>z.elim g g2] at e
  wtm_at "xx"
  refine Sx.topT fun a ha=>xIn ha ?_
  wtm_at "xx"
  refine iteD (fun g3=>?_) (fun g3=>?_)
  ·rw [if_pos g3] at e
   wtm_at "xx"
   exact ⟨A,_,L',b,nm,ts,rfl,hA1,rfl,g3,SqL.of hb1,hz,hl,ht1,e,fun H' hA' fr'=>k _ hA' (fr1.trans fr')⟩
  rw [if_neg g3] at e
  wtm_at "xx"
  refine iteD (fun g4=>?_) (fun g4=>?_)
  ·rw [if_pos g4] at e
   cases ea:readAsk { L with name:=some nm } ts with
   | error x=>rw [ea] at e;cases e
   | ok p =>
    rw [ea] at e
    have e:_ = L':=Except.ok.inj e
    wtm_at "xx"
    refine ⟨A,_,b,ts,p,rfl,hA1,SqL.of hb1,ea,?_⟩
    wtm_at "xx"
    refine ⟨_,_,_,rfl,by decide,by decide,?_⟩
    wtm_at "xx"
    exact fin .refl hA1 (by rw [← e];congr 1)
  rw [if_neg g4] at e
  wtm_at "xx"
  refine iteD (fun g5=>?_) (fun g5=>?_)
  ·rw [if_pos g5] at e
   cases ea:goBits L.num changesS ts ts 0 with
   | error x=>rw [ea] at e;cases e
   | ok p =>
    rw [ea] at e
    have e:_ = L':=Except.ok.inj e
    wtm_at "xx"
    refine Sx.topT fun a ha=>?_
    wtm_at "xx"
    refine ⟨A,_,b,a,ts,changesS,p,rfl,hA1,hb1,ha,rfl,ea,?_⟩
    wtm_at "xx"
    refine ⟨_,_,_,rfl,by decide,by decide,?_⟩
    wtm_at "xx"
    exact fin .refl hA1 (by rw [← e];congr 1)
  rw [if_neg g5] at e
  wtm_at "xx"
  refine iteD (fun g6=>?_) (fun g6=>?_)
  ·rw [if_pos g6] at e
   cases ea:goBits L.num testsS ts ts 0 with
   | error x=>rw [ea] at e;cases e
   | ok p =>
    rw [ea] at e
    have e:_ = L':=Except.ok.inj e
    wtm_at "xx"
    refine Sx.topT fun a ha=>?_
    wtm_at "xx"
    refine ⟨A,_,b,a,ts,testsS,p,rfl,hA1,hb1,ha,rfl,ea,?_⟩
    wtm_at "xx"
    refine ⟨_,_,_,rfl,by decide,by decide,?_⟩
    wtm_at "xx"
    exact fin .refl hA1 (by rw [← e];congr 1)
  rw [if_neg g6] at e
  cases e
theorem make_l {H:Hp} {n:Int} {Q:Addr→Hp→Prop} (q:∀ A H',H A.a = none→H A.l = none→LnAt CL H' A (newLn n)→Same H H'→Q A.a H') :
  ∀ x dx,H x = none→H dx = none→dx≠x→sp_initL CL (.ref x::([.int n] ++ [])) (upd (upd H dx (.own x)) x (.ins CL dx [])) (fun v H2=>v = .non∧Q x H2) E0:=by
 intro x dx nx ndx nex
 have s1:Same H (upd (upd H dx (.own x)) x (.ins CL dx [])):=(Same.newH ndx).trans (Same.newH (by rw [upd_ne nex.symm];exact nx))
 refine ⟨x,dx,n,rfl,upd_same,fun l H' hl hA fr=>⟨rfl,?_⟩⟩
 exact q ⟨x,dx,l⟩ H' nx (s1.free hl) hA fun b o e=>fr.1 b o (s1 b o e) fun z=>by rw [List.mem_singleton.mp z,nx] at e;cases e
def sp_line (CL:Addr):Sp:=fun vs H Q _=>∃ (row:Str) (n:Int) (L:Ln),vs = [.str row,.int n]∧row.length≤2000∧readLine row n = .ok L∧∀ A H',H A.a = none→H A.l = none→LnAt CL H' A L→Same H H'→Q (.ref A.a) H'
theorem pieces_short {row p:Str} (h:p∈pieces row):p.length≤row.length:=by
 have h1:cs p∈(pieces row).map cs:=List.mem_map.mpr ⟨p,h,rfl⟩
 rw [pieces_cs] at h1
 have h2:=split_short (List.mem_filter.mp h1).1
 have h3:((cs row).takeWhile fun a=>!decide (a = 59)).length≤(cs row).length:=(List.takeWhile_sublist _).length_le
 rw [cs_len] at h2 h3
 omega
theorem pieces_few (row:Str):(pieces row).length≤row.length + 2:=by
 unfold pieces
 have h1:=List.length_filter_le (fun (p:Str)=>!decide (p = "")) (Txt.split (partS row 59) " ")
 have h2:=split_len (partS row 59) " "
 have h3:=part_len row 59
 omega
theorem line_ok {row:Str} {n:Int} {L:Ln} (e:readLine row n = .ok L) :
  (∃ p r,pieces row = p::r∧(cs p)[(cs p).length - 1]? = some 58∧isName (oc ((cs p).take ((cs p).length - 1))) = true∧readRest { newLn n with label:=some (oc ((cs p).take ((cs p).length - 1))) } r = .ok L) ∨
  (∀ p r,pieces row = p::r→¬ (cs p)[(cs p).length - 1]? = some 58)∧readRest (newLn n) (pieces row) = .ok L:=by
 unfold readLine at e
 cases g:pieces row with
 | nil =>
  rw [g] at e
  exact .inr ⟨fun p r z=>(by cases z),e⟩
 | cons p r =>
  rw [g] at e
  dsimp only at e
  by_cases g1:(cs p)[(cs p).length - 1]? = some 58
  ·rw [if_pos g1] at e
   by_cases g2:isName (oc ((cs p).take ((cs p).length - 1))) = true
   ·rw [if_pos g2] at e
    exact .inl ⟨p,r,rfl,g1,g2,e⟩
   ·rw [if_neg g2] at e
    cases e
  ·rw [if_neg g1] at e
   exact .inr ⟨fun a b z=>by cases z;exact g1,e⟩
theorem ok_line (R:Raw K mg "read_line" s_read_line) (T:TxtN K mg CL) (M_Line:GC P w K mg base "Line" CL ["self","number"] 1 (sp_initL CL)) (G_pieces_of:GF P w K mg base "pieces_of" ["row"] 1 sp_pieces) (G_read_label:GF P w K mg base "read_label" ["line","piece"] 3 (sp_label CL))
  (G_read_deed:GF P w K mg base "read_deed" ["line","name","behind"] 6 (sp_deed K CL)):GF P w K mg base "read_line" ["row","number"] 7 (sp_line CL):=by
 refine GF.mk R sc_read_line (by wtm_at "2") (fun vs H Q E h=>?_) (fun f cdv A outer s H vs Q E hr h=>?_)
 ·obtain ⟨row,n,L,rfl,_⟩:=h;rfl
 ·obtain ⟨row,n,L,rfl,hl,e,k⟩:=h
  refine ⟨_,(@pss_cons _ _ _ _ _ (@ps_set _ _ (2) _ _ _ _ sc_read_line.nd rfl (Or.inl rfl) (@pe_gmakeN _ _ _ _ _ _ _ _ _ _ _ M_Line (hr.mono (by decide)) rfl (@pa_c _ _ _ _ _ (pv 1) pa_nil rfl) (by decide) rfl) rfl (by first | exact .inl rfl | exact .inr rfl | assumption)) (@pss_cons _ _ _ _ _ (@ps_set _ _ (3) _ _ _ _ sc_read_line.nd rfl (Or.inl rfl) (@pe_gcallN _ _ _ _ _ _ _ _ _ _ G_pieces_of (hr.mono (by decide)) rfl (@pa_c _ _ _ _ _ (pv 0) pa_nil rfl) (by decide) rfl) rfl (by first | exact .inl rfl | exact .inr rfl | assumption)) (@pss_cons _ _ _ _ _ (@ps_cut _ _ _ (@ps_if _ _ _ _ _ _ _ _ (@PW.pt _ _ _ (@pw_and _ _ _ _ _ _ _ (@pt_cmpR _ _ _ _ _ _ _ _ op_gt (@pe_callBN _ _ _ _ _ _ _ _ _ (call_len_seqN (K:=K) rfl) (by rfl) T.len_ bo_len (@pa_c _ _ _ _ _ (pv 3) pa_nil rfl) (by decide) (by decide) rfl) pe_int (nomark _)) (@pw_and1 _ _ _ _ (@pt_val _ _ _ (pe_bm PySem.F.plainAttrs_str PySem.F.slot_str_endswith PySem.F.type_str_endswith mt_ends (@pe_ix _ _ _ _ _ _ _ (ix_listK (K:=K) rfl) (pv 3) pe_int (fun _ _=>rfl)) (@pa_c _ _ _ _ _ pe_str pa_nil rfl)) (fun _=>rfl))))) (@pss_cons _ _ _ _ _ (@ps_expr _ _ _ _ (@pe_gcallN _ _ _ _ _ _ _ _ _ _ G_read_label (hr.mono (by decide)) rfl (@pa_c _ _ _ _ _ (pv 2) (@pa_c _ _ _ _ _ (@pe_ix _ _ _ _ _ _ _ (ix_listK (K:=K) rfl) (pv 3) pe_int (fun _ _=>rfl)) pa_nil rfl) rfl) (by decide) rfl) rfl) (@pss_one _ _ _ (@ps_set _ _ (3) _ _ _ _ sc_read_line.nd rfl (Or.inl rfl) (@pe_slice _ _ _ _ _ _ _ _ _ _ (sl_listK (K:=K) rfl) (pv 3) (@po_some _ _ _ pe_int) po_none) rfl (by first | exact .inl rfl | exact .inr rfl | assumption)))) pss_nil)) (@pss_cons _ _ _ _ _ (@ps_cut _ _ _ (@ps_if _ _ _ _ _ _ _ _ (@pt_cmpR _ _ _ _ _ _ _ _ op_gt (@pe_callBN _ _ _ _ _ _ _ _ _ (call_len_seqN (K:=K) rfl) (by rfl) T.len_ bo_len (@pa_c _ _ _ _ _ (pv 3) pa_nil rfl) (by decide) (by decide) rfl) pe_int (nomark _)) (@pss_one _ _ _ (@ps_expr _ _ _ _ (@pe_gcallN _ _ _ _ _ _ _ _ _ _ G_read_deed (hr.mono (by decide)) rfl (@pa_c _ _ _ _ _ (pv 2) (@pa_c _ _ _ _ _ (@pe_ix _ _ _ _ _ _ _ (ix_listK (K:=K) rfl) (pv 3) pe_int (fun _ _=>rfl)) (@pa_c _ _ _ _ _ (@pe_slice _ _ _ _ _ _ _ _ _ _ (sl_listK (K:=K) rfl) (pv 3) (@po_some _ _ _ pe_int) po_none) pa_nil rfl) rfl) rfl) (by decide) rfl) rfl)) pss_nil)) (@pss_one _ _ _ (@ps_ret _ _ _ _ (pv 2))))))),?_⟩
  wtm_at "xx"
  refine make_l fun A H1 na nl hA1 s1=>?_
  wtm_at "xx"
  refine ⟨row,rfl,hl,fun b H2 n2 h2 s2=>?_⟩
  have hA2:=hA1.keep s2
  have hfew:=pieces_few row
  have hshort:∀ t∈pieces row,t.length≤2000:=fun t ht=>Nat.le_trans (pieces_short ht) hl
  have s02:=s1.trans s2
  have hbl:b≠A.l:=fun z=>by
   obtain ⟨rs,er,_⟩:=hA1.t
   rw [z,er] at n2
   cases n2
  wtm_at "xx"
  refine Sx.cut (fun σ' H'=>∃ (b':Addr) (ts':List Str) (L1:Ln),σ' = [some (.str row),some (.int n),some (.ref A.a),some (.ref b')]∧H' b' = some (.lst (ts'.map V.str))∧LnAt CL H' A L1∧FrX H2 H' [A.a,A.l]∧readRest L1 ts' = .ok L∧(∀ t∈ts',t.length≤2000)∧ts'.length≤3000∧L1.terms = []) ?_ ?_
  ·have no:(∀ p r,pieces row = p::r→¬ (cs p)[(cs p).length - 1]? = some 58)→∃ (b':Addr) (ts':List Str) (L1:Ln),([some (.str row),some (.int n),some (.ref A.a),some (.ref b)]:St) = [some (.str row),some (.int n),some (.ref A.a),some (.ref b')]∧H2 b' = some (.lst (ts'.map V.str))∧LnAt CL H2 A L1∧FrX H2 H2 [A.a,A.l]∧readRest L1 ts' = .ok L∧(∀ t∈ts',t.length≤2000)∧ts'.length≤3000∧L1.terms = []:=fun z=>by
    rcases line_ok e with ⟨p,r,ep,g1,_⟩ | ⟨_,e2⟩
    ·exact absurd g1 (z p r ep)
    ·exact ⟨b,_,newLn n,rfl,h2,hA2,.refl,e2,hshort,by omega,rfl⟩
   wtm_at "xx"
   refine ⟨b,_,rfl,.inl (SqL.of h2),?_⟩
   wtm_at "xx"
   refine iteD (fun g=>?_) (fun g=>?_)
   ·cases ep:pieces row with
    | nil=>rw [ep] at g;exact absurd g (by decide)
    | cons p r =>
     rw [ep] at h2 hshort hfew
     wtm_at "xx"
     refine Sx.ixL h2 at0 ?_
     wtm_at "xx"
     refine ⟨p,":",rfl,rfl,?_⟩
     rw [show (":" : Str) = ⟨#[58]⟩ from by decide +kernel,tend]
     wtm_at "xx"
     refine iteD (fun g2=>?_) (fun g2=>?_)
     ·rcases line_ok e with ⟨p',r',ep',_,hn,e2⟩ | ⟨z,_⟩
      ·rw [ep] at ep'
       cases ep'
       wtm_at "xx"
       refine Sx.ixL h2 at0 ?_
       wtm_at "xx"
       refine ⟨A,_,p,rfl,hA2,hshort p List.mem_cons_self,hn,fun H3 hA3 fr3=>?_⟩
       have hb3:H3 b = some (.lst ((p::r).map V.str)):=fr3.1 _ _ h2 (by simp [hbl];exact fun z=>by rw [z,hA2.o] at h2;cases h2)
       wtm_at "xx"
       refine Sx.slN (SqL.of hb3) fun p2 H4 n4 h4 s4=>?_
       rw [show cutV (List.map V.str (p::r)) (some 1) none = r.map V.str from by rw [show (1:Int) = ((1:Nat):Int) from rfl,cutFrom];rfl] at h4
       wtm_at "xx"
       exact ⟨p2,r,_,rfl,h4,hA3.keep s4,fr3.trans (.same s4),e2,fun t ht=>hshort t (List.mem_cons_of_mem _ ht),by rw [List.length_cons] at hfew;omega,rfl⟩
      ·exact absurd g2 (z p r ep)
     ·wtm_at "xx"
      rw [← ep] at h2 hshort hfew
      exact no fun p' r' z=>by rw [ep] at z;cases z;exact g2
   ·wtm_at "xx"
    refine no fun p r z=>absurd (show (0:Int) < ((List.map V.str (pieces row)).length:Nat) from by rw [z,List.length_map,List.length_cons];omega) g
  ·rintro σ' H3 ⟨b',ts',L1,rfl,h3,hA3,fr3,e3,hz3,hl3,ht3⟩
   wtm_at "xx"
   refine Sx.cut (fun σ' H'=>(∃ x,σ' = [some (.str row),some (.int n),some (.ref A.a),x])∧LnAt CL H' A L∧FrX H2 H' [A.a,A.l]) ?_ ?_
   ·wtm_at "xx"
    refine ⟨b',_,rfl,.inl (SqL.of h3),?_⟩
    wtm_at "xx"
    cases ts' with
    | nil =>
     refine iteD (fun g=>absurd g (by decide)) (fun g=>?_)
     cases e3
     wtm_at "xx"
     exact ⟨⟨_,rfl⟩,hA3,fr3⟩
    | cons p r =>
     refine iteD (fun g=>?_) (fun g=>absurd (show (0:Int) < ((List.map V.str (p::r)).length:Nat) from by rw [List.length_map,List.length_cons];omega) g)
     wtm_at "xx"
     refine Sx.ixL h3 at0 ?_
     wtm_at "xx"
     refine Sx.slN (SqL.of h3) fun p2 H4 n4 h4 s4=>?_
     rw [show cutV (List.map V.str (p::r)) (some 1) none = r.map V.str from by rw [show (1:Int) = ((1:Nat):Int) from rfl,cutFrom];rfl] at h4
     wtm_at "xx"
     exact ⟨A,L1,L,p2,p,r,rfl,hA3.keep s4,h4,fun t ht=>hz3 t (List.mem_cons_of_mem _ ht),by rw [List.length_cons] at hl3;omega,by rw [ht3];exact Nat.zero_le _,e3,fun H' hA' fr'=>⟨⟨_,rfl⟩,hA',(fr3.trans (.same s4)).trans fr'⟩⟩
   ·rintro σ' H4 ⟨⟨x,rfl⟩,hA4,fr4⟩
    wtm_at "xx"
    exact k A H4 na nl hA4 fun b o e=>fr4.1 b o (s02 b o e) (by
     intro z
     rcases List.mem_cons.mp z with z | z
     ·rw [z,na] at e;cases e
     ·rw [List.mem_singleton.mp z,nl] at e;cases e)
end
end Sc
namespace Sc
open PySem L2 Tx Ls
structure SAd where
 s:Addr
 dx:Addr
 dl:Addr
 dm:Addr
 dp:Addr
def footS (A:SAd):List Addr:=[A.s,A.dl,A.dm,A.dp]
def labK (l:List (Str×Int)):List (Key×V):=l.map fun p=>(.inr p.1,.int p.2)
def intK (l:List (Int×Int)):List (Key×V):=l.map fun p=>(.inl p.1,.int p.2)
theorem lab_val (x:Str):∀ l:List (Str×Int),valV (labK l) (.inr x) = (l.lookup x).map V.int
 | []=>rfl
 | (y,v)::r=>by
  have ih:=lab_val x r
  show valV ((Sum.inr y,V.int v)::labK r) (.inr x) = _
  by_cases e:y = x
  ·subst e
   rw [valV_pos rfl,List.lookup_cons,show (y == y) = true from beq_self_eq_true y]
   rfl
  ·rw [valV_neg (fun z=>e (Sum.inr.inj z)),List.lookup_cons,show (x == y) = false from beq_eq_false_iff_ne.mpr (fun z=>e z.symm)]
   exact ih
theorem int_val (x:Int):∀ l:List (Int×Int),valV (intK l) (.inl x) = (l.lookup x).map V.int
 | []=>rfl
 | (y,v)::r=>by
  have ih:=int_val x r
  show valV ((Sum.inl y,V.int v)::intK r) (.inl x) = _
  by_cases e:y = x
  ·subst e
   rw [valV_pos rfl,List.lookup_cons,show (y == y) = true from beq_self_eq_true y]
   rfl
  ·rw [valV_neg (fun z=>e (Sum.inl.inj z)),List.lookup_cons,show (x == y) = false from beq_eq_false_iff_ne.mpr (fun z=>e z.symm)]
   exact ih
theorem put_new {kvs:List (Key×V)} {k:Key} {v:V} (h:valV kvs k = none):putK kvs k v = kvs ++ [(k,v)]:=by
 unfold putK
 rw [valV_any,h]
 rfl
def fldsS (A:SAd) (S:Sh):List (Str×V):=[("labels",.ref A.dl),("made",.ref A.dm),("pool",.ref A.dp),("here",.int S.here)]
theorem len_fldsS (A:SAd) (S:Sh):(fldsS A S).length < 1000:=by show 4 < 1000;decide
theorem lk_labels (A:SAd) (S:Sh):(fldsS A S).lookup ("labels" : Str) = some (.ref A.dl):=by
 unfold fldsS;exact look_hit
theorem lk_made (A:SAd) (S:Sh):(fldsS A S).lookup ("made" : Str) = some (.ref A.dm):=by
 unfold fldsS;wtm_at "l"
theorem lk_pool (A:SAd) (S:Sh):(fldsS A S).lookup ("pool" : Str) = some (.ref A.dp):=by
 unfold fldsS;wtm_at "l"
theorem lk_here (A:SAd) (S:Sh):(fldsS A S).lookup ("here" : Str) = some (.int S.here):=by
 unfold fldsS;wtm_at "l"
theorem pf_here (A:SAd) (S:Sh) (x:Int):putF "here" (.int x) (fldsS A S) = fldsS A { S with here:=x }:=by
 unfold fldsS;wtm_at "p"
structure ShAt (CS:Addr) (H:Hp) (A:SAd) (S:Sh):Prop where
 o:H A.s = some (.ins CS A.dx (fldsS A S))
 l:H A.dl = some (.dK (labK S.labels))
 m:H A.dm = some (.dK (intK S.made))
 p:H A.dp = some (.dK (intK S.pool))
 nd:(footS A).Nodup
structure TxtT (K:PySem.W.Frag) (mg:Str→Option Value) (CL CS:Addr):Prop extends TxtN K mg CL where
 clS:Cls K CS
 n_labels:NoAttr K CS "labels"
 n_made:NoAttr K CS "made"
 n_pool:NoAttr K CS "pool"
 n_here:NoAttr K CS "here"
 PLACES:IntG mg "PLACES" 64
 WORDS:IntG mg "WORDS" 1024
 int_:mg "int" = none
 range_:mg "range" = none
section
variable {CS CL:Addr} {H H':Hp} {A:SAd} {B:LAd} {S S':Sh} {L:Ln}
theorem ShAt.nds (h:ShAt CS H A S):(¬ A.s = A.dl∧¬ A.s = A.dm∧¬ A.s = A.dp)∧(¬ A.dl = A.dm∧¬ A.dl = A.dp)∧¬ A.dm = A.dp:=by
 have n:=h.nd
 unfold footS at n
 simp only [List.nodup_cons,List.mem_cons,List.not_mem_nil,not_or,or_false,not_false_eq_true,and_true,List.nodup_nil] at n
 exact ⟨n.1,n.2.1,n.2.2⟩
theorem ShAt.keep (h:ShAt CS H A S) (s:Same H H'):ShAt CS H' A S:=⟨s _ _ h.o,s _ _ h.l,s _ _ h.m,s _ _ h.p,h.nd⟩
theorem ShAt.kind (h:ShAt CS H A S) {x:Addr} (hx:x∈footS A):∀ xs,H x≠some (.tup xs)∧H x≠some (.lst xs):=by
 intro xs
 unfold footS at hx
 simp only [List.mem_cons,List.not_mem_nil,or_false] at hx
 rcases hx with rfl | rfl | rfl | rfl
 ·rw [h.o];exact ⟨(nomatch ·),(nomatch ·)⟩
 ·rw [h.l];exact ⟨(nomatch ·),(nomatch ·)⟩
 ·rw [h.m];exact ⟨(nomatch ·),(nomatch ·)⟩
 ·rw [h.p];exact ⟨(nomatch ·),(nomatch ·)⟩
theorem ShAt.frU (h:ShAt CS H A S) {x:Addr} {o:HO} (hx:x∈footS A):FrX H (upd H x o) (footS A):=.at_ hx fun xs=>(h.kind hx xs).1
def Apart (A:SAd) (B:LAd):Prop:=B.a∉footS A∧B.l∉footS A
theorem LnAt.frS {A:SAd} (h:LnAt CL H B L) (f:FrX H H' (footS A)) (a:Apart A B):LnAt CL H' B L:=h.fr f a.1 a.2
theorem ShAt.setL (h:ShAt CS H A S) {l:List (Str×Int)}:ShAt CS (upd H A.dl (.dK (labK l))) A { S with labels:=l } :=
 ⟨by rw [upd_ne h.nds.1.1];exact h.o,upd_same,by rw [upd_ne (Ne.symm h.nds.2.1.1)];exact h.m,by rw [upd_ne (Ne.symm h.nds.2.1.2)];exact h.p,h.nd⟩
theorem ShAt.setM (h:ShAt CS H A S) {l:List (Int×Int)}:ShAt CS (upd H A.dm (.dK (intK l))) A { S with made:=l } :=
 ⟨by rw [upd_ne h.nds.1.2.1];exact h.o,by rw [upd_ne h.nds.2.1.1];exact h.l,upd_same,by rw [upd_ne (Ne.symm h.nds.2.2)];exact h.p,h.nd⟩
theorem ShAt.setP (h:ShAt CS H A S) {l:List (Int×Int)}:ShAt CS (upd H A.dp (.dK (intK l))) A { S with pool:=l } :=
 ⟨by rw [upd_ne h.nds.1.2.2];exact h.o,by rw [upd_ne h.nds.2.1.2];exact h.l,by rw [upd_ne h.nds.2.2];exact h.m,upd_same,h.nd⟩
theorem ShAt.setH (h:ShAt CS H A S) {i:Int}:ShAt CS (upd H A.s (.ins CS A.dx (fldsS A { S with here:=i }))) A { S with here:=i } :=
 ⟨upd_same,by rw [upd_ne (Ne.symm h.nds.1.1)];exact h.l,by rw [upd_ne (Ne.symm h.nds.1.2.1)];exact h.m,by rw [upd_ne (Ne.symm h.nds.1.2.2)];exact h.p,h.nd⟩
end
def WfL (L:Ln):Prop:=∀ p∈L.terms,(p.1 = 1∨p.1 = -1)∧isTerm p.2 = true
section
variable {P:Program} {w:World} {K:PySem.W.Frag} {mg:Str→Option Value} {base:Heap} {CL CS:Addr}
def sp_makes (CL:Addr):Sp:=fun vs H Q _=>∃ (B:LAd) (L:Ln),vs = [.ref B.a]∧LnAt CL H B L∧Q (.bl (makes L)) H
def sp_tell (CL CS:Addr):Sp:=fun vs H Q _=>∃ (A:SAd) (B:LAd) (S S':Sh) (L:Ln),vs = [.ref A.s,.ref B.a]∧ShAt CS H A S∧LnAt CL H B L∧S.labels.length≤100000∧tellLabel S L = .ok S'∧∀ H',ShAt CS H' A S'→FrX H H' (footS A)→Q .non H'
def sp_tval (CL CS:Addr):Sp:=fun vs H Q _=>∃ (A:SAd) (B:LAd) (S:Sh) (L:Ln) (t:Str) (v:Int),vs = [.ref A.s,.ref B.a,.str t]∧ShAt CS H A S∧LnAt CL H B L∧isTerm t = true∧termVal S L.num t = .ok v∧Q (.int v) H
def sp_bound (CL CS:Addr):Sp:=fun vs H Q _=>∃ (A:SAd) (B:LAd) (S:Sh) (L:Ln) (b v:Int),vs = [.ref A.s,.ref B.a,.int b]∧ShAt CS H A S∧LnAt CL H B L∧WfL L∧boundVal S L b = .ok v∧Q (.int v) H
def sp_mcell (CL CS:Addr):Sp:=fun vs H Q _=>∃ (A:SAd) (B:LAd) (S S':Sh) (L:Ln) (i c:Int),vs = [.ref A.s,.ref B.a,.int i,.int c]∧ShAt CS H A S∧LnAt CL H B L∧S.made.length≤100000∧makeCell S L.num i c = .ok S'∧∀ H',ShAt CS H' A S'→FrX H H' (footS A)→Q .non H'
def sp_move (CL CS:Addr):Sp:=fun vs H Q _=>∃ (A:SAd) (B:LAd) (S S':Sh) (L:Ln),vs = [.ref A.s,.ref B.a]∧ShAt CS H A S∧LnAt CL H B L∧WfL L∧moveHere S L = .ok S'∧∀ H',ShAt CS H' A S'→FrX H H' (footS A)→Q .non H'
theorem ok_makes (R:Raw K mg "makes_cell" s_makes_cell) (T:TxtT K mg CL CS):GF P w K mg base "makes_cell" ["line"] 1 (sp_makes CL):=by
 refine GF.mk R sc_makes_cell (by wtm_at "1") (fun vs H Q E h=>?_) (fun f cdv A outer s H vs Q E hr h=>?_)
 ·obtain ⟨B,L,rfl,_⟩:=h;rfl
 ·obtain ⟨B,L,rfl,hB,k⟩:=h
  refine ⟨_,(@pss_one _ _ _ (@ps_ret _ _ _ _ (@pe_and _ _ _ _ _ _ _ (@pe_cmpR _ _ _ _ _ _ _ _ op_notN (@pe_fldK _ (K) _ _ _ _ rfl (pv 0) rfl) pe_non (nomark _)) (@pe_one _ _ _ _ _ (@pe_cmpR _ _ _ _ _ _ _ _ op_ne (@pe_fldK _ (K) _ _ _ _ rfl (pv 0) rfl) pe_str (nomark _)))))),?_⟩
  wtm_at "xx"
  refine Sx.atF hB.o T.clL T.n_name (lk_name _ _) ?_
  unfold makes at k
  cases en:L.name with
  | none =>
   rw [en] at k
   wtm_at "xx"
   exact k
  | some x =>
   rw [en] at k
   wtm_at "xx"
   refine iteN (fun _=>?_) (fun g=>by cases g)
   wtm_at "xx"
   refine Sx.atF hB.o T.clL T.n_name (lk_name _ _) ?_
   rw [en]
   show rNe (.str x) (.str "place") H _
   wtm_at "xx"
   exact k
theorem ok_tell (R:Raw K mg "tell_label" s_tell_label) (T:TxtT K mg CL CS):GF P w K mg base "tell_label" ["sheet","line"] 1 (sp_tell CL CS):=by
 refine GF.mk R sc_tell_label (by wtm_at "2") (fun vs H Q E h=>?_) (fun f cdv A outer s H vs Q E hr h=>?_)
 ·obtain ⟨A,B,S,S',L,rfl,_⟩:=h;rfl
 ·obtain ⟨A,B,S,S',L,rfl,hA,hB,hz,e,k⟩:=h
  refine ⟨_,(@pss_one _ _ _ (@ps_if _ _ _ _ _ _ _ _ (@pt_cmpR _ _ _ _ _ _ _ _ op_notN (@pe_fldK _ (K) _ _ _ _ rfl (pv 1) rfl) pe_non (nomark _)) (@pss_cons _ _ _ _ _ (@ps_if _ _ _ _ _ _ _ _ (@pt_cmpR _ _ _ _ _ _ _ _ (op_inD (hu1 hr)) (@pe_fldK _ (K) _ _ _ _ rfl (pv 1) rfl) (@pe_fldK _ (K) _ _ _ _ rfl (pv 0) rfl) (by with_unfolding_all rfl)) (@pss_one _ _ _ ps_never) pss_nil) (@pss_one _ _ _ (@ps_dput _ _ _ _ _ _ _ _ _ (hu1 hr) (@pe_fldK _ (K) _ _ _ _ rfl (pv 0) rfl) (@pe_fldK _ (K) _ _ _ _ rfl (pv 1) rfl) (@pe_fldK _ (K) _ _ _ _ rfl (pv 0) rfl) rfl))) pss_nil)),?_⟩
  wtm_at "xx"
  refine Sx.atF hB.o T.clL T.n_label (lk_label _ _) ?_
  unfold tellLabel at e
  cases en:L.label with
  | none =>
   rw [en] at e
   cases e
   wtm_at "xx"
   exact k _ hA .refl
  | some x =>
   rw [en] at e
   dsimp only at e
   wtm_at "xx"
   refine iteN (fun _=>?_) (fun g=>by cases g)
   cases el:S.labels.lookup x with
   | some i=>rw [el] at e;cases e
   | none =>
    rw [el] at e
    cases e
    have hv:valV (labK S.labels) (.inr x) = none:=by rw [lab_val,el];rfl
    wtm_at "xx"
    refine Sx.atF hB.o T.clL T.n_label (lk_label _ _) ?_
    rw [en]
    wtm_at "xx"
    refine Sx.atF hA.o T.clS T.n_labels (lk_labels _ _) ?_
    refine ⟨A.dl,none,rfl,by rw [← hv];exact DGet.k (k:=.inr x) hA.l,?_⟩
    wtm_at "xx"
    refine iteF ?_
    wtm_at "xx"
    refine Sx.atF hA.o T.clS T.n_here (lk_here _ _) ?_
    wtm_at "xx"
    refine Sx.atF hA.o T.clS T.n_labels (lk_labels _ _) ?_
    wtm_at "xx"
    refine Sx.atF hB.o T.clL T.n_label (lk_label _ _) ?_
    rw [en]
    have hzz:=sz
    refine ⟨A.dl,_,rfl,DPut.k (k:=.inr x) hA.l (by unfold labK;rw [List.length_map];show _ < sizeLine;rw [sizeLine_eq];omega),?_⟩
    rw [put_new hv,show labK S.labels ++ [((.inr x:Key),V.int S.here)] = labK (S.labels ++ [(x,S.here)]) from by unfold labK;rw [List.map_append];rfl]
    exact k _ hA.setL (hA.frU (by simp [footS]))
theorem fig_iff (c:Nat):isFig c = true↔48≤c∧c≤57:=by
 unfold isFig
 rw [decide_eq_true_eq,show cs figures = [48,49,50,51,52,53,54,55,56,57] from by decide +kernel]
 simp only [List.mem_cons,List.not_mem_nil,or_false]
 omega
theorem let_not_fig {c:Nat} (h:isLet c = true):isFig c = false:=by
 cases g:isFig c with
 | false=>rfl
 | true =>
  have:=(fig_iff c).mp g
  unfold isLet at h
  rw [decide_eq_true_eq,show cs letters = (List.range 26).map (97 + ·) from by decide +kernel] at h
  obtain ⟨i,_,rfl⟩:=List.mem_map.mp h
  omega
theorem digs {l:List Nat} (h:∀ c∈l,48≤c∧c≤57):((NumText.digitsVal l:Nat):Int) = figVal l:=by
 unfold NumText.digitsVal figVal
 have go:∀ (l:List Nat) (a:Nat),(∀ c∈l,48≤c∧c≤57)→((l.foldl (fun acc c=>acc * 10 + (c - 48)) a:Nat):Int) = l.foldl (fun (v:Int) (c:Nat)=>v * 10 + ((c:Int) - 48)) (a:Int):=by
  intro l
  induction l with
  | nil=>intro a _;rfl
  | cons c r ih =>
   intro a h
   rw [List.foldl_cons,List.foldl_cons,ih _ fun x hx=>h x (List.mem_cons_of_mem _ hx)]
   have hc:=h c List.mem_cons_self
   congr 1
   omega
 exact go l 0 h
theorem ok_tval (R:Raw K mg "term_value" s_term_value) (T:TxtT K mg CL CS):GF P w K mg base "term_value" ["sheet","line","term"] 1 (sp_tval CL CS):=by
 refine GF.mk R sc_term_value (by wtm_at "3") (fun vs H Q E h=>?_) (fun f cdv A outer s H vs Q E hr h=>?_)
 ·obtain ⟨A,B,S,L,t,v,rfl,_⟩:=h;rfl
 ·obtain ⟨A,B,S,L,t,v,rfl,hA,hB,ht,e,k⟩:=h
  refine ⟨_,(@pss_cons _ _ _ _ _ (@ps_if _ _ _ _ _ _ _ _ (@pt_cmpR _ _ _ _ _ _ _ _ op_eq (pv 2) pe_str (nomark _)) (@pss_one _ _ _ (@ps_ret _ _ _ _ (@pe_fldK _ (K) _ _ _ _ rfl (pv 0) rfl))) pss_nil) (@pss_cons _ _ _ _ _ (@ps_if _ _ _ _ _ _ _ _ (@pt_cmpR _ _ _ _ _ _ _ _ op_inS (@pe_ix _ _ _ _ _ _ _ ix_str (pv 2) pe_int (fun _ _=>rfl)) (@pe_gstr _ _ _ _ rfl T.FIGURES (by decide)) (by with_unfolding_all rfl)) (@pss_one _ _ _ (@ps_ret _ _ _ _ (@pe_callTyN _ _ _ _ _ _ _ _ _ call_intS (by rfl) T.int_ bo_int (@pa_c _ _ _ _ _ (pv 2) pa_nil rfl) (by decide) (by decide) rfl))) pss_nil) (@pss_cons _ _ _ _ _ (@ps_if _ _ _ _ _ _ _ _ (@pt_cmpR _ _ _ _ _ _ _ _ (op_notInD (hu1 hr)) (pv 2) (@pe_fldK _ (K) _ _ _ _ rfl (pv 0) rfl) (by with_unfolding_all rfl)) (@pss_one _ _ _ ps_never) pss_nil) (@pss_one _ _ _ (@ps_ret _ _ _ _ (@pe_dget _ _ _ _ _ _ (hu1 hr) (@pe_fldK _ (K) _ _ _ _ rfl (pv 0) rfl) (pv 2) (fun _ _=>rfl))))))),?_⟩
  unfold termVal at e
  wtm_at "xx"
  refine iteD (fun g=>?_) (fun g=>?_)
  ·rw [if_pos g] at e
   cases e
   wtm_at "xx"
   refine Sx.atF hA.o T.clS T.n_here (lk_here _ _) ?_
   exact k
  rw [if_neg g] at e
  unfold isTerm at ht
  rw [decide_eq_false g,Bool.false_or,Bool.or_eq_true] at ht
  have hc:∃ c r,cs t = c::r∧t.length≤8∧(isFig c = true→∀ x∈cs t,isFig x = true):=by
   rcases ht with ht | ht
   ·unfold isName shortName at ht
    simp only [Bool.and_eq_true,decide_eq_true_eq] at ht
    obtain ⟨⟨⟨h1,h2⟩,h3,h4⟩,_⟩:=ht
    cases g:cs t with
    | nil=>rw [g] at h3;cases h3
    | cons c r =>
     rw [g] at h3
     exact ⟨c,r,rfl,h2,fun z=>by rw [let_not_fig h3] at z;cases z⟩
   ·unfold isFigs at ht
    simp only [Bool.and_eq_true,decide_eq_true_eq,List.all_eq_true] at ht
    cases g:cs t with
    | nil=>have:=cs_len t;rw [g] at this;have:t.length = 0:=this.symm;omega
    | cons c r=>rw [g] at ht;exact ⟨c,r,rfl,by omega,fun _=>ht.2⟩
  obtain ⟨c,r,ec,hl,hf⟩:=hc
  have hz:=sz
  wtm_at "xx"
  refine ⟨t,0,c,rfl,rfl,by omega,by show atI (cs t) 0 = _;rw [ec];exact at0,?_⟩
  wtm_at "xx"
  refine xSign ?_
  wtm_at "xx"
  refine iteD (fun g2=>?_) (fun g2=>?_)
  ·have hc1:isFig c = true:=decide_eq_true g2
   rw [ec] at e
   rw [if_pos (show (c::r).head?.any isFig = true from hc1),← ec] at e
   cases e
   have hd:∀ x∈cs t,48≤x∧x≤57:=fun x hx=>(fig_iff x).mp (hf hc1 x hx)
   wtm_at "xx"
   refine ⟨t,rfl,hd,by show cs t≠[];rw [ec];exact List.cons_ne_nil _ _,by omega,?_⟩
   rw [show NumText.digitsVal t.cps.toList = NumText.digitsVal (cs t) from rfl,digs hd]
   exact k
  ·have hc1:isFig c = false:=decide_eq_false g2
   rw [ec] at e
   rw [if_neg (by show ¬ isFig c = true;rw [hc1];exact Bool.false_ne_true)] at e
   cases el:S.labels.lookup t with
   | none=>rw [el] at e;cases e
   | some i =>
    rw [el] at e
    cases e
    have hv:valV (labK S.labels) (.inr t) = some (.int v):=by rw [lab_val,el];rfl
    wtm_at "xx"
    refine Sx.atF hA.o T.clS T.n_labels (lk_labels _ _) ?_
    refine ⟨A.dl,some (.int v),rfl,by rw [← hv];exact DGet.k (k:=.inr t) hA.l,?_⟩
    wtm_at "xx"
    refine Sx.iteNT ?_
    wtm_at "xx"
    refine Sx.atF hA.o T.clS T.n_labels (lk_labels _ _) ?_
    wtm_at "xx"
    exact ⟨A.dl,.int v,rfl,by rw [← hv];exact DGet.k (k:=.inr t) hA.l,k⟩
theorem ok_mcell (R:Raw K mg "make_cell" s_make_cell) (T:TxtT K mg CL CS):GF P w K mg base "make_cell" ["sheet","line","place","made_word"] 1 (sp_mcell CL CS):=by
 refine GF.mk R sc_make_cell (fun _ _ _ _ _ _ us hl=>match us,hl with | [_,_,_,_],_=>rfl) (fun vs H Q E h=>?_) (fun f cdv A outer s H vs Q E hr h=>?_)
 ·obtain ⟨A,B,S,S',L,i,c,rfl,_⟩:=h;rfl
 ·obtain ⟨A,B,S,S',L,i,c,rfl,hA,hB,hz,e,k⟩:=h
  refine ⟨_,(@pss_cons _ _ _ _ _ (@ps_if _ _ _ _ _ _ _ _ (@PW.pt _ _ _ (@pw_or _ _ _ _ _ _ _ (@pt_cmpR _ _ _ _ _ _ _ _ op_lt (pv 2) pe_int (nomark _)) (@pw_or1 _ _ _ _ (@pt_cmpR _ _ _ _ _ _ _ _ (op_inD (hu1 hr)) (pv 2) (@pe_fldK _ (K) _ _ _ _ rfl (pv 0) rfl) (by with_unfolding_all rfl))))) (@pss_one _ _ _ ps_never) pss_nil) (@pss_one _ _ _ (@ps_dput _ _ _ _ _ _ _ _ _ (hu1 hr) (@pe_fldK _ (K) _ _ _ _ rfl (pv 0) rfl) (pv 2) (pv 3) rfl))),?_⟩
  unfold makeCell at e
  wtm_at "xx"
  refine iteD (fun g=>?_) (fun g=>?_)
  ·rw [if_pos g] at e
   cases e
  rw [if_neg g] at e
  cases el:S.made.lookup i with
  | some x=>rw [el] at e;cases e
  | none =>
   rw [el] at e
   cases e
   have hv:valV (intK S.made) (.inl i) = none:=by rw [int_val,el];rfl
   wtm_at "xx"
   refine Sx.atF hA.o T.clS T.n_made (lk_made _ _) ?_
   refine ⟨A.dm,none,rfl,by rw [← hv];exact DGet.k (k:=.inl i) hA.m,?_⟩
   wtm_at "xx"
   refine iteF ?_
   wtm_at "xx"
   refine Sx.atF hA.o T.clS T.n_made (lk_made _ _) ?_
   wtm_at "xx"
   refine ⟨A.dm,_,rfl,DPut.k (k:=.inl i) hA.m (by unfold intK;rw [List.length_map];show _ < sizeLine;rw [sizeLine_eq];omega),?_⟩
   rw [put_new hv,show intK S.made ++ [((.inl i:Key),V.int c)] = intK (S.made ++ [(i,c)]) from by unfold intK;rw [List.map_append];rfl]
   exact k _ hA.setM (hA.frU (by simp [footS]))
end
end Sc
namespace Sc
open PySem L2 Tx Ls
section
variable {P:Program} {w:World} {K:PySem.W.Frag} {mg:Str→Option Value} {base:Heap} {CL CS:Addr}
def sp_pool (CL CS:Addr):Sp:=fun vs H Q _=>∃ (A:SAd) (B:LAd) (S S':Sh) (L:Ln) (p:Int),vs = [.ref A.s,.ref B.a]∧ShAt CS H A S∧LnAt CL H B L∧Apart A B∧WfL L∧S.made.length≤100000∧S.pool.length≤100000∧poolPlace S L = .ok (S',p)∧∀ H',ShAt CS H' A S'→FrX H H' (footS A)→Q (.int p) H'
def sp_wof (CL CS:Addr):Sp:=fun vs H Q _=>∃ (A:SAd) (B:LAd) (S S':Sh) (L:Ln) (p:Int),vs = [.ref A.s,.ref B.a]∧ShAt CS H A S∧LnAt CL H B L∧Apart A B∧WfL L∧S.made.length≤100000∧S.pool.length≤100000∧wordOf S L = .ok (S',p)∧∀ H',ShAt CS H' A S'→FrX H H' (footS A)→Q (.int p) H'
theorem bound_ok {S:Sh} {L:Ln} {b v:Int} (e:boundVal S L b = .ok v):sumTerms S L.num L.terms 0 = .ok v∧0≤v∧v < b:=by
 unfold boundVal at e
 cases g:sumTerms S L.num L.terms 0 with
 | error x=>rw [g] at e;cases e
 | ok u =>
  rw [g] at e
  dsimp only at e
  split at e
  ·rename_i h
   cases e
   exact ⟨rfl,h.1,h.2⟩
  ·cases e
theorem ok_bound (R:Raw K mg "bounded_value" s_bounded_value) (T:TxtT K mg CL CS) (G_term_value:GF P w K mg base "term_value" ["sheet","line","term"] 1 (sp_tval CL CS)):GF P w K mg base "bounded_value" ["sheet","line","bound"] 2 (sp_bound CL CS):=by
 refine GF.mk R sc_bounded_value (by wtm_at "3") (fun vs H Q E h=>?_) (fun f cdv A outer s H vs Q E hr h=>?_)
 ·obtain ⟨A,B,S,L,b,v,rfl,_⟩:=h;rfl
 ·obtain ⟨A,B,S,L,b,v,rfl,hA,hB,hw,e,k⟩:=h
  obtain ⟨e1,h0,h1⟩:=bound_ok e
  obtain ⟨rs,er,nr,kr⟩:=hB.t
  refine ⟨_,(@pss_cons _ _ _ _ _ (@ps_set _ _ (3) _ _ _ _ sc_bounded_value.nd rfl (Or.inl rfl) pe_int rfl (by first | exact .inl rfl | exact .inr rfl | assumption)) (@pss_cons _ _ _ _ _ (@ps_for _ _ _ _ _ _ _ _ PassesOwn.never rfl (@pi_listK _ (K) _ _ _ rfl (@pe_fldK _ (K) _ _ _ _ rfl (pv 1) rfl)) (@pg_tupK _ (K) _ _ _ _ (2) rfl rfl (@pgs_cons _ _ _ _ _ (@pg_name _ _ (4) _ sc_bounded_value.nd rfl (Or.inl rfl) (by first | exact .inl rfl | exact .inr rfl | assumption)) (@pgs_cons _ _ _ _ _ (@pg_name _ _ (5) _ sc_bounded_value.nd rfl (Or.inl rfl) (by first | exact .inl rfl | exact .inr rfl | assumption)) pgs_nil rfl) rfl) rfl rfl) (@pss_one _ _ _ (@ps_set _ _ (3) _ _ _ _ sc_bounded_value.nd rfl (Or.inl rfl) (@pe_op _ _ _ _ _ _ _ _ op_add (pv 3) (@pe_op _ _ _ _ _ _ _ _ op_mul (pv 4) (@pe_gcallN _ _ _ _ _ _ _ _ _ _ G_term_value (hr.mono (by decide)) rfl (@pa_c _ _ _ _ _ (pv 0) (@pa_c _ _ _ _ _ (pv 1) (@pa_c _ _ _ _ _ (pv 5) pa_nil rfl) rfl) rfl) (by decide) rfl))) rfl (by first | exact .inl rfl | exact .inr rfl | assumption))) (fun _=>rfl)) (@pss_cons _ _ _ _ _ (@ps_if _ _ _ _ _ _ _ _ (@pt_not _ _ _ _ (@pt_chain _ _ _ _ _ _ _ _ _ _ _ _ op_le op_lt pe_int (pv 3) (pv 2) (by with_unfolding_all rfl))) (@pss_one _ _ _ ps_never) pss_nil) (@pss_one _ _ _ (@ps_ret _ _ _ _ (pv 3)))))),?_⟩
  wtm_at "xx"
  refine Sx.atF hB.o T.clL T.n_terms (lk_terms _ _) ?_
  refine ⟨B.l,rfl,⟨_,SqL.of er⟩,for_list (xs:=rs.map V.ref) (fun i σ' H'=>∃ (x:Int) (x4 x5:Option V),σ' = [some (.ref A.s),some (.ref B.a),some (.int b),some (.int x),x4,x5]∧H' = H∧sumTerms S L.num (L.terms.drop i) x = .ok v) ⟨0,_,_,rfl,rfl,e1⟩ (fun i σ' H' _ h=>by obtain ⟨_,_,_,_,rfl,_⟩:=h;exact SqL.of er) ?_ ?_⟩
  ·rintro i x σ' H' hx ⟨a,x4,x5,rfl,rfl,e2⟩
   rw [List.getElem?_map] at hx
   cases ex:rs[i]? with
   | none=>rw [ex] at hx;cases hx
   | some r =>
    rw [ex] at hx
    cases hx
    have hi:i < L.terms.length:=by rw [← nr];exact (List.getElem?_eq_some_iff.mp ex).1
    have et:L.terms[i]? = some L.terms[i]:=List.getElem?_eq_getElem hi
    have hr':=kr i r _ ex et
    have hwf:=hw _ (List.getElem_mem hi)
    rw [List.drop_eq_getElem_cons hi] at e2
    generalize L.terms[i] = q at hr' hwf e2
    obtain ⟨f,t⟩:=q
    unfold sumTerms at e2
    cases g:termVal S L.num t with
    | error z=>rw [g] at e2;cases e2
    | ok u =>
     rw [g] at e2
     refine ⟨r,_,rfl,SqT.of hr',rfl,_,_,rfl,_,_,rfl,rfl,?_⟩
     wtm_at "xx"
     refine ⟨A,B,S,L,t,u,rfl,hA,hB,hwf.2,g,?_⟩
     have hf:(-(2 ^ 64) < f∧f < 2 ^ 64):=by rcases hwf.1 with z | z <;> (have z:f = _:=z;rw [z];decide)
     refine ⟨f,u,rfl,rfl,.inl hf,?_⟩
     wtm_at "xx"
     exact ⟨_,_,_,rfl,rfl,e2⟩
  ·rintro σ' H' ⟨a,x4,x5,rfl,rfl,e2⟩
   rw [List.length_map,nr,List.drop_length] at e2
   cases e2
   wtm_at "xx"
   refine iteD (fun _=>?_) (fun g=>absurd h0 g)
   wtm_at "xx"
   refine iteN (fun g=>absurd h1 g) (fun _=>?_)
   wtm_at "xx"
   exact k
theorem ok_move (R:Raw K mg "move_here" s_move_here) (T:TxtT K mg CL CS) (G_bounded_value:GF P w K mg base "bounded_value" ["sheet","line","bound"] 2 (sp_bound CL CS)) (G_makes_cell:GF P w K mg base "makes_cell" ["line"] 1 (sp_makes CL)):GF P w K mg base "move_here" ["sheet","line"] 3 (sp_move CL CS):=by
 refine GF.mk R sc_move_here (by wtm_at "2") (fun vs H Q E h=>?_) (fun f cdv A outer s H vs Q E hr h=>?_)
 ·obtain ⟨A,B,S,S',L,rfl,_⟩:=h;rfl
 ·obtain ⟨A,B,S,S',L,rfl,hA,hB,hw,e,k⟩:=h
  refine ⟨_,(@pss_one _ _ _ (@ps_if _ _ _ _ _ _ _ _ (@pt_cmpR _ _ _ _ _ _ _ _ op_eq (@pe_fldK _ (K) _ _ _ _ rfl (pv 1) rfl) pe_str (nomark _)) (@pss_one _ _ _ (@ps_fldK _ (K) _ _ _ _ _ _ _ rfl (pv 0) (@pe_gcallN _ _ _ _ _ _ _ _ _ _ G_bounded_value (hr.mono (by decide)) rfl (@pa_c _ _ _ _ _ (pv 0) (@pa_c _ _ _ _ _ (pv 1) (@pa_c _ _ _ _ _ (@pe_gint _ _ _ _ rfl T.PLACES (by decide)) pa_nil rfl) rfl) rfl) (by decide) rfl) rfl)) (@pss_one _ _ _ (@ps_if _ _ _ _ _ _ _ _ (@pt_val _ _ _ (@pe_gcallN _ _ _ _ _ _ _ _ _ _ G_makes_cell (hr.mono (by decide)) rfl (@pa_c _ _ _ _ _ (pv 1) pa_nil rfl) (by decide) rfl) (fun _=>rfl)) (@pss_cons _ _ _ _ _ (@ps_if _ _ _ _ _ _ _ _ (@pt_cmpR _ _ _ _ _ _ _ _ op_ge (@pe_fldK _ (K) _ _ _ _ rfl (pv 0) rfl) (@pe_gint _ _ _ _ rfl T.PLACES (by decide)) (nomark _)) (@pss_one _ _ _ ps_never) pss_nil) (@pss_one _ _ _ (@ps_fldK _ (K) _ _ _ _ _ _ _ rfl (pv 0) (@pe_op _ _ _ _ _ _ _ _ op_add (@pe_fldK _ (K) _ _ _ _ rfl (pv 0) rfl) pe_int) rfl))) pss_nil)))),?_⟩
  unfold moveHere at e
  wtm_at "xx"
  refine Sx.atF hB.o T.clL T.n_name (lk_name _ _) ?_
  have rest:¬ L.name = some ("place" : Str)→tIfS (tB (tCall (sp_makes CL) [] E0 (tCons (tVar 1) tNil)))
      (tSeq
       (tIfS
        (tTest
         (tOp (rI0 fun i j=>V.bl (decide (j≤i))) (tFld K (tVar 0) "here") (tC (V.int 64))))
        tNever tNext)
       (sFld K (tVar 0)
        (tOp (rI0 fun i j=>V.int (i + j)) (tFld K (tVar 0) "here") (tC (V.int 1)))
        "here"))
      tNext { nx:=fun x H'=>Q V.non H',rt:=Q }
      (L2.start ["sheet","line"] [V.ref A.s,V.ref B.a]) H:=by
   intro g
   rw [if_neg g] at e
   wtm_at "xx"
   refine ⟨B,L,rfl,hB,?_⟩
   wtm_at "xx"
   refine iteB (fun g=>?_) (fun g=>?_)
   ·rw [if_pos g] at e
    split at e
    ·cases e
    ·rename_i h64
     cases e
     wtm_at "xx"
     refine Sx.atF hA.o T.clS T.n_here (lk_here _ _) ?_
     wtm_at "xx"
     refine iteD (fun z=>absurd z h64) (fun _=>?_)
     wtm_at "xx"
     refine Sx.atF hA.o T.clS T.n_here (lk_here _ _) ?_
     wtm_at "xx"
     refine ⟨A.s,CS,A.dx,_,rfl,hA.o,T.clS,T.n_here,len_fldsS _ _,?_⟩
     rw [pf_here]
     exact k _ hA.setH (hA.frU (by simp [footS]))
   ·rw [g,if_neg Bool.false_ne_true] at e
    cases e
    wtm_at "xx"
    exact k _ hA .refl
  cases en:L.name with
  | none =>
   refine ⟨rfl,?_⟩
   wtm_at "xx"
   refine iteD (fun g=>by cases g) (fun _=>?_)
   exact rest (by rw [en];exact fun z=>by cases z)
  | some x =>
   refine Sx.cst ?_
   show rEq (.str x) (.str "place") H _
   wtm_at "xx"
   refine iteD (fun g=>?_) (fun g=>?_)
   ·subst g
    rw [if_pos en] at e
    cases eb:boundVal S L 64 with
    | error z=>rw [eb] at e;cases e
    | ok v =>
     rw [eb] at e
     cases e
     wtm_at "xx"
     refine ⟨A,B,S,L,64,v,rfl,hA,hB,hw,eb,?_⟩
     wtm_at "xx"
     refine ⟨A.s,CS,A.dx,_,rfl,hA.o,T.clS,T.n_here,len_fldsS _ _,?_⟩
     rw [pf_here]
     exact k _ hA.setH (hA.frU (by simp [footS]))
   ·exact rest (by rw [en];exact fun z=>g (Option.some.inj z))
theorem ok_pool (R:Raw K mg "pool_place" s_pool_place) (T:TxtT K mg CL CS) (G_bounded_value:GF P w K mg base "bounded_value" ["sheet","line","bound"] 2 (sp_bound CL CS)) (G_make_cell:GF P w K mg base "make_cell" ["sheet","line","place","made_word"] 1 (sp_mcell CL CS)):GF P w K mg base "pool_place" ["sheet","line"] 3 (sp_pool CL CS):=by
 refine GF.mk R sc_pool_place (by wtm_at "2") (fun vs H Q E h=>?_) (fun f cdv A outer s H vs Q E hr h=>?_)
 ·obtain ⟨A,B,S,S',L,p,rfl,_⟩:=h;rfl
 ·obtain ⟨A,B,S,S',L,p,rfl,hA,hB,hab,hw,hm,hp,e,k⟩:=h
  refine ⟨_,(@pss_cons _ _ _ _ _ (@ps_set _ _ (2) _ _ _ _ sc_pool_place.nd rfl (Or.inl rfl) (@pe_gcallN _ _ _ _ _ _ _ _ _ _ G_bounded_value (hr.mono (by decide)) rfl (@pa_c _ _ _ _ _ (pv 0) (@pa_c _ _ _ _ _ (pv 1) (@pa_c _ _ _ _ _ (@pe_gint _ _ _ _ rfl T.WORDS (by decide)) pa_nil rfl) rfl) rfl) (by decide) rfl) rfl (by first | exact .inl rfl | exact .inr rfl | assumption)) (@pss_cons _ _ _ _ _ (@ps_cut _ _ _ (@ps_if _ _ _ _ _ _ _ _ (@pt_cmpR _ _ _ _ _ _ _ _ (op_notInD (hu1 hr)) (pv 2) (@pe_fldK _ (K) _ _ _ _ rfl (pv 0) rfl) (by with_unfolding_all rfl)) (@pss_cons _ _ _ _ _ (@ps_set _ _ (3) _ _ _ _ sc_pool_place.nd rfl (Or.inl rfl) (@pe_op _ _ _ _ _ _ _ _ op_sub (@pe_op _ _ _ _ _ _ _ _ op_sub (@pe_gint _ _ _ _ rfl T.PLACES (by decide)) pe_int) (@pe_callBN _ _ _ _ _ _ _ _ _ call_lenDK (by rfl) T.len_ bo_len (@pa_c _ _ _ _ _ (@pe_fldK _ (K) _ _ _ _ rfl (pv 0) rfl) pa_nil rfl) (by decide) (by decide) rfl)) rfl (by first | exact .inl rfl | exact .inr rfl | assumption)) (@pss_cons _ _ _ _ _ (@ps_expr _ _ _ _ (@pe_gcallN _ _ _ _ _ _ _ _ _ _ G_make_cell (hr.mono (by decide)) rfl (@pa_c _ _ _ _ _ (pv 0) (@pa_c _ _ _ _ _ (pv 1) (@pa_c _ _ _ _ _ (pv 3) (@pa_c _ _ _ _ _ (pv 2) pa_nil rfl) rfl) rfl) rfl) (by decide) rfl) rfl) (@pss_one _ _ _ (@ps_dput _ _ _ _ _ _ _ _ _ (hu1 hr) (@pe_fldK _ (K) _ _ _ _ rfl (pv 0) rfl) (pv 2) (pv 3) rfl)))) pss_nil)) (@pss_one _ _ _ (@ps_ret _ _ _ _ (@pe_dget _ _ _ _ _ _ (hu1 hr) (@pe_fldK _ (K) _ _ _ _ rfl (pv 0) rfl) (pv 2) (fun _ _=>rfl)))))),?_⟩
  unfold poolPlace at e
  cases eb:boundVal S L 1024 with
  | error z=>rw [eb] at e;cases e
  | ok v =>
   rw [eb] at e
   dsimp only at e
   wtm_at "xx"
   refine ⟨A,B,S,L,1024,v,rfl,hA,hB,hw,eb,?_⟩
   wtm_at "xx"
   refine Sx.cut (fun σ' H'=>(∃ x,σ' = [some (.ref A.s),some (.ref B.a),some (.int v),x])∧ShAt CS H' A S'∧FrX H H' (footS A)∧S'.pool.lookup v = some p) ?_ ?_
   ·wtm_at "xx"
    refine Sx.atF hA.o T.clS T.n_pool (lk_pool _ _) ?_
    cases el:S.pool.lookup v with
    | some q =>
     rw [el] at e
     have hv:valV (intK S.pool) (.inl v) = some (.int q):=by rw [int_val,el];rfl
     cases e
     refine ⟨A.dp,some (.int p),rfl,by rw [← hv];exact DGet.k (k:=.inl v) hA.p,?_⟩
     wtm_at "xx"
     refine Sx.iteNT ?_
     wtm_at "xx"
     exact ⟨⟨_,rfl⟩,hA,.refl,el⟩
    | none =>
     rw [el] at e
     dsimp only at e
     have hv:valV (intK S.pool) (.inl v) = none:=by rw [int_val,el];rfl
     refine ⟨A.dp,none,rfl,by rw [← hv];exact DGet.k (k:=.inl v) hA.p,?_⟩
     wtm_at "xx"
     refine Sx.iteNF ?_
     wtm_at "xx"
     refine Sx.atF hA.o T.clS T.n_pool (lk_pool _ _) ?_
     wtm_at "xx"
     refine ⟨A.dp,_,rfl,hA.p,?_⟩
     rw [show ((intK S.pool).length:Nat) = S.pool.length from by unfold intK;rw [List.length_map]]
     wtm_at "xx"
     cases ec:makeCell S L.num (63 - (S.pool.length:Int)) v with
     | error z=>rw [ec] at e;cases e
     | ok S1 =>
      rw [ec] at e
      cases e
      have e63:(64:Int) - 1 - (S.pool.length:Int) = 63 - (S.pool.length:Int):=by omega
      rw [e63]
      refine ⟨A,B,S,S1,L,_,v,rfl,hA,hB,hm,ec,fun H1 hA1 fr1=>?_⟩
      have hsp:S1.pool = S.pool:=by
       unfold makeCell at ec
       split at ec
       ·cases ec
       ·split at ec
        ·cases ec
        ·cases ec;rfl
      wtm_at "xx"
      refine Sx.atF hA1.o T.clS T.n_pool (lk_pool _ _) ?_
      wtm_at "xx"
      have hv1:valV (intK S1.pool) (.inl v) = none:=by rw [hsp];exact hv
      refine ⟨A.dp,_,rfl,DPut.k (k:=.inl v) hA1.p (by unfold intK;rw [List.length_map,hsp];show _ < sizeLine;rw [sizeLine_eq];omega),?_⟩
      rw [put_new hv1,show intK S1.pool ++ [((.inl v:Key),V.int (63 - (S.pool.length:Int)))] = intK (S1.pool ++ [(v,63 - (S.pool.length:Int))]) from by unfold intK;rw [List.map_append];rfl]
      refine ⟨⟨_,rfl⟩,hA1.setP,fr1.trans (hA1.frU (by simp [footS])),?_⟩
      show (S1.pool ++ [(v,63 - (S.pool.length:Int))]).lookup v = _
      rw [hsp,List.lookup_append,el]
      simp [List.lookup_cons]
   ·rintro σ' H1 ⟨⟨x,rfl⟩,hA1,fr1,hl⟩
    wtm_at "xx"
    refine Sx.atF hA1.o T.clS T.n_pool (lk_pool _ _) ?_
    wtm_at "xx"
    have hv:valV (intK S'.pool) (.inl v) = some (.int p):=by rw [int_val,hl];rfl
    exact ⟨A.dp,.int p,rfl,by rw [← hv];exact DGet.k (k:=.inl v) hA1.p,k _ hA1 fr1⟩
theorem ok_wof (R:Raw K mg "word_of" s_word_of) (T:TxtT K mg CL CS) (G_bounded_value:GF P w K mg base "bounded_value" ["sheet","line","bound"] 2 (sp_bound CL CS)) (G_pool_place:GF P w K mg base "pool_place" ["sheet","line"] 3 (sp_pool CL CS)):GF P w K mg base "word_of" ["sheet","line"] 4 (sp_wof CL CS):=by
 refine GF.mk R sc_word_of (by wtm_at "2") (fun vs H Q E h=>?_) (fun f cdv A outer s H vs Q E hr h=>?_)
 ·obtain ⟨A,B,S,S',L,p,rfl,_⟩:=h;rfl
 ·obtain ⟨A,B,S,S',L,p,rfl,hA,hB,hab,hw,hm,hp,e,k⟩:=h
  refine ⟨_,(@pss_cons _ _ _ _ _ (@ps_if _ _ _ _ _ _ _ _ (@pt_val _ _ _ (@pe_fldK _ (K) _ _ _ _ rfl (pv 1) rfl) (fun _=>rfl)) (@pss_one _ _ _ (@ps_ret _ _ _ _ (@pe_op _ _ _ _ _ _ _ _ op_add (@pe_fldK _ (K) _ _ _ _ rfl (pv 1) rfl) (@pe_gcallN _ _ _ _ _ _ _ _ _ _ G_pool_place (hr.mono (by decide)) rfl (@pa_c _ _ _ _ _ (pv 0) (@pa_c _ _ _ _ _ (pv 1) pa_nil rfl) rfl) (by decide) rfl)))) pss_nil) (@pss_cons _ _ _ _ _ (@ps_if _ _ _ _ _ _ _ _ (@pt_cmpR _ _ _ _ _ _ _ _ op_eq (@pe_fldK _ (K) _ _ _ _ rfl (pv 1) rfl) pe_str (nomark _)) (@pss_one _ _ _ (@ps_ret _ _ _ _ (@pe_op _ _ _ _ _ _ _ _ op_add (@pe_fldK _ (K) _ _ _ _ rfl (pv 1) rfl) (@pe_gcallN _ _ _ _ _ _ _ _ _ _ G_bounded_value (hr.mono (by decide)) rfl (@pa_c _ _ _ _ _ (pv 0) (@pa_c _ _ _ _ _ (pv 1) (@pa_c _ _ _ _ _ (@pe_gint _ _ _ _ rfl T.WORDS (by decide)) pa_nil rfl) rfl) rfl) (by decide) rfl)))) pss_nil) (@pss_one _ _ _ (@ps_ret _ _ _ _ (@pe_op _ _ _ _ _ _ _ _ op_add (@pe_fldK _ (K) _ _ _ _ rfl (pv 1) rfl) (@pe_gcallN _ _ _ _ _ _ _ _ _ _ G_bounded_value (hr.mono (by decide)) rfl (@pa_c _ _ _ _ _ (pv 0) (@pa_c _ _ _ _ _ (pv 1) (@pa_c _ _ _ _ _ (@pe_gint _ _ _ _ rfl T.PLACES (by decide)) pa_nil rfl) rfl) rfl) (by decide) rfl)))))),?_⟩
  unfold wordOf at e
  wtm_at "xx"
  refine Sx.atF hB.o T.clL T.n_pooled (lk_pooled _ _) ?_
  refine ⟨_,rfl,?_⟩
  refine iteB (fun g=>?_) (fun g=>?_)
  ·rw [if_pos g] at e
   cases ep:poolPlace S L with
   | error z=>rw [ep] at e;cases e
   | ok q =>
    obtain ⟨S1,q⟩:=q
    rw [ep] at e
    cases e
    wtm_at "xx"
    refine Sx.atF hB.o T.clL T.n_base (lk_base _ _) ?_
    wtm_at "xx"
    refine ⟨A,B,S,_,L,q,rfl,hA,hB,hab,hw,hm,hp,ep,fun H1 hA1 fr1=>?_⟩
    wtm_at "xx"
    exact k _ hA1 fr1
  ·rw [g,if_neg Bool.false_ne_true] at e
   wtm_at "xx"
   refine Sx.atF hB.o T.clL T.n_name (lk_name _ _) ?_
   have rest:¬ L.name = some ("word" : Str)→tRet
               (tOp (rI0 fun i j=>V.int (i + j)) (tFld K (tVar 1) "base")
                (tCall (sp_bound CL CS) [] E0
                 (tCons (tVar 0) (tCons (tVar 1) (tCons (tC (V.int 64)) tNil)))))
              { nx:=fun x H'=>Q V.non H',rt:=Q } (L2.start ["sheet","line"] [V.ref A.s,V.ref B.a]) H:=by
    intro g2
    rw [if_neg g2] at e
    cases eb:boundVal S L 64 with
    | error z=>rw [eb] at e;cases e
    | ok v =>
     rw [eb] at e
     cases e
     wtm_at "xx"
     refine Sx.atF hB.o T.clL T.n_base (lk_base _ _) ?_
     wtm_at "xx"
     refine ⟨A,B,S,L,64,v,rfl,hA,hB,hw,eb,?_⟩
     wtm_at "xx"
     exact k _ hA .refl
   refine Sx.cst ?_
   cases en:L.name with
   | none =>
    refine ⟨rfl,?_⟩
    wtm_at "xx"
    refine iteD (fun g=>by cases g) (fun _=>?_)
    exact rest (by rw [en];exact fun z=>by cases z)
   | some x =>
    show rEq (.str x) (.str "word") H _
    wtm_at "xx"
    refine iteD (fun g=>?_) (fun g=>?_)
    ·subst g
     rw [if_pos en] at e
     cases eb:boundVal S L 1024 with
     | error z=>rw [eb] at e;cases e
     | ok v =>
      rw [eb] at e
      cases e
      wtm_at "xx"
      refine Sx.atF hB.o T.clL T.n_base (lk_base _ _) ?_
      wtm_at "xx"
      refine ⟨A,B,S,L,1024,v,rfl,hA,hB,hw,eb,?_⟩
      wtm_at "xx"
      exact k _ hA .refl
    ·exact rest (by rw [en];exact fun z=>g (Option.some.inj z))
end
end Sc
namespace Sc
open PySem L2 Tx Ls
def WfT (ts:List (Int×Str)):Prop:=∀ p∈ts,(p.1 = 1∨p.1 = -1)∧isTerm p.2 = true
theorem terms_wf {n:Int} {tt:List (Int×Str)}:∀ (ps:List Str) (i:Nat) (f:Int) (acc:List (Int×Str)),WfT acc→(f = 1∨f = -1)→goTerms n i f ps acc = .ok tt→WfT tt:=by
 intro ps
 induction ps with
 | nil=>intro i f acc h _ e;cases e;exact h
 | cons p r ih =>
  intro i f acc h hf e
  unfold goTerms at e
  split at e
  ·exact ih _ _ _ h (by split <;> simp) e
  ·split at e
   ·rename_i g
    refine ih _ _ _ (fun q hq=>?_) hf e
    rcases List.mem_append.mp hq with z | z
    ·exact h q z
    ·rw [List.mem_singleton.mp z];exact ⟨hf,g⟩
   ·cases e
theorem value_wf {L L':Ln} {ts:List Str} (h:WfL L) (e:readValue L ts = .ok L'):WfL L':=by
 obtain ⟨v,tt,_,e1,rfl⟩:=value_ok e
 exact terms_wf _ _ _ _ h (.inl rfl) e1
theorem pool_wf {L L':Ln} {ts:List Str} (h:WfL L) (e:readPool L ts = .ok L'):WfL L':=by
 rcases pool_eq e with ⟨v,r,_,_,e2⟩ | ⟨_,e2⟩
 ·exact value_wf (L:={ L with pooled:=true }) h e2
 ·exact value_wf h e2
theorem cell_wf {L L':Ln} {nm:Str} {ts:List Str} (h:WfL L) (e:readCell L nm ts = .ok L'):WfL L':=by
 rcases cell_far e with ⟨r,_,e2⟩ | ⟨_,e2⟩
 ·exact pool_wf (L:={ L with base:=(kindsS.idxOf nm:Nat) * 128 + 64 }) h e2
 ·exact pool_wf (L:={ L with base:=(kindsS.idxOf nm:Nat) * 128 }) h e2
theorem deed_wf {L L':Ln} {nm:Str} {ts:List Str} (h:WfL L) (e:readDeed L nm ts = .ok L'):WfL L':=by
 unfold readDeed at e
 dsimp only at e
 split at e
 ·exact value_wf (L:={ L with name:=some nm }) h e
 split at e
 ·exact cell_wf (L:={ L with name:=some nm }) h e
 split at e
 ·split at e
  ·cases e;exact h
  ·cases e
 split at e
 ·split at e
  ·cases e;exact h
  ·cases e
 split at e
 ·split at e
  ·cases e;exact h
  ·cases e
 ·cases e
theorem rest_wf {L L':Ln} {ts:List Str} (h:WfL L) (e:readRest L ts = .ok L'):WfL L':=by
 cases ts with
 | nil=>cases e;exact h
 | cons p r=>exact deed_wf h e
theorem line_wf {row:Str} {n:Int} {L:Ln} (e:readLine row n = .ok L):WfL L:=by
 have h0:∀ p∈([]:List (Int×Str)),(p.1 = 1∨p.1 = -1)∧isTerm p.2 = true:=fun p hp=>by cases hp
 rcases line_ok e with ⟨p,r,_,_,_,e2⟩ | ⟨_,e2⟩
 ·exact rest_wf (L:={ newLn n with label:=_ }) h0 e2
 ·exact rest_wf (L:=newLn n) h0 e2
structure LinesAt (CL:Addr) (H:Hp) (A:SAd) (l:Addr) (Bs:List LAd) (Ls:List Ln):Prop where
 li:H l = some (.lst (Bs.map fun B=>V.ref B.a))
 n:Bs.length = Ls.length
 at_:∀ (i:Nat) B L,Bs[i]? = some B→Ls[i]? = some L→LnAt CL H B L∧WfL L
 ap:∀ B∈Bs,Apart A B∧B.l≠l
theorem LinesAt.fr {CL CS:Addr} {H H':Hp} {A:SAd} {S:Sh} {l:Addr} {Bs:List LAd} {Ls:List Ln} (h:LinesAt CL H A l Bs Ls) (hA:ShAt CS H A S) (f:FrX H H' (footS A)):LinesAt CL H' A l Bs Ls :=
 ⟨f.1 _ _ h.li fun z=>(hA.kind z _).2 h.li,h.n,fun i B L e1 e2=>⟨(h.at_ i B L e1 e2).1.frS f (h.ap B (List.mem_of_getElem? e1)).1,(h.at_ i B L e1 e2).2⟩,h.ap⟩
theorem LinesAt.keep {CL:Addr} {H H':Hp} {A:SAd} {l:Addr} {Bs:List LAd} {Ls:List Ln} (h:LinesAt CL H A l Bs Ls) (s:Same H H'):LinesAt CL H' A l Bs Ls :=
 ⟨s _ _ h.li,h.n,fun i B L e1 e2=>⟨(h.at_ i B L e1 e2).1.keep s,(h.at_ i B L e1 e2).2⟩,h.ap⟩
section
variable {P:Program} {w:World} {K:PySem.W.Frag} {mg:Str→Option Value} {base:Heap} {CL CS:Addr}
def sp_initS (CS:Addr):Sp:=fun vs H Q _=>∃ (p dx:Addr),vs = [.ref p]∧H p = some (.ins CS dx [])∧∀ A H',A.s = p→(∀ x∈footS A,x = p∨H x = none)→ShAt CS H' A ⟨[],[],[],0⟩→FrX H H' [p]→Q .non H'
def sp_first (CL CS:Addr):Sp:=fun vs H Q _=>∃ (A:SAd) (S S':Sh) (text:Str) (Ls:List Ln),vs = [.ref A.s,.str text]∧ShAt CS H A S∧S.labels.length = 0∧text.length≤1000000∧(Txt.split text "\n").length ≤ 20000 ∧ (∀ r ∈ Txt.split text "\n", r.length ≤ 2000) ∧ goFirst (Txt.split text "\n") 1 S [] = .ok (S',Ls) ∧
 ∀ l Bs H',LinesAt CL H' A l Bs Ls→Ls.length≤20000→ShAt CS H' A S'→FrX H H' (footS A)→Q (.ref l) H'
theorem first_len:∀ (rows:List Str) (n:Int) (S:Sh) (Ls:List Ln) (S':Sh) (Ls':List Ln),goFirst rows n S Ls = .ok (S',Ls')→Ls'.length = Ls.length + rows.length:=by
 intro rows
 induction rows with
 | nil=>intro n S Ls S' Ls' e;cases e;rfl
 | cons r t ih =>
  intro n S Ls S' Ls' e
  unfold goFirst at e
  split at e
  ·cases e
  ·split at e
   ·cases e
   ·split at e
    ·cases e
    ·have:=ih _ _ _ _ _ e
     rw [this,List.length_append,List.length_singleton,List.length_cons]
     omega
theorem ok_initS {q:Str} (R:RawC K mg "Sheet" q CS s_Sheet_init) (T:TxtT K mg CL CS):GC P w K mg base "Sheet" CS ["self"] 1 (sp_initS CS):=by
 refine GC.mk R sc_Sheet_init (by wtm_at "1") (fun vs H Q E h=>?_) (fun f cdv A outer s H vs Q E hr h=>?_)
 ·obtain ⟨p,dx,rfl,_⟩:=h;rfl
 ·obtain ⟨p,dx,rfl,hp,k⟩:=h
  refine ⟨_,(@pss_cons _ _ _ _ _ (@ps_fldK _ (K) _ _ _ _ _ _ _ rfl (pv 0) pe_dnewK rfl) (@pss_cons _ _ _ _ _ (@ps_fldK _ (K) _ _ _ _ _ _ _ rfl (pv 0) pe_dnewK rfl) (@pss_cons _ _ _ _ _ (@ps_fldK _ (K) _ _ _ _ _ _ _ rfl (pv 0) pe_dnewK rfl) (@pss_one _ _ _ (@ps_fldK _ (K) _ _ _ _ _ _ _ rfl (pv 0) pe_int rfl))))),?_⟩
  wtm_at "xx"
  refine fun a1 n1=>?_
  wtm_at "xx"
  have e1:p≠a1:=ne_of_none hp n1
  refine xPut (by rw [upd_ne e1];exact hp) T.clS T.n_labels (by show 0 < 1000;decide) fun H1 h1 o1 f1=>?_
  have d1:H1 a1 = some (.dK []):=by rw [o1 _ e1.symm,upd_same]
  have g1:FrX H H1 [p]:=(FrX.new n1).trans f1
  clear o1 f1
  wtm_at "xx"
  refine fun a2 n2=>?_
  wtm_at "xx"
  have e2:p≠a2:=ne_of_none h1 n2
  have e12:a1≠a2:=ne_of_none d1 n2
  refine xPut (by rw [upd_ne e2];exact h1) T.clS T.n_made (by show 1 < 1000;decide) fun H2 h2 o2 f2=>?_
  rw [putF_add (by simp only [putF,List.map_cons,List.map_nil];decide +kernel)] at h2
  have d21:H2 a1 = some (.dK []):=by rw [o2 _ e1.symm,upd_ne e12];exact d1
  have d22:H2 a2 = some (.dK []):=by rw [o2 _ e2.symm,upd_same]
  have g2:FrX H H2 [p]:=g1.trans ((FrX.new n2).trans f2)
  have m2:H a2 = none:=by
   cases z:H a2 with
   | none=>rfl
   | some u=>have:=g1.1 _ _ z (by simp [e2.symm]);rw [n2] at this;cases this
  clear o2 f2
  wtm_at "xx"
  refine fun a3 n3=>?_
  wtm_at "xx"
  have e3:p≠a3:=ne_of_none h2 n3
  have e13:a1≠a3:=ne_of_none d21 n3
  have e23:a2≠a3:=ne_of_none d22 n3
  refine xPut (by rw [upd_ne e3];exact h2) T.clS T.n_pool (by show 2 < 1000;decide) fun H3 h3 o3 f3=>?_
  rw [putF_add (by simp only [putF,List.map_append,List.map_cons,List.map_nil];decide +kernel)] at h3
  have d31:H3 a1 = some (.dK []):=by rw [o3 _ e1.symm,upd_ne e13];exact d21
  have d32:H3 a2 = some (.dK []):=by rw [o3 _ e2.symm,upd_ne e23];exact d22
  have d33:H3 a3 = some (.dK []):=by rw [o3 _ e3.symm,upd_same]
  have g3:FrX H H3 [p]:=g2.trans ((FrX.new n3).trans f3)
  have m3:H a3 = none:=by
   cases z:H a3 with
   | none=>rfl
   | some u=>have:=g2.1 _ _ z (by simp [e3.symm]);rw [n3] at this;cases this
  clear o3 f3
  wtm_at "xx"
  refine xPut h3 T.clS T.n_here (by show 3 < 1000;decide) fun H4 h4 o4 f4=>?_
  rw [putF_add (by simp only [putF,List.map_append,List.map_cons,List.map_nil];decide +kernel)] at h4
  refine k ⟨p,dx,a1,a2,a3⟩ H4 rfl (fun x hx=>?_) ⟨h4,by rw [o4 _ e1.symm];exact d31,by rw [o4 _ e2.symm];exact d32,by rw [o4 _ e3.symm];exact d33,?_⟩ (g3.trans f4)
  ·unfold footS at hx
   simp only [List.mem_cons,List.not_mem_nil,or_false] at hx
   rcases hx with rfl | rfl | rfl | rfl
   ·exact .inl rfl
   ·exact .inr n1
   ·exact .inr m2
   ·exact .inr m3
  ·unfold footS
   simp [e1,e2,e3,e12,e13,e23]
theorem ok_first (R:Raw K mg "go_over_first" s_go_over_first) (T:TxtT K mg CL CS) (G_read_line:GF P w K mg base "read_line" ["row","number"] 7 (sp_line CL)) (G_tell_label:GF P w K mg base "tell_label" ["sheet","line"] 1 (sp_tell CL CS)) (G_move_here:GF P w K mg base "move_here" ["sheet","line"] 3 (sp_move CL CS)):GF P w K mg base "go_over_first" ["sheet","text"] 8 (sp_first CL CS):=by
 refine GF.mk R sc_go_over_first (by wtm_at "2") (fun vs H Q E h=>?_) (fun f cdv A outer s H vs Q E hr h=>?_)
 ·obtain ⟨A,S,S',text,Ls,rfl,_⟩:=h;rfl
 ·obtain ⟨A,S,S',text,Ls,rfl,hA,h0,htl,hfew,hrow,e,k⟩:=h
  refine ⟨_,(@pss_cons _ _ _ _ _ (@ps_set _ _ (2) _ _ _ _ sc_go_over_first.nd rfl (Or.inl rfl) (@pe_lst _ _ _ _ pa_nil) rfl (by first | exact .inl rfl | exact .inr rfl | assumption)) (@pss_cons _ _ _ _ _ (@ps_for _ _ _ _ _ _ _ _ PassesOwn.never rfl (pi_cntK (K:=K) rfl rfl T.enumerate_ (@pa_c _ _ _ _ _ (pe_bm PySem.F.plainAttrs_str PySem.F.slot_str_split PySem.F.type_str_split mt_split (pv 1) (@pa_c _ _ _ _ _ pe_str pa_nil rfl)) pa_nil rfl)) (@pg_tupK _ (K) _ _ _ _ (2) rfl rfl (@pgs_cons _ _ _ _ _ (@pg_name _ _ (3) _ sc_go_over_first.nd rfl (Or.inl rfl) (by first | exact .inl rfl | exact .inr rfl | assumption)) (@pgs_cons _ _ _ _ _ (@pg_name _ _ (4) _ sc_go_over_first.nd rfl (Or.inl rfl) (by first | exact .inl rfl | exact .inr rfl | assumption)) pgs_nil rfl) rfl) rfl rfl) (@pss_cons _ _ _ _ _ (@ps_set _ _ (5) _ _ _ _ sc_go_over_first.nd rfl (Or.inl rfl) (@pe_gcallN _ _ _ _ _ _ _ _ _ _ G_read_line (hr.mono (by decide)) rfl (@pa_c _ _ _ _ _ (pv 4) (@pa_c _ _ _ _ _ (pv 3) pa_nil rfl) rfl) (by decide) rfl) rfl (by first | exact .inl rfl | exact .inr rfl | assumption)) (@pss_cons _ _ _ _ _ (@ps_expr _ _ _ _ (@pe_gcallN _ _ _ _ _ _ _ _ _ _ G_tell_label (hr.mono (by decide)) rfl (@pa_c _ _ _ _ _ (pv 0) (@pa_c _ _ _ _ _ (pv 5) pa_nil rfl) rfl) (by decide) rfl) rfl) (@pss_cons _ _ _ _ _ (@ps_expr _ _ _ _ (@pe_gcallN _ _ _ _ _ _ _ _ _ _ G_move_here (hr.mono (by decide)) rfl (@pa_c _ _ _ _ _ (pv 0) (@pa_c _ _ _ _ _ (pv 5) pa_nil rfl) rfl) (by decide) rfl) rfl) (@pss_one _ _ _ (@ps_expr _ _ _ _ (pe_bm PySem.F.plainAttrs_list PySem.F.slot_list_append PySem.F.type_list_append mt_append (pv 2) (@pa_c _ _ _ _ _ (pv 5) pa_nil rfl)) rfl))))) (fun _=>rfl)) (@pss_one _ _ _ (@ps_ret _ _ _ _ (pv 2))))),?_⟩
  wtm_at "xx"
  refine Sx.newL (by show 0≤sizeLine;decide) fun l H1 n1 h1 s1=>?_
  wtm_at "xx"
  refine ⟨text,"\n",rfl,rfl,by decide +kernel,htl,fun ls H2 n2 h2 s2=>?_⟩
  have hne:ls≠l:=fun z=>by rw [z,h1] at n2;cases n2
  have hLs:=first_len _ _ _ _ _ _ e
  rw [List.length_nil,Nat.zero_add] at hLs
  generalize Txt.split text "\n" = rows at *
  wtm_at "xx"
  refine ⟨ls,_,rfl,SqL.of h2,for_cnt (n:=1) (xs:=rows.map V.str) (fun i σ' H'=>∃ (S1:Sh) (Ls1:List Ln) (Bs:List LAd) (x3 x4 x5:Option V),σ' = [some (.ref A.s),some (.str text),some (.ref l),x3,x4,x5]∧H' ls = some (.lst (rows.map V.str))∧ShAt CS H' A S1∧FrX H H' (footS A)∧LinesAt CL H' A l Bs Ls1∧goFirst (rows.drop i) (1 + i) S1 Ls1 = .ok (S',Ls)∧S1.labels.length≤i∧Ls1.length = i) ?_ ?_ ?_ ?_⟩
  ·exact ⟨S,[],[],_,_,_,rfl,h2,(hA.keep s1).keep s2,.same (s1.trans s2),⟨s2 _ _ h1,rfl,fun i B L e1=>(by cases e1),fun B hB=>(by cases hB)⟩,e,by omega,rfl⟩
  ·rintro i σ' H' _ ⟨_,_,_,_,_,_,_,h,_⟩
   exact SqL.of h
  ·rintro i x T0 σ' H' hx ⟨S1,Ls1,Bs,x3,x4,x5,rfl,hls,hA1,fr1,hL1,e1,hs1,hn1⟩ hT
   rw [List.getElem?_map] at hx
   cases er:rows[i]? with
   | none=>rw [er] at hx;cases hx
   | some row =>
    rw [er] at hx
    cases hx
    have hi:i < rows.length:=(List.getElem?_eq_some_iff.mp er).1
    rw [List.drop_eq_getElem_cons hi,(List.getElem?_eq_some_iff.mp er).2] at e1
    unfold goFirst at e1
    cases el:readLine row (1 + i) with
    | error z=>rw [el] at e1;cases e1
    | ok L =>
     rw [el] at e1
     dsimp only at e1
     cases et:tellLabel S1 L with
     | error z=>rw [et] at e1;cases e1
     | ok S2 =>
      rw [et] at e1
      dsimp only at e1
      cases em:moveHere S2 L with
      | error z=>rw [em] at e1;cases e1
      | ok S3 =>
       rw [em] at e1
       dsimp only at e1
       have s3:Same H' (upd H' T0 (.tup [.int (1 + i),.str row])):=Same.newH hT
       have t3:(upd H' T0 (.tup [.int (1 + i),.str row])) T0 = some (.tup [.int (1 + i),.str row]):=upd_same
       generalize upd H' T0 (.tup [.int (1 + i),.str row]) = G3 at s3 t3 ⊢
       refine ⟨T0,_,rfl,SqT.of t3,rfl,_,_,rfl,_,_,rfl,rfl,?_⟩
       wtm_at "xx"
       refine ⟨row,_,L,rfl,hrow row (List.mem_of_getElem? er),el,fun B G4 na nl hB s4=>?_⟩
       have s34:=s3.trans s4
       have hA4:=hA1.keep s34
       have hL4:=hL1.keep s34
       have apB:Apart A B:=by
        have hA3:=hA1.keep s3
        refine ⟨fun z=>?_,fun z=>?_⟩
        ·unfold footS at z
         simp only [List.mem_cons,List.not_mem_nil,or_false] at z
         rcases z with z | z | z | z <;> rw [z] at na
         ·rw [hA3.o] at na;cases na
         ·rw [hA3.l] at na;cases na
         ·rw [hA3.m] at na;cases na
         ·rw [hA3.p] at na;cases na
        ·unfold footS at z
         simp only [List.mem_cons,List.not_mem_nil,or_false] at z
         rcases z with z | z | z | z <;> rw [z] at nl
         ·rw [hA3.o] at nl;cases nl
         ·rw [hA3.l] at nl;cases nl
         ·rw [hA3.m] at nl;cases nl
         ·rw [hA3.p] at nl;cases nl
       have hBl:B.l≠l:=fun z=>by rw [z,(hL1.keep s3).li] at nl;cases nl
       wtm_at "xx"
       refine ⟨A,B,S1,S2,L,rfl,hA4,hB,by omega,et,fun G5 hA5 fr5=>?_⟩
       wtm_at "xx"
       refine ⟨A,B,S2,S3,L,rfl,hA5,hB.frS fr5 apB,line_wf el,em,fun G6 hA6 fr6=>?_⟩
       have hL6:=(hL4.fr hA4 fr5).fr hA5 fr6
       have hB6:=(hB.frS fr5 apB).frS fr6 apB
       wtm_at "xx"
       refine ⟨Sx.tyL hL6.li,?_⟩
       wtm_at "xx"
       refine Sx.addL hL6.li (by rw [List.length_map,hL6.n];omega) fun G7 h7 f7=>?_
       have lA:l∉footS A:=fun z=>(hA6.kind z _).2 hL6.li
       have fx:∀ {C:LAd} {M:Ln},LnAt CL G6 C M→C.l≠l→LnAt CL G7 C M:=fun {C M} h n=>by
        refine ⟨f7 _ _ (fun z=>?_) h.o,h.t.mv (fun o e=>f7 _ _ n e) fun b xs e=>f7 _ _ (fun z=>?_) e⟩
        ·have:=h.o;rw [z,hL6.li] at this;cases this
        ·rw [z,hL6.li] at e;cases e
       refine ⟨S3,Ls1 ++ [L],Bs ++ [B],_,_,_,rfl,?_,?_,?_,⟨?_,?_,?_,?_⟩,?_,?_,?_⟩
       ·refine f7 _ _ hne (fr6.1 _ _ (fr5.1 _ _ (s34 _ _ hls) fun z=>?_) fun z=>?_)
        ·exact (hA4.kind z _).2 (s34 _ _ hls)
        ·exact (hA4.kind z _).2 (s34 _ _ hls)
       ·exact ⟨f7 _ _ (fun z=>lA (by rw [← z];simp [footS])) hA6.o,f7 _ _ (fun z=>lA (by rw [← z];simp [footS])) hA6.l,f7 _ _ (fun z=>lA (by rw [← z];simp [footS])) hA6.m,f7 _ _ (fun z=>lA (by rw [← z];simp [footS])) hA6.p,hA6.nd⟩
       ·have fr:=((fr1.trans (.same s34)).trans fr5).trans fr6
        refine ⟨fun b o e n=>f7 _ _ (fun z=>?_) (fr.1 b o e n),fun b xs e=>f7 _ _ (fun z=>?_) (fr.2 b xs e)⟩
        ·rw [z,n1] at e;cases e
        ·rw [z,n1] at e;cases e
       ·rw [h7,List.map_append];rfl
       ·rw [List.length_append,List.length_append,hL6.n];rfl
       ·intro j C M e1 e2
        rcases app_get hL6.n e1 e2 with ⟨a,b⟩ | ⟨rfl,rfl⟩
        ·obtain ⟨h,hw⟩:=hL6.at_ j C M a b
         exact ⟨fx h (hL6.ap C (List.mem_of_getElem? a)).2,hw⟩
        ·exact ⟨fx hB6 hBl,line_wf el⟩
       ·intro C hC
        rcases List.mem_append.mp hC with z | z
        ·exact hL6.ap C z
        ·rw [List.mem_singleton.mp z];exact ⟨apB,hBl⟩
       ·rw [show (1:Int) + ((i + 1:Nat):Int) = 1 + (i:Int) + 1 from by omega]
        exact e1
       ·have:S3.labels.length≤S1.labels.length + 1:=by
         have a1:S2.labels.length≤S1.labels.length + 1:=by
          unfold tellLabel at et
          split at et
          ·cases et;omega
          ·split at et
           ·cases et
           ·cases et;simp
         have a2:S3.labels = S2.labels:=by
          unfold moveHere at em
          split at em
          ·split at em
           ·cases em;rfl
           ·cases em
          ·split at em
           ·split at em
            ·cases em
            ·cases em;rfl
           ·cases em;rfl
         rw [a2];exact a1
        omega
       ·rw [List.length_append,hn1];rfl
  ·rintro σ' H' ⟨S1,Ls1,Bs,x3,x4,x5,rfl,hls,hA1,fr1,hL1,e1,hs1,hn1⟩
   rw [List.length_map,List.drop_length] at e1
   cases e1
   wtm_at "xx"
   exact k l Bs _ hL1 (by omega) hA1 fr1
end
end Sc
namespace L2
open PySem PySem.Spec PyProof.Rows
theorem pe_gmake0 {X:Cx} {x:Str} {C:Addr} {k:Nat} {sp:Sp} {p pos:Pos} {ps:List Str} (G:GC X.prog X.w X.K X.mg X.base x C ps k sp) (hr:Room (k + 1) X.A) (hg:Gl X x) (hdb:(x == ("__debug__" : Str)) = false:=by decide):PE X (.Call (.Name x p) [] [] pos) (tMake C sp [] E0 tNil):=by
 obtain ⟨hm,f,fd,M,hb,F⟩:=G
 exact pe_make0 M F hr hg hm hb .nil pass0 hdb
end L2
namespace Sc
open PySem L2 Tx Ls
theorem make_len {S S':Sh} {n i c:Int} (e:makeCell S n i c = .ok S'):S'.made.length = S.made.length + 1∧S'.pool = S.pool∧S'.labels = S.labels∧S'.here = S.here:=by
 unfold makeCell at e
 split at e
 ·cases e
 ·split at e
  ·cases e
  ·cases e;simp
theorem pool_len {S S':Sh} {L:Ln} {p:Int} (e:poolPlace S L = .ok (S',p)):S'.made.length≤S.made.length + 1∧S'.pool.length≤S.pool.length + 1:=by
 unfold poolPlace at e
 split at e
 ·cases e
 ·split at e
  ·cases e;omega
  ·split at e
   ·cases e
   ·rename_i S1 h
    have:=make_len h
    cases e
    simp [this.2.1]
    omega
theorem word_len {S S':Sh} {L:Ln} {p:Int} (e:wordOf S L = .ok (S',p)):S'.made.length≤S.made.length + 1∧S'.pool.length≤S.pool.length + 1:=by
 unfold wordOf at e
 split at e
 ·split at e
  ·cases e
  ·rename_i S1 q h
   have:=pool_len h
   cases e
   exact this
 ·split at e
  ·cases e
  ·cases e;omega
theorem again_len {S S':Sh} {L:Ln} (e:againOne S L = .ok S'):S'.made.length≤S.made.length + 2∧S'.pool.length≤S.pool.length + 1:=by
 unfold againOne at e
 split at e
 ·split at e
  ·cases e
  ·rename_i S1 v h
   have h1:=word_len h
   have h2:=make_len e
   rw [h2.2.1]
   omega
 ·cases e;omega
theorem move_len {S S':Sh} {L:Ln} (e:moveHere S L = .ok S'):S'.made = S.made∧S'.pool = S.pool:=by
 unfold moveHere at e
 split at e
 ·split at e
  ·cases e;exact ⟨rfl,rfl⟩
  ·cases e
 ·split at e
  ·split at e
   ·cases e
   ·cases e;exact ⟨rfl,rfl⟩
  ·cases e;exact ⟨rfl,rfl⟩
section
variable {P:Program} {w:World} {K:PySem.W.Frag} {mg:Str→Option Value} {base:Heap} {CL CS:Addr}
def sp_again (CL CS:Addr):Sp:=fun vs H Q _=>∃ (A:SAd) (S S':Sh) (l:Addr) (Bs:List LAd) (Ls:List Ln),vs = [.ref A.s,.ref l]∧ShAt CS H A S∧LinesAt CL H A l Bs Ls∧Ls.length≤20000∧S.made.length = 0∧S.pool.length = 0∧goAgain Ls S = .ok S'∧∀ H',ShAt CS H' A S'→FrX H H' (footS A)→Q .non H'
def sp_asm (CL CS:Addr):Sp:=fun vs H Q _=>∃ (text:Str) (c:List Int),vs = [.str text]∧text.length≤1000000∧(Txt.split text "\n").length ≤ 20000 ∧ (∀ r ∈ Txt.split text "\n",r.length≤2000)∧assembledR text = .ok c∧∀ l H',H l = none→H' l = some (.lst (c.map V.int))→Same H H'→Q (.ref l) H'
theorem ok_again (R:Raw K mg "go_over_again" s_go_over_again) (T:TxtT K mg CL CS) (G_makes_cell:GF P w K mg base "makes_cell" ["line"] 1 (sp_makes CL)) (G_make_cell:GF P w K mg base "make_cell" ["sheet","line","place","made_word"] 1 (sp_mcell CL CS)) (G_word_of:GF P w K mg base "word_of" ["sheet","line"] 4 (sp_wof CL CS)) (G_move_here:GF P w K mg base "move_here" ["sheet","line"] 3 (sp_move CL CS)):GF P w K mg base "go_over_again" ["sheet","lines"] 5 (sp_again CL CS):=by
 refine GF.mk R sc_go_over_again (by wtm_at "2") (fun vs H Q E h=>?_) (fun f cdv A outer s H vs Q E hr h=>?_)
 ·obtain ⟨A,S,S',l,Bs,Ls,rfl,_⟩:=h;rfl
 ·obtain ⟨A,S,S',l,Bs,Ls,rfl,hA,hL,hn,hm0,hp0,e,k⟩:=h
  refine ⟨_,(@pss_one _ _ _ (@ps_for _ _ _ _ _ _ _ _ PassesOwn.never rfl (@pi_listK _ (K) _ _ _ rfl (pv 1)) (@pg_name _ _ (2) _ sc_go_over_again.nd rfl (Or.inl rfl) (by first | exact .inl rfl | exact .inr rfl | assumption)) (@pss_cons _ _ _ _ _ (@ps_cut _ _ _ (@ps_if _ _ _ _ _ _ _ _ (@pt_val _ _ _ (@pe_gcallN _ _ _ _ _ _ _ _ _ _ G_makes_cell (hr.mono (by decide)) rfl (@pa_c _ _ _ _ _ (pv 2) pa_nil rfl) (by decide) rfl) (fun _=>rfl)) (@pss_one _ _ _ (@ps_expr _ _ _ _ (@pe_gcallN _ _ _ _ _ _ _ _ _ _ G_make_cell (hr.mono (by decide)) rfl (@pa_c _ _ _ _ _ (pv 0) (@pa_c _ _ _ _ _ (pv 2) (@pa_c _ _ _ _ _ (@pe_fldK _ (K) _ _ _ _ rfl (pv 0) rfl) (@pa_c _ _ _ _ _ (@pe_gcallN _ _ _ _ _ _ _ _ _ _ G_word_of (hr.mono (by decide)) rfl (@pa_c _ _ _ _ _ (pv 0) (@pa_c _ _ _ _ _ (pv 2) pa_nil rfl) rfl) (by decide) rfl) pa_nil rfl) rfl) rfl) rfl) (by decide) rfl) rfl)) pss_nil)) (@pss_one _ _ _ (@ps_expr _ _ _ _ (@pe_gcallN _ _ _ _ _ _ _ _ _ _ G_move_here (hr.mono (by decide)) rfl (@pa_c _ _ _ _ _ (pv 0) (@pa_c _ _ _ _ _ (pv 2) pa_nil rfl) rfl) (by decide) rfl) rfl))) (fun _=>rfl))),?_⟩
  wtm_at "xx"
  refine ⟨l,rfl,⟨_,SqL.of hL.li⟩,for_list (xs:=Bs.map fun B=>V.ref B.a) (fun i σ' H'=>∃ (S1:Sh) (x:Option V),σ' = [some (.ref A.s),some (.ref l),x]∧ShAt CS H' A S1∧FrX H H' (footS A)∧LinesAt CL H' A l Bs Ls∧goAgain (Ls.drop i) S1 = .ok S'∧S1.made.length≤2 * i∧S1.pool.length≤i) ⟨S,_,rfl,hA,.refl,hL,e,by omega,by omega⟩ (fun i σ' H' _ h=>by obtain ⟨_,_,_,_,_,h,_⟩:=h;exact SqL.of h.li) ?_ ?_⟩
  ·rintro i x σ' H' hx ⟨S1,x2,rfl,hA1,fr1,hL1,e1,hm1,hp1⟩
   rw [List.getElem?_map] at hx
   cases eB:Bs[i]? with
   | none=>rw [eB] at hx;cases hx
   | some B =>
    rw [eB] at hx
    cases hx
    have hi:i < Ls.length:=by rw [← hL.n];exact (List.getElem?_eq_some_iff.mp eB).1
    have eL:Ls[i]? = some Ls[i]:=List.getElem?_eq_getElem hi
    obtain ⟨hB,hw⟩:=hL1.at_ i B _ eB eL
    have apB:=(hL1.ap B (List.mem_of_getElem? eB)).1
    rw [List.drop_eq_getElem_cons hi] at e1
    generalize Ls[i] = L at hB hw e1
    unfold goAgain at e1
    cases ea:againOne S1 L with
    | error z=>rw [ea] at e1;cases e1
    | ok S2 =>
     rw [ea] at e1
     dsimp only at e1
     cases em:moveHere S2 L with
     | error z=>rw [em] at e1;cases e1
     | ok S3 =>
      rw [em] at e1
      dsimp only at e1
      have l2:=again_len ea
      have l3:=move_len em
      wtm_at "xx"
      refine Sx.cut (fun σ' G=>σ' = [some (.ref A.s),some (.ref l),some (.ref B.a)]∧ShAt CS G A S2∧FrX H' G (footS A)) ?_ ?_
      ·wtm_at "xx"
       refine ⟨B,L,rfl,hB,?_⟩
       wtm_at "xx"
       unfold againOne at ea
       refine iteB (fun g=>?_) (fun g=>?_)
       ·rw [if_pos g] at ea
        cases ew:wordOf S1 L with
        | error z=>rw [ew] at ea;cases ea
        | ok q =>
         obtain ⟨S1',v⟩:=q
         rw [ew] at ea
         dsimp only at ea
         have l1:=word_len ew
         wtm_at "xx"
         refine Sx.atF hA1.o T.clS T.n_here (lk_here _ _) ?_
         wtm_at "xx"
         refine ⟨A,B,S1,S1',L,v,rfl,hA1,hB,apB,hw,by omega,by omega,ew,fun G1 hG1 f1=>?_⟩
         wtm_at "xx"
         refine ⟨A,B,S1',S2,L,_,v,rfl,hG1,hB.frS f1 apB,by omega,ea,fun G2 hG2 f2=>?_⟩
         exact ⟨rfl,hG2,f1.trans f2⟩
       ·rw [g,if_neg Bool.false_ne_true] at ea
        cases ea
        wtm_at "xx"
        exact ⟨rfl,hA1,.refl⟩
      ·rintro σ' G ⟨rfl,hG,fG⟩
       wtm_at "xx"
       refine ⟨A,B,S2,S3,L,rfl,hG,hB.frS fG apB,hw,em,fun G2 hG2 f2=>?_⟩
       exact ⟨S3,_,rfl,hG2,fr1.trans (fG.trans f2),(hL1.fr hA1 fG).fr hG f2,e1,by rw [l3.1];omega,by rw [l3.2];omega⟩
  ·rintro σ' H' ⟨S1,x2,rfl,hA1,fr1,hL1,e1,hm1,hp1⟩
   rw [List.length_map,hL.n,List.drop_length] at e1
   cases e1
   exact k _ hA1 fr1
theorem make_s {H:Hp} {Q:Addr→Hp→Prop} (q:∀ A H',(∀ x∈footS A,H x = none)→ShAt CS H' A ⟨[],[],[],0⟩→Same H H'→Q A.s H') :
  ∀ x dx,H x = none→H dx = none→dx≠x→sp_initS CS (.ref x::([] ++ [])) (upd (upd H dx (.own x)) x (.ins CS dx [])) (fun v H2=>v = .non∧Q x H2) E0:=by
 intro x dx nx ndx nex
 have s1:Same H (upd (upd H dx (.own x)) x (.ins CS dx [])):=(Same.newH ndx).trans (Same.newH (by rw [upd_ne nex.symm];exact nx))
 refine ⟨x,dx,rfl,upd_same,fun A H' ea hf hA fr=>⟨rfl,?_⟩⟩
 have:=q A H' (fun y hy=>(hf y hy).elim (fun e=>by rw [e];exact nx) fun e=>s1.free e) hA fun b o e=>fr.1 b o (s1 b o e) fun z=>by rw [List.mem_singleton.mp z,nx] at e;cases e
 rw [ea] at this
 exact this
theorem first_keep:∀ (rows:List Str) (n:Int) (S:Sh) (Ls:List Ln) (S':Sh) (Ls':List Ln),goFirst rows n S Ls = .ok (S',Ls')→S'.made = S.made∧S'.pool = S.pool:=by
 intro rows
 induction rows with
 | nil=>intro n S Ls S' Ls' e;cases e;exact ⟨rfl,rfl⟩
 | cons r t ih =>
  intro n S Ls S' Ls' e
  unfold goFirst at e
  split at e
  ·cases e
  ·split at e
   ·cases e
   ·rename_i S1 et
    split at e
    ·cases e
    ·rename_i S2 em
     have h1:=ih _ _ _ _ _ e
     have h2:=move_len em
     have h3:S1.made = S.made∧S1.pool = S.pool:=by
      unfold tellLabel at et
      split at et
      ·cases et;exact ⟨rfl,rfl⟩
      ·split at et
       ·cases et
       ·cases et;exact ⟨rfl,rfl⟩
     exact ⟨h1.1.trans (h2.1.trans h3.1),h1.2.trans (h2.2.trans h3.2)⟩
theorem ok_asm (R:Raw K mg "assembled" s_assembled) (T:TxtT K mg CL CS) (M_Sheet:GC P w K mg base "Sheet" CS ["self"] 1 (sp_initS CS)) (G_go_over_first:GF P w K mg base "go_over_first" ["sheet","text"] 8 (sp_first CL CS)) (G_go_over_again:GF P w K mg base "go_over_again" ["sheet","lines"] 5 (sp_again CL CS)):GF P w K mg base "assembled" ["text"] 9 (sp_asm CL CS):=by
 refine GF.mk R sc_assembled (by wtm_at "1") (fun vs H Q E h=>?_) (fun f cdv A outer s H vs Q E hr h=>?_)
 ·obtain ⟨text,c,rfl,_⟩:=h;rfl
 ·obtain ⟨text,c,rfl,htl,hfew,hrow,e,k⟩:=h
  refine ⟨_,(@pss_cons _ _ _ _ _ (@ps_set _ _ (1) _ _ _ _ sc_assembled.nd rfl (Or.inr rfl) (pe_gmake0 M_Sheet (hr.mono (by decide)) rfl) rfl (by first | exact .inl rfl | exact .inr rfl | assumption)) (@pss_cons _ _ _ _ _ (@ps_set _ _ (2) _ _ _ _ sc_assembled.nd rfl (Or.inl rfl) (@pe_gcallN _ _ _ _ _ _ _ _ _ _ G_go_over_first (hr.mono (by decide)) rfl (@pa_c _ _ _ _ _ (pv 1) (@pa_c _ _ _ _ _ (pv 0) pa_nil rfl) rfl) (by decide) rfl) rfl (by first | exact .inl rfl | exact .inr rfl | assumption)) (@pss_cons _ _ _ _ _ (@ps_fldK _ (K) _ _ _ _ _ _ _ rfl (pv 1) pe_int rfl) (@pss_cons _ _ _ _ _ (@ps_expr _ _ _ _ (@pe_gcallN _ _ _ _ _ _ _ _ _ _ G_go_over_again (hr.mono (by decide)) rfl (@pa_c _ _ _ _ _ (pv 1) (@pa_c _ _ _ _ _ (pv 2) pa_nil rfl) rfl) (by decide) rfl) rfl) (@pss_one _ _ _ (@ps_ret _ _ _ _ (@pe_lcomp _ _ _ _ _ _ _ _ _ _ _ _ ([("sheet" ,1)]) rfl (@pi_range1 _ _ _ _ _ _ rfl T.range_ (@pa_c _ _ _ _ _ (@pe_gint _ _ _ _ rfl T.PLACES (by decide)) pa_nil rfl) rfl) ⟨rfl,rfl,by decide +kernel,by decide +kernel,rfl,by decide +kernel,⟨rfl,trivial⟩ ,rfl,⟨⟨rfl,.inl rfl,.inl rfl,_,rfl,rfl⟩ ,trivial⟩⟩ (fun _ _ _ _=>pts_nil) (fun _ _ _ _=>(pe_dget2 (hu1 hr) (@pe_fldK _ (K) _ _ _ _ rfl (pv 1) rfl) (pv 0) pe_int ⟨rfl,rfl,rfl,rfl⟩)) (fun _=>rfl)))))))),?_⟩
  unfold assembledR at e
  cases e1:goFirst (Txt.split text "\n") 1 ⟨[],[],[],0⟩ [] with
  | error z=>rw [e1] at e;cases e
  | ok q =>
   obtain ⟨S1,Ls⟩:=q
   rw [e1] at e
   dsimp only at e
   cases e2:goAgain Ls { S1 with here:=0 } with
   | error z=>rw [e2] at e;cases e
   | ok S2 =>
    rw [e2] at e
    cases e
    have hk:=first_keep _ _ _ _ _ _ e1
    wtm_at "xx"
    refine make_s fun A H1 nA hA1 s1=>?_
    wtm_at "xx"
    refine ⟨A,_,S1,text,Ls,rfl,hA1,rfl,htl,hfew,hrow,e1,fun l Bs H2 hL2 hn2 hA2 fr2=>?_⟩
    wtm_at "xx"
    refine ⟨A.s,CS,A.dx,_,rfl,hA2.o,T.clS,T.n_here,len_fldsS _ _,?_⟩
    rw [pf_here]
    have hA3:=hA2.setH (i:=0)
    have fr3:FrX H2 (upd H2 A.s (.ins CS A.dx (fldsS A { S1 with here:=0 }))) (footS A):=hA2.frU (by simp [footS])
    have hL3:=hL2.fr hA2 fr3
    generalize upd H2 A.s (.ins CS A.dx (fldsS A { S1 with here:=0 })) = H3 at hA3 fr3 hL3 ⊢
    wtm_at "xx"
    refine ⟨A,_,S2,l,Bs,Ls,rfl,hA3,hL3,hn2,by show S1.made.length = 0;rw [hk.1];rfl,by show S1.pool.length = 0;rw [hk.2];rfl,e2,fun H4 hA4 fr4=>?_⟩
    wtm_at "xx"
    refine ⟨64,rfl,by decide,by decide,lc_range (fun i=>.int ((S2.made.lookup (i:Int)).getD 0)) (by decide) (fun i hi Q' q=>?_) (fun q n=>?_)⟩
    ·wtm_at "xx"
     refine Sx.atF hA4.o T.clS T.n_made (lk_made _ _) ?_
     refine ⟨A.dm,rfl,.inl ⟨_,.of hA4.m⟩,?_⟩
     wtm_at "xx"
     refine ⟨(S2.made.lookup (i:Int)).map V.int,?_,?_⟩
     ·rw [← int_val]
      have:=DGet.k (k:=.inl ((0:Int) + i)) hA4.m
      rw [Int.zero_add] at this ⊢
      exact this
     ·cases g:S2.made.lookup (i:Int) with
      | none=>rw [g] at q;exact q
      | some v=>rw [g] at q;exact q
    ·have sm:Same H H4:=fun b o e=>fr4.1 b o (fr3.1 b o (fr2.1 b o (s1 b o e) fun z=>by rw [nA b z] at e;cases e) fun z=>by rw [nA b z] at e;cases e) fun z=>by rw [nA b z] at e;cases e
     refine k q _ (sm.free n) ?_ (sm.trans (Same.newH n))
     rw [upd_same,List.map_map]
     rfl
end
end Sc
namespace Sc
open PySem L2 Tx Ls
def firstOne (S:Sh) (L:Ln):R Sh:=match tellLabel S L with
 | .error e=>.error e
 | .ok S1=>moveHere S1 L
def goF:List Ln→Sh→R Sh
 | [],S=>.ok S
 | L::r,S=>match firstOne S L with
  | .error e=>.error e
  | .ok S1=>goF r S1
inductive ReadAll:Int→List Str→List Ln→Prop where
 | nil {n:Int}:ReadAll n [] []
 | cons {n:Int} {row:Str} {L:Ln} {rs:List Str} {ls:List Ln} (h:readLine row n = .ok L) (r:ReadAll (n + 1) rs ls):ReadAll n (row::rs) (L::ls)
theorem goFirst_all {n:Int} {rows:List Str} {ls:List Ln} (h:ReadAll n rows ls):∀ (S:Sh) (acc:List Ln),goFirst rows n S acc = match goF ls S with | .ok S'=>.ok (S',acc ++ ls) | .error e=>.error e:=by
 induction h with
 | nil=>intro S acc;simp [goFirst,goF]
 | cons h r ih =>
  intro S acc
  unfold goFirst goF firstOne
  rw [h]
  dsimp only
  cases tellLabel S _ with
  | error e=>rfl
  | ok S1 =>
   dsimp only
   cases moveHere S1 _ with
   | error e=>rfl
   | ok S2 =>
    dsimp only
    rw [ih S2]
    cases goF _ S2 with
    | error e=>rfl
    | ok S3=>simp
theorem assembled_of {text:Str} {rows:List Str} {ls:List Ln} {S S2:Sh} (hs:Txt.split text "\n" = rows) (hr:ReadAll 1 rows ls) (h1:goF ls ⟨[],[],[],0⟩ = .ok S) (h2:goAgain ls { S with here:=0 } = .ok S2) :
  assembledR text = .ok ((List.range 64).map fun (i:Nat)=>(S2.made.lookup (i:Int)).getD 0):=by
 unfold assembledR
 rw [hs,goFirst_all hr,h1]
 dsimp only
 rw [List.nil_append,h2]
def sgS (b:Bool):Str:=if b = true then "+" else "-"
def sgI (b:Bool):Int:=if b = true then 1 else -1
def valS (t:Str):List (Bool×Str)→Str
 | []=>t
 | (b,u)::r=>t ++ sgS b ++ valS u r
def flatT:List (Bool×Str)→List Str
 | []=>[]
 | (b,u)::r=>sgS b::u::flatT r
structure Tm (t:Str):Prop where
 free:32∉cs t∧43∉cs t∧45∉cs t
 term:isTerm t = true
theorem sg_cs (b:Bool):replC 45 [32,45,32] (replC 43 [32,43,32] (cs (sgS b))) = 32::(cs (sgS b) ++ [32])∧32∉cs (sgS b):=by cases b <;> decide +kernel
theorem val_split:∀ (r:List (Bool×Str)) (t:Str),Tm t→(∀ p∈r,Tm p.2)→splitC 32 (replC 45 [32,45,32] (replC 43 [32,43,32] (cs (valS t r)))) = (t::flatT r).map cs
 | [],t,h,_=>by
  show splitC 32 (replC 45 [32,45,32] (replC 43 [32,43,32] (cs t))) = [cs t]
  rw [repl_free h.free.2.1,repl_free h.free.2.2,split_one h.free.1]
 | (b,u)::r,t,h,hr=>by
  have ih:=val_split r u (hr _ List.mem_cons_self) fun p hp=>hr p (List.mem_cons_of_mem _ hp)
  obtain ⟨s1,s2⟩:=sg_cs b
  show splitC 32 (replC 45 [32,45,32] (replC 43 [32,43,32] (cs (t ++ sgS b ++ valS u r)))) = cs t::cs (sgS b)::(u::flatT r).map cs
  rw [cs_app,cs_app,repl_app,repl_app,repl_app,repl_app,repl_free h.free.2.1,repl_free h.free.2.2,s1,List.append_assoc]
  show splitC 32 (cs t ++ 32::((cs (sgS b) ++ [32]) ++ _)) = _
  rw [split_app h.free.1,List.append_assoc]
  show cs t::splitC 32 (cs (sgS b) ++ 32::_) = _
  rw [split_app s2]
  show cs t::cs (sgS b)::splitC 32 (replC 45 [32,45,32] (replC 43 [32,43,32] (cs (valS u r)))) = _
  rw [ih]
theorem val_pieces {t:Str} {r:List (Bool×Str)} (h:Tm t) (hr:∀ p∈r,Tm p.2):termPieces (valS t r) = t::flatT r:=by
 apply map_cs_inj
 rw [termPieces_cs,val_split r t h hr]
theorem go_val {ln:Int}:∀ (r:List (Bool×Str)) (n:Nat) (f:Int) (t:Str) (acc:List (Int×Str)),n % 2 = 0→isTerm t = true→(∀ p∈r,isTerm p.2 = true)→goTerms ln n f (t::flatT r) acc = .ok (acc ++ (f,t)::r.map fun p=>(sgI p.1,p.2))
 | [],n,f,t,acc,hn,ht,_=>by
  unfold goTerms
  rw [if_neg (by omega),if_pos ht]
  rfl
 | (b,u)::r,n,f,t,acc,hn,ht,hr=>by
  have ih:=go_val (ln:=ln) r (n + 2) (sgI b) u (acc ++ [(f,t)]) (by omega) (hr _ List.mem_cons_self) fun p hp=>hr p (List.mem_cons_of_mem _ hp)
  unfold goTerms
  rw [if_neg (by omega),if_pos ht]
  show goTerms ln (n + 1) f (sgS b::u::flatT r) _ = _
  rw [goTerms,if_pos (by omega),show (if sgS b = "+" then (1:Int) else -1) = sgI b from by cases b <;> decide +kernel,ih]
  simp
theorem read_val {L:Ln} {t:Str} {r:List (Bool×Str)} (h:Tm t) (hr:∀ p∈r,Tm p.2):readValue L [valS t r] = .ok { L with terms:=L.terms ++ (1,t)::r.map fun p=>(sgI p.1,p.2) }:=by
 unfold readValue
 dsimp only
 rw [val_pieces h hr,go_val r 0 1 t L.terms rfl h.term fun p hp=>(hr p hp).term]
theorem NumP.tm {v:Str} {k:Nat} (h:NumP v k):Tm v:=⟨h.free,h.term⟩
theorem NumP.val' {v:Str} {k:Nat} (h:NumP v k) (S:Sh) (ln:Int):termVal S ln v = .ok (k:Int):=by rw [termVal_figs h.ne h.figs,h.val]
inductive It2 where
 | cell (c:Int)
 | pool (b v:Int)
structure MkC (L:Ln):Prop where
 cell:makes L = true
 np:¬ L.name = some ("place" : Str)
def Rd2 (L:Ln):It2→Prop
 | .cell c=>MkC L∧∀ S,wordOf S L = .ok (S,c)
 | .pool b v=>MkC L∧L.pooled = true∧L.base = b∧∀ S,boundVal S L 1024 = .ok v
theorem Rd2.mk {L:Ln} {t:It2} (h:Rd2 L t):MkC L:=by cases t <;> exact h.1
def poolGo:List Int→List It2→List Int
 | P,[]=>P
 | P,.cell _::r=>poolGo P r
 | P,.pool _ v::r=>if v∈P then poolGo P r else poolGo (P ++ [v]) r
theorem pool_pre:∀ (its:List It2) (P:List Int),∃ t,poolGo P its = P ++ t
 | [],P=>⟨[],by simp [poolGo]⟩
 | .cell _::r,P=>pool_pre r P
 | .pool _ v::r,P=>by
  unfold poolGo
  split
  ·exact pool_pre r P
  ·obtain ⟨t,e⟩:=pool_pre r (P ++ [v])
   exact ⟨[v] ++ t,by rw [e,List.append_assoc]⟩
theorem idx_pre {P t:List Int} {v:Int} (h:v∈P):(P ++ t).idxOf v = P.idxOf v:=by rw [List.idxOf_append,if_pos h]
def poolA:Int→List Int→List (Int×Int)
 | _,[]=>[]
 | j,v::r=>(v,63 - j)::poolA (j + 1) r
theorem poolA_look (v:Int):∀ (P:List Int) (j:Int),(poolA j P).lookup v = if v∈P then some (63 - (j + (P.idxOf v:Nat))) else none
 | [],j=>rfl
 | u::P,j=>by
  unfold poolA
  rw [List.lookup_cons,poolA_look v P (j + 1),List.idxOf_cons]
  by_cases h:v = u
  ·subst h
   simp
  ·have h1:(v == u) = false:=by simpa using h
   have h2:(u == v) = false:=by simpa using fun z=>h z.symm
   rw [h1,h2]
   simp only [List.mem_cons,h,false_or,cond_false]
   by_cases g:v∈P
   ·rw [if_pos g,if_pos g]
    congr 1
    omega
   ·rw [if_neg g,if_neg g]
theorem poolA_snoc (v:Int):∀ (P:List Int) (j:Int),poolA j (P ++ [v]) = poolA j P ++ [(v,63 - (j + (P.length:Nat)))]
 | [],j=>by simp [poolA]
 | u::P,j=>by
  show (u,63 - j)::poolA (j + 1) (P ++ [v]) = _
  rw [poolA_snoc v P (j + 1)]
  simp only [poolA,List.cons_append,List.length_cons]
  congr 3
  congr 1
  omega
def wordI (P:List Int):It2→Int
 | .cell c=>c
 | .pool b v=>b + (63 - (P.idxOf v:Nat))
def madeF (ws P:List Int) (k:Nat):Option Int:=if k < ws.length then ws[k]? else if k < 64∧64≤k + P.length then P[63 - k]? else none
theorem madeF_none {ws P:List Int} (h:ws.length + P.length < 64):madeF ws P ws.length = none:=by
 unfold madeF
 rw [if_neg (by omega),if_neg (by omega)]
theorem madeF_snoc {ws P:List Int} {c:Int} (h:ws.length + P.length < 64) (k:Nat):madeF (ws ++ [c]) P k = if (k:Int) = (ws.length:Int) then some c else madeF ws P k:=by
 unfold madeF
 rw [List.length_append,List.length_singleton]
 by_cases e:k = ws.length
 ·subst e
  rw [if_pos rfl,if_pos (by omega)]
  simp
 ·rw [if_neg (show ¬ ((k:Int) = (ws.length:Int)) by omega)]
  by_cases g:k < ws.length
  ·rw [if_pos (by omega),if_pos g,List.getElem?_append_left g]
  ·rw [if_neg (by omega),if_neg g]
theorem madeF_pool {ws P:List Int} {v:Int} (h:ws.length + P.length < 64) (k:Nat):madeF ws (P ++ [v]) k = if (k:Int) = 63 - (P.length:Int) then some v else madeF ws P k:=by
 unfold madeF
 rw [List.length_append,List.length_singleton]
 by_cases e:k = 63 - P.length
 ·rw [if_pos (show (k:Int) = 63 - (P.length:Int) by omega),if_neg (by omega),if_pos (by omega),show 63 - k = P.length from by omega]
  simp
 ·rw [if_neg (show ¬ ((k:Int) = 63 - (P.length:Int)) by omega)]
  by_cases g:k < ws.length
  ·rw [if_pos g,if_pos g]
  ·rw [if_neg g,if_neg g]
   by_cases q:k < 64∧64≤k + P.length
   ·rw [if_pos q,if_pos (by omega),List.getElem?_append_left (by omega)]
   ·rw [if_neg q,if_neg (by omega)]
theorem mcell_ok {S:Sh} {ln p c:Int} (h0:0≤p) (hn:S.made.lookup p = none):makeCell S ln p c = .ok { S with made:=S.made ++ [(p,c)] }:=by
 unfold makeCell
 rw [if_neg (by omega),hn]
theorem move_ok {S:Sh} {L:Ln} (h:MkC L) (h1:S.here < 64):moveHere S L = .ok { S with here:=S.here + 1 }:=by
 unfold moveHere
 rw [if_neg h.np,if_pos h.cell,if_neg (by omega)]
theorem again_pool:∀ {ls:List Ln} {its:List It2},All2 Rd2 ls its→∀ (S:Sh) (ws P:List Int),S.here = (ws.length:Nat)→S.pool = poolA 0 P→(∀ k:Nat,S.made.lookup (k:Int) = madeF ws P k)→ws.length + its.length + (poolGo P its).length≤64 →
  ∃ S',goAgain ls S = .ok S'∧∀ k:Nat,S'.made.lookup (k:Int) = madeF (ws ++ its.map (wordI (poolGo P its))) (poolGo P its) k
 | _,_,.nil,S,ws,P,_,_,hm,_=>⟨S,rfl,fun k=>by rw [hm];simp [poolGo]⟩
 | _,_,.cons (a:=L) (b:=t) (as:=ls) (bs:=its) h r,S,ws,P,hh,hp,hm,hz=>by
  rw [List.length_cons] at hz
  obtain ⟨tl,et⟩:=pool_pre (t::its) P
  have hP:P.length≤(poolGo P (t::its)).length:=by rw [et,List.length_append];omega
  have step:∀ (S1:Sh) (P1:List Int) (c:Int),wordOf S L = .ok (S1,c)→S1.here = (ws.length:Nat)→S1.pool = poolA 0 P1→(∀ k:Nat,S1.made.lookup (k:Int) = madeF ws P1 k)→poolGo P (t::its) = poolGo P1 its→P1.length≤(poolGo P (t::its)).length→c = wordI (poolGo P (t::its)) t →
    ∃ S',goAgain (L::ls) S = .ok S'∧∀ k:Nat,S'.made.lookup (k:Int) = madeF (ws ++ (t::its).map (wordI (poolGo P (t::its)))) (poolGo P (t::its)) k:=by
   intro S1 P1 c hw hh1 hp1 hm1 he hl hc
   have hn:S1.made.lookup (ws.length:Int) = none:=by rw [hm1];exact madeF_none (by omega)
   obtain ⟨S',e1,e2⟩:=again_pool r { S1 with made:=S1.made ++ [((ws.length:Int),c)],here:=S1.here + 1 } (ws ++ [c]) P1 (by
     show S1.here + 1 = _
     rw [hh1,List.length_append,List.length_singleton]
     omega) hp1 (fun k=>by
     rw [lookup_snoc hn,madeF_snoc (by omega),hm1]) (by rw [List.length_append,List.length_singleton,← he];omega)
   refine ⟨S',?_,fun k=>?_⟩
   ·unfold goAgain againOne
    rw [if_pos h.mk.cell,hw]
    dsimp only
    rw [hh,mcell_ok (by omega) hn]
    dsimp only
    rw [move_ok h.mk (by show S1.here < 64;rw [hh1];omega)]
    exact e1
   ·rw [e2,← he,hc]
    simp
  cases t with
  | cell c=>exact step S P c (h.2 S) hh hp hm rfl hP rfl
  | pool b v =>
   obtain ⟨hk,hq,hb,hv⟩:=h
   by_cases g:v∈P
   ·have eg:poolGo P (.pool b v::its) = poolGo P its:=by rw [poolGo,if_pos g]
    refine step S P (b + (63 - (P.idxOf v:Nat))) ?_ hh hp hm eg hP ?_
    ·unfold wordOf poolPlace
     rw [if_pos hq,hv]
     dsimp only
     rw [hp,poolA_look,if_pos g]
     dsimp only
     rw [hb,Int.zero_add]
    ·show _ = b + (63 - (((poolGo P (.pool b v::its)).idxOf v:Nat):Int))
     rw [et,idx_pre g]
   ·have eg:poolGo P (.pool b v::its) = poolGo (P ++ [v]) its:=by rw [poolGo,if_neg g]
    obtain ⟨tl2,et2⟩:=pool_pre its (P ++ [v])
    have hl2:(P ++ [v]).length≤(poolGo P (.pool b v::its)).length:=by rw [eg,et2,List.length_append (bs:=tl2)];omega
    have hl3:P.length + 1≤(poolGo P (.pool b v::its)).length:=by rw [List.length_append,List.length_singleton] at hl2;exact hl2
    have hn:S.made.lookup (63 - (P.length:Int)) = none:=by
     have:=hm (63 - P.length)
     rw [show ((63 - P.length:Nat):Int) = 63 - (P.length:Int) from by omega] at this
     rw [this]
     unfold madeF
     rw [if_neg (by omega),if_neg (by omega)]
    have hpl:S.pool.length = P.length:=by
     rw [hp]
     have:∀ (P:List Int) (j:Int),(poolA j P).length = P.length:=fun P=>by
      induction P with
      | nil=>intro j;rfl
      | cons a P ih=>intro j;rw [poolA,List.length_cons,List.length_cons,ih]
     exact this P 0
    refine step { S with made:=S.made ++ [(63 - (P.length:Int),v)],pool:=S.pool ++ [(v,63 - (P.length:Int))] } (P ++ [v]) (b + (63 - (P.length:Int))) ?_ hh ?_ ?_ eg hl2 ?_
    ·unfold wordOf poolPlace
     rw [if_pos hq,hv]
     dsimp only
     rw [hp,poolA_look,if_neg g]
     dsimp only
     rw [← hp,hpl,mcell_ok (by omega) hn]
     dsimp only
     rw [hb]
    ·show S.pool ++ _ = _
     rw [poolA_snoc,hp,Int.zero_add]
    ·intro k
     show (S.made ++ [(63 - (P.length:Int),v)]).lookup (k:Int) = _
     rw [lookup_snoc hn,madeF_pool (by omega),hm]
    ·show _ = b + (63 - (((poolGo P (.pool b v::its)).idxOf v:Nat):Int))
     rw [eg,et2,idx_pre (by simp),List.idxOf_append,if_neg g]
     simp
def lbls:List Ln→Int→List (Str×Int)
 | [],_=>[]
 | L::r,h=>(match L.label with | none=>[] | some x=>[(x,h)]) ++ lbls r (h + 1)
theorem first_cells:∀ {ls:List Ln},(∀ L∈ls,MkC L)→∀ S:Sh,(S.labels.map Prod.fst ++ ls.filterMap Ln.label).Nodup→S.here + (ls.length:Nat)≤64→goF ls S = .ok { S with labels:=S.labels ++ lbls ls S.here,here:=S.here + (ls.length:Nat) }
 | [],_,S,_,_=>by simp [goF,lbls]
 | L::ls,h,S,hn,hz=>by
  rw [List.length_cons] at hz
  have hk:=h L List.mem_cons_self
  have hr:∀ L∈ls,MkC L:=fun M hM=>h M (List.mem_cons_of_mem _ hM)
  unfold goF firstOne tellLabel
  cases e:L.label with
  | none =>
   dsimp only
   rw [move_ok hk (by omega)]
   dsimp only
   rw [List.filterMap_cons_none e] at hn
   rw [first_cells hr { S with here:=S.here + 1 } hn (by show S.here + 1 + _≤64;omega)]
   simp only [lbls,e,List.nil_append,List.length_cons]
   congr 2
   omega
  | some x =>
   dsimp only
   rw [List.filterMap_cons_some e] at hn
   have hx:S.labels.lookup x = none:=by
    rw [List.lookup_eq_none_iff]
    intro p hp
    have:=(List.nodup_append.mp hn).2.2 p.1 (List.mem_map.mpr ⟨p,hp,rfl⟩) x List.mem_cons_self
    simpa using fun z=>this z.symm
   rw [hx]
   dsimp only
   rw [move_ok hk (by show S.here < 64;omega)]
   dsimp only
   rw [first_cells hr { S with labels:=S.labels ++ [(x,S.here)],here:=S.here + 1 } (by
    show ((S.labels ++ [(x,S.here)]).map Prod.fst ++ ls.filterMap Ln.label).Nodup
    rw [List.map_append,List.append_assoc]
    exact hn) (by show S.here + 1 + _≤64;omega)]
   simp only [lbls,e,List.append_assoc,List.length_cons]
   congr 2
   omega
theorem pool_text {text:Str} {rows:List Str} {ls:List Ln} {its:List It2} (hs:Txt.split text "\n" = rows) (hr:ReadAll 1 rows ls) (h2:All2 Rd2 ls its) (hl:(ls.filterMap Ln.label).Nodup) (hz:its.length + (poolGo [] its).length≤64) :
  assembledR text = .ok ((List.range 64).map fun (i:Nat)=>(madeF (its.map (wordI (poolGo [] its))) (poolGo [] its) i).getD 0):=by
 have hk:∀ L∈ls,MkC L:=by
  have:∀ {ls:List Ln} {its:List It2},All2 Rd2 ls its→∀ L∈ls,MkC L:=fun h=>by
   induction h with
   | nil=>intro L hL;cases hL
   | cons h _ ih =>
    intro L hL
    rcases List.mem_cons.mp hL with rfl | hL
    ·exact h.mk
    ·exact ih L hL
  exact this h2
 have hlen:ls.length = its.length:=by
  have:∀ {ls:List Ln} {its:List It2},All2 Rd2 ls its→ls.length = its.length:=fun h=>by
   induction h with
   | nil=>rfl
   | cons _ _ ih=>rw [List.length_cons,List.length_cons,ih]
  exact this h2
 have f:=first_cells hk ⟨[],[],[],0⟩ (by simpa using hl) (by show (0:Int) + _≤64;omega)
 obtain ⟨S',e,hm⟩:=again_pool h2 ⟨[] ++ lbls ls 0,[],[],0⟩ [] [] rfl rfl (fun k=>by
  show none = _
  unfold madeF
  rw [if_neg (by simp),if_neg (by simp)]) (by simpa using hz)
 rw [assembled_of hs hr f e]
 congr 1
 apply List.map_congr_left
 intro i _
 rw [hm,List.nil_append]
theorem text_fit {m:Nat} {ls:List Str} (h:ls.length * (m + 1)≤19000) (hm:m≤200) (h2:∀ l∈ls,l.length≤m):(Str.join "\n" ls).length ≤ 1000000 ∧ (Txt.split (Str.join "\n" ls) "\n").length ≤ 20000 ∧ ∀ r ∈ Txt.split (Str.join "\n" ls) "\n",r.length≤2000:=by
 have hl:(Str.join "\n" ls).length≤19000:=by
  have:=Ls.join_len "\n" ls m h2
  rw [l_nl] at this
  omega
 refine ⟨by omega,?_⟩
 by_cases g:ls = []
 ·subst g
  have h0:(Str.join "\n" ([]:List Str)).length = 0:=rfl
  refine ⟨by have:=split_len (Str.join "\n" ([] : List Str)) "\n";omega,fun r hr=>?_⟩
  have h1:cs r∈(Txt.split (Str.join "\n" ([] : List Str)) "\n").map cs:=List.mem_map.mpr ⟨r,hr,rfl⟩
  rw [nl_eq,tsplit] at h1
  have:=split_short h1
  rw [cs_len,cs_len] at this
  have h4:(Str.join ⟨#[10]⟩ ([]:List Str)).length = 0:=rfl
  omega
 ·have hs:(Txt.split (Str.join "\n" ls) "\n").map cs = (ls.map cs).flatMap (splitC 10):=by
   rw [nl_eq,tsplit,cs_join,show cs ⟨#[10]⟩ = [10] from rfl,split_flat 10 _ (by simpa using g)]
  refine ⟨?_,fun r hr=>?_⟩
  ·have:=split_len (Str.join "\n" ls) "\n"
   omega
  ·have h1:cs r∈(Txt.split (Str.join "\n" ls) "\n").map cs:=List.mem_map.mpr ⟨r,hr,rfl⟩
   rw [hs,List.mem_flatMap] at h1
   obtain ⟨c,hc,hr⟩:=h1
   obtain ⟨l,hl',rfl⟩:=List.mem_map.mp hc
   have:=split_short hr
   rw [cs_len,cs_len] at this
   have:=h2 l hl'
   omega
def RowI (row:Str) (t:It2):Prop:=∀ k,∃ L,readLine row k = .ok L∧L.label = none∧Rd2 L t
theorem rows_read:∀ {rows:List Str} {its:List It2},All2 RowI rows its→∀ n,∃ ls,ReadAll n rows ls∧All2 Rd2 ls its∧ls.filterMap Ln.label = []
 | _,_,.nil,n=>⟨[],.nil,.nil,rfl⟩
 | _,_,.cons h r,n=>by
  obtain ⟨L,h1,h2,h3⟩:=h n
  obtain ⟨ls,g1,g2,g3⟩:=rows_read r (n + 1)
  exact ⟨L::ls,.cons h1 g1,.cons h3 g2,by rw [List.filterMap_cons_none h2];exact g3⟩
theorem plain_row {row:Str} {c:Int} (h:Plain row c):RowI row (.cell c):=fun n=>by
 obtain ⟨L,h1,_,h3,h4,h5,h6⟩:=h n
 exact ⟨L,h1,h3,⟨h4,h5⟩,h6⟩
structure WrOk (t:Str) (n:Int):Prop where
 len:t.length≤40
 tk:Tk t
 val:∃ t0 r,t = valS t0 r∧Tm t0∧(∀ p∈r,Tm p.2)∧∀ S ln,sumTerms S ln ((1,t0)::r.map fun p=>(sgI p.1,p.2)) 0 = .ok n
theorem eq_cs (t:Str):cs ("=" ++ t) = 61::cs t:=by
 rw [cs_app]
 have e:cs ("=" : Str) = [61]:=by decide +kernel
 rw [e];rfl
theorem pool_row {nm t row:Str} {far:Bool} {n:Int} (hk:nm∈kindsS) (hw:WrOk t n) (h0:0≤n) (h1:n < 1024) (hp:pieces row = if far = true then [nm,"far","=" ++ t] else [nm,"=" ++ t]):RowI row (.pool ((kindsS.idxOf nm:Nat) * 128 + (if far = true then 64 else 0)) n):=by
 intro k
 obtain ⟨k1,k2,k3⟩:=kinds_not nm hk
 obtain ⟨t0,r,rfl,ht,hr,hs⟩:=hw.val
 have hfar:¬ ("=" ++ valS t0 r) = "far":=fun z=>by
  have e:=congrArg cs z
  rw [eq_cs] at e
  have:cs ("far" : Str) = [102,97,114]:=by decide +kernel
  rw [this] at e
  injection e with e1
  exact absurd e1 (by decide)
 have h61:(cs ("=" ++ valS t0 r))[0]? = some 61:=by rw [eq_cs];rfl
 have hd:oc ((cs ("=" ++ valS t0 r)).drop 1) = valS t0 r:=by rw [eq_cs];exact oc_cs _
 refine ⟨⟨k,none,some nm,(kindsS.idxOf nm:Nat) * 128 + (if far = true then 64 else 0),true,(1,t0)::r.map fun p=>(sgI p.1,p.2)⟩,?_,rfl,⟨by simp [makes,k2],by simp [k2]⟩,rfl,rfl,fun S=>?_⟩
 ·cases far with
  | true =>
   rw [readLine_of hp k1]
   unfold readDeed
   simp only
   rw [if_neg (by simp [k2,k3]),if_pos hk]
   unfold readCell
   simp only [if_true]
   unfold readPool
   dsimp only
   rw [if_pos h61,hd,read_val ht hr]
   rfl
  | false =>
   rw [readLine_of hp k1]
   unfold readDeed
   simp only
   rw [if_neg (by simp [k2,k3]),if_pos hk]
   unfold readCell
   simp only
   rw [if_neg hfar]
   unfold readPool
   dsimp only
   rw [if_pos h61,hd,read_val ht hr]
   simp [newLn]
 ·unfold boundVal
  dsimp only
  rw [hs]
  dsimp only
  rw [if_pos ⟨h0,h1⟩]
end Sc
namespace Spk
open PySem Mir Us Hs
structure Prog (m c:List Int):Prop where
 len:c.length = 64
 m12:m.length≤12
 mr:∀ v∈m,0≤v∧v < 256
 w0:∀ j,j < m.length→c.getD (3 * j) 0 = 928
 w1:∀ (j:Nat) (v:Int),m[j]? = some v→∃ q:Nat,q < 64∧c.getD (3 * j + 1) 0 = 128 + (q:Int)∧c.getD q 0 = v
 w2:∀ j,j < m.length→c.getD (3 * j + 2) 0 = 771
 we:c.getD (3 * m.length) 0 = 775
structure At (m c:List Int) (x:Usr) (p:Nat):Prop where
 c:x.m.cells = c
 le:p≤3 * m.length + 1
 at_:x.m.at_ = p
 st:x.st = if p≤3 * m.length then .ready else .stopped
 po:x.pap ++ x.outb = m.take (p / 3)
 t1:p % 3 = 1→p < 3 * m.length→x.m.total = 0
 t2:p % 3 = 2→∀ v,m[p / 3]? = some v→x.m.total = v
theorem ch_zero (m:Mach):changeM m 32 = { m with total:=0 }:=by
 have b1:bit 32 32 = true:=by decide
 have b2:bit 32 16 = false:=by decide
 have b3:bit 32 8 = false:=by decide
 have b4:bit 32 4 = false:=by decide
 have b5:bit 32 2 = false:=by decide
 have b6:bit 32 1 = false:=by decide
 unfold changeM ch6 ch5 ch4 ch3 ch2 ch1
 simp [b1,b2,b3,b4,b5,b6]
theorem dw_zero (m:Mach):deedW m 928 = (none,{ m with total:=0 }):=by
 unfold deedW
 rw [if_neg (by decide),if_pos (by decide),show (928:Int) % 64 = 32 from rfl,ch_zero]
theorem dw_ask (m:Mach) (k:Int) (h0:0≤k) (h1:k < 64):deedW m (768 + k) = (some k,m):=by
 unfold deedW
 rw [if_pos (by omega),show (768 + k) % 64 = k from by omega]
theorem dw_add (m:Mach) {q:Nat} (hq:q < 64):deedW m (128 + (q:Int)) = (none,addT m (cellM m q)):=by
 have e1:(128 + (q:Int)) / 128 = 1:=by omega
 have e2:(128 + (q:Int)) % 128 = q:=by omega
 have e3:(128 + (q:Int)) % 64 = q:=by omega
 unfold deedW
 rw [e1,e2,e3,if_neg (by decide),if_neg (fun z=>absurd z.1 (by decide)),if_neg (by decide),if_pos (by omega)]
 unfold withCell
 rw [if_neg (by decide),if_pos rfl]
theorem At.outl {m c:List Int} {x:Usr} {p:Nat} (P:Prog m c) (h:At m c x p):x.outb.length≤12:=by
 have:=congrArg List.length h.po
 rw [List.length_append,List.length_take] at this
 have:=P.m12
 omega
theorem At.step {m c:List Int} {x:Usr} {p:Nat} (P:Prog m c) (h:At m c x p) (hp:p≤3 * m.length):At m c (happenU x .step) (p + 1):=by
 have hst:x.st = .ready:=by rw [h.st,if_pos hp]
 have hs:happenU x .step = deedU x:=by show stepU x = _;unfold stepU;rw [if_pos hst]
 have m12:=P.m12
 have hmo:moveOn x.m = { x.m with at_:=((p + 1:Nat):Int) }:=by
  unfold moveOn
  rw [h.at_]
  congr 1
  omega
 have hd:deedM x.m = deedW { x.m with at_:=((p + 1:Nat):Int) } (c.getD p 0):=by
  unfold deedM cellM
  rw [hmo,h.c,h.at_,Int.toNat_natCast]
 rw [hs]
 obtain ⟨j,r,hr,e⟩:∃ j r,r < 3∧p = 3 * j + r:=⟨p / 3,p % 3,by omega,by omega⟩
 have hj3:p / 3 = j:=by omega
 by_cases ge:p = 3 * m.length
 ·have hw:c.getD p 0 = 768 + 7:=by rw [ge,P.we];rfl
  have hdu:deedU x = { x with done:=x.done + 1,m:={ x.m with at_:=((p + 1:Nat):Int) },st:=.stopped }:=by
   unfold deedU
   rw [hd,hw,dw_ask _ 7 (by decide) (by decide)]
   dsimp only
   unfold askU
   simp
  rw [hdu]
  refine ⟨h.c,by omega,rfl,by rw [if_neg (by omega)],?_,fun z _=>?_,fun z=>?_⟩
  ·show x.pap ++ x.outb = _
   rw [h.po]
   congr 1
   omega
  ·omega
  ·omega
 ·have hj:j < m.length:=by omega
  obtain ⟨v,hv⟩:∃ v,m[j]? = some v:=⟨_,List.getElem?_eq_getElem hj⟩
  have hvr:=P.mr v (List.mem_of_getElem? hv)
  have hrc:r = 0∨r = 1∨r = 2:=by omega
  rcases hrc with rfl | rfl | rfl
  ·have hw:c.getD p 0 = 928:=by rw [e];exact P.w0 j hj
   have hdu:deedU x = { x with done:=x.done + 1,m:={ x.m with at_:=((p + 1:Nat):Int),total:=0 } }:=by
    unfold deedU
    rw [hd,hw,dw_zero]
   rw [hdu]
   refine ⟨h.c,by omega,rfl,?_,?_,fun _ _=>rfl,fun z=>by omega⟩
   ·show x.st = _
    rw [hst,if_pos (by omega)]
   ·show x.pap ++ x.outb = _
    rw [h.po]
    congr 1
    omega
  ·obtain ⟨q,hq,hw,hc⟩:=P.w1 j v hv
   have hw':c.getD p 0 = 128 + (q:Int):=by rw [e];exact hw
   have t0:x.m.total = 0:=h.t1 (by omega) (by omega)
   have hdu:deedU x = { x with done:=x.done + 1,m:={ x.m with at_:=((p + 1:Nat):Int),total:=v } }:=by
    unfold deedU
    rw [hd,hw',dw_add _ hq]
    unfold addT cellM
    dsimp only
    rw [h.c,Int.toNat_natCast,hc,t0,if_neg (by omega),Int.zero_add]
   rw [hdu]
   refine ⟨h.c,by omega,rfl,?_,?_,fun z=>by omega,fun _ u hu=>?_⟩
   ·show x.st = _
    rw [hst,if_pos (by omega)]
   ·show x.pap ++ x.outb = _
    rw [h.po]
    congr 1
    omega
   ·show v = u
    rw [show (p + 1) / 3 = j from by omega,hv] at hu
    exact Option.some.inj hu
  ·have hw:c.getD p 0 = 768 + 3:=by rw [e,P.w2 j hj];rfl
   have tv:x.m.total = v:=h.t2 (by omega) v (by rw [hj3];exact hv)
   have ho:=h.outl P
   have hdu:deedU x = { x with done:=x.done + 1,m:={ x.m with at_:=((p + 1:Nat):Int) },outb:=x.outb ++ [v] }:=by
    unfold deedU
    rw [hd,hw,dw_ask _ 3 (by decide) (by decide)]
    dsimp only
    unfold askU sayU
    simp only
    rw [if_neg (by decide),if_neg (by decide),if_neg (by decide),if_pos trivial,if_neg (by omega),tv,show v % 256 = v from by omega]
   rw [hdu]
   refine ⟨h.c,by omega,rfl,?_,?_,fun z=>by omega,fun z=>by omega⟩
   ·show x.st = _
    rw [hst,if_pos (by omega)]
   ·show x.pap ++ (x.outb ++ [v]) = _
    rw [← List.append_assoc,h.po,show (p + 1) / 3 = j + 1 from by omega,hj3,List.take_add_one,hv]
    rfl
theorem At.tick {m c:List Int} {x:Usr} {p:Nat} (h:At m c x p):At m c (happenU x .tick) p∧(happenU x .tick).outb.length = x.outb.length - 1:=by
 have hst:x.st = .ready∨x.st = .stopped:=by
  rw [h.st]
  split
  ·exact .inl rfl
  ·exact .inr rfl
 have hs:¬ x.st = .says∧¬ x.st = .sleeps:=by rcases hst with z | z <;> rw [z] <;> decide
 have ht:happenU x .tick = printU x:=by
  show napU (printU x) = _
  unfold napU
  rw [if_neg]
  unfold printU
  split
  ·exact hs.2
  ·dsimp only
   rw [if_neg hs.1]
   exact hs.2
 rw [ht]
 unfold printU
 split
 ·rename_i e
  exact ⟨h,by rw [e];rfl⟩
 ·rename_i y r e
  refine ⟨⟨h.c,h.le,h.at_,?_,?_,h.t1,h.t2⟩,by rw [e];rfl⟩
  ·show (if x.st = .says then St5.ready else x.st) = _
   rw [if_neg hs.1]
   exact h.st
  ·show x.pap ++ [y] ++ r = _
   rw [← h.po,e,List.append_assoc]
   rfl
def sumN (f:Nat→Nat):Nat→Nat
 | 0=>0
 | n + 1=>sumN f n + f n
theorem sum_one {f g:Nat→Nat} {u:Nat} (h:∀ i,g i = if i = u then f i + 1 else f i):∀ n,sumN g n = sumN f n + if u < n then 1 else 0
 | 0=>rfl
 | n + 1=>by
  rw [sumN,sumN,sum_one h n,h n]
  by_cases e:n = u
  ·subst e
   rw [if_pos rfl,if_neg (Nat.lt_irrefl _),if_pos (Nat.lt_succ_self _)]
   omega
  ·rw [if_neg e]
   by_cases l:u < n
   ·rw [if_pos l,if_pos (by omega)];omega
   ·rw [if_neg l,if_neg (by omega)];omega
theorem sum_le {f g:Nat→Nat}:∀ n,(∀ i,i < n→f i≤g i)→sumN f n≤sumN g n
 | 0,_=>Nat.le_refl _
 | n + 1,h=>by
  have:=sum_le n fun i hi=>h i (by omega)
  have:=h n (by omega)
  rw [sumN,sumN]
  omega
theorem sum_all {f g:Nat→Nat}:∀ n,(∀ i,i < n→f i≤g i)→sumN g n≤sumN f n→∀ i,i < n→f i = g i
 | 0,_,_,i,hi=>absurd hi (Nat.not_lt_zero _)
 | n + 1,h,hs,i,hi=>by
  have h1:=sum_le n fun i hi=>h i (by omega)
  have h2:=h n (by omega)
  rw [sumN,sumN] at hs
  by_cases e:i = n
  ·subst e;omega
  ·exact sum_all n (fun i hi=>h i (by omega)) (by omega) i (by omega)
structure Hall (n:Nat) (ms cs:Nat→List Int) (s:Hse) (ps:Nat→Nat):Prop where
 fair:Fair s
 len:s.us.length = n
 us:∀ u,u < n→At (ms u) (cs u) (usr s u) (ps u)
def full (ms:Nat→List Int) (u:Nat):Nat:=3 * (ms u).length + 1
section
variable {n:Nat} {ms cs:Nat→List Int} {s:Hse} {ps:Nat→Nat}
theorem Hall.over (h:Hall n ms cs s ps) (hr:s.runs = none):∀ u,u < n→ps u = full ms u:=fun u hu=>by
 have hx:=h.us u hu
 have hn:=h.fair.no hr
 by_cases g:ps u≤3 * (ms u).length
 ·have hst:=hx.st
  rw [if_pos g] at hst
  rcases h.fair.al u (by rw [h.len];exact hu) hst with z | z
  ·rw [hn] at z;cases z
  ·rw [hr] at z;cases z
 ·have:=hx.le
  unfold full
  omega
theorem Hall.still (h:Hall n ms cs s ps) (hf:∀ u,u < n→ps u = full ms u):s.runs = none:=by
 rcases Option.eq_none_or_eq_some s.runs with hr | ⟨u,hr⟩
 ·exact hr
 ·have hu:=h.fair.rr u hr
  rw [h.len] at hu
  have hst:=(h.us u hu.1).st
  rw [hu.2,if_neg (by rw [hf u hu.1];unfold full;omega)] at hst
  cases hst
theorem Hall.step (P:∀ u,u < n→Prog (ms u) (cs u)) (h:Hall n ms cs s ps):∃ ps',Hall n ms cs (doStep s) ps'∧((s.runs≠none∧sumN ps' n = sumN ps n + 1)∨(s.runs = none∧ps' = ps)) ∧
  ∀ u,u < n→s.runs = none→(usr (doStep s) u).outb.length = if (s.steps + 1) % s.beat = 0 then (usr s u).outb.length - 1 else (usr s u).outb.length:=by
 have hru:∀ u,s.runs = some u→u < s.us.length:=fun u hu=>(h.fair.rr u hu).1
 have D:=step_ds hru
 have hl:(doStep s).us.length = n:=by rw [Lh.doStep_len];exact h.len
 have key:∀ ps':Nat→Nat,(∀ u,u < n→At (ms u) (cs u) (if s.runs = some u then happenU (usr s u) .step else usr s u) (ps' u))→Hall n ms cs (doStep s) ps':=fun ps' hp=>⟨h.fair.toFair0.step,hl,fun u hu=>by
  rw [D.us u (by rw [h.len];exact hu)]
  split
  ·exact (hp u hu).tick.1
  ·exact hp u hu⟩
 rcases Option.eq_none_or_eq_some s.runs with hr | ⟨v,hr⟩
 ·refine ⟨ps,key ps fun u hu=>?_,.inr ⟨hr,rfl⟩,fun u hu _=>?_⟩
  ·rw [if_neg (by rw [hr];exact fun z=>(nomatch z))]
   exact h.us u hu
  ·rw [D.us u (by rw [h.len];exact hu),if_neg (show ¬ s.runs = some u by rw [hr];exact fun z=>(nomatch z))]
   split
   ·exact (h.us u hu).tick.2
   ·rfl
 ·have hv:=h.fair.rr v hr
  rw [h.len] at hv
  have hx:=h.us v hv.1
  have hle:ps v≤3 * (ms v).length:=by
   have:=hx.st
   rw [hv.2] at this
   by_cases g:ps v≤3 * (ms v).length
   ·exact g
   ·rw [if_neg g] at this;cases this
  refine ⟨fun i=>if i = v then ps i + 1 else ps i,key _ fun u hu=>?_,.inl ⟨by rw [hr];exact fun z=>(nomatch z),?_⟩,fun u hu z=>by rw [hr] at z;cases z⟩
  ·by_cases e:u = v
   ·subst e
    rw [if_pos hr,if_pos rfl]
    exact hx.step (P u hu) hle
   ·rw [if_neg (by rw [hr];exact fun z=>e (Option.some.inj z).symm),if_neg e]
    exact h.us u hu
  ·rw [sum_one (f:=ps) (u:=v) (fun _=>rfl) n,if_pos hv.1]
theorem Hall.run (P:∀ u,u < n→Prog (ms u) (cs u)) (h:Hall n ms cs s ps):∀ k,∃ ps',Hall n ms cs (runN k s) ps'∧(k≤sumN ps' n∨∀ u,u < n→ps' u = full ms u)
 | 0=>⟨ps,h,.inl (Nat.zero_le _)⟩
 | k + 1=>by
  obtain ⟨ps',h1,h2⟩:=Hall.run P h k
  obtain ⟨ps2,g1,g2,_⟩:=h1.step P
  refine ⟨ps2,g1,?_⟩
  rcases g2 with ⟨_,e⟩ | ⟨e0,e⟩
  ·rcases h2 with h2 | h2
   ·exact .inl (by omega)
   ·rename_i hn
    exact absurd (h1.still h2) hn
  ·subst e
   exact .inr (h1.over e0)
theorem Hall.all (P:∀ u,u < n→Prog (ms u) (cs u)) (h:Hall n ms cs s ps) {k:Nat} (hk:sumN (full ms) n≤k):Hall n ms cs (runN k s) (full ms):=by
 obtain ⟨ps',h1,h2⟩:=h.run P k
 have hf:∀ u,u < n→ps' u = full ms u:=by
  rcases h2 with h2 | h2
  ·exact sum_all n (fun u hu=>(h1.us u hu).le) (by omega)
  ·exact h2
 exact ⟨h1.fair,h1.len,fun u hu=>by rw [← hf u hu];exact h1.us u hu⟩
theorem run_add (s:Hse) (a:Nat):∀ b,runN (a + b) s = runN b (runN a s)
 | 0=>rfl
 | b + 1=>by
  show doStep (runN (a + b) s) = doStep (runN b (runN a s))
  rw [run_add s a b]
structure Quiet (n:Nat) (ms cs:Nat→List Int) (s:Hse) (b:Nat):Prop where
 hall:Hall n ms cs s (full ms)
 out:∀ u,u < n→(usr s u).outb.length≤b
theorem Quiet.step (P:∀ u,u < n→Prog (ms u) (cs u)) {b:Nat} (h:Quiet n ms cs s b):Quiet n ms cs (doStep s) b∧((s.steps + 1) % s.beat = 0→Quiet n ms cs (doStep s) (b - 1))∧(doStep s).steps = s.steps + 1∧(doStep s).beat = s.beat:=by
 have hr:=h.hall.still fun _ _=>rfl
 obtain ⟨ps',g1,g2,g3⟩:=h.hall.step P
 have e:ps' = full ms:=by
  rcases g2 with ⟨z,_⟩ | ⟨_,z⟩
  ·exact absurd hr z
  ·exact z
 subst e
 have D:=step_ds (s:=s) fun u hu=>(h.hall.fair.rr u hu).1
 refine ⟨⟨g1,fun u hu=>?_⟩,fun z=>⟨g1,fun u hu=>?_⟩,D.st,D.be⟩
 ·have g:=g3 u hu hr
  have:=h.out u hu
  rw [g]
  split <;> omega
 ·have:=g3 u hu hr
  rw [if_pos z] at this
  have:=h.out u hu
  omega
theorem Quiet.run (P:∀ u,u < n→Prog (ms u) (cs u)) {b:Nat} (h:Quiet n ms cs s b):∀ k,Quiet n ms cs (runN k s) b∧(runN k s).steps = s.steps + k∧(runN k s).beat = s.beat∧((∃ i,i < k∧(s.steps + (i:Int) + 1) % s.beat = 0)→Quiet n ms cs (runN k s) (b - 1))
 | 0=>⟨h,by show s.steps = _;simp,rfl,fun ⟨i,hi,_⟩=>absurd hi (Nat.not_lt_zero _)⟩
 | k + 1=>by
  obtain ⟨h1,h2,h3,h4⟩:=Quiet.run P h k
  obtain ⟨g1,g2,g3,g4⟩:=h1.step P
  refine ⟨g1,?_,?_,fun ⟨i,hi,z⟩=>?_⟩
  ·show (doStep (runN k s)).steps = _
   rw [g3,h2]
   omega
  ·show (doStep (runN k s)).beat = _
   rw [g4,h3]
  ·by_cases e:i = k
   ·subst e
    exact g2 (by rw [h2,h3];exact z)
   ·exact ((h4 ⟨i,by omega,z⟩).step P).1
theorem Quiet.beat (P:∀ u,u < n→Prog (ms u) (cs u)) {b k:Nat} (h:Quiet n ms cs s b) (hb:s.beat = (k:Int)) (hk:0 < k):Quiet n ms cs (runN k s) (b - 1)∧(runN k s).beat = s.beat:=by
 obtain ⟨_,_,h3,h4⟩:=h.run P k
 refine ⟨h4 ?_,h3⟩
 have h0:0≤s.steps % (k:Int):=Int.emod_nonneg _ (by omega)
 have h1:s.steps % (k:Int) < k:=Int.emod_lt_of_pos _ (by omega)
 refine ⟨((k:Int) - 1 - s.steps % (k:Int)).toNat,by omega,?_⟩
 rw [hb,Int.toNat_of_nonneg (by omega)]
 have e:s.steps + ((k:Int) - 1 - s.steps % (k:Int)) + 1 = (k:Int) * (s.steps / (k:Int) + 1):=by
  have:=Int.mul_ediv_add_emod s.steps (k:Int)
  rw [Int.mul_add,Int.mul_one]
  omega
 rw [e]
 exact Int.mul_emod_right _ _
theorem Quiet.beats (P:∀ u,u < n→Prog (ms u) (cs u)) {k:Nat} (hk:0 < k):∀ (j:Nat) {s:Hse} {b:Nat},Quiet n ms cs s b→s.beat = (k:Int)→Quiet n ms cs (runN (j * k) s) (b - j)∧(runN (j * k) s).beat = (k:Int)
 | 0,s,b,h,hb=>⟨by rw [Nat.zero_mul];exact h,by rw [Nat.zero_mul];exact hb⟩
 | j + 1,s,b,h,hb=>by
  obtain ⟨h1,h2⟩:=Quiet.beats P hk j h hb
  obtain ⟨g1,g2⟩:=h1.beat P h2 hk
  rw [Nat.succ_mul,run_add]
  refine ⟨?_,g2.trans h2⟩
  rw [show b - (j + 1) = b - j - 1 from by omega]
  exact g1
theorem Hall.spoken (P:∀ u,u < n→Prog (ms u) (cs u)) (h:Hall n ms cs s ps) {k N:Nat} (hb:s.beat = (k:Int)) (hk:0 < k) (hN:sumN (full ms) n + 12 * k≤N) (hbe:(runN (sumN (full ms) n) s).beat = s.beat) :
  (runN N s).runs = none∧∀ u,u < n→(usr (runN N s) u).outb = []∧(usr (runN N s) u).pap = ms u∧(usr (runN N s) u).st = .stopped:=by
 obtain ⟨r,rfl⟩:∃ r,N = sumN (full ms) n + 12 * k + r:=⟨N - (sumN (full ms) n + 12 * k),by omega⟩
 have h1:=h.all P (Nat.le_refl _)
 have q1:Quiet n ms cs (runN (sumN (full ms) n) s) 12:=⟨h1,fun u hu=>(h1.us u hu).outl (P u hu)⟩
 have q2:=(Quiet.beats P hk 12 q1 (hbe.trans hb)).1
 rw [← run_add] at q2
 have q3:=(q2.run P r).1
 rw [← run_add] at q3
 refine ⟨q3.hall.still fun _ _=>rfl,fun u hu=>?_⟩
 have hx:=q3.hall.us u hu
 have ho:(usr (runN (sumN (full ms) n + 12 * k + r) s) u).outb = []:=List.eq_nil_of_length_eq_zero (by have:=q3.out u hu;omega)
 have hpo:=hx.po
 rw [ho,List.append_nil] at hpo
 refine ⟨ho,?_,?_⟩
 ·rw [hpo]
  unfold full
  rw [show (3 * (ms u).length + 1) / 3 = (ms u).length from by omega,List.take_length]
 ·have hs:=hx.st
  rw [if_neg (by unfold full;omega)] at hs
  exact hs
end
end Spk
namespace Sc
open PySem L2 Tx Ls
def rowsV (v:Int):List Str:=["change zero ; none left","  add =" ++ numS v,"ask say"]
def itsV (v:Int):List It2:=[.cell 928,.pool 128 v,.cell 771]
def rowsM (m:List Int):List Str:=m.flatMap rowsV ++ [("end: ask stop" : Str)]
def itsM (m:List Int):List It2:=m.flatMap itsV ++ [.cell 775]
theorem row_zero:RowI "change zero ; none left" (.cell 928):=by
 have hp:pieces ("change zero ; none left" : Str) = [("change" : Str),"zero"]:=pieces_row (cs ("change zero " : Str)) [] (by decide +kernel) (by decide +kernel)
 have h:=plain_bits (names:=changesS) (b:=896) hp (.inl ⟨rfl,rfl,rfl⟩) (by decide +kernel)
 rw [show (896:Int) + (([("zero" : Str)].map fun p=>bitsL.getD (changesS.idxOf p) 0).sum) = 928 from by decide +kernel] at h
 exact plain_row h
theorem row_say:RowI "ask say" (.cell 771):=by
 have hp:pieces ("ask say" : Str) = [("ask" : Str),"say"]:=pieces_row (cs ("ask say" : Str)) [] (by decide +kernel) (by decide +kernel)
 have h:=plain_ask hp (by decide +kernel)
 rw [show (768:Int) + (asksS.idxOf ("say" : Str):Nat) = 771 from by decide +kernel] at h
 exact plain_row h
theorem row_add {k:Nat} (h:k < 1024):RowI ("  add =" ++ numS (k:Int)) (.pool 128 k)∧10∉cs ("  add =" ++ numS (k:Int)):=by
 have N:=numP_num (show k < 10000 by omega)
 have c0:cs ("  add =" : Str) = [32,32,97,100,100,32,61]:=by decide +kernel
 have ct:cs ("  add =" ++ numS (k:Int)) = 32::32::(cs ("add" : Str) ++ 32::cs ("=" ++ numS (k:Int))):=by
  rw [cs_app,c0,eq_cs,show cs ("add" : Str) = [97,100,100] from by decide +kernel]
  rfl
 have no:∀ c:Nat,c∉[32,32,97,100,100,32,61]→c∉cs (numS (k:Int))→c∉cs ("  add =" ++ numS (k:Int)):=fun c h1 h2 z=>by
  rw [cs_app,c0] at z
  exact (List.mem_append.mp z).elim h1 h2
 have h32:32∉cs ("=" ++ numS (k:Int)):=by
  rw [eq_cs]
  simp [N.tk.1]
 have hp:pieces ("  add =" ++ numS (k:Int)) = [("add" : Str),"=" ++ numS (k:Int)]:=by
  refine pieces_row (cs ("  add =" ++ numS (k:Int))) [] (take_none (no 59 (by decide) N.tk.2.1)) ?_
  rw [ct,toks_bl,toks_bl,toks_cat,toks_one (by decide +kernel) (by decide +kernel),toks_one h32 (by rw [eq_cs];exact List.cons_ne_nil _ _)]
  rfl
 have hl:=num_len (i:=k) (by omega)
 have w:WrOk (numS (k:Int)) k:=⟨by omega,N.tk,numS (k:Int),[],rfl,N.tm,fun p hp=>(nomatch hp),fun S ln=>by simp [sumTerms,N.val']⟩
 have r:=pool_row (row:="  add =" ++ numS (k:Int)) (nm:="add") (far:=false) (by decide +kernel) w (by omega) (by omega) hp
 rw [show ((kindsS.idxOf ("add" : Str):Nat):Int) * 128 + (if false = true then 64 else 0) = 128 from by decide +kernel] at r
 exact ⟨r,no 10 (by decide) N.tk.2.2.2⟩
theorem row_stop (n:Int):∃ L,readLine "end: ask stop" n = .ok L∧L.label = some ("end" : Str)∧Rd2 L (.cell 775):=by
 have hp:pieces ("end: ask stop" : Str) = [("end:" : Str),"ask","stop"]:=pieces_row (cs ("end: ask stop" : Str)) [] (by decide +kernel) (by decide +kernel)
 have e1:(cs ("end:" : Str))[(cs ("end:" : Str)).length - 1]? = some 58:=by decide +kernel
 have e2:oc ((cs ("end:" : Str)).take ((cs ("end:" : Str)).length - 1)) = "end":=by decide +kernel
 have e3:isName ("end" : Str) = true:=by decide +kernel
 refine ⟨⟨n,some "end",some ("ask" : Str),775,false,[]⟩,?_,rfl,⟨show (!decide (("ask" : Str) = "place")) = true by decide +kernel,show ¬ some ("ask" : Str) = some ("place" : Str) by decide +kernel⟩,fun S=>?_⟩
 ·unfold readLine
  rw [hp]
  dsimp only
  rw [if_pos e1,e2,if_pos e3]
  unfold readRest readDeed
  dsimp only
  rw [if_neg (by decide +kernel),if_neg (by decide +kernel),if_pos rfl]
  unfold readAsk
  dsimp only
  rw [if_pos (by decide +kernel)]
  dsimp only
  rw [show (768:Int) + (asksS.idxOf ("stop" : Str):Nat) = 775 from by decide +kernel]
  rfl
 ·unfold wordOf
  simp only [Bool.false_eq_true,if_false]
  rw [if_neg (by decide +kernel),bound_nil rfl (by decide)]
  rfl
theorem all_rows:∀ m:List Int,(∀ v∈m,0≤v∧v < 256)→All2 RowI (m.flatMap rowsV) (m.flatMap itsV)∧∀ r∈m.flatMap rowsV,10∉cs r∧r.length≤30
 | [],_=>⟨.nil,fun r hr=>by cases hr⟩
 | v::m,h=>by
  obtain ⟨i1,i2⟩:=all_rows m fun u hu=>h u (List.mem_cons_of_mem _ hu)
  obtain ⟨k,rfl⟩:=num_nat (h v List.mem_cons_self).1
  have hk:=(h _ List.mem_cons_self).2
  obtain ⟨a1,a2⟩:=row_add (k:=k) (by omega)
  have hl:=num_len (i:=k) (by omega)
  refine ⟨.cons row_zero (.cons a1 (.cons row_say i1)),fun r hr=>?_⟩
  rw [List.flatMap_cons] at hr
  rcases List.mem_append.mp hr with hr | hr
  ·unfold rowsV at hr
   simp only [List.mem_cons,List.not_mem_nil,or_false] at hr
   rcases hr with rfl | rfl | rfl
   ·exact ⟨by decide +kernel,by decide +kernel⟩
   ·exact ⟨a2,by rw [strLen_append,show ("  add =" : Str).length = 7 from by decide +kernel];omega⟩
   ·exact ⟨by decide +kernel,by decide +kernel⟩
  ·exact i2 r hr
theorem readAll_snoc {row:Str} {L:Ln}:∀ {n:Int} {rows:List Str} {ls:List Ln},ReadAll n rows ls→readLine row (n + (rows.length:Nat)) = .ok L→ReadAll n (rows ++ [row]) (ls ++ [L])
 | n,_,_,.nil,hr=>.cons (by simpa using hr) .nil
 | n,_,_,.cons h r,hr=>.cons h (readAll_snoc r (by
   rw [List.length_cons] at hr
   rw [← hr]
   congr 1
   omega))
theorem its_at:∀ (m:List Int) (j:Nat) (v:Int),m[j]? = some v→(itsM m)[3 * j]? = some (.cell 928)∧(itsM m)[3 * j + 1]? = some (.pool 128 v)∧(itsM m)[3 * j + 2]? = some (.cell 771)
 | u::m,0,v,h=>by cases h;exact ⟨rfl,rfl,rfl⟩
 | u::m,j + 1,v,h=>by
  have:=its_at m j v (by simpa using h)
  have e:itsM (u::m) = .cell 928::.pool 128 u::.cell 771::itsM m:=rfl
  rw [e,show 3 * (j + 1) = 3 * j + 1 + 1 + 1 from by omega]
  exact this
theorem its_end:∀ m:List Int,(itsM m)[3 * m.length]? = some (.cell 775)∧(itsM m).length = 3 * m.length + 1
 | []=>⟨rfl,rfl⟩
 | u::m=>by
  have:=its_end m
  have e:itsM (u::m) = .cell 928::.pool 128 u::.cell 771::itsM m:=rfl
  rw [e,List.length_cons,show 3 * (m.length + 1) = 3 * m.length + 1 + 1 + 1 from by omega]
  refine ⟨this.1,?_⟩
  rw [List.length_cons,List.length_cons,List.length_cons,this.2]
theorem pool_m:∀ (m P:List Int),(poolGo P (itsM m)).length≤P.length + m.length∧(∀ v∈P,v∈poolGo P (itsM m))∧∀ v∈m,v∈poolGo P (itsM m)
 | [],P=>⟨by simp [itsM,poolGo],fun v hv=>by simpa [itsM,poolGo] using hv,fun v hv=>by cases hv⟩
 | u::m,P=>by
  have e:poolGo P (itsM (u::m)) = if u∈P then poolGo P (itsM m) else poolGo (P ++ [u]) (itsM m):=rfl
  rw [e]
  split
  ·rename_i g
   obtain ⟨a,b,c⟩:=pool_m m P
   refine ⟨by rw [List.length_cons];omega,b,fun v hv=>?_⟩
   rcases List.mem_cons.mp hv with rfl | hv
   ·exact b _ g
   ·exact c v hv
  ·obtain ⟨a,b,c⟩:=pool_m m (P ++ [u])
   rw [List.length_append,List.length_singleton] at a
   refine ⟨by rw [List.length_cons];omega,fun v hv=>b v (List.mem_append_left _ hv),fun v hv=>?_⟩
   rcases List.mem_cons.mp hv with rfl | hv
   ·exact b _ (by simp)
   ·exact c v hv
def cellsM (m:List Int):List Int:=(List.range 64).map fun (i:Nat)=>(madeF ((itsM m).map (wordI (poolGo [] (itsM m)))) (poolGo [] (itsM m)) i).getD 0
theorem asm_m {m:List Int} (h12:m.length≤12) (h:∀ v∈m,0≤v∧v < 256):assembledR (Str.join "\n" (rowsM m)) = .ok (cellsM m):=by
 obtain ⟨a1,a2⟩:=all_rows m h
 obtain ⟨ls,g1,g2,g3⟩:=rows_read a1 1
 obtain ⟨L,s1,s2,s3⟩:=row_stop (1 + ((m.flatMap rowsV).length:Nat))
 have hf:∀ r∈rowsM m,10∉cs r:=fun r hr=>by
  rcases List.mem_append.mp hr with hr | hr
  ·exact (a2 r hr).1
  ·rw [List.mem_singleton.mp hr];decide +kernel
 have hp:=(pool_m m []).1
 rw [List.length_nil] at hp
 exact pool_text (split_rows (by unfold rowsM;simp) hf) (readAll_snoc g1 s1) (g2.snoc s3) (by rw [List.filterMap_append,g3,List.filterMap_cons_some s2];simp) (by rw [(its_end m).2];omega)
theorem cells_get {m:List Int} {i:Nat} (hi:i < 64):(cellsM m).getD i 0 = (madeF ((itsM m).map (wordI (poolGo [] (itsM m)))) (poolGo [] (itsM m)) i).getD 0:=by
 unfold cellsM
 rw [List.getD_eq_getElem?_getD,List.getElem?_map,List.getElem?_range hi]
 rfl
theorem cells_it {m:List Int} (h12:m.length≤12) {i:Nat} {t:It2} (h:(itsM m)[i]? = some t):(cellsM m).getD i 0 = wordI (poolGo [] (itsM m)) t:=by
 have hl:=(List.getElem?_eq_some_iff.mp h).1
 have:=(its_end m).2
 rw [cells_get (by omega)]
 unfold madeF
 rw [if_pos (by rw [List.length_map];exact hl),List.getElem?_map,h]
 rfl
theorem prog_m {m:List Int} (h12:m.length≤12) (h:∀ v∈m,0≤v∧v < 256):Spk.Prog m (cellsM m):=by
 obtain ⟨p1,_,p3⟩:=pool_m m []
 rw [List.length_nil] at p1
 refine ⟨by simp [cellsM],h12,h,fun j hj=>?_,fun j v hv=>?_,fun j hj=>?_,?_⟩
 ·rw [cells_it h12 (its_at m j _ (List.getElem?_eq_getElem hj)).1];rfl
 ·have hm:=p3 v (List.mem_of_getElem? hv)
  have hx:(poolGo [] (itsM m)).idxOf v < (poolGo [] (itsM m)).length:=List.idxOf_lt_length_iff.mpr hm
  refine ⟨63 - (poolGo [] (itsM m)).idxOf v,by omega,?_,?_⟩
  ·rw [cells_it h12 (its_at m j v hv).2.1]
   show (128:Int) + (63 - (((poolGo [] (itsM m)).idxOf v:Nat):Int)) = _
   omega
  ·rw [cells_get (by omega)]
   unfold madeF
   have hl:=(its_end m).2
   rw [if_neg (by rw [List.length_map];omega),if_pos (by omega),show 63 - (63 - (poolGo [] (itsM m)).idxOf v) = (poolGo [] (itsM m)).idxOf v from by omega,List.getElem?_eq_getElem hx,List.getElem_idxOf hx]
   rfl
 ·rw [cells_it h12 (its_at m j _ (List.getElem?_eq_getElem hj)).2.2];rfl
 ·rw [cells_it h12 (its_end m).1];rfl
theorem pool_sub:∀ (m P:List Int),∀ v∈poolGo P (itsM m),v∈P∨v∈m
 | [],P,v,h=>.inl (by simpa [itsM,poolGo] using h)
 | u::m,P,v,h=>by
  have e:poolGo P (itsM (u::m)) = if u∈P then poolGo P (itsM m) else poolGo (P ++ [u]) (itsM m):=rfl
  rw [e] at h
  split at h
  ·exact (pool_sub m P v h).imp_right (List.mem_cons_of_mem _)
  ·rcases pool_sub m (P ++ [u]) v h with h | h
   ·rcases List.mem_append.mp h with h | h
    ·exact .inl h
    ·exact .inr (by rw [List.mem_singleton.mp h];exact List.mem_cons_self)
   ·exact .inr (List.mem_cons_of_mem _ h)
theorem cells_in {m:List Int} (h12:m.length≤12) (h:∀ v∈m,0≤v∧v < 256):∀ v∈cellsM m,0≤v∧v < 1024:=by
 intro v hv
 obtain ⟨p1,_,p3⟩:=pool_m m []
 rw [List.length_nil] at p1
 obtain ⟨i,hi,rfl⟩:=List.mem_map.mp hv
 unfold madeF
 split
 ·rw [List.getElem?_map]
  cases e:(itsM m)[i]? with
  | none=>exact ⟨Int.le_refl 0,show (0:Int) < 1024 by decide⟩
  | some t =>
   have ht:=List.mem_of_getElem? e
   show 0≤wordI (poolGo [] (itsM m)) t∧wordI (poolGo [] (itsM m)) t < 1024
   rcases List.mem_append.mp ht with ht | ht
   ·obtain ⟨u,hu,ht⟩:=List.mem_flatMap.mp ht
    have hx:(poolGo [] (itsM m)).idxOf u < (poolGo [] (itsM m)).length:=List.idxOf_lt_length_iff.mpr (p3 u hu)
    unfold itsV at ht
    simp only [List.mem_cons,List.not_mem_nil,or_false] at ht
    rcases ht with rfl | rfl | rfl
    ·exact ⟨show (0:Int)≤928 by decide,show (928:Int) < 1024 by decide⟩
    ·show 0≤(128:Int) + (63 - (((poolGo [] (itsM m)).idxOf u:Nat):Int))∧(128:Int) + (63 - (((poolGo [] (itsM m)).idxOf u:Nat):Int)) < 1024
     omega
    ·exact ⟨show (0:Int)≤771 by decide,show (771:Int) < 1024 by decide⟩
   ·rw [List.mem_singleton.mp ht]
    exact ⟨show (0:Int)≤775 by decide,show (775:Int) < 1024 by decide⟩
 ·split
  ·cases e:(poolGo [] (itsM m))[63 - i]? with
   | none=>exact ⟨by decide,by decide⟩
   | some u =>
    have hu:=(pool_sub m [] u (List.mem_of_getElem? e)).resolve_left (fun z=>(nomatch z))
    have:=h u hu
    show 0≤u∧u < 1024
    omega
  ·exact ⟨by decide,by decide⟩
theorem rows_fit {m:List Int} (h12:m.length≤12) (h:∀ v∈m,0≤v∧v < 256):(rowsM m).length≤37∧∀ r∈rowsM m,r.length≤30:=by
 have hl:∀ m:List Int,(m.flatMap rowsV).length = 3 * m.length:=fun m=>by
  induction m with
  | nil=>rfl
  | cons a m ih=>rw [List.flatMap_cons,List.length_append,ih,List.length_cons];show 3 + _ = _;omega
 refine ⟨by unfold rowsM;rw [List.length_append,hl,List.length_singleton];omega,fun r hr=>?_⟩
 rcases List.mem_append.mp hr with hr | hr
 ·exact ((all_rows m h).2 r hr).2
 ·rw [List.mem_singleton.mp hr];decide +kernel
end Sc
namespace K39
open PySem L2 Tx Lw Mir Us Du Hs
def sp_law (K:PySem.W.Frag):Sp:=fun vs H Q _=>∃ (a:Addr) (ns:List Int),vs = [.ref a]∧SqL K H a (ns.map V.int)∧∀ H',Q (.bl true) H'
def manyN (ns:List Int) (u:Nat):Nat:=(ns.getD (4 + u) 0 * 48271 % 9871 % 13).toNat
def msgL (ns:List Int) (u:Nat):List Int:=(List.range (manyN ns u)).map fun k:Nat=>(ns.getD (4 + u) 0 + 31 * ((k:Int) % 5)) * 48271 % 9859 % 256
theorem msg_in (ns:List Int) (u:Nat):(msgL ns u).length≤12∧∀ v∈msgL ns u,0≤v∧v < 256:=by
 refine ⟨by unfold msgL manyN;rw [List.length_map,List.length_range];omega,fun v hv=>?_⟩
 obtain ⟨k,_,rfl⟩:=List.mem_map.mp hv
 omega
theorem bd_new {n r:Nat} {q b:Int} (hn:n≤8) (hr:1≤r∧r≤8) (hb:0 < b):Bd (newH n r q b) 0:=by
 have hlen:(newH n r q b).us.length = n:=List.length_replicate
 refine ⟨fun u hu=>?_,fun u hu=>?_,fun d hd=>?_,Nat.le_refl _,by rw [hlen];exact hn,?_,fun u hu=>?_,fun u hu=>?_,?_,?_,hb⟩
 ·rw [List.eq_of_mem_replicate hu]
  exact RgU.new rfl (fun v hv=>by rw [List.eq_of_mem_replicate hv];decide) (by decide) (by decide)
 ·rw [List.eq_of_mem_replicate hu];exact Nat.le_refl _
 ·rw [List.eq_of_mem_replicate hd];exact Nat.le_refl _
 ·exact List.length_replicate.trans List.length_replicate.symm
 ·have hu':u∈([]:List Nat):=hu
  simp at hu'
 ·cases hu
 ·show 0 < (List.replicate r none).length∧(List.replicate r none).length≤8
  rw [List.length_replicate];omega
 ·show 0≤(0:Int)∧(0:Int) < ((List.replicate r none).length:Int)
  rw [List.length_replicate];omega
def ldU (c:List Int):Usr:={ U0 with m:={ U0.m with cells:=c } }
structure LdS (n:Nat) (b:Int) (cs:Nat→List Int) (s:Hse) (i:Nat):Prop where
 len:s.us.length = n
 bd:Bd s 0
 fair:Fair s
 be:s.beat = b
 us:∀ u,u < n→usr s u = if u < i then ldU (cs u) else U0
theorem ld_new {n r:Nat} {q b:Int} {cs:Nat→List Int} (hn:n≤8) (hr:1≤r∧r≤8) (hb:0 < b) (hq:1≤q):LdS n b cs (newH n r q b) 0 :=
 ⟨List.length_replicate,bd_new hn hr hb,Lh.fair_new hq,rfl,fun u _=>by rw [if_neg (Nat.not_lt_zero _)];exact Lh.usr_new u⟩
theorem LdS.next {n:Nat} {b:Int} {cs:Nat→List Int} {s:Hse} {i:Nat} (h:LdS n b cs s i) (hi:i < n) (hl:(cs i).length = 64) (hr:∀ v∈cs i,0≤v∧v < 1024):LdS n b cs (loadH s i (cs i)) (i + 1):=by
 have hu:i < s.us.length:=by rw [h.len];exact hi
 refine ⟨by unfold loadH;rw [Lh.setU_len];exact h.len,Lh.Bd.loadB h.bd hu hl hr,h.fair.setSt hu rfl,h.be,fun u hu2=>?_⟩
 unfold loadH
 rw [usr_set hu]
 by_cases e:u = i
 ·subst e
  rw [if_pos rfl,if_pos (Nat.lt_succ_self _),h.us u hu2,if_neg (Nat.lt_irrefl _)]
  rfl
 ·rw [if_neg e,h.us u hu2]
  by_cases g:u < i
  ·rw [if_pos g,if_pos (by omega)]
  ·rw [if_neg g,if_neg (by omega)]
structure StS (n:Nat) (b:Int) (cs:Nat→List Int) (s:Hse) (i:Nat):Prop where
 len:s.us.length = n
 bd:Bd s i
 fair:Fair s
 be:s.beat = b
 us:∀ u,u < n→usr s u = if u < i then { ldU (cs u) with st:=.ready } else ldU (cs u)
theorem LdS.st {n:Nat} {b:Int} {cs:Nat→List Int} {s:Hse} (h:LdS n b cs s n):StS n b cs s 0 :=
 ⟨h.len,h.bd,h.fair,h.be,fun u hu=>by rw [h.us u hu,if_pos hu,if_neg (Nat.not_lt_zero _)]⟩
theorem StS.next {n:Nat} {b:Int} {cs:Nat→List Int} {s:Hse} {i:Nat} (h:StS n b cs s i) (hi:i < n) (hn:n≤8):StS n b cs (startH s i 0) (i + 1):=by
 have hu:i < s.us.length:=by rw [h.len];exact hi
 have hx:=h.us i hi
 rw [if_neg (Nat.lt_irrefl _)] at hx
 have hst:¬ (usr s i).st = .ready:=by rw [hx];show ¬ St5.stopped = St5.ready;decide
 refine ⟨by unfold startH;rw [Lh.next_len];exact (List.length_set).trans h.len,(h.bd.happen hu (e:=.start 0) ⟨by decide,by decide⟩ (by omega)).next,?_,(next_nx _).be.trans h.be,fun u hu2=>?_⟩
 ·exact (h.fair.toFair0.happen hu (e:=.start 0) fun z=>absurd z hst).next
 ·show usr (letNext (happenIn s i (.start 0))) u = _
  rw [usr_act hu]
  by_cases e:u = i
  ·subst e
   rw [if_pos rfl,if_pos (Nat.lt_succ_self _),hx]
   rfl
  ·rw [if_neg e,h.us u hu2]
   by_cases g:u < i
   ·rw [if_pos g,if_pos (by omega)]
   ·rw [if_neg g,if_neg (by omega)]
theorem StS.hall {n:Nat} {b:Int} {ms cs:Nat→List Int} {s:Hse} (h:StS n b cs s n):Spk.Hall n ms cs s (fun _=>0) :=
 ⟨h.fair,h.len,fun u hu=>by
  rw [h.us u hu,if_pos hu]
  exact ⟨rfl,Nat.zero_le _,rfl,by rw [if_pos (Nat.zero_le _)],rfl,fun z=>absurd z (by decide),fun z=>absurd z (by decide)⟩⟩
theorem hall_beat {n:Nat} {ms cs:Nat→List Int} {s:Hse} {ps:Nat→Nat} (P:∀ u,u < n→Spk.Prog (ms u) (cs u)) (h:Spk.Hall n ms cs s ps):∀ k,(runN k s).beat = s.beat
 | 0=>rfl
 | k + 1=>by
  obtain ⟨ps',h1,_⟩:=h.run P k
  have D:=step_ds (s:=Hs.runN k s) fun u hu=>(h1.fair.rr u hu).1
  exact D.be.trans (hall_beat P h k)
theorem sum_nat (f:Nat→Nat):∀ n,((List.range n).map fun u=>((f u:Nat):Int)).sum = ((Spk.sumN f n:Nat):Int)
 | 0=>rfl
 | n + 1=>by
  rw [List.range_succ,List.map_append,List.sum_append,sum_nat f n,Spk.sumN]
  simp
theorem sum_low {f:Nat→Nat} {c:Nat}:∀ n,(∀ i,i < n→f i≤c)→Spk.sumN f n≤n * c
 | 0,_=>Nat.zero_le _
 | n + 1,h=>by
  have:=sum_low n fun i hi=>h i (by omega)
  have:=h n (by omega)
  rw [Spk.sumN,Nat.succ_mul]
  omega
theorem fl_len:∀ m:List Int,(m.flatMap Sc.rowsV).length = 3 * m.length
 | []=>rfl
 | a::m=>by rw [List.flatMap_cons,List.length_append,fl_len m,List.length_cons];show 3 + _ = _;omega
section
variable {P:Program} {w:World} {K:PySem.W.Frag} {mg:Str→Option Value} {base:Heap} {CL CS CH CP CM:Addr}
def sp_message (K:PySem.W.Frag):Sp:=fun vs H Q _=>∃ (a:Addr) (ns:List Int) (u:Nat),vs = [.ref a,.int u]∧SqL K H a (ns.map V.int)∧∀ l H',H l = none→H' l = some (.lst ((msgL ns u).map V.int))→Same H H'→Q (.ref l) H'
theorem ok_message (R:Raw K mg "_law_message" s_law_message) (T:TxtL K mg) (G_law_cell:GF P w K mg base "_law_cell" ["_law_script","_law_k"] 1 (sp_cell K)) (G_law_mix:GF P w K mg base "_law_mix" ["_law_cell_here","_law_prime","_law_many"] 1 sp_mix):GF P w K mg base "_law_message" ["_law_script","_law_user"] 2 (sp_message K):=by
 refine GF.mk R sc_law_message (by wtm_at "2") (fun vs H Q E h=>?_) (fun f cdv A outer s H vs Q E hr h=>?_)
 ·obtain ⟨a,ns,u,rfl,_⟩:=h;rfl
 ·obtain ⟨a,ns,u,rfl,hS,k⟩:=h
  refine ⟨_,(@pss_cons _ _ _ _ _ (@ps_set _ _ (2) _ _ _ _ sc_law_message.nd rfl (Or.inl rfl) (@pe_gcallN _ _ _ _ _ _ _ _ _ _ G_law_mix (hr.mono (by decide)) rfl (@pa_c _ _ _ _ _ (@pe_gcallN _ _ _ _ _ _ _ _ _ _ G_law_cell (hr.mono (by decide)) rfl (@pa_c _ _ _ _ _ (pv 0) (@pa_c _ _ _ _ _ (@pe_op _ _ _ _ _ _ _ _ op_add pe_int (pv 1)) pa_nil rfl) rfl) (by decide) rfl) (@pa_c _ _ _ _ _ pe_int (@pa_c _ _ _ _ _ pe_int pa_nil rfl) rfl) rfl) (by decide) rfl) rfl (by first | exact .inl rfl | exact .inr rfl | assumption)) (@pss_one _ _ _ (@ps_ret _ _ _ _ (@pe_lcomp _ _ _ _ _ _ _ _ _ _ _ _ ([("_law_script" ,0) ,("_law_user" ,1)]) rfl (@pi_range1 _ _ _ _ _ _ rfl T.range_ (@pa_c _ _ _ _ _ (pv 2) pa_nil rfl) rfl) ⟨rfl,rfl,by decide +kernel,by decide +kernel,rfl,by decide +kernel,⟨rfl,rfl,trivial⟩ ,rfl,⟨⟨rfl,.inl rfl,.inl rfl,_,rfl,rfl⟩ ,⟨rfl,.inl rfl,.inl rfl,_,rfl,rfl⟩ ,trivial⟩⟩ (fun _ _ _ _=>pts_nil) (fun _ _ _ _=>(@pe_gcallN _ _ _ _ _ _ _ _ _ _ G_law_mix (hr.mono (by decide)) rfl (@pa_c _ _ _ _ _ (@pe_op _ _ _ _ _ _ _ _ op_add (@pe_gcallN _ _ _ _ _ _ _ _ _ _ G_law_cell (hr.mono (by decide)) rfl (@pa_c _ _ _ _ _ (pv 1) (@pa_c _ _ _ _ _ (@pe_op _ _ _ _ _ _ _ _ op_add pe_int (pv 2)) pa_nil rfl) rfl) (by decide) rfl) (@pe_op _ _ _ _ _ _ _ _ op_mul pe_int (@pe_op _ _ _ _ _ _ _ _ op_mod (pv 0) pe_int))) (@pa_c _ _ _ _ _ pe_int (@pa_c _ _ _ _ _ pe_int pa_nil rfl) rfl) rfl) (by decide) rfl)) (fun _=>rfl))))),?_⟩
  wtm_at "vv"
  refine Lt.c_cell hS (by omega) ?_
  rw [show (4 + (u:Int)).toNat = 4 + u from by omega]
  wtm_at "ll"
  have hm:0≤ns.getD (4 + u) 0 * 48271 % 9871 % 13∧ns.getD (4 + u) 0 * 48271 % 9871 % 13 < 13:=by omega
  have em:(ns.getD (4 + u) 0 * 48271 % 9871 % 13).toNat = manyN ns u:=rfl
  have mm:manyN ns u≤12:=by rw [← em];omega
  refine ⟨_,rfl,by omega,by omega,?_⟩
  rw [em]
  refine lc_range (lo:=0) (n:=manyN ns u) (fun i:Nat=>.int ((ns.getD (4 + u) 0 + 31 * ((i:Int) % 5)) * 48271 % 9859 % 256)) (by rw [sizeLine_eq];omega) (fun i hi Q' q'=>?_) (fun l nl=>?_)
  ·rw [Int.zero_add]
   wtm_at "ll"
   refine Lt.c_cell hS (by omega) ?_
   rw [show (4 + (u:Int)).toNat = 4 + u from by omega]
   wtm_at "ll"
   exact q'
  ·refine k l _ nl ?_ (Same.newH nl)
   rw [upd_same]
   unfold msgL
   rw [List.map_map]
   rfl
def sp_text (K:PySem.W.Frag):Sp:=fun vs H Q _=>∃ (l:Addr) (m:List Int),vs = [.ref l]∧SqL K H l (m.map V.int)∧m.length≤12∧(∀ v∈m,0≤v∧v < 256)∧∀ H',Same H H'→Q (.str (Str.join "\n" (Sc.rowsM m))) H'
theorem ok_text (R:Raw K mg "_law_text" s_law_text) (T:TxtL K mg):GF P w K mg base "_law_text" ["_law_letters"] 1 (sp_text K):=by
 refine GF.mk R sc_law_text (by wtm_at "1") (fun vs H Q E h=>?_) (fun f cdv A outer s H vs Q E hr h=>?_)
 ·obtain ⟨l,m,rfl,_⟩:=h;rfl
 ·obtain ⟨l,m,rfl,hS,h12,hr,k⟩:=h
  have hz:=Ls.sz
  refine ⟨_,(@pss_cons _ _ _ _ _ (@ps_set _ _ (1) _ _ _ _ sc_law_text.nd rfl (Or.inl rfl) (@pe_lst _ _ _ _ pa_nil) rfl (by first | exact .inl rfl | exact .inr rfl | assumption)) (@pss_cons _ _ _ _ _ (@ps_for _ _ _ _ _ _ _ _ PassesOwn.never rfl (@pi_listK _ (K) _ _ _ rfl (pv 0)) (@pg_name _ _ (2) _ sc_law_text.nd rfl (Or.inl rfl) (by first | exact .inl rfl | exact .inr rfl | assumption)) (@pss_one _ _ _ (@ps_set _ _ (1) _ _ _ _ sc_law_text.nd rfl (Or.inl rfl) (@pe_op _ _ _ _ _ _ _ _ op_cat (pv 1) (@pe_lst _ _ _ _ (@pa_c _ _ _ _ _ pe_str (@pa_c _ _ _ _ _ (@pe_op _ _ _ _ _ _ _ _ op_add_str pe_str (@pe_callTyN _ _ _ _ _ _ _ _ _ call_str_int (by rfl) T.str_ bo_str (@pa_c _ _ _ _ _ (pv 2) pa_nil rfl) (by decide) (by decide) rfl)) (@pa_c _ _ _ _ _ pe_str pa_nil rfl) rfl) rfl))) rfl (by first | exact .inl rfl | exact .inr rfl | assumption))) (fun _=>rfl)) (@pss_one _ _ _ (@ps_ret _ _ _ _ (pe_bm PySem.F.plainAttrs_str PySem.F.slot_str_join PySem.F.type_str_join (mt_join (K:=K) rfl) pe_str (@pa_c _ _ _ _ _ (@pe_op _ _ _ _ _ _ _ _ op_cat (pv 1) (@pe_lst _ _ _ _ (@pa_c _ _ _ _ _ pe_str pa_nil rfl))) pa_nil rfl)))))),?_⟩
  wtm_at "ll"
  refine Sx.newL (by show 0≤sizeLine;decide) fun l1 G1 n1 h1 s1=>?_
  wtm_at "ll"
  refine ⟨l,rfl,⟨_,s1.seq hS⟩,for_list (xs:=m.map V.int) (fun i σ' H'=>∃ l1 x,σ' = [some (.ref l),some (.ref l1),x]∧H' l1 = some (.lst (((m.take i).flatMap Sc.rowsV).map V.str))∧Same H H') ⟨_,_,rfl,h1,s1⟩ ?_ ?_ ?_⟩
  ·rintro i σ' H' _ ⟨_,x,_,_,s2⟩
   exact s2.seq hS
  ·rintro i x σ' H' hx ⟨l1,y,rfl,h2,s2⟩
   rw [List.getElem?_map] at hx
   cases e:m[i]? with
   | none=>rw [e] at hx;cases hx
   | some v =>
    rw [e] at hx
    cases hx
    have et:m.take (i + 1) = m.take i ++ [v]:=by rw [List.take_add_one,e];rfl
    have hv:=hr v (List.mem_of_getElem? e)
    have hi:i < m.length:=(List.getElem?_eq_some_iff.mp e).1
    wtm_at "ll"
    obtain ⟨j,rfl⟩:=Int.eq_ofNat_of_zero_le hv.1
    have nl:(Str.ofString (toString (j:Int))).length≤4:=Ls.num_len (i:=j) (by omega)
    have la:("  add =" : Str).length = 7:=by decide +kernel
    refine ⟨_,rfl,Ls.log_ok (by omega) (by omega),?_⟩
    refine ⟨_,_,rfl,rfl,by omega,?_⟩
    wtm_at "ll"
    refine Sx.newL (by show 3≤sizeLine;decide) fun l3 G3 n3 h3 s3=>?_
    have hfl:((m.take i).flatMap Sc.rowsV).length = 3 * i:=by
     rw [fl_len,List.length_take]
     omega
    wtm_at "ll"
    refine Sx.catN (s3 _ _ h2) h3 (by rw [List.length_map,hfl];show 3 * i + 3≤_;omega) fun l4 G4 n4 h4 s4=>?_
    wtm_at "ll"
    refine ⟨l4,_,rfl,?_,s2.trans (s3.trans s4)⟩
    rw [h4,et,List.flatMap_append,List.map_append]
    rfl
  rintro σ' G2 ⟨l1,x,rfl,h2,s2⟩
  rw [List.length_map,List.take_length] at h2
  obtain ⟨f1,f2⟩:=Sc.rows_fit h12 hr
  wtm_at "ll"
  refine Sx.newL (by show 1≤sizeLine;decide) fun l3 G3 n3 h3 s3=>?_
  wtm_at "ll"
  refine Sx.catN (s3 _ _ h2) h3 (by rw [List.length_map,fl_len];show 3 * m.length + 1≤_;omega) fun l4 G4 n4 h4 s4=>?_
  have h4':G4 l4 = some (.lst ((Sc.rowsM m).map V.str)):=by
   rw [h4]
   unfold Sc.rowsM
   rw [List.map_append]
   rfl
  wtm_at "ll"
  refine Sx.joinL h4' (Ls.joinOk 30 f2 (by rw [Ls.l_nl];omega)) ?_
  exact k _ (s2.trans (s3.trans s4))
theorem ints_shaped (ns:List Int):PySem.SeqAt.shaped (intsD ns) = true:=by
 unfold PySem.SeqAt.shaped
 rw [Bool.and_eq_true]
 refine ⟨lay_ints ns,?_⟩
 rw [decide_eq_true_eq]
 show PyData.depthAll (ns.map PyData.int) + 1≤64
 rw [dep_ints];decide
theorem ints_ne {H:Hp} {Q:VK} {t t':Addr} {ns:List Int} (h:SqT K H t (ns.map V.int)) (h':SqT K H t' (ns.map V.int)) (q:Q (.bl false) H):rNeD K (.ref t) (.ref t') H Q :=
 ⟨intsD ns,intsD ns,.tup h (drds_ints ns),.tup h' (drds_ints ns),ints_shaped ns,ints_shaped ns,mix_ints ns,by rw [PyProof.Rows.same_refl];exact q⟩
theorem nil_ne {H:Hp} {Q:VK} {x y:Addr} (h1:H x = some (.tup (([]:List Int).map V.int))) (h2:H y = some (.tup [])) (q:Q (.bl false) H):rNeD K (.ref x) (.ref y) H Q :=
 ⟨.tuple [],.tuple [],.tup (SqT.of h1) .nil,.tup (SqT.of h2) .nil,by decide,by decide,by rfl,by rw [PyProof.Rows.same_refl];exact q⟩
structure MsAt (H:Hp) (lm:Addr) (ls:List Addr) (ns:List Int):Prop where
 l:H lm = some (.lst (ls.map V.ref))
 t:∀ (u:Nat) (t:Addr),ls[u]? = some t→H t = some (.lst ((msgL ns u).map V.int))
theorem MsAt.keep {H H':Hp} {lm:Addr} {ls:List Addr} {ns:List Int} (h:MsAt H lm ls ns) (s:Same H H'):MsAt H' lm ls ns:=⟨s _ _ h.l,fun u t e=>s _ _ (h.t u t e)⟩
theorem MsAt.far {H H':Hp} {A A':HAd} {lm:Addr} {ls:List Addr} {ns:List Int} (h:MsAt H lm ls ns) (F:Lh.HFr A A' H H') (n:∀ x∈lm::ls,x∉footH A):MsAt H' lm ls ns∧∀ x∈lm::ls,x∉footH A':=by
 have hl:=F.safe h.l (n lm List.mem_cons_self)
 refine ⟨⟨hl.1,fun u t e=>(F.safe (h.t u t e) (n t (List.mem_cons_of_mem _ (List.mem_of_getElem? e)))).1⟩,fun x hx=>?_⟩
 rcases List.mem_cons.mp hx with rfl | hx
 ·exact hl.2
 ·obtain ⟨u,e⟩:=List.getElem?_of_mem hx
  exact (F.safe (h.t u x e) (n x (List.mem_cons_of_mem _ hx))).2
theorem ok_law (R:Raw K mg "law" s_law) (T:TxtL K mg) (TH:TxtH K mg CH CP CM) (G_law_cell:GF P w K mg base "_law_cell" ["_law_script","_law_k"] 1 (sp_cell K)) (G_law_message:GF P w K mg base "_law_message" ["_law_script","_law_user"] 2 (sp_message K)) (G_law_text:GF P w K mg base "_law_text" ["_law_letters"] 1 (sp_text K)) (G_assembled:GF P w K mg base "assembled" ["text"] 9 (Sc.sp_asm CL CS))
  (M_House:GC P w K mg base "House" CH ["self","users","rooms","quantum","beat"] 5 (sp_initH CH CP CM)) (G_load:GF P w K mg base "load" ["house","user","cells"] 1 (sp_load K CH CP CM)) (G_start:GF P w K mg base "start" ["house","user","place"] 9 (sp_startH CH CP CM))
  (G_run:GF P w K mg base "run" ["house","count"] 11 (spHu CH CP CM (fun s n=>∃ M,Bd s M∧M + 10 * n < 790000) (fun s n=>runN n s))) (G_seen:GF P w K mg base "seen" ["house","user"] 2 (sp_seen K CH CP CM)):GF P w K mg base "law" ["_law_script"] 12 (sp_law K):=by
 refine GF.mk R sc_law (by wtm_at "1") (fun vs H Q E h=>?_) (fun f cdv A outer s H vs Q E hr h=>?_)
 ·obtain ⟨a,ns,rfl,_⟩:=h;rfl
 ·obtain ⟨a,ns,rfl,hS,k⟩:=h
  refine ⟨_,(@pss_cons _ _ _ _ _ (@ps_set _ _ (1) _ _ _ _ sc_law.nd rfl (Or.inl rfl) (@pe_op _ _ _ _ _ _ _ _ op_add pe_int (@pe_op _ _ _ _ _ _ _ _ op_mod (@pe_gcallN _ _ _ _ _ _ _ _ _ _ G_law_cell (hr.mono (by decide)) rfl (@pa_c _ _ _ _ _ (pv 0) (@pa_c _ _ _ _ _ pe_int pa_nil rfl) rfl) (by decide) rfl) pe_int)) rfl (by first | exact .inl rfl | exact .inr rfl | assumption)) (@pss_cons _ _ _ _ _ (@ps_set _ _ (2) _ _ _ _ sc_law.nd rfl (Or.inl rfl) (@pe_op _ _ _ _ _ _ _ _ op_add pe_int (@pe_op _ _ _ _ _ _ _ _ op_mod (@pe_gcallN _ _ _ _ _ _ _ _ _ _ G_law_cell (hr.mono (by decide)) rfl (@pa_c _ _ _ _ _ (pv 0) (@pa_c _ _ _ _ _ pe_int pa_nil rfl) rfl) (by decide) rfl) pe_int)) rfl (by first | exact .inl rfl | exact .inr rfl | assumption)) (@pss_cons _ _ _ _ _ (@ps_set _ _ (3) _ _ _ _ sc_law.nd rfl (Or.inl rfl) (@pe_gmakeN _ _ _ _ _ _ _ _ _ _ _ M_House (hr.mono (by decide)) rfl (@pa_c _ _ _ _ _ (pv 1) (@pa_c _ _ _ _ _ (@pe_op _ _ _ _ _ _ _ _ op_add pe_int (@pe_op _ _ _ _ _ _ _ _ op_mod (@pe_gcallN _ _ _ _ _ _ _ _ _ _ G_law_cell (hr.mono (by decide)) rfl (@pa_c _ _ _ _ _ (pv 0) (@pa_c _ _ _ _ _ pe_int pa_nil rfl) rfl) (by decide) rfl) pe_int)) (@pa_c _ _ _ _ _ (@pe_op _ _ _ _ _ _ _ _ op_add pe_int (@pe_op _ _ _ _ _ _ _ _ op_mod (@pe_gcallN _ _ _ _ _ _ _ _ _ _ G_law_cell (hr.mono (by decide)) rfl (@pa_c _ _ _ _ _ (pv 0) (@pa_c _ _ _ _ _ pe_int pa_nil rfl) rfl) (by decide) rfl) pe_int)) (@pa_c _ _ _ _ _ (pv 2) pa_nil rfl) rfl) rfl) rfl) (by decide) rfl) rfl (by first | exact .inl rfl | exact .inr rfl | assumption)) (@pss_cons _ _ _ _ _ (@ps_setLC _ _ _ _ _ _ _ _ _ _ _ _ ([("_law_script" ,0)]) (4) _ _ _ sc_law.nd rfl (Or.inl rfl) rfl rfl (@pi_range1 _ _ _ _ _ _ rfl T.range_ (@pa_c _ _ _ _ _ (pv 1) pa_nil rfl) rfl) ⟨rfl,rfl,by decide +kernel,by decide +kernel,rfl,by decide +kernel,⟨rfl,trivial⟩ ,rfl,⟨⟨rfl,.inl rfl,.inl rfl,_,rfl,rfl⟩ ,trivial⟩⟩ (fun _ _ _ _=>pts_nil) (fun _ _ _ _=>(@pe_gcallN _ _ _ _ _ _ _ _ _ _ G_law_message (hr.mono (by decide)) rfl (@pa_c _ _ _ _ _ (pv 1) (@pa_c _ _ _ _ _ (pv 0) pa_nil rfl) rfl) (by decide) rfl)) (fun _=>rfl) (by first | exact .inl rfl | exact .inr rfl | assumption)) (@pss_cons _ _ _ _ _ (@ps_for _ _ _ _ _ _ _ _ PassesOwn.never rfl (@pi_range1 _ _ _ _ _ _ rfl T.range_ (@pa_c _ _ _ _ _ (pv 1) pa_nil rfl) rfl) (@pg_name _ _ (5) _ sc_law.nd rfl (Or.inl rfl) (by first | exact .inl rfl | exact .inr rfl | assumption)) (@pss_one _ _ _ (@ps_expr _ _ _ _ (@pe_gcallN _ _ _ _ _ _ _ _ _ _ G_load (hr.mono (by decide)) rfl (@pa_c _ _ _ _ _ (pv 3) (@pa_c _ _ _ _ _ (pv 5) (@pa_c _ _ _ _ _ (@pe_gcallN _ _ _ _ _ _ _ _ _ _ G_assembled (hr.mono (by decide)) rfl (@pa_c _ _ _ _ _ (@pe_gcallN _ _ _ _ _ _ _ _ _ _ G_law_text (hr.mono (by decide)) rfl (@pa_c _ _ _ _ _ (@pe_ix _ _ _ _ _ _ _ (ix_listK (K:=K) rfl) (pv 4) (pv 5) (fun _ _=>rfl)) pa_nil rfl) (by decide) rfl) pa_nil rfl) (by decide) rfl) pa_nil rfl) rfl) rfl) (by decide) rfl) rfl)) (fun _=>rfl)) (@pss_cons _ _ _ _ _ (@ps_for _ _ _ _ _ _ _ _ PassesOwn.never rfl (@pi_range1 _ _ _ _ _ _ rfl T.range_ (@pa_c _ _ _ _ _ (pv 1) pa_nil rfl) rfl) (@pg_name _ _ (5) _ sc_law.nd rfl (Or.inl rfl) (by first | exact .inl rfl | exact .inr rfl | assumption)) (@pss_one _ _ _ (@ps_expr _ _ _ _ (@pe_gcallN _ _ _ _ _ _ _ _ _ _ G_start (hr.mono (by decide)) rfl (@pa_c _ _ _ _ _ (pv 3) (@pa_c _ _ _ _ _ (pv 5) (@pa_c _ _ _ _ _ pe_int pa_nil rfl) rfl) rfl) (by decide) rfl) rfl)) (fun _=>rfl)) (@pss_cons _ _ _ _ _ (@ps_set _ _ (6) _ _ _ _ sc_law.nd rfl (Or.inl rfl) (@pe_op _ _ _ _ _ _ _ _ op_add (@pe_callBN _ _ _ _ _ _ _ _ _ (call_sumIK (K:=K) rfl rfl) (by rfl) T.sum_ bo_sum (@pa_c _ _ _ _ _ (@pe_lcomp _ _ _ _ _ _ _ _ _ _ _ _ ([]) rfl (@pi_listK _ (K) _ _ _ rfl (pv 4)) ⟨rfl,rfl,by decide +kernel,by decide +kernel,rfl,by decide +kernel,trivial,rfl,trivial⟩ (fun _ _ _ _=>pts_nil) (fun _ _ _ _=>(@pe_op _ _ _ _ _ _ _ _ op_add (@pe_op _ _ _ _ _ _ _ _ op_mul pe_int (@pe_callBN _ _ _ _ _ _ _ _ _ (call_len_seqN (K:=K) rfl) (by rfl) T.len_ bo_len (@pa_c _ _ _ _ _ (pv 0) pa_nil rfl) (by decide) (by decide) rfl)) pe_int)) (fun _=>rfl)) pa_nil rfl) (by decide) (by decide) rfl) (@pe_op _ _ _ _ _ _ _ _ op_mul pe_int (pv 2))) rfl (by first | exact .inl rfl | exact .inr rfl | assumption)) (@pss_cons _ _ _ _ _ (@ps_expr _ _ _ _ (@pe_gcallN _ _ _ _ _ _ _ _ _ _ G_run (hr.mono (by decide)) rfl (@pa_c _ _ _ _ _ (pv 3) (@pa_c _ _ _ _ _ (@pe_op _ _ _ _ _ _ _ _ op_add (pv 6) (@pe_op _ _ _ _ _ _ _ _ op_mul (@pe_callBN _ _ _ _ _ _ _ _ _ (call_sumIK (K:=K) rfl rfl) (by rfl) T.sum_ bo_sum (@pa_c _ _ _ _ _ (@pe_lcomp _ _ _ _ _ _ _ _ _ _ _ _ ([]) rfl (@pi_listK _ (K) _ _ _ rfl (pv 4)) ⟨rfl,rfl,by decide +kernel,by decide +kernel,rfl,by decide +kernel,trivial,rfl,trivial⟩ (fun _ _ _ _=>pts_nil) (fun _ _ _ _=>(@pe_callBN _ _ _ _ _ _ _ _ _ (call_len_seqN (K:=K) rfl) (by rfl) T.len_ bo_len (@pa_c _ _ _ _ _ (pv 0) pa_nil rfl) (by decide) (by decide) rfl)) (fun _=>rfl)) pa_nil rfl) (by decide) (by decide) rfl) (pv 2))) pa_nil rfl) rfl) (by decide) rfl) rfl) (@pss_cons _ _ _ _ _ (@ps_for _ _ _ _ _ _ _ _ PassesOwn.never rfl (@pi_range1 _ _ _ _ _ _ rfl T.range_ (@pa_c _ _ _ _ _ (pv 1) pa_nil rfl) rfl) (@pg_name _ _ (5) _ sc_law.nd rfl (Or.inl rfl) (by first | exact .inl rfl | exact .inr rfl | assumption)) (@pss_cons _ _ _ _ _ (@ps_set _ _ (7) _ _ _ _ sc_law.nd rfl (Or.inl rfl) (@pe_gcallN _ _ _ _ _ _ _ _ _ _ G_seen (hr.mono (by decide)) rfl (@pa_c _ _ _ _ _ (pv 3) (@pa_c _ _ _ _ _ (pv 5) pa_nil rfl) rfl) (by decide) rfl) rfl (by first | exact .inl rfl | exact .inr rfl | assumption)) (@pss_one _ _ _ (@ps_if _ _ _ _ _ _ _ _ (@PW.pt _ _ _ (@pw_or _ _ _ _ _ _ _ (@pt_cmpR _ _ _ _ _ _ _ _ (op_neDK (K:=K) rfl (hu64 hr)) (@pe_ix _ _ _ _ _ _ _ (ix_tupK (K:=K) rfl) (pv 7) pe_int (fun _ _=>rfl)) (@pe_callTyN _ _ _ _ _ _ _ _ _ (call_tuple_ofN (K:=K) rfl) (by rfl) T.tuple_ bo_tuple (@pa_c _ _ _ _ _ (@pe_ix _ _ _ _ _ _ _ (ix_listK (K:=K) rfl) (pv 4) (pv 5) (fun _ _=>rfl)) pa_nil rfl) (by decide) (by decide) rfl) (nomark _)) (@pw_or _ _ _ _ _ _ _ (@pt_cmpR _ _ _ _ _ _ _ _ op_ne (@pe_ix _ _ _ _ _ _ _ (ix_tupK (K:=K) rfl) (pv 7) pe_int (fun _ _=>rfl)) pe_str (nomark _)) (@pw_or1 _ _ _ _ (@pt_cmpR _ _ _ _ _ _ _ _ (op_neDK (K:=K) rfl (hu64 hr)) (@pe_ix _ _ _ _ _ _ _ (ix_tupK (K:=K) rfl) (pv 7) pe_int (fun _ _=>rfl)) (@pe_tup _ _ _ _ _ pa_nil) (nomark _)))))) (@pss_one _ _ _ (@ps_ret _ _ _ _ pe_bl)) pss_nil))) (fun _=>rfl)) (@pss_one _ _ _ (@ps_ret _ _ _ _ (@pe_cmpR _ _ _ _ _ _ _ _ op_isN (@pe_fldK _ (K) _ _ _ _ rfl (pv 3) rfl) pe_non (nomark _))))))))))))),?_⟩
  wtm_at "vv"
  obtain ⟨n,en,hn1,hn2⟩:∃ n:Nat,1 + ns.getD (Int.toNat 0) 0 % 3 = (n:Int)∧1≤n∧n≤3:=⟨(1 + ns.getD (Int.toNat 0) 0 % 3).toNat,by omega,by omega,by omega⟩
  obtain ⟨kb,eb,hb1,hb2⟩:∃ kb:Nat,1 + ns.getD (Int.toNat 3) 0 % 4 = (kb:Int)∧1≤kb∧kb≤4:=⟨(1 + ns.getD (Int.toNat 3) 0 % 4).toNat,by omega,by omega,by omega⟩
  obtain ⟨rm,er,hr1,hr2⟩:∃ rm:Nat,1 + ns.getD (Int.toNat 1) 0 % 2 = (rm:Int)∧1≤rm∧rm≤2:=⟨(1 + ns.getD (Int.toNat 1) 0 % 2).toNat,by omega,by omega,by omega⟩
  have hq:1≤1 + ns.getD (Int.toNat 2) 0 % 5∧1 + ns.getD (Int.toNat 2) 0 % 5≤5:=by omega
  rw [en,eb]
  wtm_at "vv"
  rw [er]
  generalize 1 + ns.getD (Int.toNat 2) 0 % 5 = qu at hq ⊢
  refine make_h (by omega) (by omega) fun A H2 nA D2 s2=>?_
  have hS2:=s2.seq hS
  wtm_at "vv"
  refine ⟨_,rfl,by omega,by omega,?_⟩
  rw [Int.toNat_natCast]
  refine lc_rangeI (lo:=0) (n:=n) (fun i acc H'=>Same H2 H'∧∃ ls:List Addr,acc = ls.map V.ref∧ls.length = i∧(∀ (u:Nat) t,ls[u]? = some t→H' t = some (.lst ((msgL ns u).map V.int)))∧∀ t∈ls,H2 t = none) (by rw [sizeLine_eq];omega) ⟨Same.refl _,[],rfl,rfl,(fun u t h=>by simp at h),fun t ht=>(nomatch ht)⟩ (fun i acc H' h=>?_) (fun i acc H' hi h Q' q'=>?_) (fun acc H3 h lm nlm=>?_)
  ·obtain ⟨_,ls,rfl,e,_⟩:=h
   rw [List.length_map,e]
  ·obtain ⟨sm,ls,rfl,e,h1,h2⟩:=h
   rw [Int.zero_add]
   wtm_at "vv"
   refine ⟨a,ns,i,rfl,sm.seq hS2,fun l4 H4 n4 h4 s4=>?_⟩
   refine q' _ _ ⟨sm.trans s4,ls ++ [l4],by rw [List.map_append];rfl,by rw [List.length_append,e];rfl,fun u t hu=>?_,fun t ht=>?_⟩
   ·by_cases g:u < ls.length
    ·rw [List.getElem?_append_left g] at hu
     exact s4 _ _ (h1 u t hu)
    ·rw [List.getElem?_append_right (by omega)] at hu
     have hk0:u = ls.length:=by
      rcases Nat.lt_or_ge (u - ls.length) 1 with y | y
      ·omega
      ·rw [List.getElem?_eq_none (by simpa using y)] at hu;cases hu
     subst hk0
     rw [Nat.sub_self] at hu
     cases hu
     rw [e]
     exact h4
   ·rcases List.mem_append.mp ht with z | z
    ·exact h2 t z
    ·rw [List.mem_singleton.mp z];exact sm.free n4
  obtain ⟨s3,ls,rfl,hll,hl1,hl2⟩:=h
  have s4:Same H3 (upd H3 lm (.lst (ls.map V.ref))):=Same.newH nlm
  have M4:MsAt (upd H3 lm (.lst (ls.map V.ref))) lm ls ns:=⟨upd_same,fun u t e=>s4 _ _ (hl1 u t e)⟩
  have hna:∀ x∈lm::ls,x∉footH A:=fun x hx=>by
   rcases List.mem_cons.mp hx with z | z
   ·rw [z];exact (D2.keep s3).fresh nlm
   ·exact D2.fresh (hl2 x z)
  generalize upd H3 lm (.lst (ls.map V.ref)) = H4 at s4 M4 ⊢
  have D4:=D2.keep (s3.trans s4)
  have s04:=s2.trans (s3.trans s4)
  have hq0:=hq.1
  have L0:LdS n (kb:Int) (fun u=>Sc.cellsM (msgL ns u)) (newH n rm qu (kb:Int)) 0:=ld_new (by omega) ⟨hr1,by omega⟩ (by omega) hq0
  generalize newH n rm qu (kb:Int) = s0 at D4 L0
  generalize hAh:A.h = ha
  wtm_at "vv"
  refine ⟨_,rfl,by omega,by omega,?_⟩
  rw [Int.toNat_natCast]
  refine for_range (n:=n) (fun i σ' H'=>∃ A s v5,σ' = [some (.ref a),some (.int n),some (.int kb),some (.ref ha),some (.ref lm),v5,none,none]∧A.h = ha∧HAt CH CP CM H' A s∧LdS n (kb:Int) (fun u=>Sc.cellsM (msgL ns u)) s i∧MsAt H' lm ls ns∧(∀ x∈lm::ls,x∉footH A)∧Same H H'∧∀ x∈footH A,H x = none) ⟨A,s0,_,rfl,hAh,D4,L0,M4,hna,s04,nA⟩ ?_ ?_
  ·rintro i _ H5 hi ⟨A,s,v5,rfl,hA5,D5,L5,M5,hna5,s5,nA5⟩
   subst hA5
   rw [Int.zero_add]
   obtain ⟨m12,mr⟩:=msg_in ns i
   obtain ⟨r1,r2⟩:=Sc.rows_fit m12 mr
   obtain ⟨f1,f2,f3⟩:=Sc.text_fit (m:=30) (ls:=Sc.rowsM (msgL ns i)) (by omega) (by decide) r2
   have eti:ls[i]? = some (ls[i]'(by omega)):=List.getElem?_eq_getElem (by omega)
   generalize ls[i]'(by omega) = ti at eti
   wtm_at "vv"
   refine Sx.ixL M5.l (atI_nat (by rw [List.getElem?_map,eti];rfl)) ?_
   wtm_at "vv"
   refine ⟨ti,msgL ns i,rfl,SqL.of (M5.t i ti eti),m12,mr,fun H6 s6=>?_⟩
   wtm_at "vv"
   refine ⟨_,_,rfl,f1,f2,f3,Sc.asm_m m12 mr,fun l7 H7 n7 h7 s7=>?_⟩
   have s57:=s6.trans s7
   wtm_at "vv"
   refine ⟨A,s,i,l7,Sc.cellsM (msgL ns i),rfl,D5.keep s57,by rw [L5.len];exact hi,SqL.of h7,fun A8 H8 eA D8 F8 n8=>?_⟩
   have G8:Lh.HFr A A8 H7 H8:=⟨eA,F8,n8⟩
   obtain ⟨M8,hna8⟩:=(M5.keep s57).far G8 hna5
   obtain ⟨s8,nA8⟩:=G8.base (s5.trans s57) nA5
   exact ⟨A8,_,_,rfl,eA,D8,L5.next hi (by simp [Sc.cellsM]) (Sc.cells_in m12 mr),M8,hna8,s8,nA8⟩
  rintro _ H5 ⟨A,s,v5,rfl,hA5,D5,L5,M5,hna5,s5,nA5⟩
  subst hA5
  have S5:=L5.st
  wtm_at "vv"
  refine ⟨_,rfl,by omega,by omega,?_⟩
  rw [Int.toNat_natCast]
  refine for_range (n:=n) (fun i σ' H'=>∃ s v5,σ' = [some (.ref a),some (.int n),some (.int kb),some (.ref A.h),some (.ref lm),v5,none,none]∧HAt CH CP CM H' A s∧StS n (kb:Int) (fun u=>Sc.cellsM (msgL ns u)) s i∧MsAt H' lm ls ns) ⟨s,_,rfl,D5,S5,M5⟩ ?_ ?_
  ·rintro i _ H6 hi ⟨s,v5,rfl,D6,S6,M6⟩
   rw [Int.zero_add]
   wtm_at "vv"
   refine ⟨A,s,_,i,0,rfl,D6,S6.bd,by omega,by rw [S6.len];exact hi,⟨by decide,by decide⟩,fun H7 D7 F7=>?_⟩
   exact ⟨_,_,rfl,D7,S6.next hi (by omega),(M6.far (Lh.HFr.of F7) hna5).1⟩
  rintro _ H6 ⟨s,v5',rfl,D6,S6,M6⟩
  have hP:∀ u,u < n→Spk.Prog (msgL ns u) (Sc.cellsM (msgL ns u)):=fun u _=>Sc.prog_m (msg_in ns u).1 (msg_in ns u).2
  have hH:=S6.hall (ms:=msgL ns)
  have lenm:∀ u,(msgL ns u).length≤12:=fun u=>(msg_in ns u).1
  have tl1:Spk.sumN (Spk.full (msgL ns)) n≤n * 37:=sum_low n fun i _=>by have:=lenm i;unfold Spk.full;omega
  have tl2:Spk.sumN (fun u=>(msgL ns u).length) n≤n * 12:=sum_low n fun i _=>lenm i
  have get:∀ {H':Hp} (i:Nat) (x:V),(ls.map V.ref)[i]? = some x→MsAt H' lm ls ns→∃ t,x = .ref t∧i < n∧H' t = some (.lst ((msgL ns i).map V.int)):=fun i x hx M=>by
   rw [List.getElem?_map] at hx
   cases e:ls[i]? with
   | none=>rw [e] at hx;cases hx
   | some t =>
    rw [e] at hx
    cases hx
    exact ⟨t,rfl,by rw [← hll];exact (List.getElem?_eq_some_iff.mp e).1,M.t i t e⟩
  wtm_at "vv"
  refine ⟨lm,rfl,⟨_,SqL.of M6.l⟩,lc_listI (xs:=ls.map V.ref) (fun i acc H'=>acc = ((List.range i).map fun u=>((Spk.full (msgL ns) u:Nat):Int)).map V.int∧Same H6 H') (by rw [List.length_map,hll,sizeLine_eq];omega) ⟨rfl,Same.refl _⟩ ?_ ?_ ?_ ?_⟩
  ·rintro i acc H' ⟨rfl,_⟩
   simp
  ·rintro i acc H' ⟨_,s7⟩
   exact SqL.of (s7 _ _ M6.l)
  ·rintro i x acc H' hx ⟨rfl,s7⟩ Q' q'
   obtain ⟨t,rfl,hi,ht⟩:=get i x hx (M6.keep s7)
   wtm_at "vv"
   refine ⟨t,_,rfl,.inl (SqL.of ht),?_⟩
   wtm_at "vv"
   refine q' _ _ ⟨?_,s7⟩
   have e:((Spk.full (msgL ns) i:Nat):Int) = 3 * ((msgL ns i).map V.int).length + 1:=by rw [List.length_map];unfold Spk.full;omega
   rw [List.range_succ,List.map_append,List.map_append,← e]
   rfl
  rintro acc H7 ⟨rfl,s7⟩ l8 n8
  rw [List.length_map,hll]
  have s8:Same H6 (upd H7 l8 (.lst (((List.range n).map fun u=>((Spk.full (msgL ns) u:Nat):Int)).map V.int))):=s7.trans (Same.newH n8)
  have h8:(upd H7 l8 (.lst (((List.range n).map fun u=>((Spk.full (msgL ns) u:Nat):Int)).map V.int))) l8 = some (.lst (((List.range n).map fun u=>((Spk.full (msgL ns) u:Nat):Int)).map V.int)):=upd_same
  generalize upd H7 l8 (.lst (((List.range n).map fun u=>((Spk.full (msgL ns) u:Nat):Int)).map V.int)) = H8 at s8 h8 ⊢
  have M8:=M6.keep s8
  have D8:=D6.keep s8
  wtm_at "vv"
  refine ⟨l8,_,rfl,SqL.of h8,?_⟩
  rw [sum_nat]
  wtm_at "vv"
  refine ⟨lm,rfl,⟨_,SqL.of M8.l⟩,lc_listI (xs:=ls.map V.ref) (fun i acc H'=>acc = ((List.range i).map fun u=>(((msgL ns u).length:Nat):Int)).map V.int∧Same H8 H') (by rw [List.length_map,hll,sizeLine_eq];omega) ⟨rfl,Same.refl _⟩ ?_ ?_ ?_ ?_⟩
  ·rintro i acc H' ⟨rfl,_⟩
   simp
  ·rintro i acc H' ⟨_,s9⟩
   exact SqL.of (s9 _ _ M8.l)
  ·rintro i x acc H' hx ⟨rfl,s9⟩ Q' q'
   obtain ⟨t,rfl,hi,ht⟩:=get i x hx (M8.keep s9)
   wtm_at "vv"
   refine ⟨t,_,rfl,.inl (SqL.of ht),?_⟩
   refine q' _ _ ⟨?_,s9⟩
   rw [List.range_succ,List.map_append,List.map_append,List.length_map]
   rfl
  rintro acc H9 ⟨rfl,s9⟩ l10 n10
  rw [List.length_map,hll]
  have s10:Same H8 (upd H9 l10 (.lst (((List.range n).map fun u=>(((msgL ns u).length:Nat):Int)).map V.int))):=s9.trans (Same.newH n10)
  have h10:(upd H9 l10 (.lst (((List.range n).map fun u=>(((msgL ns u).length:Nat):Int)).map V.int))) l10 = some (.lst (((List.range n).map fun u=>(((msgL ns u).length:Nat):Int)).map V.int)):=upd_same
  generalize upd H9 l10 (.lst (((List.range n).map fun u=>(((msgL ns u).length:Nat):Int)).map V.int)) = H10 at s10 h10 ⊢
  have M10:=M8.keep s10
  have D10:=D8.keep s10
  wtm_at "vv"
  refine ⟨l10,_,rfl,SqL.of h10,?_⟩
  rw [sum_nat]
  generalize Spk.sumN (fun u=>(msgL ns u).length) n = t2 at tl2
  have hbe:=hall_beat hP hH
  have sp:=fun N hN=>hH.spoken hP (k:=kb) (N:=N) S6.be (by omega) hN (hbe _)
  generalize Spk.sumN (Spk.full (msgL ns)) n = t1 at tl1 sp
  have t2k:t2 * kb≤36 * 4:=Nat.mul_le_mul (by omega) hb2
  obtain ⟨N,eN,hN1,hN2⟩:∃ N:Nat,(t1:Int) + 16 * (kb:Int) + (t2:Int) * (kb:Int) = (N:Int)∧t1 + 12 * kb≤N∧N≤400:=by
   refine ⟨t1 + 16 * kb + t2 * kb,?_,by omega,by omega⟩
   rw [Int.natCast_add,Int.natCast_add,Int.natCast_mul,Int.natCast_mul]
   rfl
  obtain ⟨hru,hall⟩:=sp N hN1
  wtm_at "vv"
  rw [eN]
  refine ⟨A,s,N,rfl,D10,⟨_,S6.bd,by omega⟩,fun H11 D11 F11=>?_⟩
  have bd11:=S6.bd.run N (by omega)
  have len11:=Lh.runN_len s N
  have D11:HAt CH CP CM H11 A (Hs.runN N s):=D11
  have M11:=(M10.far (Lh.HFr.of F11) hna5).1
  generalize Hs.runN N s = sq at D11 bd11 len11 hru hall
  rw [S6.len] at len11
  wtm_at "vv"
  refine ⟨_,rfl,by omega,by omega,?_⟩
  rw [Int.toNat_natCast]
  refine for_range (n:=n) (fun i σ' H'=>∃ v5 v7,σ' = [some (.ref a),some (.int n),some (.int kb),some (.ref A.h),some (.ref lm),v5,some (.int ((t1:Int) + 16 * (kb:Int))),v7]∧Same H11 H') ⟨_,_,rfl,Same.refl _⟩ ?_ ?_
  ·rintro i _ H12 hi ⟨v5,v7,rfl,s12⟩
   rw [Int.zero_add]
   have D12:=D11.keep s12
   obtain ⟨q1,q2,q3⟩:=hall i hi
   wtm_at "vv"
   refine ⟨A,sq,_,i,rfl,D12,bd11,by omega,fun p1 r1 r2 r3 r4 r5 r6 H13 P13 s13=>?_⟩
   have M13:=M11.keep (s12.trans s13)
   have eti:ls[i]? = some (ls[i]'(by omega)):=List.getElem?_eq_getElem (by omega)
   generalize ls[i]'(by omega) = ti at eti
   wtm_at "vv"
   refine ixTS (i:=6) (SqT.of P13.all) rfl ?_
   wtm_at "vv"
   refine Sx.ixL M13.l (atI_nat (by rw [List.getElem?_map,eti];rfl)) ?_
   wtm_at "vv"
   refine Sx.tupOfL (M13.t i ti eti) fun x1 H14 nx1 hx1 s14=>?_
   have P14:=P13.keep s14
   have hpap:=P14.pap
   rw [q2] at hpap
   wtm_at "vv"
   refine ints_ne (SqT.of hpap) (SqT.of hx1) ?_
   wtm_at "vv"
   refine ixTS (i:=9) (SqT.of P14.all) rfl ?_
   rw [q3,show St5.stopped.s = "stopped" from rfl]
   wtm_at "vv"
   refine ixTS (i:=5) (SqT.of P14.all) rfl ?_
   wtm_at "vv"
   refine Sx.newT (by show 0≤sizeLine;decide) fun e1 H15 ne1 he1 s15=>?_
   have hout:=(P14.keep s15).out
   rw [q1] at hout
   wtm_at "vv"
   refine nil_ne hout he1 ?_
   wtm_at "vv"
   exact ⟨_,_,rfl,s12.trans (s13.trans (s14.trans s15))⟩
  rintro _ H12 ⟨v5,v7,rfl,s12⟩
  have D12:=D11.keep s12
  wtm_at "vv"
  rw [hru,show vU none = V.non from rfl,decide_eq_true rfl]
  exact k _
end
end K39
def PySem.W.Fast.tw5836179006130520531:Nat:=0
def PySem.W.Fast.tw9611408972898072191:Nat:=0
def PySem.W.Fast.tw3475923845094658397:Nat:=0
def PySem.W.Fast.tw11216875586104924793:Nat:=0
def PySem.W.Fast.tw5907310410972278185:Nat:=0
def PySem.W.Fast.tw18090931359411318599:Nat:=0
def PySem.W.Fast.tw13366476892935632153:Nat:=0
def PySem.W.Fast.tw16975047562740984185:Nat:=0
def PySem.W.Fast.tw16542742018315770329:Nat:=0
def PySem.W.Fast.tw4860128613711326994:Nat:=0
def PySem.W.Fast.tw4876295070500833432:Nat:=0
def PySem.W.Fast.tw1258477302105560443:Nat:=0
def PySem.W.Fast.tw10762978699396110051:Nat:=0
def PySem.W.Fast.tw16725089942319380894:Nat:=0
def PySem.W.Fast.tw966352014389598010:Nat:=0
def PySem.W.Fast.tw16781137218311241100:Nat:=0
def PySem.W.Fast.tw2763995256822431772:Nat:=0
def PySem.W.Fast.tw1855231109723158346:Nat:=0
def PySem.W.Fast.tw3096121895744287125:Nat:=0
def PySem.W.Fast.tw4383823642451555470:Nat:=0
def PySem.W.Fast.tw10830828158286413895:Nat:=0
def PySem.W.Fast.tw13466135841893348580:Nat:=0
def PySem.W.Fast.tw3323448907592593049:Nat:=0
def PySem.W.Fast.tw9002398145638795344:Nat:=0
def PySem.W.Fast.tw15852227472779297598:Nat:=0
def PySem.W.Fast.tw6975693936971382367:Nat:=0
def PySem.W.Fast.tw1146869800863118642:Nat:=0
def PySem.W.Fast.tw12270232953094414456:Nat:=0
def PySem.W.Fast.tw9691142417018945621:Nat:=0
def PySem.W.Fast.tw8937520665287836816:Nat:=0
def PySem.W.Fast.tw9597764416651682371:Nat:=0
def PySem.W.Fast.tw4738114462065897697:Nat:=0
def PySem.W.Fast.tw10477602457717465065:Nat:=0
def PySem.W.Fast.tw6641881380938010459:Nat:=0
def PySem.W.Fast.tw2380639343154606266:Nat:=0
def PySem.W.Fast.tw6554729389468224923:Nat:=0
def PySem.W.Fast.tw10776511207903107346:Nat:=0
def PySem.W.Fast.tw2631222056388213356:Nat:=0
def PySem.W.Fast.tw7471871119632553599:Nat:=0
def PySem.W.Fast.tw15447706936479174019:Nat:=0
def PySem.W.Fast.tw12686480572639198400:Nat:=0
def PySem.W.Fast.tw1821061558047160628:Nat:=0
def PySem.W.Fast.tw1477398177329529548:Nat:=0
def PySem.W.Fast.tw14120852765928750617:Nat:=0
def PySem.W.Fast.tw5275457428280405728:Nat:=0
def PySem.W.Fast.tw18200202158391705213:Nat:=0
def PySem.W.Fast.tw5198221469453702210:Nat:=0
def PySem.W.Fast.tw8843983636816486873:Nat:=0
def PySem.W.Fast.tw11001763336777565332:Nat:=0
def PySem.W.Fast.tw5791450385502543832:Nat:=0
def PySem.W.Fast.tw8027774498009114372:Nat:=0
def PySem.W.Fast.tw17557153530183163997:Nat:=0
def PySem.W.Fast.tw9529234645630888114:Nat:=0
def PySem.W.Fast.tw16490848333326306894:Nat:=0
def PySem.W.Fast.tw9237031044037423024:Nat:=0
def PySem.W.Fast.tw17722009151937966635:Nat:=0
def PySem.W.Fast.tw12909276434133941237:Nat:=0
def PySem.W.Fast.tw13534753447792039105:Nat:=0
def PySem.W.Fast.tw14322527950113318828:Nat:=0
def PySem.W.Fast.tw1907142412304331066:Nat:=0
def PySem.W.Fast.tw14500793543387241947:Nat:=0
def PySem.W.Fast.tw14010504498130544387:Nat:=0
def PySem.W.Fast.tw11364070732129743933:Nat:=0
def PySem.W.Fast.tw9507315885276041696:Nat:=0
def PySem.W.Fast.tw232741787712047179:Nat:=0
def PySem.W.Fast.tw3597715398702962371:Nat:=0
def PySem.W.Fast.tw7234813852392875385:Nat:=0
def PySem.W.Fast.tw1079619329428347911:Nat:=0
def PySem.W.Fast.tw6605094837086250321:Nat:=0
def PySem.W.Fast.tw9649609150486699332:Nat:=0
def PySem.W.Fast.tw15805218255649507482:Nat:=0
def PySem.W.Fast.tw17928160047180295638:Nat:=0
def PySem.W.Fast.tw1606739264075341573:Nat:=0
def PySem.W.Fast.tw12781313090447937375:Nat:=0
def PySem.W.Fast.tw1575118595604081134:Nat:=0
def PySem.W.Fast.tw15780578495149529988:Nat:=0
def PySem.W.Fast.tw13295934278666962024:Nat:=0
def PySem.W.Fast.tw5644587613882255704:Nat:=0
def PySem.W.Fast.tw6264234091909799083:Nat:=0
def PySem.W.Fast.tw759693932367461220:Nat:=0
def PySem.W.Fast.tw6299440131984189821:Nat:=0
def PySem.W.Fast.tw8469562862952682407:Nat:=0
def PySem.W.Fast.tw6036988260492827807:Nat:=0
def PySem.W.Fast.tw5822998094483006678:Nat:=0
def PySem.W.Fast.tw18326008228877218447:Nat:=0
def PySem.W.Fast.tw15840753904630313960:Nat:=0
def PySem.W.Fast.tw9983818898976986514:Nat:=0
def PySem.W.Fast.tw14604112323336734539:Nat:=0
def PySem.W.Fast.tw5084810540789007436:Nat:=0
def PySem.W.Fast.tw15368872400975791875:Nat:=0
def PySem.W.Fast.tw11311942935309894812:Nat:=0
def PySem.W.Fast.tw13814333089786891480:Nat:=0
def PySem.W.Fast.tw4729774523537151734:Nat:=0
def PySem.W.Fast.tw12644100637554769077:Nat:=0
def PySem.W.Fast.tw9725595006192968858:Nat:=0
def PySem.W.Fast.tw13704162443787604895:Nat:=0
def PySem.W.Fast.tw13521581106056389316:Nat:=0
def PySem.W.Fast.tw4230402641627672820:Nat:=0
def PySem.W.Fast.tw10962535446235171343:Nat:=0
def PySem.W.Fast.tw9387553807324179699:Nat:=0
def PySem.W.Fast.tw4932353613556982934:Nat:=0
def PySem.W.Fast.tw9515676533105629759:Nat:=0
def PySem.W.Fast.tw11166992621864569564:Nat:=0
def PySem.W.Fast.tw1626609252142117600:Nat:=0
def PySem.W.Fast.tw4738188739701252686:Nat:=0
def PySem.W.Fast.tw18387958229937033061:Nat:=0
def PySem.W.Fast.tw15990243868405324038:Nat:=0
def PySem.W.Fast.tw12936926946238969260:Nat:=0
def PySem.W.Fast.tw8467455698281034047:Nat:=0
def PySem.W.Fast.tw12004997844825266619:Nat:=0
def PySem.W.Fast.tw15251827738364855395:Nat:=0
def PySem.W.Fast.tw9513711604930502006:Nat:=0
def PySem.W.Fast.tw1507584257211935496:Nat:=0
def PySem.W.Fast.tw6919317800361325805:Nat:=0
def PySem.W.Fast.tw8873430867673952324:Nat:=0
def PySem.W.Fast.tw16281288145837256237:Nat:=0
def PySem.W.Fast.tw8860434405471144126:Nat:=0
def PySem.W.Fast.tw16000748314144236152:Nat:=0
def PySem.W.Fast.tw9442170746177287644:Nat:=0
def PySem.W.Fast.tw5855297342564840886:Nat:=0
def PySem.W.Fast.tw5000366024632244122:Nat:=0
def PySem.W.Fast.tw8985484346146620122:Nat:=0
def PySem.W.Fast.tw9572094652463506380:Nat:=0
def PySem.W.Fast.tw12475912907762260260:Nat:=0
def PySem.W.Fast.tw6522068198391278785:Nat:=0
def PySem.W.Fast.tw14199488016882504593:Nat:=0
def PySem.W.Fast.tw10113623579722341326:Nat:=0
def PySem.W.Fast.tw699604863830546559:Nat:=0
def PySem.W.Fast.tw9443231931161130402:Nat:=0
def PySem.W.Fast.tw9565157983479076819:Nat:=0
def PySem.W.Fast.tw7050205809899481421:Nat:=0
def PySem.W.Fast.tw5857987132206085862:Nat:=0
def PySem.W.Fast.tw4859786235724162236:Nat:=0
def PySem.W.Fast.tw4095002094250510133:Nat:=0
def PySem.W.Fast.tw14219123062204437949:Nat:=0
def PySem.W.Fast.tw539367442210793792:Nat:=0
def PySem.W.Fast.tw17980619736211396878:Nat:=0
def PySem.W.Fast.tw2533923860604118115:Nat:=0
def PySem.W.Fast.tw10015432898638042013:Nat:=0
def PySem.W.Fast.tw12755496302610362703:Nat:=0
def PySem.W.Fast.tw9223011525827608937:Nat:=0
def PySem.W.Fast.tw5781988758765983616:Nat:=0
def PySem.W.Fast.tw12917025846316199337:Nat:=0
def PySem.W.Fast.tw17350649083394312363:Nat:=0
def PySem.W.Fast.tw16712583952132666511:Nat:=0
def PySem.W.Fast.tw17946399827609705584:Nat:=0
def PySem.W.Fast.tw12089584868165703997:Nat:=0
def PySem.W.Fast.tw16794934091811639628:Nat:=0
def PySem.W.Fast.tw18352945203043001941:Nat:=0
def PySem.W.Fast.tw4121455912103256640:Nat:=0
def PySem.W.Fast.tw13181440204232211443:Nat:=0
def PySem.W.Fast.tw1985958470375843366:Nat:=0
def PySem.W.Fast.tw17471224534348586261:Nat:=0
def PySem.W.Fast.tw12885492135450177667:Nat:=0
def PySem.W.Fast.tw17571979782450669665:Nat:=0
def PySem.W.Fast.tw8629425677949114532:Nat:=0
def PySem.W.Fast.tw3554619485787808957:Nat:=0
def PySem.W.Fast.tw17366514753465290049:Nat:=0
def PySem.W.Fast.tw550724691279036399:Nat:=0
def PySem.W.Fast.tw8413959655494830696:Nat:=0
def PySem.W.Fast.tw8108747286909265343:Nat:=0
def PySem.W.Fast.tw6549183214775623888:Nat:=0
def PySem.W.Fast.tw3441330514373461701:Nat:=0
def PySem.W.Fast.tw9723568645995697911:Nat:=0
def PySem.W.Fast.tw7385232419301617846:Nat:=0
def PySem.W.Fast.tw544161148170532582:Nat:=0
def PySem.W.Fast.tw7434409562524789507:Nat:=0
def PySem.W.Fast.tw16796165498015021761:Nat:=0
def PySem.W.Fast.tw2363586893732713479:Nat:=0
def PySem.W.Fast.tw4610382072844290275:Nat:=0
def PySem.W.Fast.tw16141156116522092118:Nat:=0
def PySem.W.Fast.tw12658733494199900553:Nat:=0
def PySem.W.Fast.tw9297621938675256763:Nat:=0
def PySem.W.Fast.tw7590431608729955635:Nat:=0
def PySem.W.Fast.tw1652398834710557857:Nat:=0
def PySem.W.Fast.tw5862823981284680915:Nat:=0
def PySem.W.Fast.tw15262816177848087324:Nat:=0
def PySem.W.Fast.tw5470250474740311651:Nat:=0
def PySem.W.Fast.tw17487746704579317691:Nat:=0
def PySem.W.Fast.tw7655267985617065238:Nat:=0
def PySem.W.Fast.tw13403236125368851520:Nat:=0
def PySem.W.Fast.tw8246533423890953457:Nat:=0
def PySem.W.Fast.tw7637947876626575007:Nat:=0
def PySem.W.Fast.tw13578608552145439840:Nat:=0
def PySem.W.Fast.tw5864698906052729463:Nat:=0
def PySem.W.Fast.tw8904183902537642494:Nat:=0
def PySem.W.Fast.tw4511680954373883701:Nat:=0
def PySem.W.Fast.tw2301524674128849700:Nat:=0
def PySem.W.Fast.tw3311039760290233083:Nat:=0
def PySem.W.Fast.tw4743760224562439290:Nat:=0
def PySem.W.Fast.tw8352357960842042062:Nat:=0
def PySem.W.Fast.tw3976104074933487751:Nat:=0
def PySem.W.Fast.tw5733416098985907528:Nat:=0
def PySem.W.Fast.tw16418010672703045791:Nat:=0
def PySem.W.Fast.tw12821123763757077420:Nat:=0
def PySem.W.Fast.tw12897001110298438016:Nat:=0
def PySem.W.Fast.tw3760761796141065990:Nat:=0
def PySem.W.Fast.tw7163842954755707325:Nat:=0
def PySem.W.Fast.tw13530286573298294883:Nat:=0
def PySem.W.Fast.tw6351445048831439656:Nat:=0
def PySem.W.Fast.tw4045569427697183301:Nat:=0
def PySem.W.Fast.tw9999669174234945114:Nat:=0
def PySem.W.Fast.tw10487084828812805327:Nat:=0
def PySem.W.Fast.tw6538184166043506319:Nat:=0
def PySem.W.Fast.tw12989640147026536422:Nat:=0
def PySem.W.Fast.tw676648777053836854:Nat:=0
def PySem.W.Fast.tw10330214541657599246:Nat:=0
def PySem.W.Fast.tw6272152639742820809:Nat:=0
def PySem.W.Fast.tw12487910599764947721:Nat:=0
def PySem.W.Fast.tw11915602200730546102:Nat:=0
def PySem.W.Fast.tw6309701145827586680:Nat:=0
def PySem.W.Fast.tw2456238272355152655:Nat:=0
def PySem.W.Fast.tw14098458197354719443:Nat:=0
def PySem.W.Fast.tw4060321460012964433:Nat:=0
def PySem.W.Fast.tw11455348206255694010:Nat:=0
def PySem.W.Fast.tw1787071894593936026:Nat:=0
def PySem.W.Fast.tw14922640689907820459:Nat:=0
def PySem.W.Fast.tw10023168732920418815:Nat:=0
def PySem.W.Fast.tw9445007721249379892:Nat:=0
def PySem.W.Fast.tw7545811857801916737:Nat:=0
def PySem.W.Fast.tw7863756099387174653:Nat:=0
def PySem.W.Fast.tw4218682576891988847:Nat:=0
def PySem.W.Fast.tw741737321948378851:Nat:=0
def PySem.W.Fast.tw14894421972884941840:Nat:=0
def PySem.W.Fast.tw4635617714528748885:Nat:=0
def PySem.W.Fast.tw3287107181143661732:Nat:=0
def PySem.W.Fast.tw3700084005786251313:Nat:=0
def PySem.W.Fast.tw11819542391537102574:Nat:=0
def PySem.W.Fast.tw8234967081537761778:Nat:=0
def PySem.W.Fast.tw8328940231547547111:Nat:=0
def PySem.W.Fast.tw12192405493332211861:Nat:=0
def PySem.W.Fast.tw9090431120810580593:Nat:=0
def PySem.W.Fast.tw10153914768672457395:Nat:=0
def PySem.W.Fast.tw1834149438712849592:Nat:=0
def PySem.W.Fast.tw11692643979529834709:Nat:=0
def PySem.W.Fast.tw12243735633857178103:Nat:=0
def PySem.W.Fast.tw2519958644577015198:Nat:=0
def PySem.W.Fast.tw3677849083105680430:Nat:=0
def PySem.W.Fast.tw1519081023565168545:Nat:=0
def PySem.W.Fast.tw9329542120469858798:Nat:=0
def PySem.W.Fast.tw1237703519352888688:Nat:=0
def PySem.W.Fast.tw5068032921175499963:Nat:=0
def PySem.W.Fast.tw601144957243763566:Nat:=0
def PySem.W.Fast.tw10497226170263862799:Nat:=0
def PySem.W.Fast.tw16029661109789980595:Nat:=0
def PySem.W.Fast.tw4417371905593015315:Nat:=0
def PySem.W.Fast.tw10110633193909645875:Nat:=0
def PySem.W.Fast.tw17477139098629300792:Nat:=0
def PySem.W.Fast.tw1172981432600342799:Nat:=0
local macro_rules | `(tactic| wtm_at "R") => `(tactic| (dsimp only [L2.KOf]; refine' L2.raw_mk (by assumption) (by assumption) ?a ?l ?c ?k; (case a => k_is); (case l => k_is); (case c => k_is); (case k => k_is)))
local macro_rules | `(tactic| wtm_at "I") => `(tactic| first | (refine' L2.int_mk (by assumption) (by assumption) ?a; (case a => k_is)) | (refine' L2.str_mk (by assumption) (by assumption) ?a; (case a => k_is)))
abbrev Pw:=PySem.Challenge.pw_corehouse_k39_whole_texts_speak
open PySem PySem.W PyProof.Rows
set_option maxRecDepth 100000 in
set_option maxHeartbeats 0 in
theorem PySem.Challenge.cw_corehouse_k39_whole_texts_speak_holds : PySem.Challenge.rw_corehouse_k39_whole_texts_speak.Holds := by
 w_on;o_law;k_head;(case hw=>w_witness2)
 k_fill
 refine L2.walk_ofK (l:=PySem.Challenge.rw_corehouse_k39_whole_texts_speak) (n:=63) (k:=12) (x:="_law_script") (CX:=L2.CX0) (sp:=K39.sp_law) rfl (by decide) rfl ⟨rfl,by decide,by decide⟩ (fun w h Y=>PySem.W.kIn_of Y) ?F ?S ?C
 case F =>
  intro w mg fa h KX G hmg
  have R_word:L2.Raw (L2.KOf KX) mg "word" Tx.s_word:=by wtm_at "R"
  have R_parts:L2.Raw (L2.KOf KX) mg "parts" Tx.s_parts:=by wtm_at "R"
  have R_read_line:L2.Raw (L2.KOf KX) mg "read_line" Tx.s_read_line:=by wtm_at "R"
  have R_pieces_of:L2.Raw (L2.KOf KX) mg "pieces_of" Tx.s_pieces_of:=by wtm_at "R"
  have R_read_label:L2.Raw (L2.KOf KX) mg "read_label" Tx.s_read_label:=by wtm_at "R"
  have R_is_name:L2.Raw (L2.KOf KX) mg "is_name" Tx.s_is_name:=by wtm_at "R"
  have R_is_short_name:L2.Raw (L2.KOf KX) mg "is_short_name" Tx.s_is_short_name:=by wtm_at "R"
  have R_is_told_word:L2.Raw (L2.KOf KX) mg "is_told_word" Tx.s_is_told_word:=by wtm_at "R"
  have R_read_deed:L2.Raw (L2.KOf KX) mg "read_deed" Tx.s_read_deed:=by wtm_at "R"
  have R_read_cell_deed:L2.Raw (L2.KOf KX) mg "read_cell_deed" Tx.s_read_cell_deed:=by wtm_at "R"
  have R_read_ask:L2.Raw (L2.KOf KX) mg "read_ask" Tx.s_read_ask:=by wtm_at "R"
  have R_read_bits:L2.Raw (L2.KOf KX) mg "read_bits" Tx.s_read_bits:=by wtm_at "R"
  have R_read_value:L2.Raw (L2.KOf KX) mg "read_value" Tx.s_read_value:=by wtm_at "R"
  have R_is_term:L2.Raw (L2.KOf KX) mg "is_term" Tx.s_is_term:=by wtm_at "R"
  have R_is_figures:L2.Raw (L2.KOf KX) mg "is_figures" Tx.s_is_figures:=by wtm_at "R"
  have R_assembled:L2.Raw (L2.KOf KX) mg "assembled" Tx.s_assembled:=by wtm_at "R"
  have R_go_over_first:L2.Raw (L2.KOf KX) mg "go_over_first" Tx.s_go_over_first:=by wtm_at "R"
  have R_go_over_again:L2.Raw (L2.KOf KX) mg "go_over_again" Tx.s_go_over_again:=by wtm_at "R"
  have R_makes_cell:L2.Raw (L2.KOf KX) mg "makes_cell" Tx.s_makes_cell:=by wtm_at "R"
  have R_tell_label:L2.Raw (L2.KOf KX) mg "tell_label" Tx.s_tell_label:=by wtm_at "R"
  have R_move_here:L2.Raw (L2.KOf KX) mg "move_here" Tx.s_move_here:=by wtm_at "R"
  have R_bounded_value:L2.Raw (L2.KOf KX) mg "bounded_value" Tx.s_bounded_value:=by wtm_at "R"
  have R_term_value:L2.Raw (L2.KOf KX) mg "term_value" Tx.s_term_value:=by wtm_at "R"
  have R_word_of:L2.Raw (L2.KOf KX) mg "word_of" Tx.s_word_of:=by wtm_at "R"
  have R_pool_place:L2.Raw (L2.KOf KX) mg "pool_place" Tx.s_pool_place:=by wtm_at "R"
  have R_make_cell:L2.Raw (L2.KOf KX) mg "make_cell" Tx.s_make_cell:=by wtm_at "R"
  have R_deed:L2.Raw (L2.KOf KX) mg "deed" Tx.s_deed:=by wtm_at "R"
  have R_move_on:L2.Raw (L2.KOf KX) mg "move_on" Tx.s_move_on:=by wtm_at "R"
  have R_place_behind:L2.Raw (L2.KOf KX) mg "place_behind" Tx.s_place_behind:=by wtm_at "R"
  have R_raise_cell:L2.Raw (L2.KOf KX) mg "raise_cell" Tx.s_raise_cell:=by wtm_at "R"
  have R_far_place:L2.Raw (L2.KOf KX) mg "far_place" Tx.s_far_place:=by wtm_at "R"
  have R_do_with_cell:L2.Raw (L2.KOf KX) mg "do_with_cell" Tx.s_do_with_cell:=by wtm_at "R"
  have R_add_to_total:L2.Raw (L2.KOf KX) mg "add_to_total" Tx.s_add_to_total:=by wtm_at "R"
  have R_turn_mark:L2.Raw (L2.KOf KX) mg "turn_mark" Tx.s_turn_mark:=by wtm_at "R"
  have R_do_rise:L2.Raw (L2.KOf KX) mg "do_rise" Tx.s_do_rise:=by wtm_at "R"
  have R_has_bit:L2.Raw (L2.KOf KX) mg "has_bit" Tx.s_has_bit:=by wtm_at "R"
  have R_do_change:L2.Raw (L2.KOf KX) mg "do_change" Tx.s_do_change:=by wtm_at "R"
  have R_shift_left:L2.Raw (L2.KOf KX) mg "shift_left" Tx.s_shift_left:=by wtm_at "R"
  have R_shift_right:L2.Raw (L2.KOf KX) mg "shift_right" Tx.s_shift_right:=by wtm_at "R"
  have R_do_test:L2.Raw (L2.KOf KX) mg "do_test" Tx.s_do_test:=by wtm_at "R"
  have R_test_is_so:L2.Raw (L2.KOf KX) mg "test_is_so" Tx.s_test_is_so:=by wtm_at "R"
  have R_happen:L2.Raw (L2.KOf KX) mg "happen" Tx.s_happen:=by wtm_at "R"
  have R_take_start:L2.Raw (L2.KOf KX) mg "take_start" Tx.s_take_start:=by wtm_at "R"
  have R_take_key:L2.Raw (L2.KOf KX) mg "take_key" Tx.s_take_key:=by wtm_at "R"
  have R_take_tick:L2.Raw (L2.KOf KX) mg "take_tick" Tx.s_take_tick:=by wtm_at "R"
  have R_take_step:L2.Raw (L2.KOf KX) mg "take_step" Tx.s_take_step:=by wtm_at "R"
  have R_do_ask:L2.Raw (L2.KOf KX) mg "do_ask" Tx.s_do_ask:=by wtm_at "R"
  have R_skip_if:L2.Raw (L2.KOf KX) mg "skip_if" Tx.s_skip_if:=by wtm_at "R"
  have R_do_hear:L2.Raw (L2.KOf KX) mg "do_hear" Tx.s_do_hear:=by wtm_at "R"
  have R_do_say:L2.Raw (L2.KOf KX) mg "do_say" Tx.s_do_say:=by wtm_at "R"
  have R_wait_at:L2.Raw (L2.KOf KX) mg "wait_at" Tx.s_wait_at:=by wtm_at "R"
  have R_do_sleep:L2.Raw (L2.KOf KX) mg "do_sleep" Tx.s_do_sleep:=by wtm_at "R"
  have R_do_with_block:L2.Raw (L2.KOf KX) mg "do_with_block" Tx.s_do_with_block:=by wtm_at "R"
  have R_fetch_block:L2.Raw (L2.KOf KX) mg "fetch_block" Tx.s_fetch_block:=by wtm_at "R"
  have R_store_block:L2.Raw (L2.KOf KX) mg "store_block" Tx.s_store_block:=by wtm_at "R"
  have R_picture:L2.Raw (L2.KOf KX) mg "picture" Tx.s_picture:=by wtm_at "R"
  have R_empty_rooms:L2.Raw (L2.KOf KX) mg "empty_rooms" Tx.s_empty_rooms:=by wtm_at "R"
  have R_room_with:L2.Raw (L2.KOf KX) mg "room_with" Tx.s_room_with:=by wtm_at "R"
  have R_bring_in:L2.Raw (L2.KOf KX) mg "bring_in" Tx.s_bring_in:=by wtm_at "R"
  have R_load:L2.Raw (L2.KOf KX) mg "load" Tx.s_load:=by wtm_at "R"
  have R_start:L2.Raw (L2.KOf KX) mg "start" Tx.s_start:=by wtm_at "R"
  have R_run:L2.Raw (L2.KOf KX) mg "run" Tx.s_run:=by wtm_at "R"
  have R_seen:L2.Raw (L2.KOf KX) mg "seen" Tx.s_seen:=by wtm_at "R"
  have R_happen_in:L2.Raw (L2.KOf KX) mg "happen_in" Tx.s_happen_in:=by wtm_at "R"
  have R_do_step:L2.Raw (L2.KOf KX) mg "do_step" Tx.s_do_step:=by wtm_at "R"
  have R_step_who_runs:L2.Raw (L2.KOf KX) mg "step_who_runs" Tx.s_step_who_runs:=by wtm_at "R"
  have R_do_tick:L2.Raw (L2.KOf KX) mg "do_tick" Tx.s_do_tick:=by wtm_at "R"
  have R_shorten_turn:L2.Raw (L2.KOf KX) mg "shorten_turn" Tx.s_shorten_turn:=by wtm_at "R"
  have R_end_turn:L2.Raw (L2.KOf KX) mg "end_turn" Tx.s_end_turn:=by wtm_at "R"
  have R_let_next_run:L2.Raw (L2.KOf KX) mg "let_next_run" Tx.s_let_next_run:=by wtm_at "R"
  have R_law_cell:L2.Raw (L2.KOf KX) mg "_law_cell" Tx.s_law_cell:=by wtm_at "R"
  have R_law_mix:L2.Raw (L2.KOf KX) mg "_law_mix" Tx.s_law_mix:=by wtm_at "R"
  have R_law_message:L2.Raw (L2.KOf KX) mg "_law_message" Tx.s_law_message:=by wtm_at "R"
  have R_law_text:L2.Raw (L2.KOf KX) mg "_law_text" Tx.s_law_text:=by wtm_at "R"
  have R_law:L2.Raw (L2.KOf KX) mg "law" Tx.s_law:=by wtm_at "R"
  have I_WORDS:L2.IntG mg "WORDS" 1024:=by wtm_at "I"
  have I_PLACES:L2.IntG mg "PLACES" 64:=by wtm_at "I"
  have I_AND:L2.IntG mg "AND" 0:=by wtm_at "I"
  have I_ADD:L2.IntG mg "ADD" 1:=by wtm_at "I"
  have I_RISE:L2.IntG mg "RISE" 2:=by wtm_at "I"
  have I_PUT:L2.IntG mg "PUT" 3:=by wtm_at "I"
  have I_CALL:L2.IntG mg "CALL" 4:=by wtm_at "I"
  have I_GO:L2.IntG mg "GO" 5:=by wtm_at "I"
  have I_ASK:L2.IntG mg "ASK" 6:=by wtm_at "I"
  have I_BITS:L2.IntG mg "BITS" 7:=by wtm_at "I"
  have I_DEEDS:L2.TupG (L2.KOf KX) mg "DEEDS" [.str "and",.str "add",.str "rise",.str "put",.str "call",.str "go"]:=by
   dsimp only [L2.KOf]
   refine' L2.tup_mk KX G ?a ?l ?z ?vDEEDS
   (case a=>k_is);(case l=>k_is);(case z=>decide)
   (case vDEEDS=>exact .cons ⟨_,rfl⟩ (.cons ⟨_,rfl⟩ (.cons ⟨_,rfl⟩ (.cons ⟨_,rfl⟩ (.cons ⟨_,rfl⟩ (.cons ⟨_,rfl⟩ (.nil)))))))
  have I_ASKS:L2.TupG (L2.KOf KX) mg "ASKS" [.str "heard",.str "hear",.str "room",.str "say",.str "sleep",.str "fetch",.str "store",.str "stop",.str "look"]:=by
   dsimp only [L2.KOf]
   refine' L2.tup_mk KX G ?a ?l ?z ?vASKS
   (case a=>k_is);(case l=>k_is);(case z=>decide)
   (case vASKS=>exact .cons ⟨_,rfl⟩ (.cons ⟨_,rfl⟩ (.cons ⟨_,rfl⟩ (.cons ⟨_,rfl⟩ (.cons ⟨_,rfl⟩ (.cons ⟨_,rfl⟩ (.cons ⟨_,rfl⟩ (.cons ⟨_,rfl⟩ (.cons ⟨_,rfl⟩ (.nil))))))))))
  have I_CHANGES:L2.TupG (L2.KOf KX) mg "CHANGES" [.str "zero",.str "turn",.str "flip",.str "more",.str "left",.str "right"]:=by
   dsimp only [L2.KOf]
   refine' L2.tup_mk KX G ?a ?l ?z ?vCHANGES
   (case a=>k_is);(case l=>k_is);(case z=>decide)
   (case vCHANGES=>exact .cons ⟨_,rfl⟩ (.cons ⟨_,rfl⟩ (.cons ⟨_,rfl⟩ (.cons ⟨_,rfl⟩ (.cons ⟨_,rfl⟩ (.cons ⟨_,rfl⟩ (.nil)))))))
  have I_TESTS:L2.TupG (L2.KOf KX) mg "TESTS" [.str "minus",.str "none",.str "mark",.str "not",.str "zero",.str "flat"]:=by
   dsimp only [L2.KOf]
   refine' L2.tup_mk KX G ?a ?l ?z ?vTESTS
   (case a=>k_is);(case l=>k_is);(case z=>decide)
   (case vTESTS=>exact .cons ⟨_,rfl⟩ (.cons ⟨_,rfl⟩ (.cons ⟨_,rfl⟩ (.cons ⟨_,rfl⟩ (.cons ⟨_,rfl⟩ (.cons ⟨_,rfl⟩ (.nil)))))))
  have I_BIT_ROW:L2.TupG (L2.KOf KX) mg "BIT_ROW" [.int 32,.int 16,.int 8,.int 4,.int 2,.int 1]:=by
   dsimp only [L2.KOf]
   refine' L2.tup_mk KX G ?a ?l ?z ?vBIT_ROW
   (case a=>k_is);(case l=>k_is);(case z=>decide)
   (case vBIT_ROW=>exact .cons ⟨_,rfl⟩ (.cons ⟨_,rfl⟩ (.cons ⟨_,rfl⟩ (.cons ⟨_,rfl⟩ (.cons ⟨_,rfl⟩ (.cons ⟨_,rfl⟩ (.nil)))))))
  have I_OTHER_WORDS:L2.TupG (L2.KOf KX) mg "OTHER_WORDS" [.str "place",.str "word",.str "far",.str "ask",.str "change",.str "test",.str "here"]:=by
   dsimp only [L2.KOf]
   refine' L2.tup_mk KX G ?a ?l ?z ?vOTHER_WORDS
   (case a=>k_is);(case l=>k_is);(case z=>decide)
   (case vOTHER_WORDS=>exact .cons ⟨_,rfl⟩ (.cons ⟨_,rfl⟩ (.cons ⟨_,rfl⟩ (.cons ⟨_,rfl⟩ (.cons ⟨_,rfl⟩ (.cons ⟨_,rfl⟩ (.cons ⟨_,rfl⟩ (.nil))))))))
  have I_SMALL_LETTERS:L2.StrG mg "SMALL_LETTERS" "abcdefghijklmnopqrstuvwxyz":=by wtm_at "I"
  have I_FIGURES:L2.StrG mg "FIGURES" "0123456789":=by wtm_at "I"
  have I_MOST_SIGNS:L2.IntG mg "MOST_SIGNS" 8:=by wtm_at "I"
  have I_MOST_FIGURES:L2.IntG mg "MOST_FIGURES" 4:=by wtm_at "I"
  have I_STOPPED:L2.StrG mg "STOPPED" "stopped":=by wtm_at "I"
  have I_READY:L2.StrG mg "READY" "ready":=by wtm_at "I"
  have I_HEARS:L2.StrG mg "HEARS" "hears":=by wtm_at "I"
  have I_SAYS:L2.StrG mg "SAYS" "says":=by wtm_at "I"
  have I_SLEEPS:L2.StrG mg "SLEEPS" "sleeps":=by wtm_at "I"
  have I_LETTERS:L2.IntG mg "LETTERS" 256:=by wtm_at "I"
  have I_MOST_LETTERS:L2.IntG mg "MOST_LETTERS" 16:=by wtm_at "I"
  have I_BLOCKS:L2.IntG mg "BLOCKS" 4:=by wtm_at "I"
  have I_BLOCK_WORDS:L2.IntG mg "BLOCK_WORDS" 16:=by wtm_at "I"
  have I_HEARD:L2.IntG mg "HEARD" 0:=by wtm_at "I"
  have I_HEAR:L2.IntG mg "HEAR" 1:=by wtm_at "I"
  have I_ROOM:L2.IntG mg "ROOM" 2:=by wtm_at "I"
  have I_SAY:L2.IntG mg "SAY" 3:=by wtm_at "I"
  have I_SLEEP:L2.IntG mg "SLEEP" 4:=by wtm_at "I"
  have I_FETCH:L2.IntG mg "FETCH" 5:=by wtm_at "I"
  have I_STORE:L2.IntG mg "STORE" 6:=by wtm_at "I"
  have I_STOP:L2.IntG mg "STOP" 7:=by wtm_at "I"
  have I_LOOK:L2.IntG mg "LOOK" 8:=by wtm_at "I"
  have A_Line:∃ C,L2.RawC (L2.KOf KX) mg "Line" "Line.__init__" C Tx.s_Line_init∧L2.Cls (L2.KOf KX) C∧L2.NoAttr (L2.KOf KX) C "number"∧L2.NoAttr (L2.KOf KX) C "label"∧L2.NoAttr (L2.KOf KX) C "name"∧L2.NoAttr (L2.KOf KX) C "base"∧L2.NoAttr (L2.KOf KX) C "pooled"∧L2.NoAttr (L2.KOf KX) C "terms":=by
   dsimp only [L2.KOf]
   refine' ⟨_,L2.rawC_mk KX G ?a ?a1 ?i1 ?l ?c ?k ?mk ?kc,⟨?pg,?hd,?po,?sa⟩,?n_number,?n_label,?n_name,?n_base,?n_pooled,?n_terms⟩
   (case a=>k_is)
   (case a1=>k_is)
   (case i1=>k_is)
   (case l=>k_is)
   (case c=>k_is)
   (case k=>k_is)
   (case mk=>k_is)
   (case kc=>k_is)
   (case pg=>k_is)
   (case hd=>k_is)
   (case po=>k_is)
   (case sa=>k_is)
   (case n_number=>unfold L2.NoAttr;k_is)
   (case n_label=>unfold L2.NoAttr;k_is)
   (case n_name=>unfold L2.NoAttr;k_is)
   (case n_base=>unfold L2.NoAttr;k_is)
   (case n_pooled=>unfold L2.NoAttr;k_is)
   (case n_terms=>unfold L2.NoAttr;k_is)
  have A_Sheet:∃ C,L2.RawC (L2.KOf KX) mg "Sheet" "Sheet.__init__" C Tx.s_Sheet_init∧L2.Cls (L2.KOf KX) C∧L2.NoAttr (L2.KOf KX) C "labels"∧L2.NoAttr (L2.KOf KX) C "made"∧L2.NoAttr (L2.KOf KX) C "pool"∧L2.NoAttr (L2.KOf KX) C "here":=by
   dsimp only [L2.KOf]
   refine' ⟨_,L2.rawC_mk KX G ?a ?a1 ?i1 ?l ?c ?k ?mk ?kc,⟨?pg,?hd,?po,?sa⟩,?n_labels,?n_made,?n_pool,?n_here⟩
   (case a=>k_is)
   (case a1=>k_is)
   (case i1=>k_is)
   (case l=>k_is)
   (case c=>k_is)
   (case k=>k_is)
   (case mk=>k_is)
   (case kc=>k_is)
   (case pg=>k_is)
   (case hd=>k_is)
   (case po=>k_is)
   (case sa=>k_is)
   (case n_labels=>unfold L2.NoAttr;k_is)
   (case n_made=>unfold L2.NoAttr;k_is)
   (case n_pool=>unfold L2.NoAttr;k_is)
   (case n_here=>unfold L2.NoAttr;k_is)
  have A_Machine:∃ C,L2.RawC (L2.KOf KX) mg "Machine" "Machine.__init__" C Tx.s_Machine_init∧L2.Cls (L2.KOf KX) C∧L2.NoAttr (L2.KOf KX) C "cells"∧L2.NoAttr (L2.KOf KX) C "total"∧L2.NoAttr (L2.KOf KX) C "mark"∧L2.NoAttr (L2.KOf KX) C "at":=by
   dsimp only [L2.KOf]
   refine' ⟨_,L2.rawC_mk KX G ?a ?a1 ?i1 ?l ?c ?k ?mk ?kc,⟨?pg,?hd,?po,?sa⟩,?n_cells,?n_total,?n_mark,?n_at⟩
   (case a=>k_is)
   (case a1=>k_is)
   (case i1=>k_is)
   (case l=>k_is)
   (case c=>k_is)
   (case k=>k_is)
   (case mk=>k_is)
   (case kc=>k_is)
   (case pg=>k_is)
   (case hd=>k_is)
   (case po=>k_is)
   (case sa=>k_is)
   (case n_cells=>unfold L2.NoAttr;k_is)
   (case n_total=>unfold L2.NoAttr;k_is)
   (case n_mark=>unfold L2.NoAttr;k_is)
   (case n_at=>unfold L2.NoAttr;k_is)
  have A_Person:∃ C,L2.RawC (L2.KOf KX) mg "Person" "Person.__init__" C Tx.s_Person_init∧L2.Cls (L2.KOf KX) C∧L2.NoAttr (L2.KOf KX) C "machine"∧L2.NoAttr (L2.KOf KX) C "inbox"∧L2.NoAttr (L2.KOf KX) C "outbox"∧L2.NoAttr (L2.KOf KX) C "paper"∧L2.NoAttr (L2.KOf KX) C "blocks"∧L2.NoAttr (L2.KOf KX) C "switches"∧L2.NoAttr (L2.KOf KX) C "state"∧L2.NoAttr (L2.KOf KX) C "nap"∧L2.NoAttr (L2.KOf KX) C "lost"∧L2.NoAttr (L2.KOf KX) C "done":=by
   dsimp only [L2.KOf]
   refine' ⟨_,L2.rawC_mk KX G ?a ?a1 ?i1 ?l ?c ?k ?mk ?kc,⟨?pg,?hd,?po,?sa⟩,?n_machine,?n_inbox,?n_outbox,?n_paper,?n_blocks,?n_switches,?n_state,?n_nap,?n_lost,?n_done⟩
   (case a=>k_is)
   (case a1=>k_is)
   (case i1=>k_is)
   (case l=>k_is)
   (case c=>k_is)
   (case k=>k_is)
   (case mk=>k_is)
   (case kc=>k_is)
   (case pg=>k_is)
   (case hd=>k_is)
   (case po=>k_is)
   (case sa=>k_is)
   (case n_machine=>unfold L2.NoAttr;k_is)
   (case n_inbox=>unfold L2.NoAttr;k_is)
   (case n_outbox=>unfold L2.NoAttr;k_is)
   (case n_paper=>unfold L2.NoAttr;k_is)
   (case n_blocks=>unfold L2.NoAttr;k_is)
   (case n_switches=>unfold L2.NoAttr;k_is)
   (case n_state=>unfold L2.NoAttr;k_is)
   (case n_nap=>unfold L2.NoAttr;k_is)
   (case n_lost=>unfold L2.NoAttr;k_is)
   (case n_done=>unfold L2.NoAttr;k_is)
  have A_House:∃ C,L2.RawC (L2.KOf KX) mg "House" "House.__init__" C Tx.s_House_init∧L2.Cls (L2.KOf KX) C∧L2.NoAttr (L2.KOf KX) C "people"∧L2.NoAttr (L2.KOf KX) C "diaries"∧L2.NoAttr (L2.KOf KX) C "rooms"∧L2.NoAttr (L2.KOf KX) C "quantum"∧L2.NoAttr (L2.KOf KX) C "beat"∧L2.NoAttr (L2.KOf KX) C "runs"∧L2.NoAttr (L2.KOf KX) C "row"∧L2.NoAttr (L2.KOf KX) C "steps"∧L2.NoAttr (L2.KOf KX) C "idle"∧L2.NoAttr (L2.KOf KX) C "ticks"∧L2.NoAttr (L2.KOf KX) C "swaps"∧L2.NoAttr (L2.KOf KX) C "turn"∧L2.NoAttr (L2.KOf KX) C "left":=by
   dsimp only [L2.KOf]
   refine' ⟨_,L2.rawC_mk KX G ?a ?a1 ?i1 ?l ?c ?k ?mk ?kc,⟨?pg,?hd,?po,?sa⟩,?n_people,?n_diaries,?n_rooms,?n_quantum,?n_beat,?n_runs,?n_row,?n_steps,?n_idle,?n_ticks,?n_swaps,?n_turn,?n_left⟩
   (case a=>k_is)
   (case a1=>k_is)
   (case i1=>k_is)
   (case l=>k_is)
   (case c=>k_is)
   (case k=>k_is)
   (case mk=>k_is)
   (case kc=>k_is)
   (case pg=>k_is)
   (case hd=>k_is)
   (case po=>k_is)
   (case sa=>k_is)
   (case n_people=>unfold L2.NoAttr;k_is)
   (case n_diaries=>unfold L2.NoAttr;k_is)
   (case n_rooms=>unfold L2.NoAttr;k_is)
   (case n_quantum=>unfold L2.NoAttr;k_is)
   (case n_beat=>unfold L2.NoAttr;k_is)
   (case n_runs=>unfold L2.NoAttr;k_is)
   (case n_row=>unfold L2.NoAttr;k_is)
   (case n_steps=>unfold L2.NoAttr;k_is)
   (case n_idle=>unfold L2.NoAttr;k_is)
   (case n_ticks=>unfold L2.NoAttr;k_is)
   (case n_swaps=>unfold L2.NoAttr;k_is)
   (case n_turn=>unfold L2.NoAttr;k_is)
   (case n_left=>unfold L2.NoAttr;k_is)
  have Z_len:mg "len" = none:=PySem.W.mg_none_of KX G (by k_is)
  have Z_isinstance:mg "isinstance" = none:=PySem.W.mg_none_of KX G (by k_is)
  have Z_int:mg "int" = none:=PySem.W.mg_none_of KX G (by k_is)
  have Z_bool:mg "bool" = none:=PySem.W.mg_none_of KX G (by k_is)
  have Z_list:mg "list" = none:=PySem.W.mg_none_of KX G (by k_is)
  have Z_range:mg "range" = none:=PySem.W.mg_none_of KX G (by k_is)
  have Z_sum:mg "sum" = none:=PySem.W.mg_none_of KX G (by k_is)
  have Z_any:mg "any" = none:=PySem.W.mg_none_of KX G (by k_is)
  have Z_tuple:mg "tuple" = none:=PySem.W.mg_none_of KX G (by k_is)
  have Z_enumerate:mg "enumerate" = none:=PySem.W.mg_none_of KX G (by k_is)
  have Z_str:mg "str" = none:=PySem.W.mg_none_of KX G (by k_is)
  have Z_min:mg "min" = none:=PySem.W.mg_none_of KX G (by k_is)
  have Z_all:mg "all" = none:=PySem.W.mg_none_of KX G (by k_is)
  have kii:PySem.W.kitOne (L2.KOf KX) (.type "int") (.type "int") = some true:=by first | rfl | decide
  have kib:PySem.W.kitOne (L2.KOf KX) (.type "int") (.type "bool") = some false:=by first | rfl | decide
  have kll:PySem.W.kitOne (L2.KOf KX) (.type "list") (.type "list") = some true:=by first | rfl | decide
  obtain ⟨f,fd,e,Fn⟩:=id R_law
  have e0:=hmg.symm.trans e
  cases e0
  obtain ⟨oc,od,kV,doc,pm,an,cdv,ct,osl,rfl,lk,hcd⟩:=Fn.ex
  refine ⟨PySem.W.fnOf "law" "law" (L2.defArgs Tx.s_law) (L2.defBody Tx.s_law) (L2.defScope Tx.s_law) .none kV doc pm an cdv ct,fun s u=>.of_eq rfl,fun base kb nb=>?_⟩
  obtain ⟨C,A_Machine,A_cl,A_cells,A_total,A_mark,A_at⟩:=A_Machine
  have T:Pr.TxtM (L2.KOf KX) mg C:=⟨A_cl,A_cells,A_total,A_mark,A_at,I_WORDS,I_PLACES,I_AND,I_ADD,I_RISE,I_PUT,I_CALL,I_GO,I_ASK,I_BITS,Z_list⟩
  have G_place_behind:=Pr.ok_behind (P:=Pw) (w:=w) (base:=base) R_place_behind T
  have G_parts:=Pr.ok_parts (P:=Pw) (w:=w) (base:=base) R_parts
  have G_has_bit:=Pr.ok_bit (P:=Pw) (w:=w) (base:=base) R_has_bit
  have G_move_on:=Pr.ok_move R_move_on T G_place_behind
  have G_raise_cell:=Pr.ok_raise (P:=Pw) (w:=w) (base:=base) R_raise_cell T
  have G_far_place:=Pr.ok_far R_far_place T G_raise_cell
  have G_turn_mark:=Pr.ok_turn (P:=Pw) (w:=w) (base:=base) R_turn_mark T
  have G_add_to_total:=Pr.ok_add R_add_to_total T G_turn_mark
  have G_do_rise:=Pr.ok_rise R_do_rise T G_raise_cell G_move_on
  have G_shift_left:=Pr.ok_shl (P:=Pw) (w:=w) (base:=base) R_shift_left T
  have G_shift_right:=Pr.ok_shr (P:=Pw) (w:=w) (base:=base) R_shift_right T
  have G_do_with_cell:=Pr.ok_with R_do_with_cell T G_place_behind G_add_to_total G_do_rise
  have G_do_change:=Pr.ok_change R_do_change T G_has_bit G_turn_mark G_add_to_total G_shift_left G_shift_right
  have G_test_is_so:=Pr.ok_so R_test_is_so T G_has_bit
  have G_do_test:=Pr.ok_test R_do_test T G_has_bit G_test_is_so G_move_on
  have G_deed:=Pr.ok_deed R_deed T G_parts G_move_on G_do_change G_do_test G_do_with_cell G_far_place
  have M_Machine:=Pr.ok_init (P:=Pw) (w:=w) (base:=base) A_Machine T
  obtain ⟨CP,A_Person,B_cl,B_machine,B_inbox,B_outbox,B_paper,B_blocks,B_switches,B_state,B_nap,B_lost,B_done⟩:=A_Person
  have TP:Pp.TxtP (L2.KOf KX) mg CP C:=⟨T,B_cl,B_machine,B_inbox,B_outbox,B_paper,B_blocks,B_switches,B_state,B_nap,B_lost,B_done,I_STOPPED,I_READY,I_HEARS,I_SAYS,I_SLEEPS,I_LETTERS,I_MOST_LETTERS,I_BLOCKS,I_BLOCK_WORDS,I_HEARD,I_HEAR,I_ROOM,I_SAY,I_SLEEP,I_FETCH,I_STORE,I_STOP,I_LOOK,Z_len,Z_range,Z_tuple⟩
  have N_Machine:=Pp.ok_initT (P:=Pw) (w:=w) (base:=base) A_Machine T
  have M_Person:=Pp.ok_initP A_Person TP N_Machine
  have G_take_start:=Pp.ok_start (P:=Pw) (w:=w) (base:=base) R_take_start TP
  have G_take_key:=Pp.ok_key (P:=Pw) (w:=w) (base:=base) R_take_key TP
  have G_take_tick:=Pp.ok_tick (P:=Pw) (w:=w) (base:=base) R_take_tick TP
  have G_skip_if:=Pp.ok_skip R_skip_if G_move_on
  have G_wait_at:=Pp.ok_wait (P:=Pw) (w:=w) (base:=base) R_wait_at TP
  have G_do_hear:=Pp.ok_hear R_do_hear TP G_wait_at
  have G_do_say:=Pp.ok_say R_do_say TP G_wait_at
  have G_do_sleep:=Pp.ok_sleep (P:=Pw) (w:=w) (base:=base) R_do_sleep TP
  have G_fetch_block:=Pp.ok_fetch (P:=Pw) (w:=w) (base:=base) R_fetch_block TP
  have G_store_block:=Pp.ok_store (P:=Pw) (w:=w) (base:=base) R_store_block TP
  have G_do_with_block:=Pp.ok_block R_do_with_block TP G_move_on G_fetch_block G_store_block
  have G_do_ask:=Pp.ok_ask R_do_ask TP G_skip_if G_do_hear G_do_say G_do_sleep G_do_with_block
  have G_take_step:=Pp.ok_step R_take_step TP G_deed G_do_ask
  have G_happen:=Pp.ok_happen R_happen TP G_take_start G_take_key G_take_tick G_take_step
  have G_picture:=Pp.ok_picture (P:=Pw) (w:=w) (base:=base) R_picture TP
  obtain ⟨CH,A_House,D_cl,D_people,D_diaries,D_rooms,D_quantum,D_beat,D_runs,D_row,D_steps,D_idle,D_ticks,D_swaps,D_turn,D_left⟩:=A_House
  have TH:Hs.TxtH (L2.KOf KX) mg CH CP C:=⟨TP,D_cl,D_people,D_diaries,D_rooms,D_quantum,D_beat,D_runs,D_row,D_steps,D_idle,D_ticks,D_swaps,D_turn,D_left,Z_enumerate⟩
  have G_room_with:=Hs.ok_rw (P:=Pw) (w:=w) (base:=base) R_room_with TH
  have G_bring_in:=Hs.ok_bring R_bring_in TH G_room_with
  have G_let_next_run:=Hs.ok_next R_let_next_run TH G_bring_in
  have G_end_turn:=Hs.ok_end (P:=Pw) (w:=w) (base:=base) R_end_turn TH
  have G_shorten_turn:=Hs.ok_short R_shorten_turn TH G_end_turn
  have G_happen_in:=Hs.ok_hin R_happen_in TH G_happen
  have G_step_who_runs:=Hs.ok_who R_step_who_runs TH G_happen_in G_end_turn
  have G_do_tick:=Hs.ok_tickH R_do_tick TH G_happen_in G_shorten_turn
  have G_do_step:=Hs.ok_stepH R_do_step TH G_step_who_runs G_do_tick G_let_next_run
  have G_run:=Hs.ok_run R_run TH G_do_step
  have G_empty_rooms:=Hs.ok_empty (P:=Pw) (w:=w) (base:=base) R_empty_rooms
  have M_House:=Hs.ok_initH A_House TH M_Person G_empty_rooms
  have G_start:=Hs.ok_startH R_start TH G_happen_in G_let_next_run
  have G_load:=Hs.ok_loadH (P:=Pw) (w:=w) (base:=base) R_load TH
  have G_seen:=Hs.ok_seen R_seen TH G_picture
  have TL:Lw.TxtL (L2.KOf KX) mg:=⟨Z_len,Z_isinstance,Z_int,Z_bool,Z_list,Z_range,Z_sum,kii,kib,kll,Z_any,Z_enumerate,Z_tuple,Z_str,Z_min⟩
  have G_law_cell:=Lw.ok_cell (P:=Pw) (w:=w) (base:=base) R_law_cell TL
  have G_law_mix:=Lw.ok_mix (P:=Pw) (w:=w) (base:=base) R_law_mix
  obtain ⟨CL,A_Line,L_cl,L_number,L_label,L_name,L_base,L_pooled,L_terms⟩:=A_Line
  obtain ⟨CS,A_Sheet,S_cl,S_labels,S_made,S_pool,S_here⟩:=A_Sheet
  have TX:Sc.TxtX (L2.KOf KX) mg:=⟨I_DEEDS,I_ASKS,I_CHANGES,I_TESTS,I_OTHER_WORDS,I_BIT_ROW,I_SMALL_LETTERS,I_FIGURES,I_MOST_SIGNS,I_MOST_FIGURES,I_ASK,I_BITS,Z_len,Z_all,Z_enumerate⟩
  have TN:Sc.TxtN (L2.KOf KX) mg CL:=⟨TX,L_cl,L_number,L_label,L_name,L_base,L_pooled,L_terms⟩
  have TT:Sc.TxtT (L2.KOf KX) mg CL CS:=⟨TN,S_cl,S_labels,S_made,S_pool,S_here,I_PLACES,I_WORDS,Z_int,Z_range⟩
  have G_is_figures:=Sc.ok_figs (P:=Pw) (w:=w) (base:=base) R_is_figures TX
  have G_is_told_word:=Sc.ok_told (P:=Pw) (w:=w) (base:=base) R_is_told_word TX
  have G_is_short_name:=Sc.ok_short (P:=Pw) (w:=w) (base:=base) R_is_short_name TX
  have G_is_name:=Sc.ok_name R_is_name G_is_short_name G_is_told_word
  have G_is_term:=Sc.ok_term R_is_term G_is_name G_is_figures
  have M_Line:=Sc.ok_initL (P:=Pw) (w:=w) (base:=base) A_Line TN
  have G_pieces_of:=Sc.ok_pieces (P:=Pw) (w:=w) (base:=base) R_pieces_of
  have G_read_ask:=Sc.ok_ask (P:=Pw) (w:=w) (base:=base) R_read_ask TN
  have G_read_bits:=Sc.ok_bits (P:=Pw) (w:=w) (base:=base) R_read_bits TN
  have G_read_value:=Sc.ok_value R_read_value TN G_is_term
  have G_word:=Sc.ok_word (P:=Pw) (w:=w) (base:=base) R_word
  have G_read_label:=Sc.ok_label R_read_label TN G_is_name
  have G_read_cell_deed:=Sc.ok_cell R_read_cell_deed TN G_word G_read_value
  have G_read_deed:=Sc.ok_deed R_read_deed TN G_word G_read_value G_read_cell_deed G_read_ask G_read_bits
  have G_read_line:=Sc.ok_line R_read_line TN M_Line G_pieces_of G_read_label G_read_deed
  have G_makes_cell:=Sc.ok_makes (P:=Pw) (w:=w) (base:=base) R_makes_cell TT
  have G_tell_label:=Sc.ok_tell (P:=Pw) (w:=w) (base:=base) R_tell_label TT
  have G_term_value:=Sc.ok_tval (P:=Pw) (w:=w) (base:=base) R_term_value TT
  have G_make_cell:=Sc.ok_mcell (P:=Pw) (w:=w) (base:=base) R_make_cell TT
  have G_bounded_value:=Sc.ok_bound R_bounded_value TT G_term_value
  have G_move_here:=Sc.ok_move R_move_here TT G_bounded_value G_makes_cell
  have G_pool_place:=Sc.ok_pool R_pool_place TT G_bounded_value G_make_cell
  have G_word_of:=Sc.ok_wof R_word_of TT G_bounded_value G_pool_place
  have M_Sheet:=Sc.ok_initS (P:=Pw) (w:=w) (base:=base) A_Sheet TT
  have G_go_over_first:=Sc.ok_first R_go_over_first TT G_read_line G_tell_label G_move_here
  have G_go_over_again:=Sc.ok_again R_go_over_again TT G_makes_cell G_make_cell G_word_of G_move_here
  have G_assembled:=Sc.ok_asm R_assembled TT M_Sheet G_go_over_first G_go_over_again
  have G_law_message:=K39.ok_message R_law_message TL G_law_cell G_law_mix
  have G_law_text:=K39.ok_text (P:=Pw) (w:=w) (base:=base) R_law_text TL
  have GL:=K39.ok_law R_law TL TH G_law_cell G_law_message G_law_text G_assembled M_House G_load G_start G_run G_seen
  exact L2.GF.fn GL e lk
 case S=>exact fun K H a ns hl _ hS=>⟨a,ns,rfl,hS,fun _=>rfl⟩
 case C=>exact fun _ _ _ _ z=>z
