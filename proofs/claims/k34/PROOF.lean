import PyProof.Rows.All
import Wide.All
import OpenK.KLine
import OpenK.KWalk
import KE.KxBytes
import KE.KIsAll
import KE.KItem
import KE.KDictOf
import OpenK.KEqL
import Wide.FinOn
import Lean
import PyProof.EqAt
import PyProof.EqKinds
import PyProof.TupleCall
import KE.KIntText
import KE.IntTextLaws
import PyProof.StationsW
import PyProof.ExcInit
import PyProof.ExcClass2
import PyProof.InstStore
import PyProof.InstStoreFacts
import PyProof.ExcBaseAll.ValueError
import OpenK.KCls
import OpenK.KOwn
import PyProof.ExcArgsOwn
import PyProof.ExcAttrAll.ValueError
import KE.KTryMore
import PyProof.RulesDel
import PySem.Challenge.RW_corehouse_k34_lines_that_are_not_as_told
set_option Elab.async false
set_option linter.all false
set_option maxRecDepth 100000
namespace L2
open PySem PySem.Spec PyProof.Rows
abbrev Key := Sum Int Str
def keyIs : Key → Value → Bool
 | .inl k, v => Value.isInt k v
 | .inr x, v => Value.isStrOf x v
def keyH (w : World) : Key → Int
 | .inl k => hashInt k
 | .inr x => hashStr w x
theorem keyIs_shape : ∀ {k : Key} {v : Value}, keyIs k v = true → (∃ i t, k = Sum.inl i ∧ v = Value.int i t) ∨ (∃ x t, k = Sum.inr x ∧ v = Value.str x t)
 | .inl i, v, h => by
  obtain ⟨t, e⟩ := Value.isInt_shape (k := i) (v := v) h
  exact .inl ⟨i, t, rfl, e⟩
 | .inr x, v, h => by
  obtain ⟨t, e⟩ := Value.isStrOf_shape (x := x) (v := v) h
  exact .inr ⟨x, t, rfl, e⟩
theorem keyIs_int (i : Int) (t : Tok) : keyIs (.inl i) (.int i t) = true := by simp [keyIs, Value.isInt]
theorem keyIs_str (x : Str) (t : Tok) : keyIs (.inr x) (.str x t) = true := by simp [keyIs, Value.isStrOf]
theorem key_ll (a b : Int) : decide ((Sum.inl a : Key) = Sum.inl b) = (a == b) := by
 by_cases e : a = b
 ·subst e; simp
 ·have h : ¬ (Sum.inl a : Key) = Sum.inl b := fun q => e (Sum.inl.inj q)
  rw [decide_eq_false h]
  exact (beq_eq_false_iff_ne.mpr e).symm
theorem key_rr (a b : Str) : decide ((Sum.inr a : Key) = Sum.inr b) = decide (a = b) := by
 by_cases e : a = b
 ·subst e; simp
 ·have h : ¬ (Sum.inr a : Key) = Sum.inr b := fun q => e (Sum.inr.inj q)
  rw [decide_eq_false h, decide_eq_false e]
theorem key_lr (a : Int) (b : Str) : decide ((Sum.inl a : Key) = Sum.inr b) = false := decide_eq_false (fun q => nomatch q)
theorem key_rl (a : Str) (b : Int) : decide ((Sum.inr a : Key) = Sum.inl b) = false := decide_eq_false (fun q => nomatch q)
def mixKind (prog : Program) (w : World) : PySem.KeyKind prog w Key where
 is := keyIs
 hash := keyH w
 inj := fun v a b ha hb => by
  rcases keyIs_shape ha with ⟨i, t, rfl, rfl⟩ | ⟨x, t, rfl, rfl⟩
  ·rcases keyIs_shape hb with ⟨j, u, rfl, e⟩ | ⟨y, u, rfl, e⟩
   ·injection e with e1 _; rw [e1]
   ·exact nomatch e
  ·rcases keyIs_shape hb with ⟨j, u, rfl, e⟩ | ⟨y, u, rfl, e⟩
   ·exact nomatch e
   ·injection e with e1 _; rw [e1]
 byValue := fun k v h => by
  rcases keyIs_shape h with ⟨i, t, rfl, rfl⟩ | ⟨x, t, rfl, rfl⟩ <;> rfl
 pyHash := fun hv h => by
  rcases keyIs_shape hv with ⟨i, t, rfl, rfl⟩ | ⟨x, t, rfl, rfl⟩
  ·exact wpAny_pyHash_int h
  ·exact wpAny_pyHash_str h
 eqBool := fun hu hv h => by
  rcases keyIs_shape hu with ⟨i, t, rfl, rfl⟩ | ⟨x, t, rfl, rfl⟩
  ·rcases keyIs_shape hv with ⟨j, u, rfl, rfl⟩ | ⟨y, u, rfl, rfl⟩
   ·rw [key_ll] at h; exact wpAny_eqBool_int h
   ·rw [key_lr] at h; exact SeqAt.EqAt.int_str i t y u _ _ _ _ h
  ·rcases keyIs_shape hv with ⟨j, u, rfl, rfl⟩ | ⟨y, u, rfl, rfl⟩
   ·rw [key_rl] at h; exact SeqAt.EqAt.str_int x t j u _ _ _ _ h
   ·rw [key_rr] at h; exact wpAny_eqBool_str h
 «strs» := fun k x t v h => by
  rcases keyIs_shape h with ⟨i, u, rfl, e⟩ | ⟨y, u, rfl, e⟩
  ·exact nomatch e
  ·injection e with e1 _
   subst e1
   cases v <;> rfl
theorem mixKind_int (prog : Program) (w : World) (i : Int) (t : Tok) : (mixKind prog w).is (.inl i) (.int i t) = true := keyIs_int i t
theorem mixKind_str (prog : Program) (w : World) (x : Str) (t : Tok) : (mixKind prog w).is (.inr x) (.str x t) = true := keyIs_str x t
end L2
namespace L2
open PySem PySem.Spec PyProof.Rows
inductive V where
 | non | bl (b : Bool) | int (i : Int) | str (x : Str) | byt (b : Array UInt8) | flt (b : UInt64) | ref (a : Addr) | ty (n : String)
 deriving DecidableEq
def RelV : V → Value → Prop
 | .non, u => u = Value.none
 | .bl b, u => u = Value.bool b
 | .int i, u => ∃ t, u = Value.int i t
 | .str x, u => ∃ t, u = Value.str x t
 | .byt b, u => ∃ t, u = Value.bytes b t
 | .flt b, u => ∃ t, u = Value.float b t
 | .ref a, u => u = Value.ref a
 | .ty n, u => u = Value.type n
abbrev Vals : List V → List Value → Prop := Paired RelV
theorem Vals.length {xs : List V} {us : List Value} (r : Vals xs us) : xs.length = us.length := Paired.length r
theorem Vals.get : ∀ {xs : List V} {us : List Value} {i : Nat} {x : V}, Vals xs us → xs[i]? = some x → ∃ u, us[i]? = some u ∧ RelV x u
 | _, _, _, _, .nil, e => by simp at e
 | _, _, 0, _, .cons r _, e => by simp at e; subst e; exact ⟨_, rfl, r⟩
 | _, _, i + 1, x, .cons _ t, e => by
  obtain ⟨u, h1, h2⟩ := Vals.get (i := i) (x := x) t (by simpa using e)
  exact ⟨u, by simpa using h1, h2⟩
theorem Vals.append : ∀ {xs ys : List V} {us ws : List Value}, Vals xs us → Vals ys ws → Vals (xs ++ ys) (us ++ ws)
 | _, _, _, _, .nil, s => s
 | _, _, _, _, .cons r t, s => .cons r (Vals.append t s)
theorem Vals.take : ∀ {xs : List V} {us : List Value} (n : Nat), Vals xs us → Vals (xs.take n) (us.take n)
 | _, _, 0, _ => .nil
 | _, _, _ + 1, .nil => .nil
 | _, _, n + 1, .cons r t => .cons r (Vals.take n t)
theorem Vals.drop : ∀ {xs : List V} {us : List Value} (n : Nat), Vals xs us → Vals (xs.drop n) (us.drop n)
 | _, _, 0, r => r
 | _, _, _ + 1, .nil => .nil
 | _, _, n + 1, .cons _ t => Vals.drop n t
def RelO : Option V → Option Value → Prop
 | some v, some u => RelV v u
 | none, none => True
 | _, _ => False
def KV {κ : Type} : List (κ × V) → List (κ × Value) → Prop := Paired fun (p : κ × V) (q : κ × Value) => p.1 = q.1 ∧ RelV p.2 q.2
def kV : Key → V
 | .inl i => .int i
 | .inr x => .str x
inductive HO where
  | lst (xs : List V)
  | tup (xs : List V)
  | dK (kvs : List (Key × V)) | dT (kvs : List (List Key × V))
  | set (S : Int → Bool) (n : Nat)
  | ins (C dx : Addr) (fs : List (Str × V))
  | own (x : Addr)
  | xd (fs : List (Str × V))
  | met (f x : Addr)
  | rng (lo hi : Int)
  | frz (o : Obj) (u : HO)
  | tbl (ps : Array Value)
  | ext (φ : Heap → Prop)
abbrev Hp := Addr → Option HO
def upd (H : Hp) (a : Addr) (o : HO) : Hp := fun b => if b = a then some o else H b
theorem upd_same {H : Hp} {a : Addr} {o : HO} : upd H a o a = some o := by unfold upd; rw [if_pos rfl]
theorem upd_ne {H : Hp} {a b : Addr} {o : HO} (h : b ≠ a) : upd H a o b = H b := by unfold upd; rw [if_neg h]
theorem ne_of {H : Hp} {a b : Addr} {o u : HO} (h : H a = some o) (h' : H b = some u) (d : o ≠ u) : a ≠ b := by
 intro e; subst e; rw [h] at h'; exact d (Option.some.inj h')
theorem ne_of_none {H : Hp} {a b : Addr} {o : HO} (h : H a = some o) (h' : H b = none) : a ≠ b := by
 intro e; subst e; rw [h] at h'; cases h'
section
variable (P : Program) (w : World)
def ObjOk (H : Hp) (h : Heap) (a : Addr) : HO → Prop
 | .lst xs => xs.length ≤ sizeLine ∧ ∃ (its : List Value) (n : Nat), Vals xs its ∧ h.get? a = some { cls := .type "list", data := .seq its.toArray n }
 | .tup xs => xs.length ≤ sizeLine ∧ ∃ its : List Value, Vals xs its ∧ IsTup h a its.toArray
 | .dK kvs => kvs.length ≤ sizeLine ∧ (a == sysModules) = false ∧ ∃ vs, KV kvs vs ∧ h.DictOf (mixKind P w) a vs
 | .dT kvs => kvs.length ≤ sizeLine ∧ (a == sysModules) = false ∧ ∃ xs : List (List Key × Addr × Value),
   Paired (fun (p : List Key × V) (q : List Key × Addr × Value) => p.1 = q.1 ∧ H q.2.1 = some (.tup (p.1.map kV)) ∧ RelV p.2 q.2.2) kvs xs ∧
   ∃ o es ep, h.get? a = some o ∧ o.ExactDict ∧ o.data = .dict es ep ∧ es.toList = xs.map (entryOfKey (tupleKind (mixKind P w))) ∧ (xs.map (·.1)).Nodup
 | .set S n => h.SetOf (intKind P w) a S n
 | .ins C dx fs => H dx = some (.own a) ∧ fs.length ≤ 1000 ∧ dx ≠ a ∧ h.get? a = some (PySem.W.instObj C dx) ∧
   ∃ mA, h.Ns1 dx mA ∧ (∀ f, RelO (fs.lookup f) (mA f)) ∧ PySem.Within mA (fs.map (·.1))
 | .own _ => ∃ o, h.get? a = some o
 | .xd fs => ∃ mA, h.Ns1 a mA ∧ ∀ f, RelO (fs.lookup f) (mA f)
 | .rng lo hi => ∃ t u v, h.get? a = some { cls := .type "range", data := .fields #[.int lo t, .int hi u, .int 1 v] }
 | .frz o u => h.get? a = some o ∧ ObjOk H h a u
 | .tbl ps => h.get? a = some { cls := .none, data := .fields ps }
 | .met f x => h.get? a = some (PySem.W.methodObj (.ref f) (.ref x))
 | .ext φ => φ h ∧ (∃ o, h.get? a = some o) ∧ ∀ h1 h2 : Heap, φ h1 → (∀ o, h1.get? a = some o → h2.get? a = some o) → φ h2
def HOk (H : Hp) (h : Heap) : Prop := ∀ a o, H a = some o → ObjOk P w H h a o
end
section
variable {P : Program} {w : World} {H H' : Hp} {h h' : Heap} {a : Addr} {o : HO}
theorem ObjOk.lt (x : ObjOk P w H h a o) : a < h.objs.size := by
 cases o with
 | lst xs => obtain ⟨_, _, _, _, e⟩ := x; exact Heap.lt_size e
 | tup xs => obtain ⟨_, _, _, p⟩ := x; exact p.lt
 | dK kvs => obtain ⟨_, _, _, _, o, _, _, e, _⟩ := x; exact Heap.lt_size e
 | dT kvs => obtain ⟨_, _, _, _, o, _, _, e, _⟩ := x; exact Heap.lt_size e
 | set S n => obtain ⟨o, _, _, _, e, _⟩ := x; exact Heap.lt_size e
 | ins C dx fs => obtain ⟨_, _, _, e, _⟩ := x; exact Heap.lt_size e
 | own y => obtain ⟨_, e⟩ := x; exact Heap.lt_size e
 | xd fs => obtain ⟨_, ⟨_, _, _, e, _⟩, _⟩ := x; exact Heap.lt_size e
 | rng lo hi => obtain ⟨_, _, _, e⟩ := x; exact Heap.lt_size e
 | frz ob u => obtain ⟨e, _⟩ := x; exact Heap.lt_size e
 | tbl ps => exact Heap.lt_size (show h.get? a = some _ from x)
 | met f y => exact Heap.lt_size (show h.get? a = some _ from x)
 | ext φ => obtain ⟨_, ⟨_, e⟩, _⟩ := x; exact Heap.lt_size e
theorem Paired.mapP {α β : Type} {F G : α → β → Prop} : ∀ {l₁ : List α} {l₂ : List β}, Paired F l₁ l₂ → (∀ a b, F a b → G a b) → Paired G l₁ l₂
 | _, _, .nil, _ => .nil
 | _, _, .cons r t, f => .cons (f _ _ r) (Paired.mapP t f)
theorem ObjOk.stay (x : ObjOk P w H h a o) (k : ∀ b u, (b = a ∨ H b = some (.own a)) → h.get? b = some u → h'.get? b = some u)
  (ho : ∀ b, H b = some (.own a) → H' b = some (.own a)) (ht : ∀ b xs, H b = some (.tup xs) → H' b = some (.tup xs)) : ObjOk P w H' h' a o := by
 induction o with
 | lst xs => obtain ⟨z, its, n, r, e⟩ := x; exact ⟨z, its, n, r, k _ _ (.inl rfl) e⟩
 | tup xs => obtain ⟨z, its, r, ob, e, c⟩ := x; exact ⟨z, its, r, ob, k _ _ (.inl rfl) e, c⟩
 | dK kvs => obtain ⟨z, y, vs, r, ob, es, ep, e, c⟩ := x; exact ⟨z, y, vs, r, ob, es, ep, k _ _ (.inl rfl) e, c⟩
 | dT kvs =>
  obtain ⟨z, y, xs, r, ob, es, ep, e, c⟩ := x
  exact ⟨z, y, xs, Paired.mapP r fun p q z => ⟨z.1, ht _ _ z.2.1, z.2.2⟩, ob, es, ep, k _ _ (.inl rfl) e, c⟩
 | set S n => obtain ⟨ob, es, ep, t, e, c⟩ := x; exact ⟨ob, es, ep, t, k _ _ (.inl rfl) e, c⟩
 | ins C dx fs =>
  obtain ⟨d, z, ne, e, mA, ⟨od, es, ep, e2, c⟩, r⟩ := x
  exact ⟨ho _ d, z, ne, k _ _ (.inl rfl) e, mA, ⟨od, es, ep, k _ _ (.inr d) e2, c⟩, r⟩
 | own y => obtain ⟨ob, e⟩ := x; exact ⟨ob, k _ _ (.inl rfl) e⟩
 | xd fs => obtain ⟨mA, ⟨od, es, ep, e, c⟩, r⟩ := x; exact ⟨mA, ⟨od, es, ep, k _ _ (.inl rfl) e, c⟩, r⟩
 | rng lo hi => obtain ⟨t, u, v, e⟩ := x; exact ⟨t, u, v, k _ _ (.inl rfl) e⟩
 | frz ob u ih => obtain ⟨e, q⟩ := x; exact ⟨k _ _ (.inl rfl) e, ih q⟩
 | tbl ps =>
  have e : h.get? a = some { cls := .none, data := .fields ps } := x
  show h'.get? a = some { cls := .none, data := .fields ps }
  exact k a _ (.inl rfl) e
 | met f y =>
  have e : h.get? a = some (PySem.W.methodObj (.ref f) (.ref y)) := x
  show h'.get? a = some (PySem.W.methodObj (.ref f) (.ref y))
  exact k a _ (.inl rfl) e
 | ext φ => obtain ⟨p, ⟨o, e⟩, st⟩ := x; exact ⟨st _ _ p fun o q => k _ _ (.inl rfl) q, ⟨o, k _ _ (.inl rfl) e⟩, st⟩
theorem HOk.lt (x : HOk P w H h) (e : H a = some o) : a < h.objs.size := (x a o e).lt
theorem HOk.fresh (x : HOk P w H h) (e : h.objs.size ≤ a) : H a = none := by
 cases q : H a with
 | none => rfl
 | some u => exact absurd (Nat.lt_of_lt_of_le (x.lt q) e) (Nat.lt_irrefl _)
theorem HOk.kept (x : HOk P w H h) (k : ∀ b u, h.get? b = some u → h'.get? b = some u) : HOk P w H h' := fun a o e =>
 (x a o e).stay (fun b u _ q => k b u q) (fun _ q => q) fun _ _ q => q
theorem HOk.laid (x : HOk P w H h) (k : ∀ b u, h.get? b = some u → h'.get? b = some u) (hp : h.objs.size ≤ a) (new : ObjOk P w (upd H a o) h' a o) : HOk P w (upd H a o) h' := fun b u e => by
 have hn := x.fresh hp
 by_cases hb : b = a
 ·subst hb; rw [upd_same] at e; cases e; exact new
 ·rw [upd_ne hb] at e
  exact (x b u e).stay (fun c v _ q => k c v q) (fun c q => by rw [upd_ne (ne_of_none q hn)]; exact q) fun c xs q => by rw [upd_ne (ne_of_none q hn)]; exact q
end
def Rd (H : Hp) (a : Addr) (u : HO) : Prop := H a = some u ∨ ∃ o, H a = some (.frz o u)
theorem Rd.of {H : Hp} {a : Addr} {u : HO} (h : H a = some u) : Rd H a u := .inl h
theorem Rd.ok {P : Program} {w : World} {H : Hp} {h : Heap} {a : Addr} {u : HO} (r : Rd H a u) (x : HOk P w H h) : ObjOk P w H h a u := by
 rcases r with r | ⟨o, r⟩
 ·exact x a u r
 ·obtain ⟨_, q⟩ := x a _ r
  exact q
def Mut : Option HO → Prop
 | some (.lst _) => True
 | some (.dK _) => True
 | some (.dT _) => True
 | some (.set _ _) => True
 | some (.ins _ _ _) => True
 | some (.ext _) => True
 | _ => False
section
variable {P : Program} {w : World} {H : Hp} {h h' : Heap} {x e : Addr} {o' : HO}
theorem HOk.write (ok : HOk P w H h) (mu : Mut (H x)) (he : e = x ∨ H e = some (.own x)) (k : ∀ b u, b ≠ e → h.get? b = some u → h'.get? b = some u) (heo : ∃ u, h'.get? e = some u)
  (new : ObjOk P w (upd H x o') h' x o') : HOk P w (upd H x o') h' := fun b u q => by
 have nown : ∀ c y, H c = some (.own y) → c ≠ x := fun c y r z => by subst z; rw [r] at mu; exact mu
 have ntup : ∀ c xs, H c = some (.tup xs) → c ≠ x := fun c xs r z => by subst z; rw [r] at mu; exact mu
 by_cases hb : b = x
 ·subst hb; rw [upd_same] at q; cases q; exact new
 ·rw [upd_ne hb] at q
  by_cases hbe : b = e
  ·have q' : H b = some (.own x) := by
    rcases he with z | z
    ·exact absurd (hbe.trans z) hb
    ·rw [hbe]; exact z
   rw [q] at q'; cases q'
   obtain ⟨v, hv⟩ := heo
   exact ⟨v, by rw [hbe]; exact hv⟩
  ·refine (ok b u q).stay (fun c v hc r => k c v ?_ r) (fun c r => by rw [upd_ne (nown c b r)]; exact r) fun c xs r => by rw [upd_ne (ntup c xs r)]; exact r
   rcases hc with rfl | hc
   ·exact hbe
   ·rintro rfl
    rcases he with z | z
    ·exact nown c b hc z
    ·rw [hc] at z; cases z; exact hb rfl
end
structure Un (fs ex : List Addr) (H H' : Hp) (h h' : Heap) : Prop where
 keep : ∀ b o, h.get? b = some o → H b = none → b ∉ fs → b ∉ ex → h'.get? b = some o
 slot : ∀ b o, h.get? b = some o → H b = none → b ∈ fs → b ∉ ex → ∃ sl, h'.get? b = some { o with slots := sl }
 free : ∀ b o, h.get? b = some o → H b = none → b ∉ ex → H' b = none
 there : ∀ b o, h.get? b = some o → b ∉ ex → ∃ o', h'.get? b = some o'
 tups : ∀ b xs, H b = some (.tup xs) → H' b = some (.tup xs)
 frzs : ∀ b o u, H b = some (.frz o u) → H' b = some (.frz o u)
 tbls : ∀ b ps, H b = some (.tbl ps) → ∃ more, H' b = some (.tbl (ps ++ more))
section
variable {fs fs' ex ex' : List Addr} {H H1 H2 : Hp} {h h1 h2 h' : Heap} {a x e : Addr} {o : HO}
theorem Un.any (u : Un fs ex H H1 h h1) {b : Addr} {ob : Obj} (q : h.get? b = some ob) (n : H b = none) (hx : b ∉ ex) : ∃ sl, h1.get? b = some { ob with slots := sl } := by
 by_cases hb : b ∈ fs
 ·exact u.slot b ob q n hb hx
 ·exact ⟨ob.slots, u.keep b ob q n hb hx⟩
theorem Un.kept (k : ∀ b u, h.get? b = some u → h'.get? b = some u) : Un fs ex H H h h' :=
 ⟨fun b ob q _ _ _ => k b ob q, fun b ob q _ _ _ => ⟨ob.slots, k b ob q⟩, fun _ _ _ n _ => n, fun b ob q _ => ⟨ob, k b ob q⟩, fun _ _ q => q, fun _ _ _ q => q, fun _ ps q => ⟨#[], by rw [q]; simp⟩⟩
theorem Un.refl : Un fs ex H H h h := Un.kept fun _ _ q => q
theorem Un.laid (k : ∀ b u, h.get? b = some u → h'.get? b = some u) (hp : h.objs.size ≤ a) (hn : H a = none) : Un fs ex H (upd H a o) h h' where
 keep := fun b u q _ _ _ => k b u q
 slot := fun b u q _ _ _ => ⟨u.slots, k b u q⟩
 free := fun b u q n _ => by rw [upd_ne (Nat.ne_of_lt (Nat.lt_of_lt_of_le (Heap.lt_size q) hp))]; exact n
 there := fun b u q _ => ⟨u, k b u q⟩
 tups := fun b xs q => by rw [upd_ne (ne_of_none q hn)]; exact q
 frzs := fun b u xs q => by rw [upd_ne (ne_of_none q hn)]; exact q
 tbls := fun b ps q => ⟨#[], by rw [upd_ne (ne_of_none q hn), q]; simp⟩
theorem Un.write (mu : Mut (H x)) (he : e = x ∨ H e = some (.own x)) (k : ∀ b u, b ≠ e → h.get? b = some u → h'.get? b = some u) (heo : ∃ u, h'.get? e = some u) : Un fs ex H (upd H x o) h h' := by
 have hx : ∀ b, H b = none → b ≠ x := fun b n z => by subst z; rw [n] at mu; exact mu
 have hb : ∀ b, H b = none → b ≠ e := fun b n z => by
  subst z
  rcases he with r | r
  ·exact hx b n r
  ·rw [n] at r; cases r
 have hm : ∀ b u, H b = some u → ¬ Mut (some u) → b ≠ x := fun b u q nm z => by subst z; rw [q] at mu; exact nm mu
 refine ⟨fun b u q n _ _ => k b u (hb b n) q, fun b u q n _ _ => ⟨u.slots, k b u (hb b n) q⟩, fun b u q n _ => by rw [upd_ne (hx b n)]; exact n, fun b u q _ => ?_,
  fun b xs q => by rw [upd_ne (hm b _ q fun z => z)]; exact q, fun b u xs q => by rw [upd_ne (hm b _ q fun z => z)]; exact q, fun b ps q => ⟨#[], by rw [upd_ne (hm b _ q fun z => z), q]; simp⟩⟩
 by_cases hbe : b = e
 ·subst hbe; exact heo
 ·exact ⟨u, k b u hbe q⟩
end
def trk (h : Heap) (H : Hp) : List Addr := (List.range h.objs.size).filter fun a => (H a).isSome
def hidT (h : Heap) (H : Hp) : Heap := PySem.W.hideAll h (trk h H)
theorem hidT_size (h : Heap) (H : Hp) : (hidT h H).objs.size = h.objs.size := PySem.W.hideAll_size _ _
theorem hidT_get {h : Heap} {H : Hp} {b : Addr} {o : Obj} (e : h.get? b = some o) (n : H b = none) : (hidT h H).get? b = some o :=
 PySem.W.hideAll_get _ e fun hm => by
  have q : (H b).isSome = true := (List.mem_filter.mp hm).2
  rw [n] at q; simp at q
theorem of_hidT {h : Heap} {H : Hp} {b : Addr} {o : Obj} (e : (hidT h H).get? b = some o) : h.get? b = some o ∧ H b = none := by
 have e' : h.get? b = some o := PySem.W.of_hideAll (trk h H) e
 refine ⟨e', ?_⟩
 cases q : H b with
 | none => rfl
 | some x =>
  have hm : b ∈ trk h H := List.mem_filter.mpr ⟨List.mem_range.mpr (Heap.lt_size e'), by simp [q]⟩
  have z : (hidT h H).get? b = none := PySem.W.hideAll_none (trk h H) hm
  rw [z] at e; cases e
def allNews (g h : Heap) (L : Addr) : List (Addr × Obj) := (List.range h.objs.size).filterMap fun a => if a = L ∨ (g.get? a).isSome = true then none else (h.get? a).map fun o => (a, o)
def rest (g h : Heap) (L d : Addr) : List (Addr × Obj) := (allNews g h L).filter fun p => decide (p.1 ≠ d)
end L2
namespace L2
open PySem PySem.Spec PyProof.Rows
structure Mod (K : PySem.W.Frag) (mg : Str → Option Value) (base : Heap) : Prop where
 kin : K.In base
 glob : base.Ns mainGlobals mg
 blt : ∃ mb, base.Ns builtinsNs mb ∧ ∀ x : Str, x ≠ "__name__" → mb x = bootBuiltins x
 nolimit : base.NoLimit
structure Cx where
 prog : Program
 w : World
 K : PySem.W.Frag
 mg : Str → Option Value
 base : Heap
 A : Around
 N : List Str
 s₀ : Shared
 H₀ : Hp
 env : Env
 outer : List Env
 stack : List Env
 ex : List Addr
 fn : Str → Bool
 calm : Bool
 pn : List (Addr × Obj)
 xe : Value → Shared → Prop
def frs (l : List Env) : List Addr := l.filterMap (·.frame)
abbrev Cx.fs (X : Cx) : List Addr := frs X.outer
def Vis (sc : Scope) (x : Str) : Prop := sc.names.lookup x = some .local ∨ sc.names.lookup x = some .cell ∨ sc.names.lookup x = some .free
def Loc (sc : Scope) (x : Str) : Prop := sc.names.lookup x = some .local ∨ sc.names.lookup x = some .cell
def Look (env : Env) (h : Heap) (m : Str → Option Value) (x : Str) (u : Value) : Prop :=
 (env.kindOf x = some .local ∧ m x = some u) ∨ ((env.kindOf x = some .cell ∨ env.kindOf x = some .free) ∧ ∃ c, env.cells.lookup x = some c ∧ h.IsCell c (some u))
structure Cx.Ok (X : Cx) : Prop where
 mod : Mod X.K X.mg X.base
 kind : X.env.scope.kind = .function
 glob : X.env.globals = mainGlobals
 blt : X.env.builtins = builtinsNs
 above : X.s₀.heap.objs.size ≤ X.env.locals
 inj : ∀ x y c, X.env.cells.lookup x = some c → X.env.cells.lookup y = some c → x = y
 has : ∀ x, (X.env.kindOf x = some .cell ∨ X.env.kindOf x = some .free) → ∃ c, X.env.cells.lookup x = some c
 cab : ∀ x c, X.fn x = true → X.env.cells.lookup x = some c → X.s₀.heap.objs.size ≤ c
 hd : X.calm = true → X.A.handled = none
 frames : X.A.frames = some X.stack
 stk : X.stack = X.outer ∨ (X.stack = X.env :: X.outer ∧ X.env.frame = some X.env.locals)
 exf : ∀ b ∈ X.ex, b ≠ X.env.locals ∧ ∀ x c, X.env.cells.lookup x = some c → c ≠ b
 bs : ∀ b o, X.base.get? b = some o → X.s₀.heap.get? b = some o ∧ X.H₀ b = none
 bsz : X.base.objs.size ≤ X.s₀.heap.objs.size
 noex : ∀ b o, X.base.get? b = some o → b ∉ X.ex
 exfs : ∀ b ∈ X.ex, b ∉ X.fs
 funs : X.s₀.heap.FunFrames X.base X.outer
 frf : ∀ b ∈ X.fs, X.H₀ b = none
structure Inv (X : Cx) (pins : List (Addr × Obj)) (σ : List (Option V)) (H : Hp) (s : Shared) : Prop where
 ok : X.Ok
 os : s.os = X.s₀.os
 bare : AllBare s.gens
 base : Un X.fs X.ex X.H₀ H X.s₀.heap s.heap
 loc : ∃ m, s.heap.Ns X.env.locals m ∧ ∀ (i : Nat) (x : Str) (v : V), X.N[i]? = some x → σ[i]? = some (some v) → Vis X.env.scope x → ∃ u, RelV v u ∧ Look X.env s.heap m x u
 cell : ∀ x c, X.env.cells.lookup x = some c → ∃ v, s.heap.IsCell c v
 free : H X.env.locals = none
 freeC : ∀ x c, X.env.cells.lookup x = some c → H c = none
 pin : ∀ p ∈ X.pn ++ pins, s.heap.get? p.1 = some p.2 ∧ H p.1 = none ∧ p.1 ≠ X.env.locals ∧ p.1 ∉ X.fs ∧ ∀ v, p.2.data ≠ .cell v
 hok : HOk X.prog X.w H s.heap
 len : σ.length = X.N.length
section
variable {X : Cx} {pins : List (Addr × Obj)} {σ : List (Option V)} {H H' : Hp} {s : Shared} {h' : Heap}
theorem Cx.Ok.nofr (ok : X.Ok) {b : Addr} {o : Obj} (e : X.base.get? b = some o) : b ∉ X.fs := fun hb => by
 have := (ok.funs.mem hb).1
 rw [e] at this; cases this
theorem Inv.bs (I : Inv X pins σ H s) : ∀ b o, X.base.get? b = some o → s.heap.get? b = some o ∧ H b = none := fun b o e =>
 ⟨I.base.keep b o (I.ok.bs b o e).1 (I.ok.bs b o e).2 (I.ok.nofr e) (I.ok.noex b o e), I.base.free b o (I.ok.bs b o e).1 (I.ok.bs b o e).2 (I.ok.noex b o e)⟩
theorem Inv.bk (I : Inv X pins σ H s) : ∀ b o, X.base.get? b = some o → s.heap.get? b = some o := fun b o e => (I.bs b o e).1
theorem Inv.mod (I : Inv X pins σ H s) : Mod X.K X.mg X.base := I.ok.mod
theorem Inv.kIn (I : Inv X pins σ H s) : X.K.In s.heap := I.ok.mod.kin.keeps I.bk
theorem Inv.lt (I : Inv X pins σ H s) : X.env.locals < s.heap.objs.size := let ⟨_, hn, _⟩ := I.loc; hn.lt
theorem Inv.sz (I : Inv X pins σ H s) : X.s₀.heap.objs.size ≤ s.heap.objs.size := Nat.le_trans I.ok.above (Nat.le_of_lt I.lt)
theorem Inv.nofs (I : Inv X pins σ H s) {a : Addr} (h : s.heap.objs.size ≤ a) : a ∉ X.fs := fun hb => by
 obtain ⟨_, o, ho, _⟩ := I.ok.funs.mem hb
 exact absurd (Nat.lt_of_lt_of_le (Heap.lt_size ho) (Nat.le_trans I.sz h)) (Nat.lt_irrefl _)
theorem Inv.cne (I : Inv X pins σ H s) : ∀ x c, X.env.cells.lookup x = some c → c ≠ X.env.locals := fun x c e z => by
 obtain ⟨v, o, ho, hd⟩ := I.cell x c e
 obtain ⟨m, ⟨o', es, ep, ho', hd', _⟩, _⟩ := I.loc
 rw [z, ho'] at ho; cases ho; rw [hd'] at hd; cases hd
theorem Inv.funs (I : Inv X pins σ H s) : s.heap.FunFrames X.base X.outer := by
 have all : ∀ (l : List Env), (∀ b ∈ frs l, b ∈ X.fs) → X.s₀.heap.FunFrames X.base l → s.heap.FunFrames X.base l := by
  intro l
  induction l with
  | nil => intro _ _; trivial
  | cons env r ih =>
   intro hs hl
   obtain ⟨hk, ⟨L, o, hf, hn, ho, hd⟩, hr⟩ := hl
   have hL : L ∈ X.fs := hs L (by unfold frs; rw [List.filterMap_cons, hf]; exact List.mem_cons_self)
   obtain ⟨sl, e⟩ := I.base.slot L o ho (I.ok.frf L hL) hL fun z => I.ok.exfs L z hL
   exact ⟨hk, ⟨L, _, hf, hn, e, hd⟩, ih (fun b hb => hs b (by unfold frs; rw [List.filterMap_cons, hf]; exact List.mem_cons_of_mem _ hb)) hr⟩
 exact all X.outer (fun _ hb => hb) I.ok.funs
theorem Inv.stack (I : Inv X pins σ H s) : s.heap.FunFrames X.base X.stack := by
 rcases I.ok.stk with e | ⟨e, hf⟩
 ·rw [e]; exact I.funs
 ·rw [e]
  obtain ⟨m, hn, _⟩ := I.loc
  refine .cons (by rw [I.ok.kind]; decide) hf hn ?_ I.funs
  exact Heap.get?_none_of_le (Nat.le_trans I.ok.bsz I.ok.above)
theorem Inv.stkSub (I : Inv X pins σ H s) : ∀ b ∈ frs X.stack, b ∈ X.env.locals :: X.fs := fun b hb => by
 rcases I.ok.stk with e | ⟨e, hf⟩
 ·rw [e] at hb; exact List.mem_cons_of_mem _ hb
 ·rw [e] at hb
  unfold frs at hb
  rw [List.filterMap_cons, hf] at hb
  exact hb
theorem Inv.stkFree (I : Inv X pins σ H s) : ∀ b ∈ frs X.stack, H b = none := fun b hb => by
 rcases List.mem_cons.mp (I.stkSub b hb) with e | hb
 ·rw [e]; exact I.free
 ·obtain ⟨_, o, ho, _⟩ := I.ok.funs.mem hb
  exact I.base.free b o ho (I.ok.frf b hb) fun z => I.ok.exfs b z hb
theorem Inv.step {g' : Array GenState} {t' : Nat} {d' : Drawn} {ch : List Addr} (I : Inv X pins σ H s)
  (hch : ∀ b ∈ ch, (b ∈ X.ex ∨ X.s₀.heap.objs.size ≤ b) ∧ b ≠ X.env.locals ∧ (∀ x c, X.env.cells.lookup x = some c → c ≠ b) ∧ ∀ p ∈ X.pn ++ pins, p.1 ≠ b)
  (keep : ∀ b o, b ≠ X.env.locals → b ∉ X.fs → b ∉ ch → s.heap.get? b = some o → H b = none → h'.get? b = some o)
  (slot : ∀ b o, b ≠ X.env.locals → b ∈ X.fs → b ∉ ch → s.heap.get? b = some o → H b = none → ∃ sl, h'.get? b = some { o with slots := sl }) (free : ∀ b o, b ∉ ch → s.heap.get? b = some o → H b = none → H' b = none)
  (there : ∀ b o, b ∉ ch → s.heap.get? b = some o → ∃ o', h'.get? b = some o')
  (tups : ∀ b xs, H b = some (.tup xs) → H' b = some (.tup xs)) (frzs : ∀ b o u, H b = some (.frz o u) → H' b = some (.frz o u)) (tbls : ∀ b ps, H b = some (.tbl ps) → ∃ more, H' b = some (.tbl (ps ++ more)))
  (ns : ∀ m, s.heap.Ns X.env.locals m → h'.Ns X.env.locals m) (hok : HOk X.prog X.w H' h') (hg : AllBare g') :
  Inv X pins σ H' { s with heap := h', gens := g', drawn := d', toks := t' } := by
 have neL : ∀ b o, X.s₀.heap.get? b = some o → b ≠ X.env.locals := fun b o e => Nat.ne_of_lt (Nat.lt_of_lt_of_le (Heap.lt_size e) I.ok.above)
 have neC : ∀ b o, X.s₀.heap.get? b = some o → b ∉ X.ex → b ∉ ch := fun b o e hx hb => by
  rcases (hch b hb).1 with z | z
  ·exact hx z
  ·exact absurd (Nat.lt_of_lt_of_le (Heap.lt_size e) z) (Nat.lt_irrefl _)
 have cellK : ∀ x c, X.env.cells.lookup x = some c → ∀ v, s.heap.IsCell c v → h'.IsCell c v := fun x c e v ⟨o, ho, hd⟩ => by
  have nch : c ∉ ch := fun z => (hch c z).2.2.1 x c e rfl
  by_cases hc : c ∈ X.fs
  ·obtain ⟨sl, q⟩ := slot c o (I.cne x c e) hc nch ho (I.freeC x c e)
   exact ⟨_, q, hd⟩
  ·exact ⟨o, keep c o (I.cne x c e) hc nch ho (I.freeC x c e), hd⟩
 refine ⟨I.ok, I.os, hg, ⟨fun b o e n hb hx => ?_, fun b o e n hb hx => ?_, fun b o e n hx => ?_, fun b o e hx => ?_, fun b xs e => tups b xs (I.base.tups b xs e), fun b o xs e => frzs b o xs (I.base.frzs b o xs e), fun b ps e => ?_⟩, ?_, fun x c e => ?_, ?_, fun x c e => ?_, fun p hp => ?_, hok, I.len⟩
 ·exact keep b o (neL b o e) hb (neC b o e hx) (I.base.keep b o e n hb hx) (I.base.free b o e n hx)
 ·obtain ⟨sl, e1⟩ := I.base.slot b o e n hb hx
  obtain ⟨sl', e2⟩ := slot b _ (neL b o e) hb (neC b o e hx) e1 (I.base.free b o e n hx)
  exact ⟨sl', e2⟩
 ·obtain ⟨o', e1⟩ := I.base.there b o e hx
  exact free b o' (neC b o e hx) e1 (I.base.free b o e n hx)
 ·obtain ⟨o', e1⟩ := I.base.there b o e hx
  exact there b o' (neC b o e hx) e1
 ·obtain ⟨m1, e1⟩ := I.base.tbls b ps e
  obtain ⟨m2, e2⟩ := tbls b _ e1
  exact ⟨m1 ++ m2, by rw [e2, Array.append_assoc]⟩
 ·obtain ⟨m, hn, hl⟩ := I.loc
  refine ⟨m, ns m hn, fun i x v e1 e2 e3 => ?_⟩
  obtain ⟨u, r, l⟩ := hl i x v e1 e2 e3
  refine ⟨u, r, ?_⟩
  rcases l with l | ⟨k, c, e, z⟩
  ·exact .inl l
  ·exact .inr ⟨k, c, e, cellK x c e _ z⟩
 ·obtain ⟨v, z⟩ := I.cell x c e
  exact ⟨v, cellK x c e v z⟩
 ·obtain ⟨m, ⟨o, _, _, ho, _⟩, _⟩ := I.loc
  exact free _ o (fun z => (hch _ z).2.1 rfl) ho I.free
 ·obtain ⟨v, o, ho, hd⟩ := I.cell x c e
  exact free c o (fun z => (hch c z).2.2.1 x c e rfl) ho (I.freeC x c e)
 ·obtain ⟨e, n, ne, nf, d⟩ := I.pin p hp
  have nch : p.1 ∉ ch := fun z => (hch p.1 z).2.2.2 p hp rfl
  exact ⟨keep p.1 p.2 ne nf nch e n, free p.1 p.2 nch e n, ne, nf, d⟩
theorem Inv.un {t' : Nat} (I : Inv X pins σ H s) (u : Un X.fs [] H H' s.heap h') (hok : HOk X.prog X.w H' h') : Inv X pins σ H' { s with heap := h', toks := t' } := by
 obtain ⟨m, ⟨o, es, ep, ho, r⟩, _⟩ := id I.loc
 obtain ⟨sl, hL⟩ := u.any ho I.free (by simp)
 exact I.step (g' := s.gens) (d' := s.drawn) (ch := []) (fun _ z => nomatch z) (fun b o _ hb _ e n => u.keep b o e n hb (by simp)) (fun b o _ hb _ e n => u.slot b o e n hb (by simp)) (fun b o _ e n => u.free b o e n (by simp)) (fun b o _ e => u.there b o e (by simp)) u.tups u.frzs u.tbls (fun m' hm => by
  obtain ⟨o', es', ep', ho', r'⟩ := hm
  rw [ho] at ho'; cases ho'
  exact ⟨_, es', ep', hL, r'⟩) hok I.bare
theorem Inv.call {g' : Array GenState} {t' : Nat} {d' : Drawn} {ch : List Addr} (I : Inv X pins σ H s) (u : Un (frs X.stack) ch H H' s.heap h') (hok : HOk X.prog X.w H' h') (hg : AllBare g')
  (hch : ∀ b ∈ ch, (b ∈ X.ex ∨ X.s₀.heap.objs.size ≤ b) ∧ b ≠ X.env.locals ∧ (∀ x c, X.env.cells.lookup x = some c → c ≠ b) ∧ ∀ p ∈ X.pn ++ pins, p.1 ≠ b) :
  Inv X pins σ H' { s with heap := h', gens := g', drawn := d', toks := t' } := by
 obtain ⟨m, ⟨o, es, ep, ho, r⟩, _⟩ := id I.loc
 obtain ⟨sl, hL⟩ := u.any ho I.free fun z => (hch _ z).2.1 rfl
 exact I.step (ch := ch) hch (fun b o hL hb hc e n => u.keep b o e n (fun z => (List.mem_cons.mp (I.stkSub b z)).elim hL hb) hc) (fun b o _ _ hc e n => u.any e n hc) (fun b o hc e n => u.free b o e n hc) (fun b o hc e => u.there b o e hc) u.tups u.frzs u.tbls (fun m' hm => by
  obtain ⟨o', es', ep', ho', r'⟩ := hm
  rw [ho] at ho'; cases ho'
  exact ⟨_, es', ep', hL, r'⟩) hok hg
theorem Inv.turned {t' : Nat} {it : Addr} (I : Inv X pins σ H s) (k : ∀ b o, b ≠ it → s.heap.get? b = some o → h'.get? b = some o) (hn : H it = none) (hL : it ≠ X.env.locals)
  (h1 : it ∈ X.ex ∨ X.s₀.heap.objs.size ≤ it) (h2 : ∀ x c, X.env.cells.lookup x = some c → c ≠ it) (h3 : ∀ p ∈ X.pn ++ pins, p.1 ≠ it) : Inv X pins σ H { s with heap := h', toks := t' } := by
 have nit : ∀ b u, H b = some u → b ≠ it := fun b u e z => by rw [z, hn] at e; cases e
 refine I.step (g' := s.gens) (d' := s.drawn) (ch := [it]) (fun b hb => ?_) (fun b o _ _ hc e _ => k b o (fun z => hc (by simp [z])) e) (fun b o _ _ hc e _ => ⟨o.slots, k b o (fun z => hc (by simp [z])) e⟩) (fun _ _ _ _ n => n)
  (fun b o hc e => ⟨o, k b o (fun z => hc (by simp [z])) e⟩) (fun _ _ e => e) (fun _ _ _ e => e) (fun b ps e => ⟨#[], by rw [e]; simp⟩) (fun m hm => ?_) (fun b u e => ?_) I.bare
 ·have e : b = it := by simpa using hb
  subst e
  exact ⟨h1, hL, h2, h3⟩
 ·obtain ⟨o, es, ep, ho, r⟩ := hm
  exact ⟨o, es, ep, k _ o (Ne.symm hL) ho, r⟩
 ·refine (I.hok b u e).stay (fun c v hc q => k c v ?_ q) (fun _ q => q) fun _ _ q => q
  rcases hc with z | z
  ·rw [z]; exact nit b u e
  ·exact nit c _ z
theorem Inv.tok (I : Inv X pins σ H s) (t : Nat) : Inv X pins σ H { s with toks := t } := I.un (h' := s.heap) (t' := t) Un.refl I.hok
theorem Inv.kept {t' : Nat} (I : Inv X pins σ H s) (k : ∀ b u, s.heap.get? b = some u → h'.get? b = some u) : Inv X pins σ H { s with heap := h', toks := t' } := I.un (Un.kept k) (I.hok.kept k)
theorem Inv.laid {a : Addr} {o : HO} {t' : Nat} (I : Inv X pins σ H s) (k : ∀ b u, s.heap.get? b = some u → h'.get? b = some u) (hp : s.heap.objs.size ≤ a) (new : ObjOk X.prog X.w (upd H a o) h' a o) :
  Inv X pins σ (upd H a o) { s with heap := h', toks := t' } := I.un (Un.laid k hp (I.hok.fresh hp)) (I.hok.laid k hp new)
theorem Inv.write {x e : Addr} {o : HO} {t' : Nat} (I : Inv X pins σ H s) (mu : Mut (H x)) (he : e = x ∨ H e = some (.own x)) (k : ∀ b u, b ≠ e → s.heap.get? b = some u → h'.get? b = some u) (heo : ∃ u, h'.get? e = some u)
  (new : ObjOk X.prog X.w (upd H x o) h' x o) : Inv X pins σ (upd H x o) { s with heap := h', toks := t' } := I.un (Un.write mu he k heo) (I.hok.write mu he k heo new)
theorem Inv.pins_of {pins' : List (Addr × Obj)} (I : Inv X pins σ H s) (h : ∀ p ∈ pins', s.heap.get? p.1 = some p.2 ∧ H p.1 = none ∧ p.1 ≠ X.env.locals ∧ p.1 ∉ X.fs ∧ ∀ v, p.2.data ≠ .cell v) : Inv X pins' σ H s :=
 ⟨I.ok, I.os, I.bare, I.base, I.loc, I.cell, I.free, I.freeC, fun p hp => (List.mem_append.mp hp).elim (fun z => I.pin p (List.mem_append_left _ z)) (h p), I.hok, I.len⟩
theorem nodup_ix {N : List Str} (hN : N.Nodup) {i j : Nat} {x : Str} (a : N[i]? = some x) (b : N[j]? = some x) : i = j := by
 obtain ⟨h1, e1⟩ := List.getElem?_eq_some_iff.mp a
 obtain ⟨h2, e2⟩ := List.getElem?_eq_some_iff.mp b
 exact (List.getElem_inj hN).mp (e1.trans e2.symm)
theorem store_ok2 {M : Model} {A : Around} {E : Value → Shared → Prop} {i : Nat} {x : Str} {v : V} {u : Value} {Q : Unit → Shared → Prop} (I : Inv X pins σ H s) (hN : X.N.Nodup) (hi : X.N[i]? = some x) (hx : Loc X.env.scope x) (r : RelV v u)
  (h : ∀ s', Inv X pins (σ.set i (some v)) H s' → (∃ a, Heap.SameBut a s.heap s'.heap ∧ (a = X.env.locals ∨ X.env.cells.lookup x = some a)) → Q () s') (hf : X.fn x = true ∨ X.env.scope.names.lookup x = some .local := by first | exact .inl rfl | exact .inr rfl | assumption) : wpAny M A (storeName X.env x u) Q E s := by
 obtain ⟨m, hn, hl⟩ := id I.loc
 have hcls : (X.env.scope.kind == .class || (X.env.scope.kind == .module && X.env.locals != X.env.globals)) = false := by rw [I.ok.kind]; rfl
 have hiσ : i < σ.length := by rw [I.len]; exact (List.getElem?_eq_some_iff.mp hi).1
 have cne := I.cne
 have tracked : ∀ {a : Addr} {h' : Heap}, (∃ o, s.heap.get? a = some o ∧ H a = none) → Heap.SameBut a s.heap h' → HOk X.prog X.w H h' := fun {a h'} ha hs b ob e => by
  obtain ⟨_, _, hfree⟩ := ha
  refine (I.hok b ob e).stay (fun c w' hc q => (hs.2 c ?_).trans q) (fun _ q => q) fun _ _ q => q
  rintro rfl
  rcases hc with rfl | hc
  ·rw [hfree] at e; cases e
  ·rw [hfree] at hc; cases hc
 rcases hx with hk | hk
 ·refine wpAny_storeName_local hk hn (fun h' hn' hs => ?_) hcls
  obtain ⟨oL, _, _, hoL, _⟩ := id hn
  refine h _ ⟨I.ok, I.os, I.bare, ⟨fun b o e n hb hx => ?_, fun b o e n hb hx => ?_, I.base.free, fun b o e hx => ?_, I.base.tups, I.base.frzs, I.base.tbls⟩, ⟨_, hn', fun j y v' e1 e2 e3 => ?_⟩, fun y c e => ?_, I.free, I.freeC, fun p hp => ?_, tracked ⟨oL, hoL, I.free⟩ hs, by simpa using I.len⟩ ⟨_, hs, .inl rfl⟩
  ·exact (hs.2 b (Nat.ne_of_lt (Nat.lt_of_lt_of_le (Heap.lt_size e) I.ok.above))).trans (I.base.keep b o e n hb hx)
  ·obtain ⟨sl, e1⟩ := I.base.slot b o e n hb hx
   exact ⟨sl, (hs.2 b (Nat.ne_of_lt (Nat.lt_of_lt_of_le (Heap.lt_size e) I.ok.above))).trans e1⟩
  ·obtain ⟨o', e1⟩ := I.base.there b o e hx
   exact ⟨o', (hs.2 b (Nat.ne_of_lt (Nat.lt_of_lt_of_le (Heap.lt_size e) I.ok.above))).trans e1⟩
  ·by_cases hj : j = i
   ·subst hj
    rw [hi] at e1; cases e1
    rw [List.getElem?_set_self hiσ] at e2
    cases e2
    exact ⟨u, r, .inl ⟨hk, by simp⟩⟩
   ·rw [List.getElem?_set_ne (Ne.symm hj)] at e2
    obtain ⟨u', r', q⟩ := hl j y v' e1 e2 e3
    refine ⟨u', r', ?_⟩
    rcases q with ⟨k, e⟩ | ⟨k, c, e, z⟩
    ·refine .inl ⟨k, ?_⟩
     have : y ≠ x := fun e => hj (nodup_ix hN e1 (e ▸ hi))
     simp [this, e]
    ·exact .inr ⟨k, c, e, z.sameBut hs (cne y c e)⟩
  ·obtain ⟨w', z⟩ := I.cell y c e
   exact ⟨w', z.sameBut hs (cne y c e)⟩
  ·obtain ⟨e, n, ne, nf, d⟩ := I.pin p hp
   exact ⟨(hs.2 p.1 ne).trans e, n, ne, nf, d⟩
 ·have hfn : X.fn x = true := by
   rcases hf with z | z
   ·exact z
   ·rw [z] at hk; cases hk
  obtain ⟨c, hc⟩ := I.ok.has x (.inl hk)
  obtain ⟨w', z⟩ := I.cell x c hc
  refine wpAny_storeName_cell I.ok.kind hk hc z (fun h' hc' hs => ?_)
  obtain ⟨oc, hoc, hocd⟩ := id z
  refine h { s with heap := h' } ⟨I.ok, I.os, I.bare, ⟨fun b o e n hb hx => ?_, fun b o e n hb hx => ?_, I.base.free, fun b o e hx => ?_, I.base.tups, I.base.frzs, I.base.tbls⟩, ⟨m, hn.sameBut hs (Ne.symm (cne x c hc)), fun j y v' e1 e2 e3 => ?_⟩, fun y c' e => ?_, I.free, I.freeC, fun p hp => ?_, tracked ⟨oc, hoc, I.freeC x c hc⟩ hs, by simpa using I.len⟩ ⟨c, hs, .inr hc⟩
  ·exact (hs.2 b (Nat.ne_of_lt (Nat.lt_of_lt_of_le (Heap.lt_size e) (I.ok.cab x c hfn hc)))).trans (I.base.keep b o e n hb hx)
  ·obtain ⟨sl, e1⟩ := I.base.slot b o e n hb hx
   exact ⟨sl, (hs.2 b (Nat.ne_of_lt (Nat.lt_of_lt_of_le (Heap.lt_size e) (I.ok.cab x c hfn hc)))).trans e1⟩
  ·obtain ⟨o', e1⟩ := I.base.there b o e hx
   exact ⟨o', (hs.2 b (Nat.ne_of_lt (Nat.lt_of_lt_of_le (Heap.lt_size e) (I.ok.cab x c hfn hc)))).trans e1⟩
  ·by_cases hj : j = i
   ·subst hj
    rw [hi] at e1; cases e1
    rw [List.getElem?_set_self hiσ] at e2
    cases e2
    exact ⟨u, r, .inr ⟨.inl hk, c, hc, hc'⟩⟩
   ·rw [List.getElem?_set_ne (Ne.symm hj)] at e2
    obtain ⟨u', r', q⟩ := hl j y v' e1 e2 e3
    refine ⟨u', r', ?_⟩
    rcases q with q | ⟨k, c', e, z'⟩
    ·exact .inl q
    ·refine .inr ⟨k, c', e, z'.sameBut hs ?_⟩
     rintro rfl
     exact hj (nodup_ix hN e1 (I.ok.inj _ _ _ e hc ▸ hi))
  ·by_cases hcc : c' = c
   ·subst hcc; exact ⟨_, hc'⟩
   ·obtain ⟨w2, z2⟩ := I.cell y c' e
    exact ⟨w2, z2.sameBut hs hcc⟩
  ·obtain ⟨e, n, ne, nf, d⟩ := I.pin p hp
   refine ⟨(hs.2 p.1 ?_).trans e, n, ne, nf, d⟩
   intro q
   rw [q, hoc] at e
   have q' : oc = p.2 := Option.some.inj e
   exact d w' (by rw [← q']; exact hocd)
theorem store_ok {M : Model} {A : Around} {E : Value → Shared → Prop} {i : Nat} {x : Str} {v : V} {u : Value} {Q : Unit → Shared → Prop} (I : Inv X pins σ H s) (hN : X.N.Nodup) (hi : X.N[i]? = some x) (hx : Loc X.env.scope x) (r : RelV v u)
  (h : ∀ s', Inv X pins (σ.set i (some v)) H s' → Q () s') (hf : X.fn x = true ∨ X.env.scope.names.lookup x = some .local := by first | exact .inl rfl | exact .inr rfl | assumption) : wpAny M A (storeName X.env x u) Q E s :=
 store_ok2 I hN hi hx r (fun s' I' _ => h s' I') hf
theorem Inv.call' {s' : Shared} {ch : List Addr} (I : Inv X pins σ H s) (ho : s'.os = s.os) (u : Un (frs X.stack) ch H H' s.heap s'.heap) (hok : HOk X.prog X.w H' s'.heap) (hg : AllBare s'.gens)
  (hch : ∀ b ∈ ch, (b ∈ X.ex ∨ X.s₀.heap.objs.size ≤ b) ∧ b ≠ X.env.locals ∧ (∀ x c, X.env.cells.lookup x = some c → c ≠ b) ∧ ∀ p ∈ X.pn ++ pins, p.1 ≠ b) : Inv X pins σ H' s' := by
 obtain ⟨h', g', d', t', o'⟩ := s'
 have e : o' = s.os := ho
 subst e
 exact I.call (g' := g') (t' := t') (d' := d') u hok hg hch
end
abbrev XK := Value → Option Addr → Hp → Prop
abbrev St := List (Option V)
abbrev VK := V → Hp → Prop
abbrev TE := St → Hp → VK → Prop
abbrev TT := St → Hp → (Bool → Hp → Prop) → Prop
abbrev TA := St → Hp → (List V → Hp → Prop) → Prop
structure Ends where
 nx : St → Hp → Prop
 rt : VK
 bk : St → Hp → Prop := fun _ _ => False
 ct : St → Hp → Prop := fun _ _ => False
abbrev TS := Ends → St → Hp → Prop
def EP (X : Cx) (pins : List (Addr × Obj)) (σ : St) (Q : VK) (u : Value) (s' : Shared) : Prop := ∃ v H', Inv X pins σ H' s' ∧ RelV v u ∧ Q v H'
def TP (X : Cx) (pins : List (Addr × Obj)) (σ : St) (Q : Bool → Hp → Prop) (b : Bool) (s' : Shared) : Prop := ∃ H', Inv X pins σ H' s' ∧ Q b H'
def AP (X : Cx) (pins : List (Addr × Obj)) (σ : St) (Q : List V → Hp → Prop) (us : List Value) (s' : Shared) : Prop := ∃ vs H', Inv X pins σ H' s' ∧ Vals vs us ∧ Q vs H'
def SP (X : Cx) (pins : List (Addr × Obj)) (D : Ends) (f : Flow) (s' : Shared) : Prop :=
 match f with
 | .next => ∃ σ' H', Inv X pins σ' H' s' ∧ D.nx σ' H'
 | .brk => ∃ σ' H', Inv X pins σ' H' s' ∧ D.bk σ' H'
 | .cont => ∃ σ' H', Inv X pins σ' H' s' ∧ D.ct σ' H'
 | .ret u => ∃ v σ' H', Inv X pins σ' H' s' ∧ RelV v u ∧ D.rt v H'
def PE (X : Cx) (e : Expr) (t : TE) : Prop :=
 ∀ (pins : List (Addr × Obj)) (s : Shared) (σ : St) (H : Hp) (Q : VK), Inv X pins σ H s → t σ H Q → wpAny (model X.prog X.w) X.A (eval e X.env) (EP X pins σ Q) X.xe s
def PT (X : Cx) (e : Expr) (t : TT) : Prop :=
 ∀ (pins : List (Addr × Obj)) (s : Shared) (σ : St) (H : Hp) (Q : Bool → Hp → Prop), Inv X pins σ H s → t σ H Q → wpAny (model X.prog X.w) X.A (isTrue e X.env (eval e X.env)) (TP X pins σ Q) X.xe s
def PW (X : Cx) (e : Expr) (t : TT) : Prop :=
 ∀ (whole : Sem Value) (pins : List (Addr × Obj)) (s : Shared) (σ : St) (H : Hp) (Q : Bool → Hp → Prop), Inv X pins σ H s → t σ H Q → wpAny (model X.prog X.w) X.A (isTrue e X.env whole) (TP X pins σ Q) X.xe s
theorem PW.pt {X : Cx} {e : Expr} {t : TT} (h : PW X e t) : PT X e t := h _
def PA (X : Cx) (es : List Expr) (t : TA) : Prop :=
 ∀ (pos : Pos) (pins : List (Addr × Obj)) (s : Shared) (σ : St) (H : Hp) (Q : List V → Hp → Prop), Inv X pins σ H s → t σ H Q → wpAny (model X.prog X.w) X.A (spliced (backTo pos (starEach es X.env))) (AP X pins σ Q) X.xe s
def PS (X : Cx) (st : Stmt) (t : TS) : Prop :=
 ∀ (pins : List (Addr × Obj)) (s : Shared) (σ : St) (H : Hp) (D : Ends), Inv X pins σ H s → t D σ H → wpAny (model X.prog X.w) X.A (exec st X.env) (SP X pins D) X.xe s
def PSs (X : Cx) (st : List Stmt) (t : TS) : Prop :=
 ∀ (pins : List (Addr × Obj)) (s : Shared) (σ : St) (H : Hp) (D : Ends), Inv X pins σ H s → t D σ H → wpAny (model X.prog X.w) X.A (execs st X.env) (SP X pins D) X.xe s
theorem thn {α : Type} {t : Sem α} {Q Q' : α → Shared → Prop} {M : Model} {A : Around} {E : Value → Shared → Prop} {s : Shared} (h : wpAny M A t Q E s) (hQ : ∀ a s, Q a s → Q' a s) : wpAny M A t Q' E s := wpAny_mono h hQ fun _ _ x => x
end L2
namespace L2
open PySem PySem.Spec PyProof.Rows
section
variable {X : Cx}
def tVar (i : Nat) : TE := fun σ H Q => ∃ v, σ[i]? = some (some v) ∧ Q v H
def tC (v : V) : TE := fun _ H Q => Q v H
theorem pe_var {i : Nat} {x : Str} {pos : Pos} (hN : X.N[i]? = some x) (hv : Vis X.env.scope x) (hd : (x == ("__debug__" : Str)) = false := by decide) (hcd : (x == ("__classdict__" : Str)) = false := by decide) : PE X (.Name x pos) (tVar i) := by
 intro pins s σ H Q I h
 obtain ⟨v, e, h⟩ := h
 obtain ⟨m, hn, hl⟩ := I.loc
 obtain ⟨u, r, l⟩ := hl i x v hN e hv
 have fin : EP X pins σ Q u s := ⟨v, H, I, r, h⟩
 rcases l with ⟨hk, hm⟩ | ⟨hk, c, hc, hcell⟩
 ·exact wpAny_Name (wpAny_loadName_local I.ok.kind hk hn hm fin) hd
 ·rcases hk with hk | hk
  ·exact wpAny_Name (wpAny_loadName_cell I.ok.kind hk hc hcell fin) hd
  ·exact wpAny_Name (wpAny_loadName_free I.ok.kind hk hc hcell fin hcd) hd
theorem pe_int {i j pos} : PE X (.Constant (.int i) j pos) (tC (.int i)) := fun _ _ _ H _ I h => wpAny_Constant_int ⟨.int i, H, I.tok _, ⟨_, rfl⟩, h⟩
theorem pe_bl {b j pos} : PE X (.Constant (.bool b) j pos) (tC (.bl b)) := fun _ _ _ H _ I h => Constant_bool ⟨.bl b, H, I, rfl, h⟩
theorem pe_non {j pos} : PE X (.Constant .none j pos) (tC .non) := fun _ _ _ H _ I h => Constant_none ⟨.non, H, I, rfl, h⟩
theorem pe_str {x j pos} : PE X (.Constant (.str x) j pos) (tC (.str x)) := fun _ _ _ H _ I h => Calls.Constant_str ⟨.str x, H, I.tok _, ⟨_, rfl⟩, h⟩
def Gl (X : Cx) (x : Str) : Prop := X.env.kindOf x = some .globalImplicit
theorem ld_glob {E : Value → Shared → Prop} {pins : List (Addr × Obj)} {s : Shared} {σ : St} {H : Hp} {x : Str} {u : Value} {pos : Pos} {Q : Value → Shared → Prop} (I : Inv X pins σ H s) (hg : Gl X x) (hm : X.mg x = some u) (h : Q u s)
  (hd : (x == ("__debug__" : Str)) = false := by decide) : wpAny (model X.prog X.w) X.A (eval (.Name x pos) X.env) Q E s :=
 Calls.Name_function_global I.ok.kind hg (Calls.loadGlobal_global (by rw [I.ok.glob]; exact I.mod.glob.keeps I.bk) hm h) hd
theorem ld_blt {E : Value → Shared → Prop} {pins : List (Addr × Obj)} {s : Shared} {σ : St} {H : Hp} {x : Str} {u : Value} {pos : Pos} {Q : Value → Shared → Prop} (I : Inv X pins σ H s) (hg : Gl X x) (hm : X.mg x = none) (hv : bootBuiltins x = some u) (h : Q u s)
  (hn : x ≠ "__name__" := by decide) (hd : (x == ("__debug__" : Str)) = false := by decide) : wpAny (model X.prog X.w) X.A (eval (.Name x pos) X.env) Q E s := by
 obtain ⟨mb, h1, h2⟩ := I.mod.blt
 exact Calls.Name_function_global I.ok.kind hg (Calls.loadGlobal_builtin (by rw [I.ok.glob]; exact I.mod.glob.keeps I.bk) hm (by rw [I.ok.blt]; exact h1.keeps I.bk) ((h2 x hn).trans hv) h) hd
theorem pe_glob {x : Str} {v : V} {u : Value} {pos : Pos} (hg : Gl X x) (hm : X.mg x = some u) (r : RelV v u) (hd : (x == ("__debug__" : Str)) = false := by decide) : PE X (.Name x pos) (tC v) :=
 fun _ _ _ H _ I h => ld_glob I hg hm ⟨v, H, I, r, h⟩ hd
theorem pe_bltn {x : Str} {v : V} {u : Value} {pos : Pos} (hg : Gl X x) (hm : X.mg x = none) (hv : bootBuiltins x = some u) (r : RelV v u) (hn : x ≠ "__name__" := by decide) (hd : (x == ("__debug__" : Str)) = false := by decide) : PE X (.Name x pos) (tC v) :=
 fun _ _ _ H _ I h => ld_blt I hg hm hv ⟨v, H, I, r, h⟩ hn hd
variable {a b : Expr} {ta tb : TE} {pos : Pos}
def tB (t : TE) : TT := fun σ H Q => t σ H fun x H1 => ∃ c, x = .bl c ∧ Q c H1
theorem pt_val {e : Expr} {t : TE} (h : PE X e t) (he : ∀ whole, isTrue e X.env whole = (do let v ← whole; standAt e.pos; holding [v] (truthy v)) := by intro _; rfl) : PT X e (tB t) := by
 intro pins s σ H Q I hw
 refine isTrue_plain (thn (h pins s σ H _ I hw) fun v s1 ⟨x, H1, I1, r1, q1⟩ => ?_) (he _)
 obtain ⟨d, rfl, q⟩ := q1
 cases r1
 exact wpAny_truthy_bool ⟨H1, I1, q⟩
variable {tA tB' : TT} {rest : List Expr}
def tAnd (t u : TT) : TT := fun σ H Q => t σ H fun c H1 => if c = true then u σ H1 Q else Q false H1
def tOr (t u : TT) : TT := fun σ H Q => t σ H fun c H1 => if c = true then Q true H1 else u σ H1 Q
def tNot (t : TT) : TT := fun σ H Q => t σ H fun c H1 => Q (!c) H1
theorem pw_and1 (ha : PT X a tA) : PW X (.BoolOp .And [a] pos) tA := by
 intro wh pins s σ H Q I h
 refine isTrue_and (thn (ha pins s σ H Q I h) fun c s1 e => ?_)
 cases c with
 | true => exact isTrue_and_nil e
 | false => exact e
theorem pw_or1 (ha : PT X a tA) : PW X (.BoolOp .Or [a] pos) tA := by
 intro wh pins s σ H Q I h
 refine isTrue_or (thn (ha pins s σ H Q I h) fun c s1 e => ?_)
 cases c with
 | false => exact isTrue_or_nil e
 | true => exact e
theorem pw_and (ha : PT X a tA) (hb : PW X (.BoolOp .And (b :: rest) pos) tB') : PW X (.BoolOp .And (a :: b :: rest) pos) (tAnd tA tB') := by
 intro wh pins s σ H Q I h
 refine isTrue_and (thn (ha pins s σ H _ I h) fun c s1 ⟨H1, I1, q1⟩ => ?_)
 cases c with
 | true => exact hb wh pins s1 σ H1 Q I1 q1
 | false => exact ⟨H1, I1, q1⟩
theorem pw_or (ha : PT X a tA) (hb : PW X (.BoolOp .Or (b :: rest) pos) tB') : PW X (.BoolOp .Or (a :: b :: rest) pos) (tOr tA tB') := by
 intro wh pins s σ H Q I h
 refine isTrue_or (thn (ha pins s σ H _ I h) fun c s1 ⟨H1, I1, q1⟩ => ?_)
 cases c with
 | true => exact ⟨H1, I1, q1⟩
 | false => exact hb wh pins s1 σ H1 Q I1 q1
theorem pt_not (ha : PT X a tA) : PT X (.UnaryOp .Not a pos) (tNot tA) := by
 intro pins s σ H Q I h
 exact isTrue_not (ha pins s σ H (fun c H1 => Q (!c) H1) I h)
def tAndV (ta tb : TE) : TE := fun σ H Q => ta σ H fun x H1 => ∃ c, x = .bl c ∧ if c = true then tb σ H1 Q else Q (.bl false) H1
def tOrV (ta tb : TE) : TE := fun σ H Q => ta σ H fun x H1 => ∃ c, x = .bl c ∧ if c = true then Q (.bl true) H1 else tb σ H1 Q
def tNotV (ta : TE) : TE := fun σ H Q => ta σ H fun x H1 => ∃ c, x = .bl c ∧ Q (.bl (!c)) H1
theorem pe_one {op} {t : TE} (h : PE X a t) : PE X (.BoolOp op [a] pos) t := fun pins s σ H Q I hw => BoolOp_one (h pins s σ H Q I hw)
theorem pe_and (ha : PE X a ta) (hb : PE X (.BoolOp .And (b :: rest) pos) tb) : PE X (.BoolOp .And (a :: b :: rest) pos) (tAndV ta tb) := by
 intro pins s σ H Q I h
 refine BoolOp_and (thn (ha pins s σ H _ I h) fun v s1 ⟨x, H1, I1, r1, q1⟩ => ?_)
 obtain ⟨c, rfl, q1⟩ := q1
 cases r1
 refine wpAny_truthy_bool ?_
 cases c with
 | true => exact hb pins s1 σ H1 Q I1 q1
 | false => exact ⟨.bl false, H1, I1, rfl, q1⟩
theorem pe_or (ha : PE X a ta) (hb : PE X (.BoolOp .Or (b :: rest) pos) tb) : PE X (.BoolOp .Or (a :: b :: rest) pos) (tOrV ta tb) := by
 intro pins s σ H Q I h
 refine BoolOp_or (thn (ha pins s σ H _ I h) fun v s1 ⟨x, H1, I1, r1, q1⟩ => ?_)
 obtain ⟨c, rfl, q1⟩ := q1
 cases r1
 refine wpAny_truthy_bool ?_
 cases c with
 | false => exact hb pins s1 σ H1 Q I1 q1
 | true => exact ⟨.bl true, H1, I1, rfl, q1⟩
theorem pe_not (ha : PE X a ta) : PE X (.UnaryOp .Not a pos) (tNotV ta) := by
 intro pins s σ H Q I h
 refine UnaryOp_ (thn (ha pins s σ H _ I h) fun v s1 ⟨x, H1, I1, r1, q1⟩ => ?_)
 obtain ⟨c, rfl, q1⟩ := q1
 cases r1
 exact not_of (wpAny_truthy_bool ⟨.bl (!c), H1, I1, rfl, q1⟩)
def tIf (t : TT) (ta tb : TE) : TE := fun σ H Q => t σ H fun c H1 => if c = true then ta σ H1 Q else tb σ H1 Q
theorem pe_ifExp {c : Expr} (hc : PT X c tA) (ha : PE X a ta) (hb : PE X b tb) : PE X (.IfExp c a b pos) (tIf tA ta tb) := by
 intro pins s σ H Q I h
 refine wpAny_IfExp (thn (hc pins s σ H _ I h) fun d s1 ⟨H1, I1, q1⟩ => ?_)
 cases d with
 | true => exact ha pins s1 σ H1 Q I1 q1
 | false => exact hb pins s1 σ H1 Q I1 q1
end
end L2
namespace L2
open PySem PySem.Spec PyProof.Rows
def SqL (K : PySem.W.Frag) (H : Hp) (a : Addr) (xs : List V) : Prop :=
 Rd H a (.lst xs) ∨
  ∃ (o : Obj) (its : Array Value) (n : Nat), K.lookup a = some o ∧ o.cls = .type "list" ∧ o.dict = none ∧ o.data = .seq its n ∧ its.size ≤ sizeLine ∧ Vals xs its.toList
def SqT (K : PySem.W.Frag) (H : Hp) (a : Addr) (xs : List V) : Prop :=
 Rd H a (.tup xs) ∨
  ∃ (o : Obj) (its : Array Value) (n : Nat), K.lookup a = some o ∧ o.cls = .type "tuple" ∧ o.data = .seq its n ∧ its.size ≤ sizeLine ∧ Vals xs its.toList
def absV : Value → Option V
 | .none => some .non
 | .bool b => some (.bl b)
 | .int i _ => some (.int i)
 | .str x _ => some (.str x)
 | .bytes b _ => some (.byt b)
 | .float b _ => some (.flt b)
 | .ref a => some (.ref a)
 | .type n => some (.ty n)
 | _ => none
theorem RelV.abs {x : V} {u : Value} (r : RelV x u) : absV u = some x := by
 cases x with
 | non => cases r; rfl
 | bl _ => cases r; rfl
 | int _ => obtain ⟨t, rfl⟩ := r; rfl
 | str _ => obtain ⟨t, rfl⟩ := r; rfl
 | byt _ => obtain ⟨t, rfl⟩ := r; rfl
 | flt _ => obtain ⟨t, rfl⟩ := r; rfl
 | ref _ => cases r; rfl
 | ty _ => cases r; rfl
theorem RelV.inj {x y : V} {u : Value} (r : RelV x u) (q : RelV y u) : x = y := Option.some.inj (r.abs.symm.trans q.abs)
theorem Vals.inj : ∀ {xs ys : List V} {us : List Value}, Vals xs us → Vals ys us → xs = ys
 | _, _, _, .nil, .nil => rfl
 | _, _, _, .cons r t, .cons r' t' => by rw [r.inj r', Vals.inj t t']
section
variable {X : Cx} {pins : List (Addr × Obj)} {σ : St} {H : Hp} {s : Shared} {a : Addr} {xs ys : List V}
theorem SqL.of {K : PySem.W.Frag} (h : H a = some (.lst xs)) : SqL K H a xs := .inl (.inl h)
theorem SqT.of {K : PySem.W.Frag} (h : H a = some (.tup xs)) : SqT K H a xs := .inl (.inl h)
theorem Inv.list (I : Inv X pins σ H s) (h : SqL X.K H a xs) : ∃ its : List Value, Vals xs its ∧ PlainL s.heap a its.toArray ∧ xs.length ≤ sizeLine := by
 rcases h with h | ⟨o, its, n, hk, hc, hd, hs, hz, r⟩
 ·obtain ⟨z, its, n, r, e⟩ := h.ok I.hok
  exact ⟨its, r, ⟨_, n, e, rfl, rfl, rfl⟩, z⟩
 ·refine ⟨its.toList, r, ⟨o, n, I.kIn a o hk, hc, hd, by simpa using hs⟩, ?_⟩
  have e := r.length
  simp only [Array.length_toList] at e
  omega
theorem Inv.tuple (I : Inv X pins σ H s) (h : SqT X.K H a xs) : ∃ its : List Value, Vals xs its ∧ IsTup s.heap a its.toArray ∧ xs.length ≤ sizeLine := by
 rcases h with h | ⟨o, its, n, hk, hc, hs, hz, r⟩
 ·obtain ⟨z, its, r, p⟩ := h.ok I.hok
  exact ⟨its, r, p, z⟩
 ·refine ⟨its.toList, r, ⟨o, I.kIn a o hk, hc, n, by simpa using hs⟩, ?_⟩
  have e := r.length
  simp only [Array.length_toList] at e
  omega
theorem Inv.list_inj (I : Inv X pins σ H s) (h : SqL X.K H a xs) (h' : SqL X.K H a ys) : xs = ys := by
 obtain ⟨its, r, ⟨o, n, e, _, _, d⟩, _⟩ := I.list h
 obtain ⟨its', r', ⟨o', n', e', _, _, d'⟩, _⟩ := I.list h'
 rw [e] at e'; cases e'
 rw [d] at d'
 injection d' with d1 _
 have : its = its' := by simpa using congrArg Array.toList d1
 subst this
 exact r.inj r'
end
abbrev Cx.wish (X : Cx) (E : Value → Shared → Prop) : Cx := { X with xe := E }
abbrev Cx.nox (X : Cx) : Cx := X.wish fun _ _ => False
theorem Cx.Ok.wish {X : Cx} (ok : X.Ok) (E : Value → Shared → Prop) : (X.wish E).Ok :=
 ⟨ok.mod, ok.kind, ok.glob, ok.blt, ok.above, ok.inj, ok.has, ok.cab, ok.hd, ok.frames, ok.stk, ok.exf, ok.bs, ok.bsz, ok.noex, ok.exfs, ok.funs, ok.frf⟩
theorem Cx.Ok.unwish {X : Cx} {E : Value → Shared → Prop} (ok : (X.wish E).Ok) : X.Ok :=
 ⟨ok.mod, ok.kind, ok.glob, ok.blt, ok.above, ok.inj, ok.has, ok.cab, ok.hd, ok.frames, ok.stk, ok.exf, ok.bs, ok.bsz, ok.noex, ok.exfs, ok.funs, ok.frf⟩
section
variable {X : Cx} {pins : List (Addr × Obj)} {σ : St} {H : Hp} {s : Shared} {E : Value → Shared → Prop}
theorem Inv.wish (I : Inv X pins σ H s) (E : Value → Shared → Prop) : Inv (X.wish E) pins σ H s := ⟨I.ok.wish E, I.os, I.bare, I.base, I.loc, I.cell, I.free, I.freeC, I.pin, I.hok, I.len⟩
theorem Inv.unwish (I : Inv (X.wish E) pins σ H s) : Inv X pins σ H s := ⟨I.ok.unwish, I.os, I.bare, I.base, I.loc, I.cell, I.free, I.freeC, I.pin, I.hok, I.len⟩
theorem SP.unwish {D : Ends} {f : Flow} {s' : Shared} (h : SP (X.wish E) pins D f s') : SP X pins D f s' := by
 cases f with
 | next => obtain ⟨σ', H', I, q⟩ := h; exact ⟨σ', H', I.unwish, q⟩
 | brk => obtain ⟨σ', H', I, q⟩ := h; exact ⟨σ', H', I.unwish, q⟩
 | cont => obtain ⟨σ', H', I, q⟩ := h; exact ⟨σ', H', I.unwish, q⟩
 | ret u => obtain ⟨v, σ', H', I, r, q⟩ := h; exact ⟨v, σ', H', I.unwish, r, q⟩
theorem PSs.nox {st : List Stmt} {t : TS} (h : PSs X.nox st t) : PSs X st t := fun pins s σ H D I hw =>
 wpAny_mono (h pins s σ H D (I.wish _) hw) (fun _ _ q => q.unwish) fun _ _ z => False.elim z
end
section
variable {X : Cx} {st : Stmt} {rest : List Stmt} {t u : TS} {e : Expr} {te : TE} {pos : Pos}
def tNext : TS := fun D σ H => D.nx σ H
def tSeq (t u : TS) : TS := fun D σ H => t { D with nx := u D } σ H
theorem pss_nil : PSs X [] tNext := fun _ _ σ H _ I h => wpAny_execs_nil ⟨σ, H, I, h⟩
theorem pss_cons (h1 : PS X st t) (h2 : PSs X rest u) : PSs X (st :: rest) (tSeq t u) := by
 intro pins s σ H D I h
 refine wpAny_execs_cons (thn (h1 pins s σ H { D with nx := u D } I h) fun f s1 q => ?_)
 cases f with
 | next =>
  obtain ⟨σ', H', I', q⟩ := q
  exact h2 pins s1 σ' H' D I' q
 | ret v => exact q
 | brk => exact q
 | cont => exact q
theorem pss_one (h1 : PS X st t) : PSs X [st] t := by
 intro pins s σ H D I h
 refine wpAny_execs_cons (thn (h1 pins s σ H D I h) fun f s1 q => ?_)
 cases f with
 | next => exact wpAny_execs_nil q
 | ret v => exact q
 | brk => exact q
 | cont => exact q
theorem Inv.quiet {pins : List (Addr × Obj)} {σ : St} {H : Hp} {s : Shared} (I : Inv X pins σ H s) : interactive X.env = false := by simp [interactive, I.ok.kind]
def tDrop (te : TE) : TS := fun D σ H => te σ H fun _ H1 => D.nx σ H1
theorem ps_expr (he : PE X e te) (hs : swapsWith e none pos.line X.env = pure false := by rfl) : PS X (.Expr e pos) (tDrop te) := by
 intro pins s σ H D I h
 exact wpAny_Expr_any (thn (he pins s σ H _ I h) fun v s1 ⟨x, H1, I1, r1, q1⟩ => ⟨σ, H1, I1, q1⟩) I.quiet hs
def tRet (te : TE) : TS := fun D σ H => te σ H D.rt
theorem ps_ret (he : PE X e te) : PS X (.Return (some e) pos) (tRet te) := by
 intro pins s σ H D I h
 exact wpAny_Return_some (thn (he pins s σ H _ I h) fun v s1 ⟨x, H1, I1, r1, q1⟩ => ⟨x, σ, H1, I1, r1, q1⟩)
def tIfS (c : TT) (t u : TS) : TS := fun D σ H => c σ H fun b H1 => if b = true then t D σ H1 else u D σ H1
theorem ps_if {c : Expr} {a b : List Stmt} {tc : TT} (hc : PT X c tc) (ha : PSs X a t) (hb : PSs X b u) : PS X (.If c a b pos) (tIfS tc t u) := by
 intro pins s σ H D I h
 refine wpAny_If (thn (hc pins s σ H _ I h) fun d s1 ⟨H1, I1, q1⟩ => ?_)
 cases d with
 | true => exact ha pins s1 σ H1 D I1 q1
 | false => exact hb pins s1 σ H1 D I1 q1
def tNever : TS := fun _ _ _ => False
theorem ps_never : PS X st tNever := fun _ _ _ _ _ _ h => h.elim
end
abbrev TG := V → St → Hp → (St → Hp → Prop) → Prop
abbrev TGs := List V → St → Hp → (St → Hp → Prop) → Prop
def PG (X : Cx) (target : Expr) (t : TG) : Prop :=
 ∀ (pins : List (Addr × Obj)) (s : Shared) (σ : St) (H : Hp) (v : V) (u : Value) (Q : St → Hp → Prop), Inv X pins σ H s → RelV v u → t v σ H Q →
  wpAny (model X.prog X.w) X.A (assign target X.env u) (fun _ s' => ∃ σ' H', Inv X pins σ' H' s' ∧ Q σ' H') X.xe s
def PGs (X : Cx) (ts : List Expr) (t : TGs) : Prop :=
 ∀ (pins : List (Addr × Obj)) (s : Shared) (σ : St) (H : Hp) (vs : List V) (us : List Value) (Q : St → Hp → Prop), Inv X pins σ H s → Vals vs us → t vs σ H Q →
  wpAny (model X.prog X.w) X.A (assignInOrder ((assignEach ts X.env).map (·.2)) us) (fun _ s' => ∃ σ' H', Inv X pins σ' H' s' ∧ Q σ' H') X.xe s
section
variable {X : Cx} {pos : Pos}
def gName (i : Nat) : TG := fun v σ H Q => Q (σ.set i (some v)) H
theorem pg_name {i : Nat} {x : Str} (hN : X.N.Nodup) (hi : X.N[i]? = some x) (hx : Loc X.env.scope x) (hf : X.fn x = true ∨ X.env.scope.names.lookup x = some .local := by first | exact .inl rfl | exact .inr rfl | assumption) : PG X (.Name x pos) (gName i) := by
 intro pins s σ H v u Q I r h
 exact wpAny_assign_Name (store_ok I hN hi hx r (fun s' I' => ⟨_, H, I', h⟩) hf)
def gNil : TGs := fun vs σ H Q => vs = [] ∧ Q σ H
def gCons (t : TG) (u : TGs) : TGs := fun vs σ H Q => ∃ v r, vs = v :: r ∧ t v σ H fun σ' H' => u r σ' H' Q
theorem pgs_nil : PGs X [] gNil := by
 intro pins s σ H vs us Q I r h
 obtain ⟨e, h⟩ := h
 subst e
 cases r
 exact assignInOrder_nil ⟨σ, H, I, h⟩
theorem pgs_cons {e : Expr} {es : List Expr} {t : TG} {u : TGs} (h1 : PG X e t) (h2 : PGs X es u)
  (hs : (assignEach (e :: es) X.env).map (·.2) = assign e X.env :: (assignEach es X.env).map (·.2) := by rfl) : PGs X (e :: es) (gCons t u) := by
 intro pins s σ H vs us Q I r h
 obtain ⟨v, vr, e1, h⟩ := h
 subst e1
 cases r with
 | cons r rr =>
  rw [hs]
  refine assignInOrder_cons (thn (h1 pins s σ H _ _ _ I r h) fun _ s1 ⟨σ1, H1, I1, q1⟩ => ?_)
  exact h2 pins s1 σ1 H1 _ _ Q I1 rr q1
def gTup (K : PySem.W.Frag) (n : Nat) (t : TGs) : TG := fun v σ H Q => ∃ a xs, v = .ref a ∧ SqT K H a xs ∧ xs.length = n ∧ t xs σ H Q
theorem pg_tup {es : List Expr} {k : Nat} {t : TGs} {n : Nat} (hc : X.calm = true) (h : PGs X es t)
  (hn : (assignEach es X.env).length = n := by rfl) (hst : (assignEach es X.env).findIdx? (·.1) = none := by rfl) : PG X (.Tuple es k pos) (gTup X.K n t) := by
 intro pins s σ H v u Q I r hw
 obtain ⟨a, xs, e1, hq, hl, hw⟩ := hw
 subst e1
 cases r
 obtain ⟨its, rv, ht, hz⟩ := I.tuple hq
 refine assign_Tuple_tuple (I.ok.hd hc) ht (by simp [hn, ← hl, rv.length]) hst fun h' hx => ?_
 have I1 : Inv X pins σ H { s with heap := h' } := I.kept (t' := s.toks) fun b o e => hx b o (Nat.ne_of_lt (Heap.lt_size e)) e
 exact h pins _ σ H xs _ Q I1 (by simpa using rv) hw
def tAsg (te : TE) (g : TG) : TS := fun D σ H => te σ H fun x H1 => g x σ H1 D.nx
theorem ps_set {i : Nat} {x : Str} {e : Expr} {te : TE} {pos' : Pos} (hN : X.N.Nodup) (hi : X.N[i]? = some x) (hx : Loc X.env.scope x) (he : PE X e te) (hs : swapsWith e (some (.Name x pos')) pos.line X.env = pure false := by rfl) (hf : X.fn x = true ∨ X.env.scope.names.lookup x = some .local := by first | exact .inl rfl | exact .inr rfl | assumption) :
  PS X (.Assign [.Name x pos'] e pos) (tAsg te (gName i)) := by
 intro pins s σ H D I h
 refine wpAny_Assign_Name (thn (he pins s σ H _ I h) fun v s1 ⟨y, H1, I1, r1, q1⟩ => ?_) hs
 exact store_ok I1 hN hi hx r1 (fun s2 I2 => ⟨_, H1, I2, q1⟩) hf
end
section
variable {X : Cx} {pos : Pos}
end
structure It where
 go : Nat → Hp → Prop
 yld : Nat → Hp → V → Hp → Prop
 stop : Nat → Hp → Prop
def FpOk (X : Cx) (pins : List (Addr × Obj)) (H : Hp) (b : Addr) : Prop :=
 H b = none ∧ b ≠ X.env.locals ∧ b ∉ X.fs ∧ (b ∈ X.ex ∨ X.s₀.heap.objs.size ≤ b) ∧ (∀ x c, X.env.cells.lookup x = some c → c ≠ b) ∧ ∀ p ∈ X.pn ++ pins, p.1 ≠ b
theorem Inv.fpOk {X : Cx} {pins : List (Addr × Obj)} {σ : St} {H H' : Hp} {s : Shared} {b : Addr} (I : Inv X pins σ H s) (hb : s.heap.objs.size ≤ b) (hn : H' b = none) : FpOk X pins H' b := by
 refine ⟨hn, Nat.ne_of_gt (Nat.lt_of_lt_of_le I.lt hb), I.nofs hb, .inr (Nat.le_trans I.sz hb), fun x c e z => ?_, fun p hp z => ?_⟩
 ·obtain ⟨v, q⟩ := I.cell x c e
  exact absurd (Nat.lt_of_lt_of_le q.lt (by rw [z]; exact hb)) (Nat.lt_irrefl _)
 ·exact absurd (Nat.lt_of_lt_of_le (Heap.lt_size (I.pin p hp).1) (by rw [z]; exact hb)) (Nat.lt_irrefl _)
structure Turn (P : Program) (w : World) (K : PySem.W.Frag) (tg : Expr) (J : It) (fp : List Addr) (it : Addr) (tn : Nat → Heap → Prop) : Prop where
 mem : it ∈ fp
 obj : ∀ i h, tn i h → ∀ b ∈ fp, ∃ o, h.get? b = some o ∧ ∀ v, o.data ≠ .cell v
 keep : ∀ i h h', tn i h → (∀ b ∈ fp, ∀ o, h.get? b = some o → h'.get? b = some o) → tn i h'
 item : ∀ (X : Cx), X.prog = P → X.w = w → X.K = K → X.calm = true → ∀ (i : Nat) (pins : List (Addr × Obj)) (s : Shared) (σ : St) (H : Hp) (E : Value → Shared → Prop), Inv X pins σ H s → (∀ b ∈ fp, FpOk X pins H b) → tn i s.heap → J.go i H →
  wpAny (model P w) X.A (pyNext (.ref it)) (fun r s1 => ∃ u, r = some u ∧
   wpAny (model P w) X.A (letOwnedTupleGo tg (.ref it) u) (fun _ s2 => ∃ x H', Inv X pins σ H' s2 ∧ RelV x u ∧ J.yld i H x H' ∧ tn (i + 1) s2.heap ∧ ∀ b ∈ fp, H' b = none) E s1) E s
 done : ∀ (X : Cx), X.prog = P → X.w = w → X.K = K → X.calm = true → ∀ (i : Nat) (pins : List (Addr × Obj)) (s : Shared) (σ : St) (H : Hp) (E : Value → Shared → Prop), Inv X pins σ H s → (∀ b ∈ fp, FpOk X pins H b) → tn i s.heap → J.stop i H →
  wpAny (model P w) X.A (pyNext (.ref it)) (fun r s1 => r = none ∧ Inv X pins σ H s1) E s
 self : ∀ (A : Around) (i : Nat) (s : Shared) (Q : Value → Shared → Prop) (E : Value → Shared → Prop), tn i s.heap → Q (.ref it) s → wpAny (model P w) A (pyIter (.ref it)) Q E s
abbrev TI := St → Hp → (It → Hp → Prop) → Prop
def PIE (X : Cx) (pins : List (Addr × Obj)) (σ : St) (tg : Expr) (R : It → Hp → Prop) (itv : Value) (s2 : Shared) : Prop :=
 ∃ (it : Addr) (fp : List Addr) (tn : Nat → Heap → Prop) (J : It) (H' : Hp), itv = .ref it ∧ Inv X pins σ H' s2 ∧ Turn X.prog X.w X.K tg J fp it tn ∧ tn 0 s2.heap ∧ (∀ b ∈ fp, FpOk X pins H' b) ∧ R J H'
def PI (X : Cx) (tg iter : Expr) (wi : TI) : Prop :=
 ∀ (pins : List (Addr × Obj)) (s : Shared) (σ : St) (H : Hp) (R : It → Hp → Prop), Inv X pins σ H s → wi σ H R →
  wpAny (model X.prog X.w) X.A (eval iter X.env) (fun v s1 => wpAny (model X.prog X.w) X.A (pyIter v) (PIE X pins σ tg R) X.xe s1) X.xe s
theorem go_of {M : Model} {A : Around} {E : Value → Shared → Prop} {s : Shared} {tg : Expr} {it : Addr} {u : Value} {o : Obj} {n : String} {vs : Array Value} {Q : Unit → Shared → Prop} (ho : s.heap.get? it = some o) (hc : o.cls = .type n) (hd : o.data = .fields vs)
  (hn : ["enumerate", "zip", "dict_itemiterator", "dict_reverseitemiterator", "odict_iterator", "itertools.zip_longest", "itertools.pairwise"].contains n = false) (hQ : Q () s) : wpAny M A (letOwnedTupleGo tg (.ref it) u) Q E s := by
 unfold letOwnedTupleGo
 cases tg <;> first
  | exact wpAny_pure hQ
  | (cases u <;> first
    | exact wpAny_pure hQ
    | (refine wpAny_bind (wpAny_load ho ?_)
       rw [hc, hd]
       show wpAny M A (if (["enumerate", "zip", "dict_itemiterator", "dict_reverseitemiterator", "odict_iterator", "itertools.zip_longest", "itertools.pairwise"].contains n && vs[0]? == some (rawInt _)) = true then _ else _) Q E s
       rw [if_neg (by intro h; rw [hn, Bool.false_and] at h; cases h)]
       exact wpAny_pure hQ))
def Itl (K : PySem.W.Frag) (a : Addr) : It :=
 ⟨fun i H => ∃ xs x, SqL K H a xs ∧ xs[i]? = some x, fun i H x H' => H' = H ∧ ∀ xs, SqL K H a xs → xs[i]? = some x, fun i H => ∃ xs, SqL K H a xs ∧ xs.length ≤ i⟩
def Itr (lo : Int) (n : Nat) : It := ⟨fun i _ => i < n, fun i H x H' => H' = H ∧ x = .int (lo + i), fun i _ => n ≤ i⟩
theorem turn_list {P : Program} {w : World} {K : PySem.W.Frag} {tg : Expr} (a it : Addr) : Turn P w K tg (Itl K a) [it] it (fun i h => h.IsListIter it a i) where
 mem := by simp
 obj := fun i h st b hb => by
  have e : b = it := by simpa using hb
  subst e
  obtain ⟨o, e, c, d⟩ := st
  exact ⟨o, e, fun v z => by rw [d] at z; cases z⟩
 keep := fun i h h' st k => st.at fun o e => k it (by simp) o e
 item := by
  intro X hP hw hK hc i pins s σ H E I hf st hg
  subst hP hw hK
  obtain ⟨xs, x, hq, hx⟩ := hg
  obtain ⟨its, rv, p, hz⟩ := I.list hq
  obtain ⟨u, hu, ru⟩ := rv.get hx
  obtain ⟨f0, f1, f2, f3, f4, f5⟩ := hf it (by simp)
  refine wpAny_pyNext_list_item st p.isList (x := u) (by simpa using hu) fun h' st' sb => ?_
  have I1 : Inv X pins σ H { s with heap := h' } := I.turned (t' := s.toks) (fun b o hb e => (sb.2 b hb).trans e) f0 f1 f3 f4 f5
  obtain ⟨o, e, c, d⟩ := id st'
  exact ⟨u, rfl, go_of (s := { s with heap := h' }) e c d (by decide) ⟨x, H, I1, ru, ⟨rfl, fun ys hy => by rw [I.list_inj hy hq]; exact hx⟩, st', fun b hb => (hf b hb).1⟩⟩
 done := by
  intro X hP hw hK hc i pins s σ H E I hf st hg
  subst hP hw hK
  obtain ⟨xs, hq, hx⟩ := hg
  obtain ⟨its, rv, p, hz⟩ := I.list hq
  obtain ⟨f0, f1, f2, f3, f4, f5⟩ := hf it (by simp)
  have hl := rv.length
  exact wpAny_pyNext_list_end (I.ok.hd hc) st p.isList (by simp; omega) fun h' eb => ⟨rfl, I.turned (t' := s.toks) (fun b o hb e => eb b o hb e) f0 f1 f3 f4 f5⟩
 self := fun _ _ _ _ _ st h => wpAny_pyIter_listiter st h
theorem turn_range {P : Program} {w : World} {K : PySem.W.Frag} {tg : Expr} (it : Addr) (lo : Int) (n : Nat) : Turn P w K tg (Itr lo n) [it] it (fun i h => IsRangeIter h it (lo + (i : Nat) * 1) ((n : Int) - (i : Nat)) 1) where
 mem := by simp
 obj := fun i h st b hb => by
  have e : b = it := by simpa using hb
  subst e
  exact ⟨_, st, fun v z => by
   have z' : Data.fields _ = Data.cell v := z
   cases z'⟩
 keep := fun i h h' st k => k it (by simp) _ st
 item := by
  intro X hP hw hK hc i pins s σ H E I hf st hg
  subst hP hw hK
  obtain ⟨f0, f1, f2, f3, f4, f5⟩ := hf it (by simp)
  have W := Walks.range (prog := X.prog) (w := X.w) (I.ok.hd hc) it lo 1 n
  refine W.item i s _ _ hg st fun v h' tk hv st' kk => ?_
  obtain ⟨t, rfl⟩ := hv
  have I1 : Inv X pins σ H { s with heap := h', toks := tk } := I.turned (fun b o hb e => kk b o (by simpa using hb) e) f0 f1 f3 f4 f5
  refine ⟨_, rfl, go_of (s := { s with heap := h', toks := tk }) (n := "range_iterator") st' rfl rfl (by decide) ⟨.int (lo + i), H, I1, ⟨t, ?_⟩, ⟨rfl, rfl⟩, st', fun b hb => (hf b hb).1⟩⟩
  rw [Int.mul_one]
 done := by
  intro X hP hw hK hc i pins s σ H E I hf st hg
  subst hP hw hK
  obtain ⟨f0, f1, f2, f3, f4, f5⟩ := hf it (by simp)
  exact wpAny_pyNext_range_end (I.ok.hd hc) st (by have : n ≤ i := hg; omega) fun h' eb => ⟨rfl, I.turned (t' := s.toks) (fun b o hb e => eb b o hb e) f0 f1 f3 f4 f5⟩
 self := fun _ _ _ _ _ st h => wpAny_pyIter_rangeiter st h
end L2
namespace L2
open PySem PySem.Spec PyProof.Rows
section
variable {X : Cx} {tg : Expr}
def iList (K : PySem.W.Frag) (tl : TE) : TI := fun σ H R => tl σ H fun x H1 => ∃ a, x = .ref a ∧ (∃ xs, SqL K H1 a xs) ∧ R (Itl K a) H1
theorem pi_list {l : Expr} {tl : TE} (hl : PE X l tl) : PI X tg l (iList X.K tl) := by
 intro pins s σ H R I h
 refine thn (hl pins s σ H _ I h) fun v s1 ⟨x, H1, I1, r1, q1⟩ => ?_
 obtain ⟨a, e, ⟨xs, hq⟩, q⟩ := q1
 subst e
 cases r1
 obtain ⟨its, rv, p, hz⟩ := I1.list hq
 refine wpAny_pyIter_list p.isList ?_
 refine ⟨s1.heap.objs.size, [s1.heap.objs.size], _, _, H1, rfl, I1.kept (t' := s1.toks) fun b o e => Heap.get?_push_of_some _ e, turn_list a _, ⟨_, Heap.get?_push_size _ rfl, rfl, rfl⟩, fun b hb => ?_, q⟩
 have e : b = s1.heap.objs.size := by simpa using hb
 subst e
 exact I1.fpOk (Nat.le_refl _) (I1.hok.fresh (Nat.le_refl _))
theorem range_it {pins : List (Addr × Obj)} {σ : St} {H : Hp} {s : Shared} {R : It → Hp → Prop} {E : Value → Shared → Prop} {lo hi : Int} {t u v : Tok} {tk : Nat} (I : Inv X pins σ H s) (h1 : -(2 ^ 62) ≤ lo) (h2 : lo < 2 ^ 62) (h3 : -(2 ^ 62) ≤ hi) (h4 : hi < 2 ^ 62)
  (q : R (Itr lo (hi - lo).toNat) H) : wpAny (model X.prog X.w) X.A (pyIter (.ref s.heap.objs.size)) (PIE X pins σ tg R) E { s with heap := s.heap.push { cls := .type "range", data := .fields #[.int lo t, .int hi u, .int 1 v] }, toks := tk } := by
 refine wpAny_pyIter_range (IsRange.new ..) (small_one h1 h2 h3 h4) ?_
 have I1 : Inv X pins σ H { s with heap := s.heap.push { cls := .type "range", data := .fields #[.int lo t, .int hi u, .int 1 v] }, toks := tk } := I.kept fun b o e => Heap.get?_push_of_some _ e
 refine ⟨(s.heap.push { cls := .type "range", data := .fields #[.int lo t, .int hi u, .int 1 v] }).objs.size, [(s.heap.push { cls := .type "range", data := .fields #[.int lo t, .int hi u, .int 1 v] }).objs.size], _, _, H, rfl,
  I1.kept (t' := tk) fun b o e => Heap.get?_push_of_some _ e, turn_range _ lo (hi - lo).toNat, ?_, fun b hb => ?_, q⟩
 ·have e1 : lo + ((0 : Nat) : Int) * 1 = lo := by simp
  have e2 : (((hi - lo).toNat : Nat) : Int) - ((0 : Nat) : Int) = Builtin.Range.rangeSize lo hi 1 := by rw [rangeSize_one]; split <;> omega
  show IsRangeIter _ _ (lo + ((0 : Nat) : Int) * 1) ((((hi - lo).toNat : Nat) : Int) - ((0 : Nat) : Int)) 1
  rw [e1, e2]
  exact Heap.get?_push_size _ rfl
 ·have e : b = (s.heap.push { cls := .type "range", data := .fields #[.int lo t, .int hi u, .int 1 v] }).objs.size := by simpa using hb
  subst e
  exact I1.fpOk (Nat.le_refl _) (I1.hok.fresh (Nat.le_refl _))
def iRng1 (ta : TA) : TI := fun σ H R => ta σ H fun vs H1 => ∃ j : Int, vs = [.int j] ∧ -(2 ^ 62) ≤ j ∧ j < 2 ^ 62 ∧ R (Itr 0 j.toNat) H1
theorem pi_range1 {a : Expr} {ta : TA} {p pos : Pos} (hg : Gl X "range") (hm : X.mg "range" = none) (ha : PA X [a] ta) (hs : starEach [a] X.env = [(false, eval a X.env)] := by rfl) : PI X tg (.Call (.Name "range" p) [a] [] pos) (iRng1 ta) := by
 intro pins s σ H R I h
 refine Call_ (ld_blt I hg hm boot_range (PyProof.Rows.callWith_type1 (thn (ha pos pins s σ H _ I h) fun us s1 ⟨vs, H1, I1, r1, q1⟩ => ?_) hs rfl))
 obtain ⟨j, e, q1, q2, q⟩ := q1
 subst e
 cases r1 with
 | cons r rr =>
  cases rr
  obtain ⟨t, rfl⟩ := r
  exact call_range_1 (range_it I1 (by omega) (by omega) q1 q2 (by simpa using q))
def tFor (wi : TI) (g : TG) (tb : TS) : TS := fun D σ H => wi σ H fun J H1 => ∃ W : Nat → Nat → St → Hp → Prop, (∃ m, W 0 m σ H1) ∧ ∀ i m σ H, W i m σ H →
 (J.stop i H ∧ D.nx σ H) ∨ (J.go i H ∧ ∃ N : St → Hp → Prop, (∀ σ' H', N σ' H' → ∃ m', m' < m ∧ W (i + 1) m' σ' H') ∧ ∀ x H', J.yld i H x H' → g x σ H' fun σ2 H2 => tb { D with nx := N, ct := N, bk := D.nx } σ2 H2)
def pinsAt (fp : List Addr) (h : Heap) : List (Addr × Obj) := fp.filterMap fun b => (h.get? b).map fun o => (b, o)
theorem mem_pinsAt {fp : List Addr} {h : Heap} {b : Addr} {o : Obj} (hb : b ∈ fp) (e : h.get? b = some o) : (b, o) ∈ pinsAt fp h := List.mem_filterMap.mpr ⟨b, hb, by rw [e]; rfl⟩
theorem of_pinsAt {fp : List Addr} {h : Heap} {p : Addr × Obj} (hp : p ∈ pinsAt fp h) : p.1 ∈ fp ∧ h.get? p.1 = some p.2 := by
 obtain ⟨b, hb, e⟩ := List.mem_filterMap.mp hp
 cases q : h.get? b with
 | none => rw [q] at e; cases e
 | some o =>
  rw [q] at e
  have e' : (b, o) = p := Option.some.inj e
  subst e'
  exact ⟨hb, q⟩
theorem Inv.pinned {pins : List (Addr × Obj)} {σ : St} {H : Hp} {s : Shared} {fp : List Addr} (I : Inv X pins σ H s) (hf : ∀ b ∈ fp, FpOk X pins H b) (ho : ∀ b ∈ fp, ∃ o, s.heap.get? b = some o ∧ ∀ v, o.data ≠ .cell v) : Inv X (pins ++ pinsAt fp s.heap) σ H s :=
 I.pins_of fun p hp => (List.mem_append.mp hp).elim (fun z => I.pin p (List.mem_append_right _ z)) fun z => by
  obtain ⟨hb, e⟩ := of_pinsAt z
  obtain ⟨f0, f1, f2, _⟩ := hf p.1 hb
  obtain ⟨o, e', d⟩ := ho p.1 hb
  rw [e] at e'; cases e'
  exact ⟨e, f0, f1, f2, d⟩
theorem Inv.unpinned {pins pl : List (Addr × Obj)} {σ : St} {H : Hp} {s : Shared} (I : Inv X (pins ++ pl) σ H s) : Inv X pins σ H s := I.pins_of fun p hp => I.pin p (List.mem_append_right _ (List.mem_append_left _ hp))
theorem ps_for {iter : Expr} {body : List Stmt} {wi : TI} {g : TG} {tb : TS} {pos : Pos} (hp : PassesOwn (model X.prog X.w) X.A X.env X.xe) (hc : X.calm = true) (hi : PI X tg iter wi) (hg : PG X tg g) (hb : PSs X body tb)
  (hs : ∀ x, foldedSetIterable iter X.env x = pure x := by intro _; rfl) : PS X (.For tg iter body [] pos) (tFor wi g tb) := by
 intro pins s σ H D I h
 refine wpAny_For (thn (hi pins s σ H _ I h) fun v s1 h1 => thn h1 fun itv s2 h2 => ?_) hs
 obtain ⟨it, fp, tn, J, H2, e, I2, T, st2, f2, W, ⟨m0, w0⟩, turn⟩ := h2
 subst e
 have stat : ∀ {H' : Hp}, (∀ b ∈ fp, H' b = none) → ∀ b ∈ fp, FpOk X pins H' b := fun hn b hb => ⟨hn b hb, (f2 b hb).2⟩
 refine codeAny_forLoop_any (fun n s' => ∃ i σ' H', Inv X pins σ' H' s' ∧ tn i s'.heap ∧ (∀ b ∈ fp, H' b = none) ∧ W i n σ' H') ?_ m0 ⟨0, σ, H2, I2, st2, fun b hb => (f2 b hb).1, w0⟩
 rintro n s3 ⟨i, σ3, H3, I3, st3, fr3, w3⟩
 rcases turn i n σ3 H3 w3 with ⟨stop, qn⟩ | ⟨go, N, hN, step⟩
 ·refine wpAny_passesOwn hp (thn (T.done X rfl rfl rfl hc i pins s3 σ3 H3 X.xe I3 (stat fr3) st3 stop) fun r s4 ⟨hr, I4⟩ => ?_)
  subst hr
  exact wpAny_execs_nil ⟨σ3, H3, I4, qn⟩
 ·refine wpAny_passesOwn hp (thn (T.item X rfl rfl rfl hc i pins s3 σ3 H3 X.xe I3 (stat fr3) st3 go) fun r s4 ⟨u, hr, h4⟩ => ?_)
  subst hr
  refine wpAny_passesOwn hp (thn h4 fun _ s5 ⟨x, H5, I5, r5, y5, st5, fr5⟩ => ?_)
  have I5' := I5.pinned (stat fr5) (T.obj _ _ st5)
  refine wpAny_passesOwn hp (thn (hg _ s5 σ3 H5 x u _ I5' r5 (step x H5 y5)) fun _ s6 ⟨σ6, H6, I6, q6⟩ => ?_)
  refine wpAny_passesOwn hp (thn (hb _ s6 σ6 H6 _ I6 q6) fun f s7 q7 => ?_)
  have again : ∀ {σ7 : St} {H7 : Hp}, Inv X (pins ++ pinsAt fp s5.heap) σ7 H7 s7 → N σ7 H7 → ∃ m, m < n ∧ ∃ i σ' H', Inv X pins σ' H' s7 ∧ tn i s7.heap ∧ (∀ b ∈ fp, H' b = none) ∧ W i m σ' H' := fun {σ7 H7} I7 n7 => by
   obtain ⟨m', hm, w7⟩ := hN σ7 H7 n7
   refine ⟨m', hm, i + 1, σ7, H7, I7.unpinned, T.keep _ _ _ st5 fun b hb o e => (I7.pin (b, o) (List.mem_append_right _ (List.mem_append_right _ (mem_pinsAt hb e)))).1, fun b hb => ?_, w7⟩
   obtain ⟨o, e, d⟩ := T.obj _ _ st5 b hb
   exact (I7.pin (b, o) (List.mem_append_right _ (List.mem_append_right _ (mem_pinsAt hb e)))).2.1
  cases f with
  | next => obtain ⟨σ7, H7, I7, n7⟩ := q7; exact again I7 n7
  | cont => obtain ⟨σ7, H7, I7, n7⟩ := q7; exact again I7 n7
  | brk => obtain ⟨σ7, H7, I7, q7⟩ := q7; exact ⟨σ7, H7, I7.unpinned, q7⟩
  | ret v => obtain ⟨x7, σ7, H7, I7, r7, q7⟩ := q7; exact ⟨x7, σ7, H7, I7.unpinned, r7, q7⟩
end
theorem for_list {K : PySem.W.Frag} {a : Addr} {xs : List V} {g : TG} {tb : TS} {D : Ends} {σ : St} {H : Hp} (Pv : Nat → St → Hp → Prop) (h0 : Pv 0 σ H) (hl : ∀ i σ H, i ≤ xs.length → Pv i σ H → SqL K H a xs)
  (hs : ∀ i x σ H, xs[i]? = some x → Pv i σ H → g x σ H fun σ2 H2 => tb { D with nx := Pv (i + 1), ct := Pv (i + 1), bk := D.nx } σ2 H2) (hd : ∀ σ H, Pv xs.length σ H → D.nx σ H) :
  ∃ W : Nat → Nat → St → Hp → Prop, (∃ m, W 0 m σ H) ∧ ∀ i m σ H, W i m σ H →
   ((Itl K a).stop i H ∧ D.nx σ H) ∨ ((Itl K a).go i H ∧ ∃ N : St → Hp → Prop, (∀ σ' H', N σ' H' → ∃ m', m' < m ∧ W (i + 1) m' σ' H') ∧ ∀ x H', (Itl K a).yld i H x H' → g x σ H' fun σ2 H2 => tb { D with nx := N, ct := N, bk := D.nx } σ2 H2) := by
 refine ⟨fun i m σ H => m = xs.length - i ∧ i ≤ xs.length ∧ Pv i σ H, ⟨xs.length, by simp, Nat.zero_le _, h0⟩, ?_⟩
 rintro i m σ H ⟨rfl, hi, p⟩
 have q := hl i σ H hi p
 by_cases hlt : i < xs.length
 ·refine .inr ⟨⟨xs, xs[i], q, by simp [hlt]⟩, Pv (i + 1), fun σ' H' p' => ⟨xs.length - (i + 1), by omega, rfl, hlt, p'⟩, fun x H' y => ?_⟩
  obtain ⟨e, y⟩ := y
  subst e
  exact hs i x σ _ (y xs q) p
 ·have e : i = xs.length := by omega
  subst e
  exact .inl ⟨⟨xs, q, Nat.le_refl _⟩, hd σ H p⟩
end L2
namespace L2
open PySem PySem.Spec PyProof.Rows
abbrev R2 := V → V → Hp → VK → Prop
def OpR (X : Cx) (f : Value → Value → Sem Value) (r : R2) : Prop :=
 ∀ (pins : List (Addr × Obj)) (s : Shared) (σ : St) (H : Hp) (x y : V) (v u : Value) (Q : VK), Inv X pins σ H s → RelV x v → RelV y u → r x y H Q →
  wpAny (model X.prog X.w) X.A (f v u) (EP X pins σ Q) X.xe s
def UnR (X : Cx) (f : Value → Sem Value) (r : V → Hp → VK → Prop) : Prop :=
 ∀ (pins : List (Addr × Obj)) (s : Shared) (σ : St) (H : Hp) (x : V) (v : Value) (Q : VK), Inv X pins σ H s → RelV x v → r x H Q →
  wpAny (model X.prog X.w) X.A (f v) (EP X pins σ Q) X.xe s
def CallR (X : Cx) (f : Value) (r : List V → Hp → VK → Prop) : Prop :=
 ∀ (pins : List (Addr × Obj)) (s : Shared) (σ : St) (H : Hp) (xs : List V) (us : List Value) (Q : VK), Inv X pins σ H s → Vals xs us → r xs H Q →
  wpAny (model X.prog X.w) X.A (call f us) (EP X pins σ Q) X.xe s
def tOp (r : R2) (ta tb : TE) : TE := fun σ H Q => ta σ H fun x H1 => tb σ H1 fun y H2 => r x y H2 Q
def tUn (r : V → Hp → VK → Prop) (ta : TE) : TE := fun σ H Q => ta σ H fun x H1 => r x H1 Q
def rI (C : Int → Int → Prop) (g : Int → Int → V) : R2 := fun x y H Q => ∃ i j, x = .int i ∧ y = .int j ∧ C i j ∧ Q (g i j) H
def rI0 (g : Int → Int → V) : R2 := fun x y H Q => ∃ i j, x = .int i ∧ y = .int j ∧ Q (g i j) H
def rU (g : Int → V) : V → Hp → VK → Prop := fun x H Q => ∃ i, x = .int i ∧ Q (g i) H
section
variable {X : Cx} {a b c : Expr} {ta tb tc : TE} {pos : Pos}
theorem binT (ha : PE X a ta) (hb : PE X b tb) {pins : List (Addr × Obj)} {s : Shared} {σ : St} {H : Hp} {R : V → V → Hp → Prop} (I : Inv X pins σ H s)
  (h : ta σ H fun x H1 => tb σ H1 fun y H2 => R x y H2) {Q : Value → Shared → Prop} {f : Value → Value → Sem Value}
  (hf : ∀ v u s2 x y H2, Inv X pins σ H2 s2 → RelV x v → RelV y u → R x y H2 → wpAny (model X.prog X.w) X.A (f v u) Q X.xe s2) :
  wpAny (model X.prog X.w) X.A (eval a X.env) (fun v s₁ => wpAny (model X.prog X.w) X.A (eval b X.env) (fun u s₂ => wpAny (model X.prog X.w) X.A (f v u) Q X.xe s₂) X.xe s₁) X.xe s := by
 refine thn (ha pins s σ H _ I h) fun v s1 ⟨x, H1, I1, r1, q1⟩ => ?_
 refine thn (hb pins s1 σ H1 _ I1 q1) fun u s2 ⟨y, H2, I2, r2, q2⟩ => ?_
 exact hf v u s2 x y H2 I2 r1 r2 q2
theorem pe_op {op : Operator} {r : R2} (ho : OpR X (binaryOp op) r) (ha : PE X a ta) (hb : PE X b tb) : PE X (.BinOp a op b pos) (tOp r ta tb) := by
 intro pins s σ H Q I h
 exact wpAny_BinOp (binT ha hb I h fun v u s2 x y H2 I2 rx ry q => ho pins s2 σ H2 x y v u Q I2 rx ry q)
theorem pe_un {op : UnaryOp} {r : V → Hp → VK → Prop} (ho : UnR X (unaryOp op) r) (ha : PE X a ta) : PE X (.UnaryOp op a pos) (tUn r ta) := by
 intro pins s σ H Q I h
 exact UnaryOp_ (thn (ha pins s σ H _ I h) fun v s1 ⟨x, H1, I1, r1, q1⟩ => ho pins s1 σ H1 x v Q I1 r1 q1)
theorem opI {f : Value → Value → Sem Value} {C : Int → Int → Prop} {g : Int → Int → Int}
  (rule : ∀ (i j : Int) (t u : Tok) (s : Shared) (Q : Value → Shared → Prop) (E : Value → Shared → Prop), C i j → Q (.int (g i j) s.toks) { s with toks := s.toks + 1 } → wpAny (model X.prog X.w) X.A (f (.int i t) (.int j u)) Q E s) :
  OpR X f (rI C fun i j => .int (g i j)) := by
 intro pins s σ H x y v u Q I rx ry h
 obtain ⟨i, j, rfl, rfl, hc, q⟩ := h
 obtain ⟨t, rfl⟩ := rx
 obtain ⟨t', rfl⟩ := ry
 exact rule i j t t' s _ _ hc ⟨.int (g i j), H, I.tok _, ⟨_, rfl⟩, q⟩
theorem opI0 {f : Value → Value → Sem Value} {g : Int → Int → Int}
  (rule : ∀ (i j : Int) (t u : Tok) (s : Shared) (Q : Value → Shared → Prop) (E : Value → Shared → Prop), Q (.int (g i j) s.toks) { s with toks := s.toks + 1 } → wpAny (model X.prog X.w) X.A (f (.int i t) (.int j u)) Q E s) :
  OpR X f (rI0 fun i j => .int (g i j)) := by
 intro pins s σ H x y v u Q I rx ry h
 obtain ⟨i, j, rfl, rfl, q⟩ := h
 obtain ⟨t, rfl⟩ := rx
 obtain ⟨t', rfl⟩ := ry
 exact rule i j t t' s _ _ ⟨.int (g i j), H, I.tok _, ⟨_, rfl⟩, q⟩
theorem opB0 {f : Value → Value → Sem Value} {g : Int → Int → Bool}
  (rule : ∀ (i j : Int) (t u : Tok) (s : Shared) (Q : Value → Shared → Prop) (E : Value → Shared → Prop), Q (.bool (g i j)) s → wpAny (model X.prog X.w) X.A (f (.int i t) (.int j u)) Q E s) :
  OpR X f (rI0 fun i j => .bl (g i j)) := by
 intro pins s σ H x y v u Q I rx ry h
 obtain ⟨i, j, rfl, rfl, q⟩ := h
 obtain ⟨t, rfl⟩ := rx
 obtain ⟨t', rfl⟩ := ry
 exact rule i j t t' s _ _ ⟨.bl (g i j), H, I, rfl, q⟩
def CDiv (i j : Int) : Prop := 0 < j ∧ j < 1073741824
def CMul (i j : Int) : Prop := (-(2 ^ 64) < i ∧ i < 2 ^ 64) ∨ (-(2 ^ 64) < j ∧ j < 2 ^ 64)
theorem CMul.ok {i j : Int} (h : CMul i j) : IntMulOk i j := by
 rcases h with ⟨h1, h2⟩ | ⟨h1, h2⟩
 ·exact .of_left (intBits_le_64 h1 h2)
 ·exact .of_right (intBits_le_64 h1 h2)
theorem op_add : OpR X (binaryOp .Add) (rI0 fun i j => .int (i + j)) := opI0 fun _ _ _ _ _ _ _ q => add_int q
theorem op_sub : OpR X (binaryOp .Sub) (rI0 fun i j => .int (i - j)) := opI0 fun _ _ _ _ _ _ _ q => sub_int q
theorem op_mul : OpR X (binaryOp .Mult) (rI CMul fun i j => .int (i * j)) := opI fun _ _ _ _ _ _ _ hc q => mul_int q hc.ok
theorem op_fdiv : OpR X (binaryOp .FloorDiv) (rI CDiv fun i j => .int (i / j)) := opI fun i j _ _ _ _ _ hc q => by
 have h1 : (0 : Int) < j := hc.1
 have h2 : j < 1073741824 := hc.2
 exact floordiv_int (by omega) (by rw [Int.fdiv_eq_ediv_of_nonneg i (by omega)]; exact q) (.inl (PyProof.noPylong_small (by omega)))
theorem op_mod : OpR X (binaryOp .Mod) (rI (fun _ j => 0 < j) fun i j => .int (i % j)) := opI fun i j _ _ _ _ _ hc q => by
 have h1 : (0 : Int) < j := hc
 exact mod_int' (by omega) (by rw [Int.fmod_eq_emod_of_nonneg i (by omega)]; exact q)
theorem unI {f : Value → Sem Value} {g : Int → Int}
  (rule : ∀ (i : Int) (t : Tok) (s : Shared) (Q : Value → Shared → Prop) (E : Value → Shared → Prop), Q (.int (g i) s.toks) { s with toks := s.toks + 1 } → wpAny (model X.prog X.w) X.A (f (.int i t)) Q E s) :
  UnR X f (rU fun i => .int (g i)) := by
 intro pins s σ H x v Q I rx h
 obtain ⟨i, rfl, q⟩ := h
 obtain ⟨t, rfl⟩ := rx
 exact rule i t s _ _ ⟨.int (g i), H, I.tok _, ⟨_, rfl⟩, q⟩
theorem un_neg : UnR X (unaryOp .USub) (rU fun i => .int (-i)) := unI fun _ _ _ _ _ q => neg_int q
end
def scal : V → V → Bool
 | .non, .non => true | .non, .int _ => true | .int _, .non => true | .non, .bl _ => true | .bl _, .non => true | .non, .str _ => true | .str _, .non => true
 | .int _, .int _ => true | .bl _, .bl _ => true | .str _, .str _ => true | .byt _, .byt _ => true
 | .int _, .str _ => true | .str _, .int _ => true | .bl _, .str _ => true | .str _, .bl _ => true
 | _, _ => false
def rEq : R2 := fun x y H Q => scal x y = true ∧ Q (.bl (decide (x = y))) H
def rNe : R2 := fun x y H Q => scal x y = true ∧ Q (.bl (!decide (x = y))) H
theorem dec_int {i j : Int} : decide (V.int i = V.int j) = (i == j) := by
 rw [Bool.eq_iff_iff]
 simp
theorem dec_bl {i j : Bool} : decide (V.bl i = V.bl j) = (i == j) := by
 rw [Bool.eq_iff_iff]
 simp
theorem dec_str {i j : Str} : decide (V.str i = V.str j) = (i == j) := by
 rw [Bool.eq_iff_iff]
 simp
theorem dec_byt {i j : Array UInt8} : decide (V.byt i = V.byt j) = (i.toList == j.toList) := by
 rw [Bool.eq_iff_iff]
 cases i
 cases j
 simp
section
variable {X : Cx} {a b c : Expr} {ta tb tc : TE} {pos : Pos}
theorem fin_bl {pins : List (Addr × Obj)} {σ : St} {H : Hp} {s : Shared} {Q : VK} {k k' : Bool} (I : Inv X pins σ H s) (q : Q (.bl k) H) (e : k = k') : EP X pins σ Q (.bool k') s := by
 subst e
 exact ⟨.bl k, H, I, rfl, q⟩
theorem op_eq : OpR X (compareOp .Eq) rEq := by
 intro pins s σ H x y v u Q I rx ry h
 obtain ⟨hs, q⟩ := h
 cases x with
 | non =>
  cases rx
  cases y with
  | non => cases ry; exact PySem.EqNone.eq_none_none (fin_bl I q (by simp))
  | bl j => cases ry; exact PySem.EqNone.eq_none_bool (fin_bl I q (by simp))
  | int j => obtain ⟨t', rfl⟩ := ry; exact PySem.EqNone.eq_none_int (fin_bl I q (by simp))
  | str j => obtain ⟨t', rfl⟩ := ry; exact PySem.EqNone.eq_none_str (fin_bl I q (by simp))
  | _ => exact absurd (show false = true from hs) Bool.false_ne_true
 | bl i =>
  cases rx
  cases y with
  | non => cases ry; exact PySem.EqNone.eq_bool_none (fin_bl I q (by simp))
  | bl j => cases ry; exact eq_bool (fin_bl I q dec_bl)
  | str j => obtain ⟨t', rfl⟩ := ry; exact PySem.EqMixed.eq_bool_str (fin_bl I q (by simp))
  | _ => exact absurd (show false = true from hs) Bool.false_ne_true
 | int i =>
  obtain ⟨t, rfl⟩ := rx
  cases y with
  | non => cases ry; exact PySem.EqNone.eq_int_none (fin_bl I q (by simp))
  | int j => obtain ⟨t', rfl⟩ := ry; exact eq_int (fin_bl I q dec_int)
  | str j => obtain ⟨t', rfl⟩ := ry; exact PySem.EqMixed.eq_int_str (fin_bl I q (by simp))
  | _ => exact absurd (show false = true from hs) Bool.false_ne_true
 | str i =>
  obtain ⟨t, rfl⟩ := rx
  cases y with
  | non => cases ry; exact PySem.EqNone.eq_str_none (fin_bl I q (by simp))
  | bl j => cases ry; exact PySem.EqMixed.eq_str_bool (fin_bl I q (by simp))
  | int j => obtain ⟨t', rfl⟩ := ry; exact PySem.EqMixed.eq_str_int (fin_bl I q (by simp))
  | str j => obtain ⟨t', rfl⟩ := ry; exact eq_str (fin_bl I q dec_str)
  | _ => exact absurd (show false = true from hs) Bool.false_ne_true
 | byt i =>
  obtain ⟨t, rfl⟩ := rx
  cases y with
  | byt j => obtain ⟨t', rfl⟩ := ry; exact PySem.W.eq_bytes (fin_bl I q dec_byt)
  | _ => exact absurd (show false = true from hs) Bool.false_ne_true
 | _ => cases y <;> exact absurd (show false = true from hs) Bool.false_ne_true
theorem op_ne : OpR X (compareOp .NotEq) rNe := by
 intro pins s σ H x y v u Q I rx ry h
 obtain ⟨hs, q⟩ := h
 cases x with
 | non =>
  cases rx
  cases y with
  | non => cases ry; exact PySem.EqNone.ne_none_none (fin_bl I q (by simp))
  | bl j => cases ry; exact PySem.EqNone.ne_none_bool (fin_bl I q (by simp))
  | int j => obtain ⟨t', rfl⟩ := ry; exact PySem.EqNone.ne_none_int (fin_bl I q (by simp))
  | str j => obtain ⟨t', rfl⟩ := ry; exact PySem.EqNone.ne_none_str (fin_bl I q (by simp))
  | _ => exact absurd (show false = true from hs) Bool.false_ne_true
 | bl i =>
  cases rx
  cases y with
  | non => cases ry; exact PySem.EqNone.ne_bool_none (fin_bl I q (by simp))
  | bl j => cases ry; exact ne_bool (fin_bl I q (congrArg not dec_bl))
  | str j => obtain ⟨t', rfl⟩ := ry; exact PySem.EqMixed.ne_bool_str (fin_bl I q (by simp))
  | _ => exact absurd (show false = true from hs) Bool.false_ne_true
 | int i =>
  obtain ⟨t, rfl⟩ := rx
  cases y with
  | non => cases ry; exact PySem.EqNone.ne_int_none (fin_bl I q (by simp))
  | int j => obtain ⟨t', rfl⟩ := ry; exact ne_int (fin_bl I q (congrArg not dec_int))
  | str j => obtain ⟨t', rfl⟩ := ry; exact PySem.EqMixed.ne_int_str (fin_bl I q (by simp))
  | _ => exact absurd (show false = true from hs) Bool.false_ne_true
 | str i =>
  obtain ⟨t, rfl⟩ := rx
  cases y with
  | non => cases ry; exact PySem.EqNone.ne_str_none (fin_bl I q (by simp))
  | bl j => cases ry; exact PySem.EqMixed.ne_str_bool (fin_bl I q (by simp))
  | int j => obtain ⟨t', rfl⟩ := ry; exact PySem.EqMixed.ne_str_int (fin_bl I q (by simp))
  | str j => obtain ⟨t', rfl⟩ := ry; exact ne_str (fin_bl I q (congrArg not dec_str))
  | _ => exact absurd (show false = true from hs) Bool.false_ne_true
 | byt i =>
  obtain ⟨t, rfl⟩ := rx
  cases y with
  | byt j => obtain ⟨t', rfl⟩ := ry; exact PySem.W.ne_bytes (fin_bl I q (congrArg not dec_byt))
  | _ => exact absurd (show false = true from hs) Bool.false_ne_true
 | _ => cases y <;> exact absurd (show false = true from hs) Bool.false_ne_true
theorem op_lt : OpR X (compareOp .Lt) (rI0 fun i j => .bl (decide (i < j))) := opB0 fun _ _ _ _ _ _ _ q => lt_int q
theorem op_le : OpR X (compareOp .LtE) (rI0 fun i j => .bl (decide (i ≤ j))) := opB0 fun _ _ _ _ _ _ _ q => le_int q
theorem op_gt : OpR X (compareOp .Gt) (rI0 fun i j => .bl (decide (j < i))) := opB0 fun _ _ _ _ _ _ _ q => gt_int q
theorem op_ge : OpR X (compareOp .GtE) (rI0 fun i j => .bl (decide (j ≤ i))) := opB0 fun _ _ _ _ _ _ _ q => ge_int q
theorem op_in_str : OpR X (compareOp .In) (fun x y H Q => ∃ i j, x = .str i ∧ y = .str j ∧ Q (.bl (!(Builtin.Str.occurrences j i 0 j.length 1).isEmpty)) H) := by
 intro pins s σ H x y v u Q I rx ry h
 obtain ⟨i, j, rfl, rfl, q⟩ := h
 obtain ⟨t, rfl⟩ := rx
 obtain ⟨t', rfl⟩ := ry
 exact in_str (fin_bl I q rfl)
theorem op_notN : OpR X (compareOp .IsNot) (fun x y H Q => y = .non ∧ Q (.bl (!decide (x = .non))) H) := by
 intro pins s σ H x y v u Q I rx ry h
 obtain ⟨rfl, q⟩ := h
 cases ry
 refine isnot_none_gen (fin_bl I q ?_)
 cases x <;> first
  | (cases rx; rfl)
  | (obtain ⟨t, rfl⟩ := rx; rfl)
theorem nomark (b : Expr) {op : CmpOp} (h : op ≠ .In := by decide) (h2 : op ≠ .NotIn := by decide) : behindInMarks op b = false := by
 have e1 : (op == CmpOp.In) = false := by cases op <;> first | rfl | exact absurd rfl h
 have e2 : (op == CmpOp.NotIn) = false := by cases op <;> first | rfl | exact absurd rfl h2
 cases b <;> simp [behindInMarks, e1, e2]
theorem pe_cmpR {op : CmpOp} {r : R2} (ho : OpR X (compareOp op) r) (ha : PE X a ta) (hb : PE X b tb) (hm : behindInMarks op b = false) : PE X (.Compare a [op] [b] pos) (tOp r ta tb) := by
 intro pins s σ H Q I h
 exact wpAny_Compare1 (binT ha hb I h fun v u s2 x y H2 I2 rx ry q => ho pins s2 σ H2 x y v u Q I2 rx ry q) hm
def tTest (t : TE) : TT := fun σ H Q => t σ H fun x H' => ∃ k, x = .bl k ∧ Q k H'
theorem pt_cmpR {op : CmpOp} {r : R2} (ho : OpR X (compareOp op) r) (ha : PE X a ta) (hb : PE X b tb) (hm : behindInMarks op b = false) : PT X (.Compare a [op] [b] pos) (tTest (tOp r ta tb)) := by
 intro pins s σ H Q I h
 refine wpAny_isTrue_Compare1 (thn (ha pins s σ H _ I h) fun v s1 ⟨x, H1, I1, r1, q1⟩ => thn (hb pins s1 σ H1 _ I1 q1) fun u s2 ⟨y, H2, I2, r2, q2⟩ =>
  thn (ho pins s2 σ H2 x y v u _ I2 r1 r2 q2) fun c s3 ⟨z, H3, I3, r3, k, e, q3⟩ => ?_) hm
 subst e
 cases r3
 exact wpAny_truthy_bool ⟨H3, I3, q3⟩
def tChain (r r' : R2) (ta tb tc : TE) : TE := fun σ H Q => ta σ H fun x H1 => tb σ H1 fun y H2 => r x y H2 fun z H3 => ∃ k, z = .bl k ∧
 (if k = true then tc σ H3 fun w' H4 => r' y w' H4 Q else Q (.bl false) H3)
theorem pe_chain {op op' : CmpOp} {r r' : R2} (ho : OpR X (compareOp op) r) (ho' : OpR X (compareOp op') r') (ha : PE X a ta) (hb : PE X b tb) (hc : PE X c tc)
  (hm : lastMarks [op, op'] [b, c] = false := by with_unfolding_all rfl) : PE X (.Compare a [op, op'] [b, c] pos) (tChain r r' ta tb tc) := by
 intro pins s σ H Q I h
 refine Compare_chain (thn (ha pins s σ H _ I h) fun v s1 ⟨x, H1, I1, r1, q1⟩ => chain_link (thn (hb pins s1 σ H1 _ I1 q1) fun u s2 ⟨y, H2, I2, r2, q2⟩ =>
  thn (ho pins s2 σ H2 x y v u _ I2 r1 r2 q2) fun d s3 ⟨z, H3, I3, r3, k, e, q3⟩ => ?_)) hm
 subst e
 cases r3
 refine wpAny_truthy_bool ?_
 cases k with
 | false => exact ite_ff ⟨.bl false, H3, I3, rfl, q3⟩
 | true => exact ite_tt (chain_last (thn (hc pins s3 σ H3 _ I3 q3) fun w' s4 ⟨z', H4, I4, r4, q4⟩ => ho' pins s4 σ H4 y z' u w' Q I4 r2 r4 q4))
theorem pt_chain {op op' : CmpOp} {r r' : R2} (ho : OpR X (compareOp op) r) (ho' : OpR X (compareOp op') r') (ha : PE X a ta) (hb : PE X b tb) (hc : PE X c tc)
  (hm : lastMarks [op, op'] [b, c] = false := by with_unfolding_all rfl) : PT X (.Compare a [op, op'] [b, c] pos) (tTest (tChain r r' ta tb tc)) := by
 intro pins s σ H Q I h
 refine isTrue_chain (thn (ha pins s σ H _ I h) fun v s1 ⟨x, H1, I1, r1, q1⟩ => test_link (thn (hb pins s1 σ H1 _ I1 q1) fun u s2 ⟨y, H2, I2, r2, q2⟩ =>
  thn (ho pins s2 σ H2 x y v u _ I2 r1 r2 q2) fun d s3 ⟨z, H3, I3, r3, k, e, q3⟩ => ?_)) hm
 subst e
 cases r3
 refine wpAny_truthy_bool ?_
 cases k with
 | false =>
  obtain ⟨k', e', q'⟩ := q3
  cases e'
  exact ite_ff ⟨H3, I3, q'⟩
 | true =>
  refine ite_tt (test_last (thn (hc pins s3 σ H3 _ I3 q3) fun w' s4 ⟨z', H4, I4, r4, q4⟩ => thn (ho' pins s4 σ H4 y z' u w' _ I4 r2 r4 q4) fun d' s5 ⟨z2, H5, I5, r5, k2, e2, q5⟩ => ?_))
  subst e2
  cases r5
  exact wpAny_truthy_bool ⟨H5, I5, q5⟩
theorem line63 : (sizeLine : Nat) < 2 ^ 63 := by rw [sizeLine_eq]; decide
theorem op_add_str : OpR X (binaryOp .Add) (fun x y H Q => ∃ i j, x = .str i ∧ y = .str j ∧ i.length + j.length ≤ sizeLine ∧ Q (.str (i ++ j)) H) := by
 intro pins s σ H x y v u Q I rx ry h
 obtain ⟨i, j, rfl, rfl, hz, q⟩ := h
 obtain ⟨t, rfl⟩ := rx
 obtain ⟨t', rfl⟩ := ry
 exact add_str (fun t' tk => ⟨.str (i ++ j), H, I.tok _, ⟨_, rfl⟩, q⟩) hz
theorem vals1 {x : V} {us : List Value} (r : Vals [x] us) : ∃ u, us = [u] ∧ RelV x u := by
 cases r with
 | cons r1 r2 => cases r2; exact ⟨_, rfl, r1⟩
theorem vals2 {x y : V} {us : List Value} (r : Vals [x, y] us) : ∃ u w', us = [u, w'] ∧ RelV x u ∧ RelV y w' := by
 cases r with
 | cons r1 r2 =>
  cases r2 with
  | cons r3 r4 => cases r4; exact ⟨_, _, rfl, r1, r3⟩
theorem call_min2 (hc : X.calm = true) : CallR X (.builtin "min") (fun xs H Q => ∃ i j, xs = [.int i, .int j] ∧ Q (.int (if j < i then j else i)) H) := by
 intro pins s σ H xs us Q I r h
 obtain ⟨i, j, rfl, q⟩ := h
 obtain ⟨u, w', rfl, ⟨t, rfl⟩, ⟨t', rfl⟩⟩ := vals2 r
 refine min_two_ints (I.ok.hd hc) fun h' tk k => ⟨_, H, I.kept k, ?_, q⟩
 by_cases hj : j < i
 ·rw [if_pos hj, if_pos hj]; exact ⟨_, rfl⟩
 ·rw [if_neg hj, if_neg hj]; exact ⟨_, rfl⟩
theorem call_int1 : CallR X (.type "int") (fun xs H Q => (∃ i, xs = [.int i] ∧ Q (.int i) H) ∨ ∃ k, xs = [.bl k] ∧ Q (.int (if k then 1 else 0)) H) := by
 intro pins s σ H xs us Q I r h
 rcases h with ⟨i, rfl, q⟩ | ⟨k, rfl, q⟩
 ·obtain ⟨u, rfl, t, rfl⟩ := vals1 r
  exact call_int_int ⟨.int i, H, I, ⟨_, rfl⟩, q⟩
 ·obtain ⟨u, rfl, r1⟩ := vals1 r
  cases r1
  exact call_int_bool ⟨.int (if k then 1 else 0), H, I.tok _, ⟨_, rfl⟩, q⟩
theorem call_str_int : CallR X (.type "str") (fun xs H Q => ∃ i, xs = [.int i] ∧ i.natAbs.log2 < 1920 ∧ Q (.str (toString i)) H) := by
 intro pins s σ H xs us Q I r h
 obtain ⟨i, rfl, hz, q⟩ := h
 obtain ⟨u, rfl, t, rfl⟩ := vals1 r
 exact PySem.P.str_of_int hz ⟨.str _, H, I.tok _, ⟨_, rfl⟩, q⟩
end
end L2
namespace L2
open PySem PySem.Spec PyProof.Rows
structure ObjM (h : Heap) (x dx C : Addr) (mA : Str → Option Value) : Prop where
 obj : h.get? x = some (PySem.W.instObj C dx)
 ns : h.Ns1 dx mA
 ne : dx ≠ x
theorem lookIn_ns {h : Heap} {dx : Addr} {mA : Str → Option Value} (n : h.Ns1 dx mA) : ∃ od, h.get? dx = some od ∧ ∀ name, PySem.W.lookIn name od = some (mA name) := by
 obtain ⟨o, es, ep, ho, hd, hk, _, hm⟩ := n
 refine ⟨o, ho, fun name => ?_⟩
 have e := hm name
 unfold nsFind findBy at e
 rw [← Array.find?_toList] at e
 unfold PySem.W.lookIn
 rw [hd]
 dsimp only
 split
 ·rename_i y q
  rw [q] at e
  exact congrArg some e
 ·rename_i q
  rw [q] at e
  have a : es.toList.any (·.refKey) = false := by
   rw [List.any_eq_false]
   intro y hy
   obtain ⟨z, t, hkey⟩ := hk y (Array.mem_toList_iff.mp hy)
   simp [DictEntry.refKey, hkey]
  have a' : ¬ es.toList.any (·.refKey) = true := by rw [a]; exact Bool.false_ne_true
  rw [if_neg a']
  exact congrArg some e
theorem ObjM.look {h : Heap} {x dx C : Addr} {mA : Str → Option Value} (I : ObjM h x dx C mA) : ∃ od, PySem.W.InstAt h x (PySem.W.instObj C dx) C (some od) ∧ ∀ name, PySem.W.lookIn name od = some (mA name) :=
 let ⟨od, ho, hl⟩ := lookIn_ns I.ns
 ⟨od, ⟨I.obj, rfl, rfl, ho⟩, hl⟩
section
variable {prog : Program} {w : World} {A : Around} {E : Value → Shared → Prop} {s : Shared} {K : PySem.W.Frag} {x dx C f : Addr} {mA : Str → Option Value} {name : Str} {v : Value}
theorem get_map {expr : Bool} {Q : Value → Shared → Prop} (X : K.In s.heap) (I : ObjM s.heap x dx C mA) (hg : PySem.W.plainGet K C name = true) (hh : PySem.W.hasDictIn K C = true)
  (ha : PySem.W.findIn K (.ref C) name = some none) (hv : mA name = some v) (hv' : PySem.W.handedIn v = true) (h : Q v { s with toks := s.toks + 1 }) :
  wpAny (model prog w) A (getAttr (.ref x) name expr) Q E s := by
 obtain ⟨od, J, hl⟩ := I.look
 exact PySem.W.get_value X J (PySem.W.plainGet_of hg).1 (PySem.W.findObj_own hh ha rfl (by rw [hl, hv])) hv' h
theorem set_map {ns : List Str} {Q : Unit → Shared → Prop} (X : K.In s.heap) (I : ObjM s.heap x dx C mA)
  (hs : PySem.W.findIn K (.ref C) "__setattr__" = some (some (.builtin "object.__setattr__"))) (hp : PySem.W.plainOver K C = true) (ht : PySem.W.takerIn K C name = some none) (hh : PySem.W.hasDictIn K C = true)
  (hw : PySem.Within mA ns) (hsz : ns.length ≤ sizeLine)
  (h : ∀ h', ObjM h' x dx C (fun y => if y = name then some v else mA y) → Heap.SameBut dx s.heap h' → Q () { s with heap := h', toks := s.toks + 2 }) :
  wpAny (model prog w) A (setAttr (.ref x) name v) Q E s := by
 obtain ⟨od, J, hl⟩ := I.look
 refine PySem.W.set_plain X J hs (PySem.W.osa_open (s := { s with toks := s.toks + 1 }) (r := none) X J hp ht fun b => ?_)
 obtain ⟨cd, hc, hd'⟩ := PySem.W.any_some hh
 have hx : s.heap.get? x = some ⟨.ref C, some dx, .plain, #[]⟩ := I.obj
 refine wpAny_bind (wpAny_pure (wpAny_bind (wpAny_bind (wpAny_loadPart hx (wpAny_bind (PySem.W.Looks.here (s := { s with toks := s.toks + 1 }) (PySem.W.looks_clsIn X hc) ?_))))))
 rw [hd']
 refine wpAny_pure (a := some dx) (wpAny_bind (wpAny_pure (wpAny_bind ?_)))
 refine wpAny_nsSet1 (s := { s with toks := s.toks + 1 }) I.ns fun h' hn2 hs2 => ?_
 obtain ⟨oD, esD, epD, hoD, hdD, hcD⟩ := hn2.count (PySem.Within.cons name v hw)
 refine wpAny_bind (wpAny_lookBehind hoD (by rw [hdD]; exact pastItsLine_dict (Nat.le_trans hcD (by rw [List.length_cons]; omega))) ?_)
 exact wpAny_pure (h _ ⟨(hs2.2 _ (Ne.symm I.ne)).trans I.obj, hn2, I.ne⟩ hs2)
theorem make_map {R : Result → Shared → Prop} {vs : List Value} {kw : List (Str × Value)} (X : K.In s.heap) (hm : PySem.W.makesIn K C = true)
  (hi : PySem.W.findIn K (.ref C) "__init__" = some (some (.ref f))) (hf : PySem.W.typeIn K (.ref f) = some (.type "function"))
  (h : codeAny (model prog w) (A.under (.builtin "type.__call__" ⟨.ref C :: vs, kw⟩)) (.call (.ref f) ⟨.ref (s.heap.objs.size + 1) :: vs, kw⟩) (PySem.W.InitBack (s.heap.objs.size + 1) R)
   { s with heap := (s.heap.push PySem.W.emptyDict).push (PySem.W.instObj C s.heap.objs.size) }) :
  codeAny (model prog w) A (.call (.ref C) ⟨vs, kw⟩) R s := by
 obtain ⟨hh, g, d, t, os⟩ := s
 exact PySem.W.make_core (PySem.W.makes_of X hm) (PySem.W.looks_findIn X hi) (fun self => PySem.W.bind_fn X self hf) (.inl rfl) h
end
def putF (f : Str) (v : V) : List (Str × V) → List (Str × V)
 | [] => [(f, v)]
 | (g, x) :: r => if g = f then (g, v) :: r else (g, x) :: putF f v r
theorem lookup_putF (f g : Str) (v : V) : ∀ fs : List (Str × V), (putF f v fs).lookup g = if g = f then some v else fs.lookup g
 | [] => by
  show List.lookup g [(f, v)] = _
  by_cases h : g = f
  ·have hb : (g == f) = true := beq_iff_eq.mpr h
   simp only [List.lookup, hb, if_pos h]
  ·have hb : (g == f) = false := beq_eq_false_iff_ne.mpr h
   simp only [List.lookup, hb, if_neg h]
 | (k, x) :: r => by
  have ih := lookup_putF f g v r
  rw [show putF f v ((k, x) :: r) = (if k = f then (k, v) :: r else (k, x) :: putF f v r) from rfl]
  by_cases hk : k = f
  ·rw [if_pos hk]
   by_cases h : g = k
   ·have hb : (g == k) = true := beq_iff_eq.mpr h
    simp only [List.lookup, hb, if_pos (h.trans hk)]
   ·have hb : (g == k) = false := beq_eq_false_iff_ne.mpr h
    simp only [List.lookup, hb, if_neg (fun e : g = f => h (e.trans hk.symm))]
  ·rw [if_neg hk]
   by_cases h : g = k
   ·have hb : (g == k) = true := beq_iff_eq.mpr h
    simp only [List.lookup, hb, if_neg (fun e : g = f => hk (h.symm.trans e))]
   ·have hb : (g == k) = false := beq_eq_false_iff_ne.mpr h
    simp only [List.lookup, hb]
    exact ih
theorem keys_putF (f : Str) (v : V) : ∀ fs : List (Str × V), f ∈ (putF f v fs).map (·.1) ∧ ∀ g, g ∈ fs.map (·.1) → g ∈ (putF f v fs).map (·.1)
 | [] => ⟨by simp [putF], fun g h => by simp at h⟩
 | (k, x) :: r => by
  obtain ⟨i1, i2⟩ := keys_putF f v r
  rw [show putF f v ((k, x) :: r) = (if k = f then (k, v) :: r else (k, x) :: putF f v r) from rfl]
  by_cases hk : k = f
  ·rw [if_pos hk]
   subst hk
   exact ⟨by simp, fun g h => by simpa using h⟩
  ·rw [if_neg hk]
   refine ⟨?_, fun g h => ?_⟩
   ·rw [List.map_cons]
    exact List.mem_cons_of_mem _ i1
   ·rw [List.map_cons] at h ⊢
    rcases List.mem_cons.mp h with e | e
    ·exact List.mem_cons.mpr (.inl e)
    ·exact List.mem_cons_of_mem _ (i2 g e)
theorem length_putF (f : Str) (v : V) : ∀ fs : List (Str × V), (putF f v fs).length ≤ fs.length + 1
 | [] => by simp [putF]
 | (k, x) :: r => by
  have ih := length_putF f v r
  rw [show putF f v ((k, x) :: r) = (if k = f then (k, v) :: r else (k, x) :: putF f v r) from rfl]
  by_cases hk : k = f
  ·rw [if_pos hk, List.length_cons, List.length_cons]; omega
  ·rw [if_neg hk, List.length_cons, List.length_cons]; omega
theorem RelO.some_of {v : V} {o : Option Value} (r : RelO (some v) o) : ∃ u, o = some u ∧ RelV v u := by
 cases o with
 | none => exact (show False from r).elim
 | some u => exact ⟨u, rfl, r⟩
theorem handed_of {v : V} {u : Value} (r : RelV v u) : PySem.W.handedIn u = true := by
 cases v with
 | non => cases (show u = Value.none from r); rfl
 | bl b => cases (show u = Value.bool b from r); rfl
 | int i => obtain ⟨t, e⟩ := (show ∃ t, u = Value.int i t from r); cases e; rfl
 | str x => obtain ⟨t, e⟩ := (show ∃ t, u = Value.str x t from r); cases e; rfl
 | byt b => obtain ⟨t, e⟩ := (show ∃ t, u = Value.bytes b t from r); cases e; rfl
 | flt b => obtain ⟨t, e⟩ := (show ∃ t, u = Value.float b t from r); cases e; rfl
 | ref a => cases (show u = Value.ref a from r); rfl
 | ty n => cases (show u = Value.type n from r); rfl
section
variable {P : Program} {w : World} {H H' : Hp} {h h' : Heap} {a C dx : Addr} {fs fs' : List (Str × V)}
theorem ins_get (hok : HOk P w H h) (e : H a = some (.ins C dx fs)) : ∃ mA, ObjM h a dx C mA ∧ (∀ f, RelO (fs.lookup f) (mA f)) ∧ PySem.Within mA (fs.map (·.1)) ∧ fs.length ≤ 1000 ∧ H dx = some (.own a) := by
 obtain ⟨d, z, ne, ob, mA, n, r, q⟩ := (show ObjOk P w H h a (.ins C dx fs) from hok a _ e)
 exact ⟨mA, ⟨ob, n, ne⟩, r, q, z, d⟩
end
structure Cls (K : PySem.W.Frag) (C : Addr) : Prop where
 pg : PySem.W.plainGet K C Str.empty = true
 hd : PySem.W.hasDictIn K C = true
 po : PySem.W.plainOver K C = true
 sa : PySem.W.findIn K (.ref C) "__setattr__" = some (some (.builtin "object.__setattr__"))
theorem Cls.get {K : PySem.W.Frag} {C : Addr} (c : Cls K C) (f : Str) : PySem.W.plainGet K C f = true := c.pg
def NoAttr (K : PySem.W.Frag) (C : Addr) (f : Str) : Prop := PySem.W.findIn K (.ref C) f = some none
theorem NoAttr.taker {K : PySem.W.Frag} {C : Addr} {f : Str} (n : NoAttr K C f) : PySem.W.takerIn K C f = some none := by
 unfold PySem.W.takerIn
 rw [show PySem.W.findIn K (.ref C) f = some none from n]
 rfl
section
variable {X : Cx} {pins : List (Addr × Obj)} {σ : St} {H : Hp} {s : Shared} {a C dx : Addr} {fs : List (Str × V)} {f : Str} {v : V} {A : Around} {E : Value → Shared → Prop}
theorem getattr_ok {b : Bool} {Q : Value → Shared → Prop} (I : Inv X pins σ H s) (e : H a = some (.ins C dx fs)) (c : Cls X.K C) (n : NoAttr X.K C f) (l : fs.lookup f = some v)
  (h : ∀ u s', Inv X pins σ H s' → RelV v u → Q u s') : wpAny (model X.prog X.w) A (getAttr (.ref a) f b) Q E s := by
 obtain ⟨mA, O, r, _, _, _⟩ := ins_get I.hok e
 obtain ⟨u, hu, ru⟩ := RelO.some_of (v := v) (o := mA f) (by rw [← l]; exact r f)
 exact get_map I.kIn O (c.get f) c.hd n hu (handed_of ru) (h u _ (I.tok _) ru)
theorem setattr_ok {y : V} {u : Value} {Q : Unit → Shared → Prop} (I : Inv X pins σ H s) (e : H a = some (.ins C dx fs)) (c : Cls X.K C) (n : NoAttr X.K C f) (hl : fs.length < 1000) (ry : RelV y u)
  (h : ∀ s', Inv X pins σ (upd H a (.ins C dx (putF f y fs))) s' → Q () s') : wpAny (model X.prog X.w) A (setAttr (.ref a) f u) Q E s := by
 obtain ⟨mA, O, r, wi, _, ho⟩ := ins_get I.hok e
 have hz : (fs.map (·.1)).length ≤ sizeLine := by rw [List.length_map, sizeLine_eq]; omega
 refine set_map I.kIn O c.sa c.po n.taker c.hd wi hz fun h' O' sb => h _ ?_
 have hd : ∃ o, h'.get? dx = some o := let ⟨o, _, _, e', _⟩ := O'.ns; ⟨o, e'⟩
 refine I.write (x := a) (e := dx) (by rw [e]; exact True.intro) (.inr ho) (fun b q hb z => (sb.2 b hb).trans z) hd ?_
 refine ⟨by rw [upd_ne O.ne]; exact ho, ?_, O.ne, O'.obj, _, O'.ns, fun g => ?_, fun g hg => ?_⟩
 ·have := length_putF f y fs; omega
 ·show RelO ((putF f y fs).lookup g) (if g = f then some u else mA g)
  rw [lookup_putF]
  by_cases q : g = f
  ·rw [if_pos q, if_pos q]; exact ry
  ·rw [if_neg q, if_neg q]; exact r g
 ·by_cases q : g = f
  ·rw [q]; exact (keys_putF f y fs).1
  ·refine (keys_putF f y fs).2 g (wi g fun z => hg ?_)
   show (if g = f then some u else mA g) = none
   rw [if_neg q]; exact z
theorem Inv.made (I : Inv X pins σ H s) : Inv X pins σ (upd (upd H s.heap.objs.size (.own (s.heap.objs.size + 1))) (s.heap.objs.size + 1) (.ins C s.heap.objs.size []))
  { s with heap := (s.heap.push PySem.W.emptyDict).push (PySem.W.instObj C s.heap.objs.size) } := by
 have e1 : (s.heap.push PySem.W.emptyDict).get? s.heap.objs.size = some PySem.W.emptyDict := Heap.get?_push_size s.heap rfl
 have e2 : ((s.heap.push PySem.W.emptyDict).push (PySem.W.instObj C s.heap.objs.size)).get? (s.heap.objs.size + 1) = some (PySem.W.instObj C s.heap.objs.size) := by
  have := Heap.get?_push_size (s.heap.push PySem.W.emptyDict) (o := PySem.W.instObj C s.heap.objs.size) rfl
  rwa [Heap.size_push] at this
 have e3 : (s.heap.push PySem.W.emptyDict).Ns s.heap.objs.size (fun _ => none) := ⟨PySem.W.emptyDict, #[], _, e1, rfl, (fun e he => absurd he (by simp)), fun _ => rfl⟩
 have I1 := I.laid (a := s.heap.objs.size) (o := .own (s.heap.objs.size + 1)) (h' := s.heap.push PySem.W.emptyDict) (t' := s.toks) (fun b u q => Heap.get?_push_of_some _ q) (Nat.le_refl _) ⟨_, e1⟩
 refine I1.laid (a := s.heap.objs.size + 1) (o := .ins C s.heap.objs.size []) (t' := s.toks) (fun b u q => Heap.get?_push_of_some _ q) (Nat.le_of_eq (Heap.size_push _ _)) ?_
 have ne : s.heap.objs.size ≠ s.heap.objs.size + 1 := Nat.ne_of_lt (Nat.lt_succ_self _)
 refine ⟨by rw [upd_ne ne, upd_same], Nat.zero_le _, ne, e2, fun _ => none, (Heap.Ns1.of_empty e3).at fun o q => Heap.get?_push_of_some _ q, fun _ => True.intro, fun y hy => absurd rfl hy⟩
theorem attr_of {prog : Program} {w : World} {env : Env} {e : Expr} {f : Str} {pos : Pos} {s : Shared} {Q : Value → Shared → Prop} (hb : attributeBase e f env (eval e env) = eval e env)
  (h : wpAny (model prog w) A (eval e env) (fun o s₁ => wpAny (model prog w) A (getAttr o f true) Q E s₁) E s) : wpAny (model prog w) A (eval (.Attribute e f pos) env) Q E s :=
 Attribute_any_ h (by rw [arm_eval_Attribute, hb])
end
def tFld (K : PySem.W.Frag) (ta : TE) (f : Str) : TE := fun σ H Q => ta σ H fun x H1 => ∃ a C dx fs v, x = .ref a ∧ H1 a = some (.ins C dx fs) ∧ Cls K C ∧ NoAttr K C f ∧ fs.lookup f = some v ∧ Q v H1
def sFld (K : PySem.W.Frag) (ta tv : TE) (f : Str) : TS := fun D σ H => tv σ H fun y H1 => ta σ H1 fun x H2 => ∃ a C dx fs, x = .ref a ∧ H2 a = some (.ins C dx fs) ∧ Cls K C ∧ NoAttr K C f ∧ fs.length < 1000 ∧
 D.nx σ (upd H2 a (.ins C dx (putF f y fs)))
section
variable {X : Cx} {o e value : Expr} {f : Str} {pos pos' tpos : Pos} {ta tv : TE}
theorem pe_fld (he : PE X e ta) (hb : attributeBase e f X.env (eval e X.env) = eval e X.env) : PE X (.Attribute e f pos) (tFld X.K ta f) := by
 intro pins s σ H Q I h
 refine attr_of hb (thn (he pins s σ H _ I h) fun u s1 ⟨x, H1, I1, rx, a, C, dx, fs, v, ex, ea, c, n, l, q⟩ => ?_)
 subst ex
 obtain rfl : u = Value.ref a := rx
 exact getattr_ok I1 ea c n l fun u' s2 I2 ru => ⟨v, H1, I2, ru, q⟩
theorem ps_fld (ha : PE X o ta) (hv : PE X value tv) (hs : swapsWith value (some (.Attribute o f pos')) pos.line X.env = pure false) : PS X (.Assign [.Attribute o f pos'] value pos) (sFld X.K ta tv f) := by
 intro pins s σ H D I h
 refine plainObj_wpAny_Assign_Attribute (thn (hv pins s σ H _ I h) fun u s1 ⟨y, H1, I1, ry, q⟩ => thn (ha pins s1 σ H1 _ I1 q) fun ov s2 ⟨x, H2, I2, rx, a, C, dx, fs, ex, ea, c, n, l, q2⟩ => ?_) hs
 subst ex
 obtain rfl : ov = Value.ref a := rx
 exact setattr_ok I2 ea c n l ry fun s3 I3 => ⟨σ, _, I3, q2⟩
end
section
variable {X : Cx} {pins : List (Addr × Obj)} {σ : St} {H : Hp} {s : Shared} {A : Around} {E : Value → Shared → Prop} {Q : Value → Shared → Prop} {c : Value} {b : Bool}
inductive TyOf (K : PySem.W.Frag) (H : Hp) : V → Value → Prop where
 | non : TyOf K H .non (.type "NoneType")
 | bl (x : Bool) : TyOf K H (.bl x) (.type "bool")
 | int (i : Int) : TyOf K H (.int i) (.type "int")
 | str (x : Str) : TyOf K H (.str x) (.type "str")
 | flt (x : UInt64) : TyOf K H (.flt x) (.type "float")
 | lst {a : Addr} {xs : List V} (e : H a = some (.lst xs)) : TyOf K H (.ref a) (.type "list")
 | frz {a : Addr} {o : Obj} {xs : List V} (e : H a = some (.frz o (.lst xs))) : TyOf K H (.ref a) (.type "list")
 | tup {a : Addr} {xs : List V} (e : H a = some (.tup xs)) : TyOf K H (.ref a) (.type "tuple")
 | dK {a : Addr} {kvs : List (Key × V)} (e : H a = some (.dK kvs)) : TyOf K H (.ref a) (.type "dict")
 | dT {a : Addr} {kvs : List (List Key × V)} (e : H a = some (.dT kvs)) : TyOf K H (.ref a) (.type "dict")
 | ins {a C dx : Addr} {fs : List (Str × V)} (e : H a = some (.ins C dx fs)) (cl : Cls K C) (ha : PySem.W.findIn K (.ref C) "__class__" = some (some (.builtin "object.__class__")))
   (hn : PySem.W.specialIn K (.builtin "object.__class__") "__get__" = some (some (.builtin "getset_descriptor.__get__"))) (htk : PySem.W.takesIn K (.builtin "object.__class__") = some true)
   (hm : PySem.W.mroIn K C (.type "object") = some true) : TyOf K H (.ref a) (.ref C)
theorem isinst_ok {x : V} {u t : Value} (I : Inv X pins σ H s) (rx : RelV x u) (ty : TyOf X.K H x t) (e : PySem.W.kitOne X.K t c = some b) (h : ∀ tk, Q (.bool b) { s with toks := tk }) :
  wpAny (model X.prog X.w) A (call (.builtin "isinstance") [u, c]) Q E s := by
 cases ty with
 | non => cases (show u = Value.none from rx); exact PySem.W.kia_one PySem.W.kitx_none I.kIn True.intro e (fun z => nomatch z) h
 | bl y => cases (show u = Value.bool y from rx); exact PySem.W.kia_one PySem.W.kitx_bool I.kIn True.intro e (fun z => nomatch z) h
 | int i => obtain ⟨t, q⟩ := (show ∃ t, u = Value.int i t from rx); cases q; exact PySem.W.kia_one PySem.W.kitx_int I.kIn True.intro e (fun z => nomatch z) h
 | str y => obtain ⟨t, q⟩ := (show ∃ t, u = Value.str y t from rx); cases q; exact PySem.W.kia_one PySem.W.kitx_str I.kIn True.intro e (fun z => nomatch z) h
 | flt y => obtain ⟨t, q⟩ := (show ∃ t, u = Value.float y t from rx); cases q; exact PySem.W.kia_one PySem.W.kitx_float I.kIn True.intro e (fun z => nomatch z) h
 | @lst a xs ea =>
  cases (show u = Value.ref a from rx)
  obtain ⟨_, _, n, _, h1⟩ := (show ObjOk X.prog X.w H s.heap a (.lst xs) from I.hok a _ ea)
  exact PySem.W.kia_one PySem.W.kitx_list I.kIn ⟨_, h1, rfl⟩ e (fun z => nomatch z) h
 | @frz a ob xs ea =>
  cases (show u = Value.ref a from rx)
  obtain ⟨_, _, _, n, _, h1⟩ := (show ObjOk X.prog X.w H s.heap a (.frz ob (.lst xs)) from I.hok a _ ea)
  exact PySem.W.kia_one PySem.W.kitx_list I.kIn ⟨_, h1, rfl⟩ e (fun z => nomatch z) h
 | @tup a xs ea =>
  cases (show u = Value.ref a from rx)
  obtain ⟨_, _, _, p⟩ := (show ObjOk X.prog X.w H s.heap a (.tup xs) from I.hok a _ ea)
  obtain ⟨o, h1, h2, _⟩ := p
  exact PySem.W.kia_one PySem.W.kitx_tuple I.kIn ⟨o, h1, h2⟩ e (fun z => nomatch z) h
 | @dK a kvs ea =>
  cases (show u = Value.ref a from rx)
  obtain ⟨_, _, vs, _, p⟩ := (show ObjOk X.prog X.w H s.heap a (.dK kvs) from I.hok a _ ea)
  obtain ⟨o, es, ep, h1, h2, _⟩ := p
  exact PySem.W.kia_one PySem.W.kitx_dict I.kIn ⟨o, h1, h2.1⟩ e (fun z => nomatch z) h
 | @dT a kvs ea =>
  cases (show u = Value.ref a from rx)
  obtain ⟨_, _, xs, _, o, es, ep, h1, h2, _⟩ := (show ObjOk X.prog X.w H s.heap a (.dT kvs) from I.hok a _ ea)
  exact PySem.W.kia_one PySem.W.kitx_dict I.kIn ⟨o, h1, h2.1⟩ e (fun z => nomatch z) h
 | @ins a C dx fs ea cl ha hn htk hm =>
  cases (show u = Value.ref a from rx)
  obtain ⟨mA, O, _⟩ := ins_get I.hok ea
  obtain ⟨od, J, _⟩ := O.look
  exact PySem.W.kia_one (PySem.W.kitx_own (cl.get _) cl.hd ha hn htk hm) I.kIn J e (fun z => nomatch z) h
end
end L2
namespace L2
open PySem PySem.Spec PyProof.Rows
structure Room (k : Nat) (A : Around) : Prop where
 hd : A.handled = none
 dp : A.depth + 3 * k + 5 < recursionLimit
 un : A.units + 16 * k + 200 < cLine
theorem Room.mono {j k : Nat} {A : Around} (r : Room k A) (h : j ≤ k) : Room j A := ⟨r.hd, by have := r.dp; omega, by have := r.un; omega⟩
theorem Room.deeper {k : Nat} {A : Around} (r : Room (k + 1) A) (env : Env) : Room k (A.deeper env) :=
 ⟨r.hd, by have := r.dp; show A.depth + 1 + 3 * k + 5 < _; omega, by have := r.un; show A.units + 3 + 16 * k + 200 < _; omega⟩
theorem make_depth {A : Around} {C : Addr} {us : List Value} {kw : List (Str × Value)} : (A.under (.builtin "type.__call__" ⟨.ref C :: us, kw⟩)).depth = A.depth + 1 := by
 first | rfl | simp [Around.under, Code.weight, Code.isCreation, Code.isGuard, Code.isCaller, Code.frames, Code.isFrame, guardIds]
theorem make_units {A : Around} {C : Addr} {us : List Value} {kw : List (Str × Value)} : (A.under (.builtin "type.__call__" ⟨.ref C :: us, kw⟩)).units = A.units + 1 := by
 first | rfl | simp [Around.under, Code.cUnits, Code.frames, Code.isFrame]
theorem Room.make {k : Nat} {A : Around} (r : Room (k + 1) A) (C : Addr) (us : List Value) (kw : List (Str × Value)) : Room k (A.under (.builtin "type.__call__" ⟨.ref C :: us, kw⟩)) :=
 ⟨r.hd, by have := r.dp; rw [make_depth]; omega, by have := r.un; rw [make_units]; omega⟩
theorem Room.depth {k : Nat} {A : Around} (r : Room k A) : A.depth < recursionLimit := by have := r.dp; omega
theorem Room.units {k : Nat} {A : Around} (r : Room k A) : A.units + 64 < cLine := by have := r.un; omega
def tNil : TA := fun _ H Q => Q [] H
def tCons (ta : TE) (tr : TA) : TA := fun σ H Q => ta σ H fun x H1 => tr σ H1 fun xs H2 => Q (x :: xs) H2
section
variable {X : Cx} {e : Expr} {es : List Expr} {te : TE} {t : TA} {pos : Pos}
theorem pa_nil : PA X [] tNil := fun _ _ _ _ H Q I h => Calls.spliced_nil ⟨[], H, I, .nil, h⟩
theorem pa_cons (ha : PE X e te) (hr : PA X es t) (hs : starEach (e :: es) X.env = (false, eval e X.env) :: starEach es X.env := by rfl) : PA X (e :: es) (tCons te t) := by
 intro pos pins s σ H Q I h
 rw [hs]
 show wpAny _ _ (spliced ((false, eval e X.env) :: backTo pos (starEach es X.env))) _ _ s
 refine Calls.spliced_cons (thn (ha pins s σ H _ I h) fun u s1 ⟨x, H1, I1, r1, q1⟩ => ?_)
 exact thn (hr pos pins s1 σ H1 _ I1 q1) fun us s2 ⟨xs, H2, I2, r2, q2⟩ => ⟨x :: xs, H2, I2, .cons r1 r2, q2⟩
def tTup (t : TA) : TE := fun σ H Q => t σ H fun xs H1 => xs.length ≤ sizeLine ∧ ∀ p, H1 p = none → Q (.ref p) (upd H1 p (.tup xs))
def tLst (t : TA) : TE := fun σ H Q => t σ H fun xs H1 => xs.length ≤ sizeLine ∧ ∀ p, H1 p = none → Q (.ref p) (upd H1 p (.lst xs))
theorem pe_tup {x1} (h : PA X es t) : PE X (.Tuple es x1 pos) (tTup t) := by
 intro pins s σ H Q I hq
 refine wpAny_Tuple_spliced (thn (h pos pins s σ H _ I hq) fun us s1 ⟨xs, H1, I1, r, z, q⟩ => ⟨by rw [← r.length]; exact z, ?_⟩)
 have hf : H1 s1.heap.objs.size = none := I1.hok.fresh (Nat.le_refl _)
 refine ⟨.ref s1.heap.objs.size, upd H1 s1.heap.objs.size (.tup xs), I1.laid (t' := s1.toks) (fun b u e => Heap.get?_push_of_some _ e) (Nat.le_refl _) ?_, rfl, q _ hf⟩
 exact ⟨z, us, r, ⟨_, Heap.get?_push_size _ rfl, rfl, _, rfl⟩⟩
theorem pe_lst (h : PA X es t) : PE X (.List es pos) (tLst t) := by
 intro pins s σ H Q I hq
 refine wpAny_List_spliced (thn (h pos pins s σ H _ I hq) fun us s1 ⟨xs, H1, I1, r, z, q⟩ => ⟨by rw [← r.length]; exact z, ?_⟩)
 have hf : H1 s1.heap.objs.size = none := I1.hok.fresh (Nat.le_refl _)
 refine ⟨.ref s1.heap.objs.size, upd H1 s1.heap.objs.size (.lst xs), I1.laid (t' := s1.toks) (fun b u e => Heap.get?_push_of_some _ e) (Nat.le_refl _) ?_, rfl, q _ hf⟩
 exact ⟨z, us, 0, r, Heap.get?_push_size _ rfl⟩
end
abbrev Sp := List V → Hp → VK → XK → Prop
abbrev CXT := List Env → Hp → Shared → XK → Value → Shared → Prop
structure Env0 (P : Program) (w : World) (K : PySem.W.Frag) (mg : Str → Option Value) (base : Heap) (A : Around) (outer : List Env) (s : Shared) (H : Hp) : Prop where
 frames : A.frames = some outer
 mod : Mod K mg base
 bs : ∀ b o, base.get? b = some o → s.heap.get? b = some o ∧ H b = none
 bsz : base.objs.size ≤ s.heap.objs.size
 funs : s.heap.FunFrames base outer
 frf : ∀ b ∈ frs outer, H b = none
 hok : HOk P w H s.heap
 bare : AllBare s.gens
def CE (outer : List Env) (P : Program) (w : World) (H : Hp) (s : Shared) (Q : VK) (u : Value) (s' : Shared) : Prop :=
 ∃ v H', s'.os = s.os ∧ AllBare s'.gens ∧ Un (frs outer) [] H H' s.heap s'.heap ∧ HOk P w H' s'.heap ∧ RelV v u ∧ Q v H'
def CR (CX : CXT) (outer : List Env) (P : Program) (w : World) (H : Hp) (s : Shared) (Q : VK) (E : XK) (r : Result) (s' : Shared) : Prop :=
 match r with
 | .ok (.ret u) => CE outer P w H s Q u s'
 | .ok _ => False
 | .error e => CX outer H s E e s'
structure FnOk (P : Program) (w : World) (K : PySem.W.Frag) (mg : Str → Option Value) (base : Heap) (CX : CXT) (k : Nat) (f : Addr) (fd : FuncData) (ps : List Str) (sp : Sp) : Prop where
 len : ∀ vs H Q E, sp vs H Q E → vs.length = ps.length
 run : ∀ (A : Around) (outer : List Env) (s : Shared) (H : Hp) (args : Args) (us : List Value) (vs : List V) (Q : VK) (E : XK), Room k A → Env0 P w K mg base A outer s H → BindsTo s fd args (ps.zip us) → Vals vs us → sp vs H Q E →
  codeAny (model P w) A (.call (.ref f) args) (CR CX outer P w H s Q E) s
theorem Env0.make {P : Program} {w : World} {K : PySem.W.Frag} {mg : Str → Option Value} {base : Heap} {A : Around} {outer : List Env} {s : Shared} {H : Hp} (e : Env0 P w K mg base A outer s H) (C : Addr) (us : List Value) (kw : List (Str × Value)) :
  Env0 P w K mg base (A.under (.builtin "type.__call__" ⟨.ref C :: us, kw⟩)) outer s H := ⟨by first | exact e.frames | (simpa [Around.under, Code.envs, Code.isFrame, pushEnvs] using e.frames), e.mod, e.bs, e.bsz, e.funs, e.frf, e.hok, e.bare⟩
section
variable {X : Cx} {pins : List (Addr × Obj)} {σ : St} {H : Hp} {s s' : Shared}
theorem Inv.env0 (I : Inv X pins σ H s) : Env0 X.prog X.w X.K X.mg X.base X.A X.stack s H :=
 ⟨I.ok.frames, I.ok.mod, I.bs, Nat.le_trans I.ok.bsz I.sz, I.stack, I.stkFree, I.hok, I.bare⟩
theorem Inv.after {Q : VK} {u : Value} (I : Inv X pins σ H s) (h : CE X.stack X.prog X.w H s Q u s') : EP X pins σ Q u s' := by
 obtain ⟨v, H', os, bare, un, hok, r, q⟩ := h
 obtain ⟨hh, g, d, t, os'⟩ := s'
 obtain rfl : os' = s.os := os
 exact ⟨v, H', I.call (h' := hh) (g' := g) (d' := d) (t' := t) (ch := []) un hok bare (fun b z => absurd z (by simp)), r, q⟩
end
def tCall (sp : Sp) (dvs : List V) (E : XK) (t : TA) : TE := fun σ H Q => t σ H fun vs H1 => sp (vs ++ dvs) H1 Q E
def tMake (C : Addr) (sp : Sp) (dvs : List V) (E : XK) (t : TA) : TE := fun σ H Q => t σ H fun vs H1 => ∀ x dx, H1 x = none → H1 dx = none → dx ≠ x →
 sp (.ref x :: (vs ++ dvs)) (upd (upd H1 dx (.own x)) x (.ins C dx [])) (fun v H2 => v = .non ∧ Q (.ref x) H2) E
def Binds (K : PySem.W.Frag) (fd : FuncData) (ps : List Str) (ds : List Value) : Prop :=
 ∀ (s : Shared) (us : List Value), K.In s.heap → (us ++ ds).length = ps.length → BindsTo s fd ⟨us, []⟩ (ps.zip (us ++ ds))
theorem Binds.all {K : PySem.W.Frag} {fd : FuncData} {ps : List Str} (h : ∀ us : List Value, us.length = ps.length → bindArgs fd ⟨us, []⟩ = pure (ps.zip us)) : Binds K fd ps [] := fun s us _ hl => by
 rw [List.append_nil] at hl ⊢
 exact .of_eq (h us hl)
def Passes (CX : CXT) (X : Cx) (E : XK) : Prop := ∀ (pins : List (Addr × Obj)) (σ : St) (H : Hp) (s : Shared) (e : Value) (s' : Shared), Inv X pins σ H s → CX X.stack H s E e s' → X.xe e s'
section
variable {X : Cx} {CX : CXT} {k : Nat} {f C : Addr} {fd : FuncData} {ps : List Str} {sp : Sp} {dvs : List V} {ds : List Value} {E : XK} {x m : Str} {p pos apos : Pos} {e o : Expr} {es : List Expr} {ta : TE} {t : TA}
theorem run_fn {pins : List (Addr × Obj)} {σ : St} {H : Hp} {s : Shared} {Q : VK} {us : List Value} {vs : List V} (F : FnOk X.prog X.w X.K X.mg X.base CX k f fd ps sp) (hr : Room k X.A) (hb : Binds X.K fd ps ds) (hd : Vals dvs ds) (hx : Passes CX X E)
  (I : Inv X pins σ H s) (r : Vals vs us) (h : sp (vs ++ dvs) H Q E) : wpAny (model X.prog X.w) X.A (call (.ref f) us) (EP X pins σ Q) X.xe s := by
 have r2 : Vals (vs ++ dvs) (us ++ ds) := r.append hd
 have hl : (us ++ ds).length = ps.length := by rw [← r2.length]; exact F.len _ _ _ _ h
 refine wpAny_call (codeAny_mono (F.run X.A X.stack s H ⟨us, []⟩ (us ++ ds) (vs ++ dvs) Q E hr I.env0 (hb s us I.kIn hl) r2 h) fun r s' hq => ?_)
 cases r with
 | error e => exact hx pins σ H s e s' I hq
 | ok fl =>
  cases fl with
  | ret u => exact I.after hq
  | next => exact False.elim hq
  | brk => exact False.elim hq
  | cont => exact False.elim hq
theorem pe_call (F : FnOk X.prog X.w X.K X.mg X.base CX k f fd ps sp) (hr : Room k X.A) (hg : Gl X x) (hm : X.mg x = some (.ref f)) (hk : PySem.W.keepIn X.K (.ref f) = true) (hb : Binds X.K fd ps ds) (hd : Vals dvs ds) (hx : Passes CX X E)
  (ha : PA X (e :: es) t) (hdb : (x == ("__debug__" : Str)) = false := by decide) (he : starEach (e :: es) X.env = (false, eval e X.env) :: starEach es X.env := by rfl) (hpl : (backTo pos (starEach es X.env)).any (·.1) = false := by rfl) :
  PE X (.Call (.Name x p) (e :: es) [] pos) (tCall sp dvs E t) := by
 intro pins s σ H Q I h
 refine wpAny_Call_Name_kw (ld_glob I hg hm ?_ hdb)
 refine PySem.W.callWith_K (h₀ := X.base) I.ok.mod.kin hk (thn (ha pos pins s σ H _ I h) fun us s1 ⟨vs, H1, I1, r, q⟩ => ⟨I1.kIn, ?_⟩) he hpl
 exact run_fn F hr hb hd hx I1 r q
theorem pe_call0 (F : FnOk X.prog X.w X.K X.mg X.base CX k f fd ps sp) (hr : Room k X.A) (hg : Gl X x) (hm : X.mg x = some (.ref f)) (hk : PySem.W.keepIn X.K (.ref f) = true) (hb : Binds X.K fd ps ds) (hd : Vals dvs ds) (hx : Passes CX X E)
  (hdb : (x == ("__debug__" : Str)) = false := by decide) : PE X (.Call (.Name x p) [] [] pos) (tCall sp dvs E tNil) := by
 intro pins s σ H Q I h
 refine wpAny_Call_Name_kw (ld_glob I hg hm ?_ hdb)
 exact PySem.W.callWith_K0 I.kIn hk (run_fn (us := []) F hr hb hd hx I .nil h)
structure Mk (K : PySem.W.Frag) (C f : Addr) : Prop where
 makes : PySem.W.makesIn K C = true
 init : PySem.W.findIn K (.ref C) "__init__" = some (some (.ref f))
 fn : PySem.W.isFn K (.ref f) = true
 kp : PySem.W.keepIn K (.ref C) = true
theorem run_make {pins : List (Addr × Obj)} {σ : St} {H : Hp} {s : Shared} {Q : VK} {us : List Value} {vs : List V} (M : Mk X.K C f) (F : FnOk X.prog X.w X.K X.mg X.base CX k f fd ps sp) (hr : Room (k + 1) X.A) (hb : Binds X.K fd ps ds) (hd : Vals dvs ds)
  (hx : Passes CX X E) (I : Inv X pins σ H s) (r : Vals vs us)
  (h : ∀ x dx, H x = none → H dx = none → dx ≠ x → sp (.ref x :: (vs ++ dvs)) (upd (upd H dx (.own x)) x (.ins C dx [])) (fun v H2 => v = .non ∧ Q (.ref x) H2) E) :
  wpAny (model X.prog X.w) X.A (call (.ref C) us) (EP X pins σ Q) X.xe s := by
 have hq := h (s.heap.objs.size + 1) s.heap.objs.size (I.hok.fresh (Nat.le_succ _)) (I.hok.fresh (Nat.le_refl _)) (Nat.ne_of_lt (Nat.lt_succ_self _))
 have I2 := Inv.made (C := C) I
 have r2 : Vals (V.ref (s.heap.objs.size + 1) :: (vs ++ dvs)) (Value.ref (s.heap.objs.size + 1) :: (us ++ ds)) := .cons rfl (r.append hd)
 have hl : (Value.ref (s.heap.objs.size + 1) :: us ++ ds).length = ps.length := by
  have e := r2.length
  rw [F.len _ _ _ _ hq] at e
  exact e.symm
 refine wpAny_call (make_map (f := f) I.kIn M.makes M.init (beq_iff_eq.mp M.fn) (codeAny_mono (F.run _ X.stack _ _ ⟨Value.ref (s.heap.objs.size + 1) :: us, []⟩ (Value.ref (s.heap.objs.size + 1) :: (us ++ ds)) _ _ E (hr.make C us [])
  (I2.env0.make C us []) (hb _ (Value.ref (s.heap.objs.size + 1) :: us) I2.kIn hl) r2 hq) fun r s' hq' => ?_))
 cases r with
 | error e => exact hx pins σ _ _ e s' I2 hq'
 | ok fl =>
  cases fl with
  | ret u =>
   obtain ⟨v, H', I3, rv, ev, q3⟩ := I2.after hq'
   subst ev
   exact ⟨rv, ⟨V.ref (s.heap.objs.size + 1), H', I3, rfl, q3⟩⟩
  | next => exact False.elim hq'
  | brk => exact False.elim hq'
  | cont => exact False.elim hq'
theorem pe_make (M : Mk X.K C f) (F : FnOk X.prog X.w X.K X.mg X.base CX k f fd ps sp) (hr : Room (k + 1) X.A) (hg : Gl X x) (hm : X.mg x = some (.ref C)) (hb : Binds X.K fd ps ds) (hd : Vals dvs ds) (hx : Passes CX X E)
  (ha : PA X (e :: es) t) (hdb : (x == ("__debug__" : Str)) = false := by decide) (he : starEach (e :: es) X.env = (false, eval e X.env) :: starEach es X.env := by rfl) (hpl : (backTo pos (starEach es X.env)).any (·.1) = false := by rfl) :
  PE X (.Call (.Name x p) (e :: es) [] pos) (tMake C sp dvs E t) := by
 intro pins s σ H Q I h
 refine wpAny_Call_Name_kw (ld_glob I hg hm ?_ hdb)
 refine PySem.W.callWith_K (h₀ := X.base) I.ok.mod.kin M.kp (thn (ha pos pins s σ H _ I h) fun us s1 ⟨vs, H1, I1, r, q⟩ => ⟨I1.kIn, ?_⟩) he hpl
 exact run_make M F hr hb hd hx I1 r q
theorem pe_make0 (M : Mk X.K C f) (F : FnOk X.prog X.w X.K X.mg X.base CX k f fd ps sp) (hr : Room (k + 1) X.A) (hg : Gl X x) (hm : X.mg x = some (.ref C)) (hb : Binds X.K fd ps ds) (hd : Vals dvs ds) (hx : Passes CX X E)
  (hdb : (x == ("__debug__" : Str)) = false := by decide) : PE X (.Call (.Name x p) [] [] pos) (tMake C sp dvs E tNil) := by
 intro pins s σ H Q I h
 refine wpAny_Call_Name_kw (ld_glob I hg hm ?_ hdb)
 exact PySem.W.callWith_K0 I.kIn M.kp (run_make (us := []) M F hr hb hd hx I .nil h)
end
section
variable {X : Cx} {CX : CXT} {k : Nat} {f C : Addr} {fd : FuncData} {ps ks : List Str} {sp : Sp} {E : XK} {x m : Str} {p pos apos kpos : Pos} {e o : Expr} {es : List Expr} {kws : List Keyword} {te ta : TE} {t tk : TA} {nm : Option Str}
variable {g : List Value → List Value → List Value} {gV : List V → List V → List V}
end
structure FnScope (N P : List Str) (sc : Scope) : Prop where
 kind : sc.kind = .function
 co : sc.isCoroutine = false
 gen : sc.isGenerator = false
 nd : N.Nodup
 pre : N.take P.length = P
 par : ∀ x ∈ P, sc.names.lookup x = some .local ∨ sc.names.lookup x = some .cell
 nofree : ∀ y ∈ sc.names, y.2 ≠ .free
theorem bindL_out {kindOf : Str → Option NameKind} {x : Str} : ∀ {binds : List (Str × Value)} {m : Str → Option Value}, (∀ v, (x, v) ∉ binds) → bindL kindOf binds m x = m x
 | [], _, _ => rfl
 | (n, v) :: r, m, h => by
  unfold bindL
  rw [bindL_out fun w hw => h w (List.mem_cons_of_mem _ hw)]
  split
  ·have : x ≠ n := by rintro rfl; exact h v List.mem_cons_self
   simp [this]
  ·rfl
theorem bindC_out {kindOf : Str → Option NameKind} {x : Str} : ∀ {binds : List (Str × Value)} {m : Str → Option Value}, (∀ v, (x, v) ∉ binds) → bindC kindOf binds m x = m x
 | [], _, _ => rfl
 | (n, v) :: r, m, h => by
  unfold bindC
  rw [bindC_out fun w hw => h w (List.mem_cons_of_mem _ hw)]
  split
  ·rfl
  ·have : x ≠ n := by rintro rfl; exact h v List.mem_cons_self
   simp [this]
theorem bindL_get {kindOf : Str → Option NameKind} {x : Str} {v : Value} : ∀ {P : List Str} {vs : List Value} {i : Nat} {m : Str → Option Value}, P.Nodup → P[i]? = some x → vs[i]? = some v → kindOf x = some .local →
  bindL kindOf (P.zip vs) m x = some v
 | [], _, _, _, _, h, _, _ => by simp at h
 | _ :: _, [], _, _, _, _, h, _ => by simp at h
 | p :: P, w :: vs, 0, m, nd, h1, h2, hk => by
  simp at h1 h2; subst h1; subst h2
  show bindL kindOf ((p, w) :: P.zip vs) m p = _
  unfold bindL
  rw [bindL_out fun v hv => (List.nodup_cons.mp nd).1 (List.of_mem_zip hv).1, if_pos hk]
  simp
 | p :: P, w :: vs, i + 1, m, nd, h1, h2, hk => by
  show bindL kindOf ((p, w) :: P.zip vs) m x = _
  unfold bindL
  exact bindL_get (i := i) (List.nodup_cons.mp nd).2 (by simpa using h1) (by simpa using h2) hk
theorem bindC_get {kindOf : Str → Option NameKind} {x : Str} {v : Value} : ∀ {P : List Str} {vs : List Value} {i : Nat} {m : Str → Option Value}, P.Nodup → P[i]? = some x → vs[i]? = some v → kindOf x ≠ some .local →
  bindC kindOf (P.zip vs) m x = some v
 | [], _, _, _, _, h, _, _ => by simp at h
 | _ :: _, [], _, _, _, _, h, _ => by simp at h
 | p :: P, w :: vs, 0, m, nd, h1, h2, hk => by
  simp at h1 h2; subst h1; subst h2
  show bindC kindOf ((p, w) :: P.zip vs) m p = _
  unfold bindC
  rw [bindC_out fun v hv => (List.nodup_cons.mp nd).1 (List.of_mem_zip hv).1, if_neg hk]
  simp
 | p :: P, w :: vs, i + 1, m, nd, h1, h2, hk => by
  show bindC kindOf ((p, w) :: P.zip vs) m x = _
  unfold bindC
  exact bindC_get (i := i) (List.nodup_cons.mp nd).2 (by simpa using h1) (by simpa using h2) hk
def start (N : List Str) (vs : List V) : St := vs.map some ++ List.replicate (N.length - vs.length) none
def cxOf (CX : CXT) (P : Program) (w : World) (K : PySem.W.Frag) (mg : Str → Option Value) (base : Heap) (N : List Str) (qual : Str) (scope : Scope) (f : Addr) (cd : Value) (A : Around) (outer : List Env) (s : Shared) (H : Hp) (E : XK) : Cx where
 prog := P
 w := w
 K := K
 mg := mg
 base := base
 A := A.deeper (envOfC qual scope s.heap.objs.size f cd)
 N := N
 s₀ := s
 H₀ := H
 env := envOfC qual scope s.heap.objs.size f cd
 outer := outer
 stack := envOfC qual scope s.heap.objs.size f cd :: outer
 ex := []
 calm := true
 fn := fun _ => true
 pn := []
 xe := fun e s' => wpAny (model P w) (A.deeper (envOfC qual scope s.heap.objs.size f cd)) (leaving (envOfC qual scope s.heap.objs.size f cd) e) (fun _ s'' => CX outer H s E e s'') (fun e' s'' => CX outer H s E e' s'') s'
theorem cell_has {sc : Scope} {n : Nat} {x : Str} (h : sc.names.lookup x = some .cell) : ∃ c, (cellsFrom n sc.names []).lookup x = some c := by
 have q := PySem.W.cellsFrom_some sc.names n [] (.inl h)
 exact Option.isSome_iff_exists.mp q
theorem inv_start {CX : CXT} {P : Program} {w : World} {K : PySem.W.Frag} {mg : Str → Option Value} {base : Heap} {N ps : List Str} {qual : Str} {scope : Scope} {f : Addr} {cd : Value} {A : Around} {outer : List Env} {s s1 : Shared} {H : Hp} {E : XK} {us : List Value} {vs : List V}
  (S : FnScope N ps scope) (hd : A.handled = none) (e0 : Env0 P w K mg base A outer s H) (hl : vs.length = ps.length) (r : Vals vs us)
  (x : InCallC s s.heap.objs.size (bindL (envOfC qual scope s.heap.objs.size f cd).kindOf (ps.zip us) fun _ => none) (cellsFrom (s.heap.objs.size + 1) scope.names []) (bindC (envOfC qual scope s.heap.objs.size f cd).kindOf (ps.zip us) fun _ => none) s1) :
  Inv (cxOf CX P w K mg base N qual scope f cd A outer s H E) [] (start N vs) H s1 := by
 have hpl : ps.length ≤ N.length := by have := congrArg List.length S.pre; rw [List.length_take] at this; omega
 obtain ⟨h1, tk, rfl, hk⟩ := x.done
 have noA : ∀ b : Addr, b ∉ (cxOf CX P w K mg base N qual scope f cd A outer s H E).ex := fun b z => absurd (show b ∈ ([] : List Addr) from z) (by simp)
 refine ⟨⟨e0.mod, S.kind, rfl, rfl, Nat.le_refl _, fun y z c h1 h2 => ?_, fun y hy => ?_, fun y c _ h => ?_, fun _ => hd, Around.frames_deeper e0.frames, .inr ⟨rfl, rfl⟩, fun b z => absurd z (noA b), e0.bs, e0.bsz, fun b _ _ => noA b, fun b z => absurd z (noA b), e0.funs, e0.frf⟩,
  rfl, e0.bare, Un.kept hk, ⟨_, x.toInCall.ns, fun i y v h1 h2 h3 => ?_⟩, fun y c h => ⟨_, x.cell y c h⟩, e0.hok.fresh (Nat.le_refl _), fun y c h => ?_, fun p hp => absurd (show p ∈ ([] : List (Addr × Obj)) from hp) (by simp), e0.hok.kept hk, ?_⟩
 ·exact name_of_addr x.apart (PySem.mem_of_lookup h1) (PySem.mem_of_lookup h2)
 ·have hy : scope.names.lookup y = some .cell ∨ scope.names.lookup y = some .free := hy
  rcases hy with hy | hy
  ·exact cell_has hy
  ·exact absurd rfl (S.nofree _ (PySem.mem_of_lookup hy))
 ·exact Nat.le_of_lt (x.above y c (PySem.mem_of_lookup h))
 ·have hi : i < vs.length := by
   unfold start at h2
   by_cases hi : i < vs.length
   ·exact hi
   ·rw [List.getElem?_append_right (by simpa using hi)] at h2
    rw [List.getElem?_replicate] at h2
    split at h2 <;> cases h2
  have ha : vs[i]? = some v := by
   unfold start at h2
   rw [List.getElem?_append_left (by simpa using hi), List.getElem?_map] at h2
   cases e : vs[i]? with
   | none => rw [e] at h2; cases h2
   | some a => rw [e] at h2; cases h2; rfl
  obtain ⟨u, hu, rv⟩ := r.get ha
  have hp : ps[i]? = some y := by
   rw [← S.pre, List.getElem?_take_of_lt (by omega)]; exact h1
  have ndP : ps.Nodup := by rw [← S.pre]; exact S.nd.sublist (List.take_sublist _ _)
  refine ⟨u, rv, ?_⟩
  rcases S.par y (List.mem_of_getElem? hp) with k | k
  ·exact .inl ⟨k, bindL_get ndP hp hu k⟩
  ·obtain ⟨c, e⟩ := cell_has (n := s.heap.objs.size + 1) k
   refine .inr ⟨.inl k, c, e, ?_⟩
   have q := x.cell y c e
   rw [bindC_get ndP hp hu (by show scope.names.lookup y ≠ _; rw [k]; decide)] at q
   exact q
 ·exact e0.hok.fresh (Nat.le_of_lt (x.above y c (PySem.mem_of_lookup h)))
 ·unfold start
  show _ = N.length
  rw [List.length_append, List.length_map, List.length_replicate]
  omega
theorem fn_of {CX : CXT} {P : Program} {w : World} {K : PySem.W.Frag} {mg : Str → Option Value} {base : Heap} {k : Nat} {f : Addr} {name qual : Str} {params : Arguments} {body : List Stmt} {scope : Scope} {dV kV doc pm cdv ct oc : Value} {an od : Option Addr}
  {osl : Array (Option Value)} {N ps : List Str} {sp : Sp} (lk : K.lookup f = some ⟨oc, od, .func (PySem.W.fnOf name qual params body scope dV kV doc pm an cdv ct), osl⟩) (hcd : PySem.W.codeIn K cdv qual = true) (S : FnScope N ps scope)
  (len : ∀ vs H Q E, sp vs H Q E → vs.length = ps.length)
  (hbody : ∀ (A : Around) (outer : List Env) (s : Shared) (H : Hp) (vs : List V) (Q : VK) (E : XK), Room k (A.deeper (envOfC qual scope s.heap.objs.size f cdv)) → sp vs H Q E →
   ∃ t, PSs (cxOf CX P w K mg base N qual scope f cdv A outer s H E) body t ∧ t { nx := fun _ H' => Q .non H', rt := Q } (start N vs) H) :
  FnOk P w K mg base CX (k + 1) f (PySem.W.fnOf name qual params body scope dV kV doc pm an cdv ct) ps sp := by
 refine ⟨len, fun A outer s H args us vs Q E hr e0 hb r hsp => ?_⟩
 have hl := len _ _ _ _ hsp
 have KX : K.In s.heap := e0.mod.kin.keeps fun b o e => (e0.bs b o e).1
 have lim : s.heap.NoLimit := e0.mod.nolimit.keeps fun b o e => (e0.bs b o e).1
 have hkind : ∀ y ∈ ps.zip us, scope.names.lookup y.1 = some .local ∨ (scope.names.lookup y.1 = some .cell ∧ ((cellsFrom (s.heap.objs.size + 1) scope.names []).lookup y.1).isSome = true) := fun ⟨n, v⟩ hy => by
  rcases S.par n (List.of_mem_zip hy).1 with q | q
  ·exact .inl q
  ·exact .inr ⟨q, PySem.W.cellsFrom_some _ _ _ (.inl q)⟩
 refine codeAny_call_function hr.depth (KX _ _ lk) rfl S.co S.gen rfl (PySem.W.codeRec_of KX hcd) (hb _ _ _ _ ?_)
 refine wpAny_newFunctionEnv_cells S.kind hkind fun env he s1 x => ?_
 subst he
 refine ⟨lim.keeps x.toInCall.keep, codeAny_func ?_⟩
 obtain ⟨t, ht, hq⟩ := hbody A outer s H vs Q E (hr.deeper _) hsp
 have I : Inv (cxOf CX P w K mg base N qual scope f cdv A outer s H E) [] (start N vs) H s1 := inv_start S hr.hd e0 hl r x
 refine wpAny_mono (ht [] s1 (start N vs) H _ I hq) (fun fl s' hs => ?_) fun e s' hs => hs
 have fin : ∀ {σ' : St} {H' : Hp} {v : V} {u : Value}, Inv (cxOf CX P w K mg base N qual scope f cdv A outer s H E) [] σ' H' s' → RelV v u → Q v H' → CE outer P w H s Q u s' :=
  fun {σ' H' v u} J rv q => ⟨v, H', J.os, J.bare, J.base, J.hok, rv, q⟩
 cases fl with
 | ret u =>
  obtain ⟨v, σ', H', J, rv, q⟩ := hs
  exact fin J rv q
 | next =>
  obtain ⟨σ', H', J, q⟩ := hs
  exact fin (v := V.non) (u := Value.none) J rfl q
 | brk =>
  obtain ⟨_, _, _, q⟩ := hs
  exact False.elim q
 | cont =>
  obtain ⟨_, _, _, q⟩ := hs
  exact False.elim q
end L2
namespace L2
open PySem PySem.Spec PyProof.Rows
section
variable {X : Cx} {x : Str} {p pos : Pos} {e : Expr} {es : List Expr} {t : TA} {id T : String} {r : List V → Hp → VK → Prop}
def tCB (r : List V → Hp → VK → Prop) (t : TA) : TE := fun σ H Q => t σ H fun vs H1 => r vs H1 Q
theorem pe_callB (hc : CallR X (.builtin id) r) (hg : Gl X x) (hm : X.mg x = none) (hv : bootBuiltins x = some (.builtin id)) (ha : PA X (e :: es) t) (hn : x ≠ "__name__" := by decide) (hdb : (x == ("__debug__" : Str)) = false := by decide)
  (he : starEach (e :: es) X.env = (false, eval e X.env) :: starEach es X.env := by rfl) (hpl : (backTo pos (starEach es X.env)).any (·.1) = false := by rfl) : PE X (.Call (.Name x p) (e :: es) [] pos) (tCB r t) := by
 intro pins s σ H Q I h
 refine wpAny_Call_Name_kw (ld_blt I hg hm hv ?_ hn hdb)
 exact PyProof.Rows.callWith_builtin1 (thn (ha pos pins s σ H _ I h) fun us s1 ⟨vs, H1, I1, r1, q1⟩ => hc pins s1 σ H1 vs us Q I1 r1 q1) he hpl
theorem pe_callTy (hc : CallR X (.type T) r) (hg : Gl X x) (hm : X.mg x = none) (hv : bootBuiltins x = some (.type T)) (ha : PA X (e :: es) t) (hn : x ≠ "__name__" := by decide) (hdb : (x == ("__debug__" : Str)) = false := by decide)
  (he : starEach (e :: es) X.env = (false, eval e X.env) :: starEach es X.env := by rfl) (hpl : (backTo pos (starEach es X.env)).any (·.1) = false := by rfl) : PE X (.Call (.Name x p) (e :: es) [] pos) (tCB r t) := by
 intro pins s σ H Q I h
 refine wpAny_Call_Name_kw (ld_blt I hg hm hv ?_ hn hdb)
 exact PyProof.Rows.callWith_type1 (thn (ha pos pins s σ H _ I h) fun us s1 ⟨vs, H1, I1, r1, q1⟩ => hc pins s1 σ H1 vs us Q I1 r1 q1) he hpl
end
end L2
namespace HT
open PySem PyProof.Rows
section
open PySem.SeqAt
open PySem.AutoSeq1 (wpAny_loadPart')
open PySem.MeetsSeq PySem.MeetsSeq2 PySem.MeetsSeq3
end
section
variable {prog : Program} {w : World} {A : Around} {E : Value → Shared → Prop} {s : Shared}
def sIx (n d : Nat) : Option Int → Nat
 | none => d
 | some v => if v < 0 then (v + (n : Int)).toNat else min v.toNat n
theorem sIx_none (n d : Nat) : sIx n d none = d := rfl
theorem sIx_nat (n d k : Nat) : sIx n d (some (k : Int)) = min k n := by
 show (if (k : Int) < 0 then ((k : Int) + (n : Int)).toNat else min (k : Int).toNat n) = min k n
 rw [if_neg (by omega), Int.toNat_natCast]
end
end HT
namespace L2
open PySem PySem.Spec PyProof.Rows
abbrev TO := St → Hp → (Option Int → Hp → Prop) → Prop
def PO (X : Cx) (e : Option Expr) (t : TO) : Prop :=
 ∀ (pins : List (Addr × Obj)) (s : Shared) (σ : St) (H : Hp) (Q : Option Int → Hp → Prop), Inv X pins σ H s → t σ H Q →
  wpAny (model X.prog X.w) X.A (evalPart e X.env) (fun u s' => ∃ o H', Inv X pins σ H' s' ∧ IsPart u o ∧ Q o H') X.xe s
def tNoPart : TO := fun _ H Q => Q none H
def tPart (t : TE) : TO := fun σ H Q => t σ H fun x H1 => ∃ i, x = .int i ∧ Q (some i) H1
section
variable {X : Cx} {e : Expr} {te : TE} {lo hi : Option Expr} {tl th : TO} {pos p2 : Pos}
theorem po_none : PO X none tNoPart := by
 intro pins s σ H Q I h
 rw [evalPart_none]
 exact wpAny_pure ⟨none, H, I, .none, h⟩
theorem po_some (h : PE X e te) : PO X (some e) (tPart te) := by
 intro pins s σ H Q I hw
 rw [evalPart_some]
 refine thn (h pins s σ H _ I hw) fun u s1 ⟨x, H1, I1, r1, q1⟩ => ?_
 obtain ⟨i, rfl, q⟩ := q1
 obtain ⟨t, rfl⟩ := r1
 exact ⟨some i, H1, I1, .int i t, q⟩
def SlR (X : Cx) (r : V → Option Int → Option Int → Hp → VK → Prop) : Prop :=
 ∀ (pins : List (Addr × Obj)) (s : Shared) (σ : St) (H : Hp) (x : V) (v vl vu : Value) (lo hi : Option Int) (sl : Addr) (Q : VK), Inv X pins σ H s → RelV x v → s.heap.IsSliceOf sl vl vu .none → IsPart vl lo → IsPart vu hi → r x lo hi H Q →
  ∃ T id, typeLookup (.type T) "__getitem__" = pure (some (.builtin id)) ∧ s.TypeIs v T ∧ wpAny (model X.prog X.w) X.A (getItem v (.ref sl)) (EP X pins σ Q) X.xe s
def tSl (r : V → Option Int → Option Int → Hp → VK → Prop) (te : TE) (tl th : TO) : TE := fun σ H Q => te σ H fun x H1 => tl σ H1 fun l H2 => th σ H2 fun u H3 => r x l u H3 Q
theorem pe_slice {r : V → Option Int → Option Int → Hp → VK → Prop} (hr : SlR X r) (he : PE X e te) (hl : PO X lo tl) (hu : PO X hi th) : PE X (.Subscript e (.Slice lo hi none p2) pos) (tSl r te tl th) := by
 intro pins s σ H Q I h
 refine Subscript_ (thn (he pins s σ H _ I h) fun v s1 ⟨x, H1, I1, r1, q1⟩ => ?_)
 refine wpAny_Slice (thn (hl pins s1 σ H1 _ I1 q1) fun vl s2 ⟨l, H2, I2, pl, q2⟩ => thn (hu pins s2 σ H2 _ I2 q2) fun vu s3 ⟨u, H3, I3, pu, q3⟩ => ?_)
 rw [evalPart_none]
 refine wpAny_pure ?_
 have I4 : Inv X pins σ H3 { s3 with heap := s3.heap.push { cls := .type "slice", data := .fields #[vl, vu, .none] } } := I3.kept (t' := s3.toks) fun b ob q => Heap.get?_push_of_some _ q
 obtain ⟨T, id, hT, ht, hg⟩ := hr pins { s3 with heap := s3.heap.push { cls := .type "slice", data := .fields #[vl, vu, .none] } } σ H3 x v vl vu l u s3.heap.objs.size Q I4 r1 (Heap.IsSliceOf.new ..) pl pu q3
 show wpAny (model X.prog X.w) X.A (subscriptTail e (.Slice lo hi none p2) v (.ref s3.heap.objs.size)) (EP X pins σ Q) X.xe { s3 with heap := s3.heap.push { cls := .type "slice", data := .fields #[vl, vu, .none] } }
 exact tail_any (ops := [.ref s3.heap.objs.size, v]) ht hT hg (by with_unfolding_all rfl)
def cutV (xs : List V) (lo hi : Option Int) : List V := (xs.drop (HT.sIx xs.length 0 lo)).take (HT.sIx xs.length xs.length hi - HT.sIx xs.length 0 lo)
theorem cutV_length (xs : List V) (lo hi : Option Int) : (cutV xs lo hi).length ≤ xs.length := by
 unfold cutV
 rw [List.length_take, List.length_drop]
 omega
end
end L2
namespace L2
open PySem PySem.Spec PyProof.Rows
def ixN (n : Nat) (i : Int) : Option Nat := if 0 ≤ i then (if i < n then some i.toNat else none) else if -(n : Int) ≤ i then some (i + n).toNat else none
def atI {α : Type} (xs : List α) (i : Int) : Option α := (ixN xs.length i).bind fun j => xs[j]?
theorem ixN_seq {n : Nat} {i : Int} {j : Nat} (h : ixN n i = some j) : seqIndex? i n = some j ∧ j < n ∧ -(n : Int) ≤ i ∧ i < n := by
 unfold ixN at h
 by_cases h0 : 0 ≤ i
 ·rw [if_pos h0] at h
  by_cases h1 : i < n
  ·rw [if_pos h1] at h
   have e : i.toNat = j := Option.some.inj h
   exact ⟨by rw [seqIndex_of h0 h1, e], by omega, by omega, h1⟩
  ·rw [if_neg h1] at h; cases h
 ·rw [if_neg h0] at h
  by_cases h1 : -(n : Int) ≤ i
  ·rw [if_pos h1] at h
   have e : (i + n).toNat = j := Option.some.inj h
   exact ⟨by rw [seqIndex_neg (by omega) h1, e], by omega, h1, by omega⟩
  ·rw [if_neg h1] at h; cases h
theorem atI_get {α : Type} {xs : List α} {i : Int} {v : α} (h : atI xs i = some v) : ∃ j, seqIndex? i xs.length = some j ∧ xs[j]? = some v ∧ j < xs.length ∧ -(xs.length : Int) ≤ i ∧ i < xs.length := by
 unfold atI at h
 cases e : ixN xs.length i with
 | none => rw [e] at h; cases h
 | some j =>
  rw [e] at h
  obtain ⟨h1, h2, h3, h4⟩ := ixN_seq e
  exact ⟨j, h1, h, h2, h3, h4⟩
theorem atI_nat {α : Type} {xs : List α} {j : Nat} {v : α} (h : xs[j]? = some v) : atI xs (j : Int) = some v := by
 have hj : j < xs.length := (List.getElem?_eq_some_iff.mp h).1
 have e : ixN xs.length (j : Int) = some j := by
  unfold ixN
  rw [if_pos (by omega), if_pos (by omega)]; simp
 unfold atI; rw [e]; exact h
def PlainIx (b : Expr) : Prop := ∀ o i, subscripted b false o i = operate [o, i] (getItem o i)
def IxR (X : Cx) (r : R2) : Prop :=
 ∀ (value slice : Expr) (pins : List (Addr × Obj)) (s : Shared) (σ : St) (H : Hp) (x y : V) (v u : Value) (Q : VK), Inv X pins σ H s → RelV x v → RelV y u → r x y H Q →
  subscripted slice false v u = operate [v, u] (getItem v u) → wpAny (model X.prog X.w) X.A (subscriptTail value slice v u) (EP X pins σ Q) X.xe s
def MtR (X : Cx) (id : String) (r : V → List V → Hp → VK → Prop) : Prop :=
 ∀ (pins : List (Addr × Obj)) (s : Shared) (σ : St) (H : Hp) (x : V) (xs : List V) (v : Value) (us : List Value) (Q : VK), Inv X pins σ H s → RelV x v → Vals xs us → r x xs H Q →
  wpAny (model X.prog X.w) X.A (call (.builtin id) (v :: us)) (EP X pins σ Q) X.xe s
section
variable {X : Cx} {a b : Expr} {ta tb : TE} {pos : Pos}
theorem pe_ix {r : R2} (hr : IxR X r) (ha : PE X a ta) (hb : PE X b tb) (hs : PlainIx b) : PE X (.Subscript a b pos) (tOp r ta tb) := by
 intro pins s σ H Q I h
 exact Subscript_ (binT ha hb I h fun v u s2 x y H2 I2 rx ry q => hr a b pins s2 σ H2 x y v u Q I2 rx ry q (hs _ _))
def rIxL (K : PySem.W.Frag) : R2 := fun x y H Q => ∃ p xs i v, x = .ref p ∧ y = .int i ∧ SqL K H p xs ∧ atI xs i = some v ∧ Q v H
def rIxT (K : PySem.W.Frag) : R2 := fun x y H Q => ∃ p xs i v, x = .ref p ∧ y = .int i ∧ SqT K H p xs ∧ atI xs i = some v ∧ Q v H
def rIxS : R2 := fun x y H Q => ∃ z i c, x = .str z ∧ y = .int i ∧ z.length ≤ sizeLine ∧ atI z.cps.toList i = some c ∧ Q (.str ⟨#[c]⟩) H
theorem ix_list : IxR X (rIxL X.K) := by
 intro value slice pins s σ H x y v u Q I rx ry h hs
 obtain ⟨p, xs, i, z, rfl, rfl, hq, he, q⟩ := h
 cases rx
 obtain ⟨t, rfl⟩ := ry
 obtain ⟨its, r, pl, hz⟩ := I.list hq
 obtain ⟨j, h1, h2, h3, h4, h5⟩ := atI_get he
 obtain ⟨w, ew, rw'⟩ := r.get h2
 have hl := r.length
 have hn := line63
 have fin : EP X pins σ Q w s := ⟨z, H, I, rw', q⟩
 by_cases h0 : 0 ≤ i
 ·have hj : i.toNat = j := by
   rw [seqIndex_of h0 h5] at h1
   exact Option.some.inj h1
  exact item_listR pl.isList h0 (by omega) (by rw [hj]; simpa using ew) fin hs
 ·have hj : (i + (its.toArray.size : Int)).toNat = j := by
   rw [seqIndex_neg (by omega) h4] at h1
   rw [List.size_toArray, ← hl]
   exact Option.some.inj h1
  exact subscriptTail_builtinR (x := w) pl.isList.typeIs slot_list_getitem.lookup
   (wpAny_getItem_list_neg (Q := fun r s' => r = w ∧ EP X pins σ Q r s') pl.isList (by omega) (by rw [List.size_toArray] <;> omega) (by omega) (by rw [hj]; simpa using ew) ⟨rfl, fin⟩) hs
theorem ix_tup : IxR X (rIxT X.K) := by
 intro value slice pins s σ H x y v u Q I rx ry h hs
 obtain ⟨p, xs, i, z, rfl, rfl, hq, he, q⟩ := h
 cases rx
 obtain ⟨t, rfl⟩ := ry
 obtain ⟨its, r, pl, hz⟩ := I.tuple hq
 obtain ⟨j, h1, h2, h3, h4, h5⟩ := atI_get he
 obtain ⟨w, ew, rw'⟩ := r.get h2
 have hl := r.length
 have hn := line63
 have fin : EP X pins σ Q w s := ⟨z, H, I, rw', q⟩
 exact subscriptTail_builtinR (x := w) pl.typeIs slot_tuple_getitem.lookup
  (getItem_tuple (j := j) (Q := fun r s' => r = w ∧ EP X pins σ Q r s') pl (by omega) (by omega) (by rw [List.size_toArray, ← hl]; exact h1) (by simpa using ew) ⟨rfl, fin⟩) hs
theorem ix_str : IxR X rIxS := by
 intro value slice pins s σ H x y v u Q I rx ry h hs
 obtain ⟨z, i, c, rfl, rfl, hz, he, q⟩ := h
 obtain ⟨t, rfl⟩ := rx
 obtain ⟨t', rfl⟩ := ry
 obtain ⟨j, h1, h2, h3, h4, h5⟩ := atI_get he
 have hl : z.cps.toList.length = z.length := by simp [Str.length]
 rw [hl] at h1 h4 h5
 have hn := line63
 exact tail_any (typeIs_str s z t) slot_str_getitem.lookup (getItem_str (c := c) (by
  have e1 : decide (i < -(2 ^ 63 : Int)) = false := decide_eq_false (by omega)
  have e2 : decide (i ≥ 2 ^ 63) = false := decide_eq_false (by omega)
  rw [e1, e2, Bool.or_false]) (by rw [h1]; simpa using h2) ⟨.str ⟨#[c]⟩, H, I.tok _, ⟨_, rfl⟩, q⟩) hs
theorem slice_bounds (lo hi : Option Int) (n : Nat) : (sliceBounds lo hi none n).1 = ((HT.sIx n 0 lo : Nat) : Int) ∧ (sliceBounds lo hi none n).2.1 = ((HT.sIx n n hi : Nat) : Int) ∧ (sliceBounds lo hi none n).2.2 = 1 := by
 refine ⟨?_, ?_, rfl⟩
 ·cases lo with
  | none => simp [sliceBounds, HT.sIx]
  | some i =>
   simp only [sliceBounds, HT.sIx, Option.getD_none, show (1 : Int) > 0 by decide, if_true]
   by_cases h : i < 0
   ·simp only [h, if_true] <;> omega
   ·simp only [h, if_false] <;> omega
 ·cases hi with
  | none => simp [sliceBounds, HT.sIx]
  | some i =>
   simp only [sliceBounds, HT.sIx, Option.getD_none, show (1 : Int) > 0 by decide, if_true]
   by_cases h : i < 0
   ·simp only [h, if_true] <;> omega
   ·simp only [h, if_false] <;> omega
theorem slicePick_cut (its : List Value) (lo hi : Option Int) : slicePick its.toArray lo hi none = ((its.drop (HT.sIx its.length 0 lo)).take (HT.sIx its.length its.length hi - HT.sIx its.length 0 lo)).toArray := by
 obtain ⟨h1, h2, h3⟩ := slice_bounds lo hi its.toArray.size
 unfold slicePick
 rw [h1, h2, h3]
 simp only [sliceRange_one, pick_run, List.size_toArray] <;> rfl
def rSlL (K : PySem.W.Frag) : V → Option Int → Option Int → Hp → VK → Prop := fun x lo hi H Q => ∃ a xs, x = .ref a ∧ SqL K H a xs ∧ ∀ p, H p = none → Q (.ref p) (upd H p (.lst (cutV xs lo hi)))
theorem sl_list : SlR X (rSlL X.K) := by
 intro pins s σ H x v vl vu lo hi sl Q I rx hs pl pu h
 obtain ⟨a, xs, rfl, hx, q⟩ := h
 cases rx
 obtain ⟨its, r, ht, hz⟩ := I.list hx
 have hlen := r.length
 refine ⟨"list", _, slot_list_getitem.lookup, ht.isList.typeIs, ?_⟩
 refine wpAny_getItem_list_slice ht.isList hs pl pu .none (by simp) ?_ (by rw [List.size_toArray] <;> omega)
 rw [slicePick_cut, ← hlen]
 refine ⟨.ref s.heap.objs.size, _, I.laid (t' := s.toks) (o := .lst (cutV xs lo hi)) (fun b ob q => Heap.get?_push_of_some _ q) (Nat.le_refl _) ?_, rfl, q _ (I.hok.fresh (Nat.le_refl _))⟩
 exact ⟨Nat.le_trans (cutV_length xs lo hi) hz, _, 0, (r.drop (HT.sIx xs.length 0 lo)).take (HT.sIx xs.length xs.length hi - HT.sIx xs.length 0 lo), Heap.get?_push_size _ rfl⟩
def flatV : V → Bool
 | .non => true
 | .bl _ => true
 | .int _ => true
 | .str _ => true
 | _ => false
def eqV : V → V → Bool
 | .non, .non => true
 | .bl a, .bl b => a == b
 | .bl a, .int b => (if a then 1 else 0) == b
 | .int a, .bl b => a == (if b then 1 else 0)
 | .int a, .int b => a == b
 | .str a, .str b => a == b
 | _, _ => false
theorem eqAt_V {A : Around} {s : Shared} {y x : V} {u v : Value} (ry : RelV y u) (rx : RelV x v) (fy : flatV y = true) (fx : flatV x = true) : SeqAt.EqAt A s u v (eqV y x) := by
 cases y with
 | non =>
  cases ry
  cases x with
  | non => cases rx; exact SeqAt.EqAt.same _
  | bl b => cases rx; exact SeqAt.EqAt.none_bool b
  | int b => obtain ⟨t, rfl⟩ := rx; exact SeqAt.EqAt.none_int b t
  | str b => obtain ⟨t, rfl⟩ := rx; exact SeqAt.EqAt.none_str b t
  | _ => exact absurd (show false = true from fx) Bool.false_ne_true
 | bl a =>
  cases ry
  cases x with
  | non => cases rx; exact SeqAt.EqAt.bool_none a
  | bl b => cases rx; exact SeqAt.EqAt.bool_bool a b
  | int b => obtain ⟨t, rfl⟩ := rx; exact SeqAt.EqAt.bool_int a b t
  | str b => obtain ⟨t, rfl⟩ := rx; exact SeqAt.EqAt.bool_str a b t
  | _ => exact absurd (show false = true from fx) Bool.false_ne_true
 | int a =>
  obtain ⟨t', rfl⟩ := ry
  cases x with
  | non => cases rx; exact SeqAt.EqAt.int_none a t'
  | bl b => cases rx; exact SeqAt.EqAt.int_bool a t' b
  | int b => obtain ⟨t, rfl⟩ := rx; exact SeqAt.EqAt.int_int a t' b t
  | str b => obtain ⟨t, rfl⟩ := rx; exact SeqAt.EqAt.int_str a t' b t
  | _ => exact absurd (show false = true from fx) Bool.false_ne_true
 | str a =>
  obtain ⟨t', rfl⟩ := ry
  cases x with
  | non => cases rx; exact SeqAt.EqAt.str_none a t'
  | bl b => cases rx; exact SeqAt.EqAt.str_bool a t' b
  | int b => obtain ⟨t, rfl⟩ := rx; exact SeqAt.EqAt.str_int a t' b t
  | str b => obtain ⟨t, rfl⟩ := rx; exact SeqAt.EqAt.str_str a t' b t
  | _ => exact absurd (show false = true from fx) Bool.false_ne_true
 | _ => exact absurd (show false = true from fy) Bool.false_ne_true
def eqU (x : V) (u : Value) : Bool := match u with
 | .none => eqV .non x
 | .bool b => eqV (.bl b) x
 | .int i _ => eqV (.int i) x
 | .str z _ => eqV (.str z) x
 | _ => false
theorem eqU_of {x y : V} {u : Value} (r : RelV y u) (f : flatV y = true) : eqU x u = eqV y x := by
 cases y with
 | non => cases r; rfl
 | bl b => cases r; rfl
 | int i => obtain ⟨t, rfl⟩ := r; rfl
 | str z => obtain ⟨t, rfl⟩ := r; rfl
 | _ => exact absurd (show false = true from f) Bool.false_ne_true
theorem any_eqU {x : V} : ∀ {xs : List V} {us : List Value}, Vals xs us → xs.all flatV = true → us.any (eqU x) = xs.any fun y => eqV y x
 | _, _, .nil, _ => rfl
 | y :: xs, u :: us, .cons r t, f => by
  rw [List.all_cons, Bool.and_eq_true] at f
  rw [List.any_cons, List.any_cons, eqU_of r f.1, any_eqU t f.2]
theorem mem_eqAt {A : Around} {s : Shared} {x : V} {v : Value} (rx : RelV x v) (fx : flatV x = true) : ∀ {xs : List V} {us : List Value}, Vals xs us → xs.all flatV = true → ∀ u ∈ us, SeqAt.EqAt A s u v (eqU x u)
 | _, _, .nil, _ => fun u hu => by cases hu
 | y :: xs, u :: us, .cons r t, f => fun u' hu => by
  rw [List.all_cons, Bool.and_eq_true] at f
  rcases List.mem_cons.mp hu with rfl | hu
  ·rw [eqU_of r f.1]; exact eqAt_V r rx f.1 fx
  ·exact mem_eqAt rx fx t f.2 u' hu
def inV (x : V) (xs : List V) : Bool := xs.any fun y => eqV y x
def rIn (K : PySem.W.Frag) (neg : Bool) : R2 := fun x y H Q => ∃ p xs, y = .ref p ∧ (SqL K H p xs ∨ SqT K H p xs) ∧ flatV x = true ∧ xs.all flatV = true ∧ Q (.bl (if neg then !inV x xs else inV x xs)) H
theorem op_in_seq : OpR X (compareOp .In) (rIn X.K false) := by
 intro pins s σ H x y v u Q I rx ry h
 obtain ⟨p, xs, rfl, hq, fx, fs, q⟩ := h
 cases ry
 rcases hq with hq | hq
 ·obtain ⟨its, r, pl, hz⟩ := I.list hq
  refine SeqAt.in_listAt (eqU x) pl.isList (fun w hw => mem_eqAt rx fx r fs w (by simpa using hw)) ⟨.bl _, H, I, rfl, ?_⟩
  rw [show its.toArray.any (eqU x) = its.any (eqU x) by simp, any_eqU r fs]
  exact q
 ·obtain ⟨its, r, pl, hz⟩ := I.tuple hq
  refine SeqAt.in_tupleAt (eqU x) pl (fun w hw => mem_eqAt rx fx r fs w (by simpa using hw)) ⟨.bl _, H, I, rfl, ?_⟩
  rw [show its.toArray.any (eqU x) = its.any (eqU x) by simp, any_eqU r fs]
  exact q
theorem op_notIn_seq : OpR X (compareOp .NotIn) (rIn X.K true) := by
 intro pins s σ H x y v u Q I rx ry h
 obtain ⟨p, xs, rfl, hq, fx, fs, q⟩ := h
 cases ry
 rcases hq with hq | hq
 ·obtain ⟨its, r, pl, hz⟩ := I.list hq
  refine SeqAt.notIn_listAt (eqU x) pl.isList (fun w hw => mem_eqAt rx fx r fs w (by simpa using hw)) ⟨.bl _, H, I, rfl, ?_⟩
  rw [show its.toArray.any (eqU x) = its.any (eqU x) by simp, any_eqU r fs]
  exact q
 ·obtain ⟨its, r, pl, hz⟩ := I.tuple hq
  refine SeqAt.notIn_tupleAt (eqU x) pl (fun w hw => mem_eqAt rx fx r fs w (by simpa using hw)) ⟨.bl _, H, I, rfl, ?_⟩
  rw [show its.toArray.any (eqU x) = its.any (eqU x) by simp, any_eqU r fs]
  exact q
theorem call_len_seq : CallR X (.builtin "len") (fun xs H Q => ∃ p ys, xs = [.ref p] ∧ (SqL X.K H p ys ∨ SqT X.K H p ys) ∧ Q (.int ys.length) H) := by
 intro pins s σ H xs us Q I r h
 obtain ⟨p, ys, rfl, hq, q⟩ := h
 obtain ⟨u, rfl, rx⟩ := vals1 r
 cases rx
 have hn := line63
 rcases hq with hq | hq
 ·obtain ⟨its, r', pl, hz⟩ := I.list hq
  have hlen := r'.length
  exact Calls.call_len_list pl.isList (by simp only [List.size_toArray] <;> omega) ⟨.int ys.length, H, I.tok _, ⟨s.toks + 1, by rw [List.size_toArray, hlen]⟩, q⟩
 ·obtain ⟨its, r', pl, hz⟩ := I.tuple hq
  have hlen := r'.length
  exact len_tuple pl (by simp only [List.size_toArray] <;> omega) ⟨.int ys.length, H, I.tok _, ⟨s.toks + 1, by rw [List.size_toArray, hlen]⟩, q⟩
theorem call_len_str : CallR X (.builtin "len") (fun xs H Q => ∃ z, xs = [.str z] ∧ z.length ≤ sizeLine ∧ Q (.int z.length) H) := by
 intro pins s σ H xs us Q I r h
 obtain ⟨z, rfl, hz, q⟩ := h
 obtain ⟨u, rfl, t, rfl⟩ := vals1 r
 have hn := line63
 exact len_str (by omega) ⟨.int z.length, H, I.tok _, ⟨_, rfl⟩, q⟩
def tyV (K : PySem.W.Frag) (T : String) (x : V) (H : Hp) : Prop := match x with
 | .str _ => T = "str"
 | .int _ => T = "int"
 | .ref p => (T = "list" ∧ ∃ xs, SqL K H p xs) ∨ (T = "tuple" ∧ ∃ o, K.lookup p = some o ∧ o.cls = .type "tuple" ∧ o.dict = none) ∨
   (T = "dict" ∧ ((∃ kvs, H p = some (.dK kvs)) ∨ ∃ kvs, H p = some (.dT kvs))) ∨ (T = "set" ∧ ∃ S n, H p = some (.set S n))
 | _ => False
theorem tyV_is {pins : List (Addr × Obj)} {σ : St} {H : Hp} {s : Shared} {T : String} {x : V} {v : Value} (I : Inv X pins σ H s) (r : RelV x v) (ty : tyV X.K T x H) :
  s.TypeIs v T ∧ ∀ a, v = .ref a → ∃ ob, s.heap.get? a = some ob ∧ ob.dict = none := by
 cases x with
 | str z =>
  obtain ⟨t, rfl⟩ := r
  cases (show T = "str" from ty)
  exact ⟨typeIs_str s z t, fun _ e => nomatch e⟩
 | int i =>
  obtain ⟨t, rfl⟩ := r
  cases (show T = "int" from ty)
  exact ⟨typeIs_int s i t, fun _ e => nomatch e⟩
 | ref p =>
  cases r
  rcases ty with ⟨rfl, xs, hq⟩ | ⟨rfl, o, hk, hc, hd⟩ | ⟨rfl, hk⟩ | ⟨rfl, S, n, hk⟩
  ·obtain ⟨its, _, pl, _⟩ := I.list hq
   refine ⟨pl.isList.typeIs, fun a e => ?_⟩
   cases e
   obtain ⟨o, n, e, c, hd, _⟩ := pl
   exact ⟨o, e, hd⟩
  ·refine ⟨⟨o, I.kIn p o hk, hc⟩, fun a e => ?_⟩
   cases e
   exact ⟨o, I.kIn _ o hk, hd⟩
  ·have z : ∃ o, s.heap.get? p = some o ∧ o.ExactDict := by
    rcases hk with ⟨kvs, hk⟩ | ⟨kvs, hk⟩
    ·obtain ⟨_, _, _, _, o, _, _, e, ex, _⟩ := I.hok p _ hk
     exact ⟨o, e, ex⟩
    ·obtain ⟨_, _, _, _, o, _, _, e, ex, _⟩ := I.hok p _ hk
     exact ⟨o, e, ex⟩
   obtain ⟨o, e, ex⟩ := z
   refine ⟨⟨o, e, ex.1⟩, fun a e2 => ?_⟩
   cases e2
   exact ⟨o, e, ex.2.1⟩
  ·obtain ⟨o, _, _, _, e, ex, _⟩ := I.hok p _ hk
   refine ⟨⟨o, e, ex.1⟩, fun a e2 => ?_⟩
   cases e2
   exact ⟨o, e, ex.2.1⟩
 | _ => exact False.elim ty
def tBM (K : PySem.W.Frag) (T : String) (r : V → List V → Hp → VK → Prop) (to : TE) (t : TA) : TE := fun σ H Q => to σ H fun x H1 => tyV K T x H1 ∧ t σ H1 fun xs H2 => r x xs H2 Q
variable {o e : Expr} {es : List Expr} {to : TE} {t : TA} {name : Str} {apos cpos : Pos} {T id : String} {r : V → List V → Hp → VK → Prop}
theorem pe_bm (pa : PlainAttrs T) (slot : Slot T name id) (hty : typeOf (.builtin id) = pure (.type "method_descriptor")) (hm : MtR X id r) (ho : PE X o to) (ha : PA X (e :: es) t)
  (hbase : attributeBase o name X.env (eval o X.env) = eval o X.env := by rfl)
  (hfew : ((backTo cpos (starEach (e :: es) X.env)).all (fun x => !x.1) && (backToKw cpos (keywordEach [] X.env)).all (fun x => x.1.isSome)
   && decide ((e :: es).length + ([] : List Keyword).length + (if ([] : List Keyword).isEmpty then 0 else 1) < 30)) = true := by rfl)
  (hline : (apos.endLine == cpos.line) = true := by rfl) (hs : starEach (e :: es) X.env = (false, eval e X.env) :: starEach es X.env := by rfl) (hplain : (backTo cpos (starEach es X.env)).any (·.1) = false := by rfl) :
  PE X (.Call (.Attribute o name apos) (e :: es) [] cpos) (tBM X.K T r to t) := by
 intro pins s σ H Q I h
 refine wpAny_Call_method_late hbase hfew hline rfl (thn (ho pins s σ H _ I h) fun v s1 ⟨x, H1, I1, r1, ty, q1⟩ => ?_)
 obtain ⟨h1, h2⟩ := tyV_is I1 r1 ty
 refine ⟨T, id, pa, slot, hty, h1, h2, ?_⟩
 have hA := ha cpos pins s1 σ H1 _ I1 q1
 rw [hs] at hA ⊢
 refine Calls.callWith_builtin (by show (false || (backTo cpos (starEach es X.env)).any (·.1)) = false; rw [hplain] <;> rfl) (Calls.evalArgs_plain ?_)
 exact thn hA fun us s2 ⟨vs, H2, I2, r2, q2⟩ => hm pins s2 σ H2 x vs v us Q I2 r1 r2 q2
end
end L2
namespace L2
open PySem PySem.Spec PyProof.Rows
def MtM (X : Cx) (id : String) (r : V → List V → Hp → VK → Prop) : Prop :=
 ∀ (pins : List (Addr × Obj)) (s : Shared) (σ : St) (H : Hp) (x : V) (xs : List V) (v : Value) (us : List Value) (Q : VK), Inv X pins σ H s → RelV x v → Vals xs us → r x xs H Q →
  wpAny (model X.prog X.w) X.A (call (.builtin id) (v :: us)) (EP X pins σ Q) X.xe s
theorem Vals.one : ∀ {x : V} {us : List Value}, Vals [x] us → ∃ u, us = [u] ∧ RelV x u
 | _, _, .cons r .nil => ⟨_, rfl, r⟩
section
variable {X : Cx} {pins : List (Addr × Obj)} {σ : St} {H : Hp} {s : Shared} {l b : Addr} {xs ys zs : List V}
theorem Inv.lset {its its' : List Value} {n : Nat} {f : Array Value → Array Value} {t' : Nat} (I : Inv X pins σ H s) (hH : H l = some (.lst xs))
  (e : s.heap.get? l = some { cls := .type "list", data := .seq its.toArray n }) (hf : f its.toArray = its'.toArray) (hv : Vals ys its') (hz : ys.length ≤ sizeLine) :
  Inv X pins σ (upd H l (.lst ys)) { s with heap := s.heap.update l (Obj.mapSeq f), toks := t' } := by
 have q := PySem.IsL.update e f
 rw [hf] at q
 refine I.write (x := l) (e := l) (by rw [hH]; exact trivial) (.inl rfl) (fun b' u hb hu => (Heap.get?_update_other s.heap (Obj.mapSeq f) (Ne.symm hb)).trans hu) ⟨_, q⟩ ?_
 exact ⟨hz, its', _, hv, q⟩
theorem Inv.lnew {its : List Value} {t' : Nat} (I : Inv X pins σ H s) (hv : Vals ys its) (hz : ys.length ≤ sizeLine) :
  Inv X pins σ (upd H s.heap.objs.size (.lst ys)) { s with heap := s.heap.push { cls := .type "list", data := .seq its.toArray }, toks := t' } :=
 I.laid (fun _ _ q => Heap.get?_push_of_some _ q) (Nat.le_refl _) ⟨hz, its, 0, hv, Heap.get?_push_size _ rfl⟩
theorem Inv.fresh (I : Inv X pins σ H s) : H s.heap.objs.size = none := I.hok.fresh (Nat.le_refl _)
theorem Inv.lstM (I : Inv X pins σ H s) (hH : H l = some (.lst xs)) : xs.length ≤ sizeLine ∧ ∃ (its : List Value) (n : Nat), Vals xs its ∧ xs.length = its.length ∧ s.heap.get? l = some { cls := .type "list", data := .seq its.toArray n } := by
 obtain ⟨z, its, n, r, e⟩ := I.hok l _ hH
 exact ⟨z, its, n, r, r.length, e⟩
end
section
variable {X : Cx}
def rAppend : V → List V → Hp → VK → Prop := fun x vs H Q => ∃ l xs y, x = .ref l ∧ vs = [y] ∧ H l = some (.lst xs) ∧ xs.length < sizeLine ∧ Q .non (upd H l (.lst (xs ++ [y])))
theorem mt_append : MtM X "list.append" rAppend := by
 intro pins s σ H x vs v us Q I rx rv h
 obtain ⟨l, xs, y, rfl, rfl, hH, hz, q⟩ := h
 cases rx
 obtain ⟨u, rfl, ru⟩ := rv.one
 obtain ⟨z, its, n, r, hl, e⟩ := I.lstM hH
 refine call_meets F.slot_list_append ⟨_, e, rfl⟩ F.entry_list_append (F.args_list_append_2 _ _) (PySem.list_append l its.toArray n u (by rw [List.size_toArray]; omega)) ⟨e, ?_⟩
 refine ⟨.non, _, I.lset (its' := its ++ [u]) hH e (by simp) (r.append (.cons ru .nil)) ?_, rfl, q⟩
 rw [List.length_append, List.length_singleton]
 omega
def rCat : R2 := fun x y H Q => ∃ l b xs zs, x = .ref l ∧ y = .ref b ∧ H l = some (.lst xs) ∧ H b = some (.lst zs) ∧ xs.length + zs.length ≤ sizeLine ∧ ∀ p, H p = none → Q (.ref p) (upd H p (.lst (xs ++ zs)))
theorem op_cat : OpR X (binaryOp .Add) rCat := by
 intro pins s σ H x y v u Q I rx ry h
 obtain ⟨l, b, xs, zs, rfl, rfl, hH, hB, hz, q⟩ := h
 cases rx
 cases ry
 obtain ⟨z, its, n, r, hl, e⟩ := I.lstM hH
 obtain ⟨z2, its2, n2, r2, hl2, e2⟩ := I.lstM hB
 refine PySem.P.add_list e e2 ?_ (by rw [List.size_toArray, List.size_toArray]; omega)
 have ea : its.toArray ++ its2.toArray = (its ++ its2).toArray := by simp
 rw [ea]
 exact ⟨.ref _, _, I.lnew (t' := s.toks) (r.append r2) (by rw [List.length_append]; omega), rfl, q _ I.fresh⟩
end
section
variable {prog : Program} {w : World} {A : Around} {E : Value → Shared → Prop} {s : Shared}
set_option maxRecDepth 100000 in
end
section
variable {X : Cx}
end
end L2
namespace L2
open PySem PySem.Spec PyProof.Rows
section
variable {κ : Type} [DecidableEq κ]
def valV (kvs : List (κ × V)) (k : κ) : Option V := (kvs.find? fun kv => decide (kv.1 = k)).map (·.2)
def putK (kvs : List (κ × V)) (k : κ) (v : V) : List (κ × V) :=
 if (kvs.any fun kv => decide (kv.1 = k)) = true then kvs.map (fun kv => if kv.1 = k then (kv.1, v) else kv) else kvs ++ [(k, v)]
theorem valV_pos {p : κ × V} {r : List (κ × V)} {k : κ} (e : p.1 = k) : valV (p :: r) k = some p.2 := by simp [valV, List.find?_cons, e]
theorem valV_neg {p : κ × V} {r : List (κ × V)} {k : κ} (e : ¬ p.1 = k) : valV (p :: r) k = valV r k := by simp [valV, List.find?_cons, e]
theorem valV_any (k : κ) : ∀ kvs : List (κ × V), (kvs.any fun kv => decide (kv.1 = k)) = (valV kvs k).isSome
 | [] => rfl
 | p :: r => by
  rw [List.any_cons]
  by_cases e : p.1 = k
  ·simp only [valV_pos e, decide_eq_true e, Bool.true_or, Option.isSome_some]
  ·rw [valV_neg e, decide_eq_false e, Bool.false_or]; exact valV_any k r
theorem length_putK (kvs : List (κ × V)) (k : κ) (v : V) : (putK kvs k v).length ≤ kvs.length + 1 := by
 unfold putK
 split
 ·rw [List.length_map]; omega
 ·rw [List.length_append, List.length_cons, List.length_nil]; omega
theorem RelO.isSome_eq {o : Option V} {u : Option Value} (r : RelO o u) : o.isSome = u.isSome := by
 cases o with
 | none => cases u with
  | none => rfl
  | some _ => exact (show False from r).elim
 | some _ => cases u with
  | none => exact (show False from r).elim
  | some _ => rfl
theorem RelO.getD {o : Option V} {u : Option Value} {d : V} {d' : Value} (r : RelO o u) (rd : RelV d d') : RelV (o.getD d) (u.getD d') := by
 cases o with
 | none => cases u with
  | none => exact rd
  | some _ => exact (show False from r).elim
 | some _ => cases u with
  | none => exact (show False from r).elim
  | some _ => exact r
theorem KV.val {kvs : List (κ × V)} {vs : List (κ × Value)} (r : KV kvs vs) (k : κ) : RelO (valV kvs k) (valueAt vs k) := by
 unfold KV at r
 induction r with
 | nil => exact True.intro
 | @cons p q ps qs h t ih =>
  obtain ⟨h1, h2⟩ := h
  by_cases e : p.1 = k
  ·have e' : q.1 = k := h1.symm.trans e
   have b : valueAt (q :: qs) k = some q.2 := by simp [valueAt, List.find?_cons, e']
   rw [valV_pos e, b]; exact h2
  ·have e' : ¬ q.1 = k := fun z => e (h1.trans z)
   have b : valueAt (q :: qs) k = valueAt qs k := by simp [valueAt, List.find?_cons, e']
   rw [valV_neg e, b]; exact ih
theorem KV.any {kvs : List (κ × V)} {vs : List (κ × Value)} (r : KV kvs vs) (k : κ) : (kvs.any fun kv => decide (kv.1 = k)) = vs.any fun kv => decide (kv.1 = k) := by
 unfold KV at r
 induction r with
 | nil => rfl
 | cons h t ih => rw [List.any_cons, List.any_cons, ih, h.1]
theorem KV.repl {kvs : List (κ × V)} {vs : List (κ × Value)} (r : KV kvs vs) (k : κ) {y : V} {u : Value} (ry : RelV y u) :
  KV (kvs.map fun kv => if kv.1 = k then (kv.1, y) else kv) (vs.map fun kv => if kv.1 = k then (kv.1, u) else kv) := by
 unfold KV at r ⊢
 induction r with
 | nil => exact .nil
 | @cons p q ps qs h t ih =>
  rw [List.map_cons, List.map_cons]
  refine .cons ?_ ih
  obtain ⟨h1, h2⟩ := h
  by_cases e : p.1 = k
  ·rw [if_pos e, if_pos (h1.symm.trans e)]; exact ⟨h1, ry⟩
  ·rw [if_neg e, if_neg (fun z => e (h1.trans z))]; exact ⟨h1, h2⟩
theorem KV.put {kvs : List (κ × V)} {vs : List (κ × Value)} (r : KV kvs vs) (k : κ) {y : V} {u : Value} (ry : RelV y u) : KV (putK kvs k y) (stored vs k u) := by
 unfold putK stored
 rw [r.any k]
 by_cases e : (vs.any fun kv => decide (kv.1 = k)) = true
 ·rw [if_pos e, if_pos e]; exact r.repl k ry
 ·rw [if_neg e, if_neg e]; exact Paired.snoc r ⟨rfl, ry⟩
theorem KV.length {kvs : List (κ × V)} {vs : List (κ × Value)} (r : KV kvs vs) : kvs.length = vs.length := Paired.length r
end
theorem kV_is {P : Program} {w : World} {k : Key} {u : Value} (r : RelV (kV k) u) : (mixKind P w).is k u = true := by
 cases k with
 | inl i => obtain ⟨t, e⟩ := (show ∃ t, u = Value.int i t from r); subst e; exact mixKind_int P w i t
 | inr x => obtain ⟨t, e⟩ := (show ∃ t, u = Value.str x t from r); subst e; exact mixKind_str P w x t
theorem items_are {P : Program} {w : World} : ∀ {ks : List Key} {us : List Value}, Vals (ks.map kV) us → ItemsAre (mixKind P w) ks us
 | [], _, r => by rw [List.map_nil] at r; cases r; exact .nil
 | k :: ks, _, r => by
  rw [List.map_cons] at r
  cases r with
  | cons h t => exact .cons (kV_is h) (items_are t)
abbrev KT (H : Hp) : List (List Key × V) → List (List Key × Addr × Value) → Prop := Paired fun p q => p.1 = q.1 ∧ H q.2.1 = some (.tup (p.1.map kV)) ∧ RelV p.2 q.2.2
theorem KT.val {H : Hp} {kvs : List (List Key × V)} {xs : List (List Key × Addr × Value)} (r : KT H kvs xs) (k : List Key) : RelO (valV kvs k) ((atKey xs k).map (·.2)) := by
 induction r with
 | nil => exact True.intro
 | @cons p q ps qs h t ih =>
  obtain ⟨h1, _, h2⟩ := h
  by_cases e : p.1 = k
  ·have e' : q.1 = k := h1.symm.trans e
   have b : atKey (q :: qs) k = some q.2 := by simp [atKey, List.find?_cons, e']
   rw [valV_pos e, b]; exact h2
  ·have e' : ¬ q.1 = k := fun z => e (h1.trans z)
   have b : atKey (q :: qs) k = atKey qs k := by simp [atKey, List.find?_cons, e']
   rw [valV_neg e, b]; exact ih
theorem KT.repl {H : Hp} {kvs : List (List Key × V)} {xs : List (List Key × Addr × Value)} (r : KT H kvs xs) (k : List Key) {y : V} {u : Value} (ry : RelV y u) :
  KT H (kvs.map fun kv => if kv.1 = k then (kv.1, y) else kv) (xs.map (putAt k u)) := by
 induction r with
 | nil => exact .nil
 | @cons p q ps qs h t ih =>
  rw [List.map_cons, List.map_cons]
  refine .cons ?_ ih
  obtain ⟨h1, h2, h3⟩ := h
  unfold putAt
  by_cases e : p.1 = k
  ·rw [if_pos e, if_pos (h1.symm.trans e)]; exact ⟨h1, h2, ry⟩
  ·rw [if_neg e, if_neg (fun z => e (h1.trans z))]; exact ⟨h1, h2, h3⟩
theorem KT.put {H : Hp} {kvs : List (List Key × V)} {xs : List (List Key × Addr × Value)} (r : KT H kvs xs) (k : List Key) {b : Addr} {y : V} {u : Value} (hb : H b = some (.tup (k.map kV))) (ry : RelV y u) :
  KT H (putK kvs k y) (storedH xs k b u) := by
 have e : (kvs.any fun kv => decide (kv.1 = k)) = (atKey xs k).isSome := by
  rw [valV_any, (r.val k).isSome_eq, Option.isSome_map]
 unfold putK storedH
 rw [e]
 by_cases q : (atKey xs k).isSome = true
 ·rw [if_pos q, if_pos q]; exact r.repl k ry
 ·rw [if_neg q, if_neg q]; exact Paired.snoc r ⟨rfl, hb, ry⟩
theorem KT.keeps {H H' : Hp} {kvs : List (List Key × V)} {xs : List (List Key × Addr × Value)} (r : KT H kvs xs) (ht : ∀ b ys, H b = some (.tup ys) → H' b = some (.tup ys)) : KT H' kvs xs :=
 Paired.mapP r fun _ _ z => ⟨z.1, ht _ _ z.2.1, z.2.2⟩
section
variable {P : Program} {w : World} {H : Hp} {h : Heap} {a : Addr}
theorem rd_of {u : HO} (ok : HOk P w H h) (e : Rd H a u) : ObjOk P w H h a u := e.ok ok
theorem dk_rd {kvs : List (Key × V)} (ok : HOk P w H h) (e : Rd H a (.dK kvs)) : kvs.length ≤ sizeLine ∧ (a == sysModules) = false ∧ ∃ vs, KV kvs vs ∧ h.DictOf (mixKind P w) a vs :=
 show ObjOk P w H h a (.dK kvs) from rd_of ok e
theorem dk_of {kvs : List (Key × V)} (ok : HOk P w H h) (e : H a = some (.dK kvs)) : kvs.length ≤ sizeLine ∧ (a == sysModules) = false ∧ ∃ vs, KV kvs vs ∧ h.DictOf (mixKind P w) a vs := dk_rd ok (.inl e)
theorem key_of {ks : List Key} (ok : HOk P w H h) (e : H a = some (.tup (ks.map kV))) : (tupleKind (mixKind P w)).is h ks a := by
 obtain ⟨_, its, r, o, h1, h2, n, h3⟩ := (show ObjOk P w H h a (.tup (ks.map kV)) from ok a _ e)
 exact ⟨o, its.toArray, n, h1, h2, h3, by simpa using items_are r⟩
theorem dt_rd {kvs : List (List Key × V)} (ok : HOk P w H h) (e : Rd H a (.dT kvs)) : kvs.length ≤ sizeLine ∧ (a == sysModules) = false ∧
  ∃ xs, KT H kvs xs ∧ h.DictOfH (tupleKind (mixKind P w)) a xs := by
 obtain ⟨z, y, xs, r, o, es, ep, h1, h2, h3, h4, h5⟩ := (show ObjOk P w H h a (.dT kvs) from rd_of ok e)
 refine ⟨z, y, xs, r, o, es, ep, h1, h2, h3, h4, fun x hx => ?_, h5⟩
 have all : ∀ {l : List (List Key × V)} {m : List (List Key × Addr × Value)}, KT H l m → ∀ x ∈ m, (tupleKind (mixKind P w)).is h x.1 x.2.1 := by
  intro l m q
  induction q with
  | nil => intro x hx; exact nomatch hx
  | @cons p q ps qs hq t ih =>
   intro x hx
   rcases List.mem_cons.mp hx with e | hx
   ·subst e
    exact key_of ok (by rw [← hq.1]; exact hq.2.1)
   ·exact ih x hx
 exact all r x hx
theorem dt_of {kvs : List (List Key × V)} (ok : HOk P w H h) (e : H a = some (.dT kvs)) : kvs.length ≤ sizeLine ∧ (a == sysModules) = false ∧
  ∃ xs, KT H kvs xs ∧ h.DictOfH (tupleKind (mixKind P w)) a xs := dt_rd ok (.inl e)
end
def DGet (H : Hp) (a : Addr) (y : V) (r : Option V) : Prop :=
 (∃ kvs k, Rd H a (.dK kvs) ∧ y = kV k ∧ r = valV kvs k) ∨ ∃ kvs k b, Rd H a (.dT kvs) ∧ y = .ref b ∧ H b = some (.tup (k.map kV)) ∧ r = valV kvs k
def DPut (H : Hp) (a : Addr) (y v : V) (H' : Hp) : Prop :=
 (∃ kvs k, H a = some (.dK kvs) ∧ y = kV k ∧ kvs.length < sizeLine ∧ H' = upd H a (.dK (putK kvs k v))) ∨
 ∃ kvs k b, H a = some (.dT kvs) ∧ y = .ref b ∧ H b = some (.tup (k.map kV)) ∧ kvs.length < sizeLine ∧ H' = upd H a (.dT (putK kvs k v))
theorem DGet.k {H : Hp} {a : Addr} {kvs : List (Key × V)} {k : Key} (e : H a = some (.dK kvs)) : DGet H a (kV k) (valV kvs k) := .inl ⟨kvs, k, .inl e, rfl, rfl⟩
theorem DPut.k {H : Hp} {a : Addr} {kvs : List (Key × V)} {k : Key} {v : V} (e : H a = some (.dK kvs)) (hl : kvs.length < sizeLine) : DPut H a (kV k) v (upd H a (.dK (putK kvs k v))) := .inl ⟨kvs, k, e, rfl, hl, rfl⟩
section
variable {X : Cx} {pins : List (Addr × Obj)} {σ : St} {H : Hp} {s : Shared} {a : Addr} {y v : V} {u r : Value} {o : Option V} {A : Around} {E : Value → Shared → Prop}
theorem Inv.big (I : Inv X pins σ H s) : sysModules < s.heap.objs.size := by
 have h : mainGlobals < s.heap.objs.size := (I.mod.glob.keeps I.bk).lt
 exact Nat.lt_trans (by decide) h
theorem d_getItem {Q : Value → Shared → Prop} (hu : A.units + 1 < cLine) (I : Inv X pins σ H s) (g : DGet H a y (some v)) (ry : RelV y u) (h : ∀ w' s', Inv X pins σ H s' → RelV v w' → Q w' s') :
  wpAny (model X.prog X.w) A (getItem (.ref a) u) Q E s := by
 rcases g with ⟨kvs, k, e, ey, l⟩ | ⟨kvs, k, b, e, ey, eb, l⟩
 ·subst ey
  obtain ⟨z, hd, vs, rel, dd⟩ := dk_rd I.hok e
  obtain ⟨w', hw, rw'⟩ := RelO.some_of (v := v) (o := valueAt vs k) (by rw [l]; exact rel.val k)
  exact wpAny_getItem_of (kV_is ry) dd.mapOf hw (h w' _ (I.tok _) rw')
 ·subst ey
  cases (show u = Value.ref b from ry)
  obtain ⟨z, hd, xs, rel, dd⟩ := dt_rd I.hok e
  obtain ⟨w', hw, rw'⟩ := RelO.some_of (v := v) (o := (atKey xs k).map (·.2)) (by rw [l]; exact rel.val k)
  obtain ⟨p, hp, hp2⟩ := Option.map_eq_some_iff.mp hw
  refine wpAny_getItem_heap (tupleKind_room_in1 hu) (key_of I.hok eb) dd hp ?_
  rw [hp2]
  exact h w' _ (I.tok _) rw'
theorem d_in {Q : Value → Shared → Prop} (hu : A.units + 1 < cLine) (I : Inv X pins σ H s) (g : DGet H a y o) (ry : RelV y u) (h : ∀ s', Inv X pins σ H s' → Q (.bool o.isSome) s') :
  wpAny (model X.prog X.w) A (compareOp .In u (.ref a)) Q E s := by
 rcases g with ⟨kvs, k, e, ey, l⟩ | ⟨kvs, k, b, e, ey, eb, l⟩
 ·subst ey
  obtain ⟨z, hd, vs, rel, dd⟩ := dk_rd I.hok e
  refine wpAny_in_of (kV_is ry) hd dd.mapOf ?_
  rw [← (rel.val k).isSome_eq, ← l]
  exact h _ (I.tok _)
 ·subst ey
  cases (show u = Value.ref b from ry)
  obtain ⟨z, hd, xs, rel, dd⟩ := dt_rd I.hok e
  refine wpAny_in_heap (tupleKind_room_in1 hu) (key_of I.hok eb) hd dd ?_
  have q := (rel.val k).isSome_eq
  rw [Option.isSome_map] at q
  rw [← q, ← l]
  exact h _ (I.tok _)
theorem d_notIn {Q : Value → Shared → Prop} (hu : A.units + 1 < cLine) (I : Inv X pins σ H s) (g : DGet H a y o) (ry : RelV y u) (h : ∀ s', Inv X pins σ H s' → Q (.bool (!o.isSome)) s') :
  wpAny (model X.prog X.w) A (compareOp .NotIn u (.ref a)) Q E s := by
 rcases g with ⟨kvs, k, e, ey, l⟩ | ⟨kvs, k, b, e, ey, eb, l⟩
 ·subst ey
  obtain ⟨z, hd, vs, rel, dd⟩ := dk_rd I.hok e
  refine wpAny_notIn_of (kV_is ry) hd dd.mapOf ?_
  rw [← (rel.val k).isSome_eq, ← l]
  exact h _ (I.tok _)
 ·subst ey
  cases (show u = Value.ref b from ry)
  obtain ⟨z, hd, xs, rel, dd⟩ := dt_rd I.hok e
  refine wpAny_notIn_heap (tupleKind_room_in1 hu) (key_of I.hok eb) hd dd ?_
  have q := (rel.val k).isSome_eq
  rw [Option.isSome_map] at q
  rw [← q, ← l]
  exact h _ (I.tok _)
theorem d_write {h' : Heap} {t' : Nat} {ob : HO} (I : Inv X pins σ H s) (mu : Mut (H a)) (hs : Heap.SameBut a s.heap h') (he : ∃ q, h'.get? a = some q) (new : ObjOk X.prog X.w (upd H a ob) h' a ob) :
  Inv X pins σ (upd H a ob) { s with heap := h', toks := t' } :=
 I.write (x := a) (e := a) mu (.inl rfl) (fun b q hb z => (hs.2 b hb).trans z) he new
theorem dk_new {P : Program} {w : World} {H' : Hp} {h' : Heap} {kvs : List (Key × V)} {vs : List (Key × Value)} (z : kvs.length ≤ sizeLine) (hd : (a == sysModules) = false) (rel : KV kvs vs) (dd : h'.DictOf (mixKind P w) a vs) :
  ObjOk P w H' h' a (.dK kvs) := ⟨z, hd, vs, rel, dd⟩
theorem d_setItem {H' : Hp} {Q : Unit → Shared → Prop} (hu : A.units + 1 < cLine) (I : Inv X pins σ H s) (g : DPut H a y v H') (ry : RelV y u) (rv : RelV v r) (h : ∀ s', Inv X pins σ H' s' → Q () s') :
  wpAny (model X.prog X.w) A (setItem (.ref a) u r) Q E s := by
 rcases g with ⟨kvs, k, e, ey, l, eH⟩ | ⟨kvs, k, b, e, ey, eb, l, eH⟩
 ·subst ey eH
  obtain ⟨z, hd, vs, rel, dd⟩ := dk_of I.hok e
  have hz : vs.length ≤ sizeLine := by rw [← rel.length]; exact z
  have hl : (putK kvs k v).length ≤ sizeLine := by have := length_putK kvs k v; omega
  refine wpAny_setItem_pairs (hsz := hz) (kV_is ry) dd fun h' dd' hs => h _ ?_
  have he : ∃ q, h'.get? a = some q := let ⟨q, _, _, hq, _⟩ := dd'; ⟨q, hq⟩
  exact d_write I (by rw [e]; exact True.intro) hs he (dk_new hl hd (rel.put k rv) dd')
 ·subst ey eH
  cases (show u = Value.ref b from ry)
  obtain ⟨z, hd, xs, rel, dd⟩ := dt_of I.hok e
  have hz : xs.length ≤ sizeLine := by rw [← Paired.length rel]; exact z
  have hl : (putK kvs k v).length ≤ sizeLine := by have := length_putK kvs k v; omega
  refine wpAny_setItem_heap (hsz := hz) (tupleKind_room_in1 hu) (key_of I.hok eb) dd fun h' dd' hs => h _ ?_
  obtain ⟨q, es, ep, hq, h2, h3, h4, _, h5⟩ := dd'
  refine d_write I (by rw [e]; exact True.intro) hs ⟨q, hq⟩ ⟨hl, hd, _, (rel.put k eb rv).keeps fun c ys ec => ?_, q, es, ep, hq, h2, h3, h4, h5⟩
  rw [upd_ne (ne_of ec e (fun z => nomatch z))]
  exact ec
end
section
variable {X : Cx} {pins : List (Addr × Obj)} {σ : St} {H : Hp} {s : Shared} {a : Addr} {kvs : List (Key × V)} {k : Key} {u : Value} {A : Around} {E : Value → Shared → Prop}
theorem d_len {Q : Value → Shared → Prop} (I : Inv X pins σ H s) (e : Rd H a (.dK kvs)) (h : ∀ t s', Inv X pins σ H s' → Q (.int kvs.length t) s') : wpAny (model X.prog X.w) A (call (.builtin "len") [.ref a]) Q E s := by
 obtain ⟨z, hd, vs, rel, dd⟩ := dk_rd I.hok e
 refine call_len_dict hd dd (by rw [← rel.length]; rw [sizeLine_eq] at z; omega) ?_
 rw [← rel.length]
 exact h _ _ (I.tok _)
end
def NoSl (i : Expr) : Prop := ∀ ov iv, subscripted i false ov iv = operate [ov, iv] (getItem ov iv)
theorem subD_of {prog : Program} {w : World} {A : Around} {E : Value → Shared → Prop} {s : Shared} {env : Env} {value slice : Expr} {pos : Pos} {T id : String} {Q : Value → Shared → Prop}
  (hl : typeLookup (.type T) "__getitem__" = pure (some (.builtin id))) (hs : NoSl slice)
  (h : wpAny (model prog w) A (eval value env) (fun o s₁ => wpAny (model prog w) A (eval slice env) (fun i s₂ => s₂.TypeIs o T ∧ wpAny (model prog w) A (getItem o i) Q E s₂) E s₁) E s) :
  wpAny (model prog w) A (eval (.Subscript value slice pos) env) Q E s := by
 refine Subscript_ (wpAny_mono h (fun o s₁ h₁ => wpAny_mono h₁ (fun i s₂ h₂ => ?_) fun _ _ x => x) fun _ _ x => x)
 obtain ⟨hT, h₂⟩ := h₂
 unfold subscriptTail
 refine wpAny_bind ?_
 rw [getitemInPython_of_ne hT.not_modules]
 refine wpAny_bind (wpAny_specialOf hT hl ?_)
 have fin : wpAny (model prog w) A (subscripted slice false o i) (fun r s₃ => wpAny (model prog w) A (letTemporaryGo value o r >>= fun _ => pure r) Q E s₃) E s₂ := by
  rw [hs o i]
  exact wpAny_operating (wpAny_mono h₂ (fun r s₃ h₃ => wpAny_bind (wpAny_letTemporaryGo (wpAny_pure h₃))) fun _ _ x => x)
 first
  | exact wpAny_pure (wpAny_bind fin)
  | exact wpAny_bind (wpAny_pure (wpAny_bind fin))
  | exact wpAny_bind fin
theorem dict_typeIs {X : Cx} {pins : List (Addr × Obj)} {σ : St} {H : Hp} {s : Shared} {a : Addr} {y : V} {o : Option V} (I : Inv X pins σ H s) (g : DGet H a y o) : s.TypeIs (.ref a) "dict" := by
 rcases g with ⟨kvs, k, e, _, _⟩ | ⟨kvs, k, b, e, _, _, _⟩
 ·obtain ⟨_, _, vs, _, dd⟩ := dk_rd I.hok e
  exact dd.typeIs
 ·obtain ⟨_, _, xs, _, dd⟩ := dt_rd I.hok e
  exact dd.typeIs
def tDGet (td ty : TE) : TE := fun σ H Q => td σ H fun x H1 => ty σ H1 fun y H2 => ∃ a v, x = .ref a ∧ DGet H2 a y (some v) ∧ Q v H2
def sDPut (td ty tv : TE) : TS := fun D σ H => tv σ H fun v H1 => td σ H1 fun x H2 => ty σ H2 fun y H3 => ∃ a H4, x = .ref a ∧ DPut H3 a y v H4 ∧ D.nx σ H4
section
variable {X : Cx} {o i e value : Expr} {pos pos' tpos : Pos} {td ty tv : TE}
theorem pe_dget (hu : X.A.units + 1 < cLine) (ho : PE X o td) (hi : PE X i ty) (hs : NoSl i) : PE X (.Subscript o i pos) (tDGet td ty) := by
 intro pins s σ H Q I h
 refine subD_of PySem.F.slot_dict_getitem.lookup hs (thn (ho pins s σ H _ I h) fun u s1 ⟨x, H1, I1, rx, q1⟩ => thn (hi pins s1 σ H1 _ I1 q1) fun iv s2 ⟨y, H2, I2, ry, a, v, ex, g, q2⟩ => ?_)
 subst ex
 obtain rfl : u = Value.ref a := rx
 exact ⟨dict_typeIs I2 g, d_getItem hu I2 g ry fun w' s3 I3 rw' => ⟨v, H2, I3, rw', q2⟩⟩
theorem ps_dput (hu : X.A.units + 1 < cLine) (ho : PE X o td) (hi : PE X i ty) (hv : PE X value tv) (hs : swapsWith value (some (.Subscript o i pos')) pos.line X.env = pure false) :
  PS X (.Assign [.Subscript o i pos'] value pos) (sDPut td ty tv) := by
 intro pins s σ H D I h
 refine wpAny_Assign_Subscript (thn (hv pins s σ H _ I h) fun r s1 ⟨v, H1, I1, rv, q1⟩ => thn (ho pins s1 σ H1 _ I1 q1) fun u s2 ⟨x, H2, I2, rx, q2⟩ => thn (hi pins s2 σ H2 _ I2 q2) fun iv s3 ⟨y, H3, I3, ry, a, H4, ex, g, q3⟩ => ?_) hs
 subst ex
 obtain rfl : u = Value.ref a := rx
 exact d_setItem hu I3 g ry rv fun s4 I4 => ⟨σ, H4, I4, q3⟩
end
theorem dk_empty {P : Program} {w : World} {H : Hp} (h : Heap) (hb : sysModules < h.objs.size) : ObjOk P w H (h.push { cls := .type "dict", data := .dict #[] }) h.objs.size (.dK []) :=
 ⟨Nat.zero_le _, beq_eq_false_iff_ne.mpr (Ne.symm (Nat.ne_of_lt hb)), [], .nil, Heap.DictOf.new h⟩
def tDNewK : TE := fun _ H Q => ∀ p, H p = none → Q (.ref p) (upd H p (.dK []))
section
variable {X : Cx} {pos : Pos}
theorem pe_dnewK : PE X (.Dict [] [] pos) tDNewK := fun pins s σ H Q I h =>
 wpAny_Dict_empty ⟨.ref s.heap.objs.size, _, I.laid (a := s.heap.objs.size) (o := .dK []) (t' := s.toks) (fun _ _ q => Heap.get?_push_of_some _ q) (Nat.le_refl _) (dk_empty s.heap I.big), rfl, h _ (I.hok.fresh (Nat.le_refl _))⟩
end
structure M2 (X : Cx) (o : Expr) (m : Str) (apos : Pos) (e f : Expr) (cpos : Pos) : Prop where
 base : attributeBase o m X.env (eval o X.env) = eval o X.env
 few : ((backTo cpos (starEach [e, f] X.env)).all (fun x => !x.1) && (backToKw cpos (keywordEach [] X.env)).all (fun x => x.1.isSome)
  && decide (([e, f] : List Expr).length + ([] : List Keyword).length + (if ([] : List Keyword).isEmpty then 0 else 1) < 30)) = true
 line : (apos.endLine == cpos.line) = true
 trees : backTo cpos (starEach [e, f] X.env) = [(false, eval e X.env), (false, eval f X.env)]
def IsD (H : Hp) (a : Addr) : Prop := (∃ kvs, Rd H a (.dK kvs)) ∨ ∃ kvs, Rd H a (.dT kvs)
theorem isD_at {X : Cx} {pins : List (Addr × Obj)} {σ : St} {H : Hp} {s : Shared} {a : Addr} (I : Inv X pins σ H s) (d : IsD H a) :
  s.TypeIs (.ref a) "dict" ∧ (∀ b, Value.ref a = .ref b → ∃ ob, s.heap.get? b = some ob ∧ ob.dict = none) ∧ (a == sysModules) = false := by
 rcases d with ⟨kvs, e⟩ | ⟨kvs, e⟩
 ·obtain ⟨_, hd, vs, _, dd⟩ := dk_rd I.hok e
  refine ⟨dd.typeIs, fun b q => ?_, hd⟩
  cases q
  obtain ⟨ob, _, _, h1, h2, _⟩ := dd
  exact ⟨ob, h1, h2.2.1⟩
 ·obtain ⟨_, hd, xs, _, dd⟩ := dt_rd I.hok e
  refine ⟨dd.typeIs, fun b q => ?_, hd⟩
  cases q
  obtain ⟨ob, _, _, h1, h2, _⟩ := dd
  exact ⟨ob, h1, h2.2.1⟩
section
variable {X : Cx} {pins : List (Addr × Obj)} {σ : St} {H : Hp} {s : Shared} {a : Addr} {y d : V} {u r : Value} {o : Option V} {A : Around} {E : Value → Shared → Prop}
theorem d_get2 {Q : Value → Shared → Prop} (hu : A.units + 1 < cLine) (I : Inv X pins σ H s) (g : DGet H a y o) (ry : RelV y u) (rd : RelV d r) (h : ∀ w' s', Inv X pins σ H s' → RelV (o.getD d) w' → Q w' s') :
  wpAny (model X.prog X.w) A (call (.builtin "dict.get") [.ref a, u, r]) Q E s := by
 rcases g with ⟨kvs, k, e, ey, l⟩ | ⟨kvs, k, b, e, ey, eb, l⟩
 ·subst ey
  obtain ⟨z, hd, vs, rel, dd⟩ := dk_rd I.hok e
  refine call_meetsIn PySem.F.slot_dict_get dd.typeIs PySem.F.entry_dict_get (PySem.F.args_dict_get_3 _ _ _) (meets_dict_get_default (mixKind X.prog X.w) a (kV_is ry) hd r) ⟨_, dd.mapOf, h _ _ (I.tok _) ?_⟩
  rw [l]
  exact (rel.val k).getD rd
 ·subst ey
  cases (show u = Value.ref b from ry)
  obtain ⟨z, hd, xs, rel, dd⟩ := dt_rd I.hok e
  refine call_meetsIn PySem.F.slot_dict_get dd.typeIs PySem.F.entry_dict_get (PySem.F.args_dict_get_3 _ _ _) (meetsH_dict_get_default (tupleKind (mixKind X.prog X.w)) a b hd r) ⟨tupleKind_room_in1 hu, k, xs, key_of I.hok eb, dd, h _ _ (I.tok _) ?_⟩
  rw [l]
  exact (rel.val k).getD rd
end
def tDGet2 (td ty tx : TE) : TE := fun σ H Q => td σ H fun x H1 => ∃ a, x = .ref a ∧ IsD H1 a ∧ ty σ H1 fun y H2 => tx σ H2 fun z H3 => ∃ o, DGet H3 a y o ∧ Q (o.getD z) H3
section
variable {X : Cx} {o e f : Expr} {apos cpos : Pos} {td ty tx : TE}
theorem pe_dget2 (hu : X.A.units + 1 < cLine) (ho : PE X o td) (he : PE X e ty) (hf : PE X f tx) (m : M2 X o "get" apos e f cpos) : PE X (.Call (.Attribute o "get" apos) [e, f] [] cpos) (tDGet2 td ty tx) := by
 intro pins s σ H Q I h
 refine wpAny_Call_method m.base m.few m.line PySem.F.plainAttrs_dict PySem.F.slot_dict_get PySem.F.type_dict_get (thn (ho pins s σ H _ I h) fun u s1 ⟨x, H1, I1, rx, a, ex, d, q1⟩ => ?_)
 subst ex
 obtain rfl : u = Value.ref a := rx
 obtain ⟨t1, t2, _⟩ := isD_at I1 d
 refine ⟨t1, t2, ?_⟩
 rw [m.trees]
 refine Calls.callWith_builtin rfl (Calls.evalArgs_plain (Calls.spliced_cons (thn (he pins s1 σ H1 _ I1 q1) fun iv s2 ⟨y, H2, I2, ry, q2⟩ =>
  Calls.spliced_cons (thn (hf pins s2 σ H2 _ I2 q2) fun fv s3 ⟨z, H3, I3, rz, ov, g, q3⟩ => Calls.spliced_nil ?_))))
 exact d_get2 hu I3 g ry rz fun w' s4 I4 rw' => ⟨_, H3, I4, rw', q3⟩
end
section
variable {X : Cx} {pins : List (Addr × Obj)} {σ : St} {H : Hp} {s : Shared} {a : Addr} {kvs : List (Key × V)} {A : Around} {E : Value → Shared → Prop}
end
section
variable {X : Cx} {pins : List (Addr × Obj)} {σ : St} {H : Hp} {s : Shared} {a : Addr} {y : V} {u : Value} {A : Around} {E : Value → Shared → Prop}
end
end L2
namespace Att
open PySem PySem.W PySem.Calls PyProof.Rows
theorem ints_of_wellAll {P : Params} {h : Heap} : ∀ (ns : List Int) (vs : List Value), WellAll P h vs (ns.map WData.int) → IntsAre vs ns := by
 intro ns
 induction ns with
 | nil =>
  intro vs w
  rw [List.map_nil] at w
  cases w
  exact .nil
 | cons n ns ih =>
  intro vs w
  rw [List.map_cons] at w
  cases w with
  | cons a b =>
   cases a
   exact .cons _ _ (ih _ b)
theorem script_of {l : OpenLaw} {n : Nat} (hn : l.most = some n) {P : Params} {h : Heap} {args : List WData} {vals : List Value}
  (hpre : l.row.toRowW.claim.pre args = true) (hwl : WellAll P h vals args) :
  ∃ a vs ns, vals = [Value.ref a] ∧ args = [WData.list (ns.map WData.int)] ∧ h.get? a = some { cls := .type "list", data := .seq vs.toArray } ∧ IntsAre vs ns ∧ ns.length ≤ n := by
 have hsh : WShape.hasAll [] args [.list .int] = true := (pre_splitW hpre).1
 have hc : l.pre.holds [] { args := args } = true := (pre_splitW hpre).2
 obtain ⟨d, r, rfl, h1, h2⟩ := hasAllW_cons hsh
 obtain rfl := hasAllW_nil h2
 obtain ⟨xs, rfl, h3⟩ := hasW_list h1
 obtain ⟨ns, rfl⟩ := items_int h3
 have hlen : ns.length ≤ n := by
  unfold OpenLaw.pre at hc
  have h4 : (WTm.not (.lt (.lit (.int (n : Int))) (.len (.arg 0)))).holds [] { args := [.list (ns.map .int)] } = true := by
   have h4 := (holds_andW hc).1
   rw [hn] at h4
   exact h4
  have h5 := condW_of h4 (w_not (w_lt w_lit (w_len_list (w_arg rfl))))
  rw [List.length_map] at h5
  refine Nat.le_of_not_lt fun q => ?_
  have q' : (n : Int) < ((ns.length : Nat) : Int) := by omega
  first
   | (rw [decide_eq_true q'] at h5; exact absurd h5 (by decide))
   | (simp at h5; omega)
 cases hwl with
 | cons w1 w2 =>
  cases w2
  cases w1 with
  | list ho hall => exact ⟨_, _, ns, rfl, rfl, ho, ints_of_wellAll ns _ hall, hlen⟩
theorem post_true (l : OpenLaw) (args : List WData) : l.row.toRowW.claim.post args (.bool true) args = true :=
 postW_of (r := l.row.toRowW) (X := (true == true))
  (show WShape.has [] (.bool true) .bool = true by first | rfl | decide | simp [WShape.has, WShape.arms, WShape.armsAll])
  (show (WTm.eq .res (.lit (.bool true))).value [] { args := args, res := some (.bool true), after := args } = some (.bool (true == true)) from w_eq_bool (w_res rfl) w_lit) rfl
theorem attach_call {l : OpenLaw} {n : Nat} {q : Program} {loose : List Str} {XP : (Str → Option Value) → Heap → Prop} {YP : World → Heap → Prop} {d : DefRec}
  (hn : l.most = some n) (hdf : d.params.defaults = [])
  (call : ∀ (w : World) (s₀ s₁ : Shared) (mg mb : Str → Option Value) (fa : Addr) (o : Obj) (pm cd doc : Value) (a : Addr) (vs : List Value) (ns : List Int),
   Ground q loose [] XP w s₀ mg mb s₁.heap → YP w s₁.heap →
   s₁.heap.get? fa = some o → o.data = .func (docDef d.name d.params d.body d.scope pm cd doc) → s₁.heap.CodeRec cd d.name → mg d.name = some (.ref fa) →
   s₁.heap.get? a = some { cls := .type "list", data := .seq vs.toArray } → IntsAre vs ns → ns.length ≤ n → s₁.gens = #[] →
   codeAny (model l.prog w) callerA (.call (.ref fa) ⟨[.ref a], []⟩) (fun r s' => r = .ok (.ret (.bool true)) ∧ OldK s₁.heap s'.heap ∧ s'.os = s₁.os ∧ AllBare s'.gens) s₁) :
  WalkO q loose XP YP l.row.toRowW d [] (fun f vs => PySem.call f vs) := by
 intro w s₀ s₁ mg mb G Y fa o pm cd doc dV kV ho hd hcd hD hmg hg args vals as hpre hlay hrd hwl hlo
 obtain rfl : dV = .none := Dflts.none hD hdf
 obtain rfl : kV = .none := Dflts.noKw hD
 obtain ⟨a, vs, ns, rfl, rfl, hobj, hints, hlen⟩ := script_of hn hpre hwl
 refine enter_call (codeAny_mono (call w s₀ s₁ mg mb fa o pm cd doc a vs ns G Y ho (fd_plain hd) hcd hmg hobj hints hlen hg) fun r s' hq => ?_)
 obtain ⟨rfl, h2, h3, h4⟩ := hq
 exact ⟨.inl ⟨.bool true, .bool true, [], rfl, fun _ => rfl, .bool true, post_true l _, fun _ => ⟨List.Pairwise.nil, fun _ hm => (nomatch hm)⟩⟩, h2, h3, h4⟩
section
variable {prog : Program} {w : World} {A : Around} {E : Value → Shared → Prop} {s : Shared} {K : Frag}
end
end Att
namespace L2
open PySem PySem.Spec PyProof.Rows
theorem vals_ints : ∀ {vs : List Value} {ns : List Int}, IntsAre vs ns → Vals (ns.map V.int) vs
 | _, _, .nil => .nil
 | _, _, .cons n t h => .cons ⟨t, rfl⟩ (vals_ints h)
def Only (H : Hp) : Prop := ∀ b, H b = none ∨ ∃ o xs, H b = some (.frz o (.lst xs))
theorem law_call {P : Program} {w : World} {K : PySem.W.Frag} {mg mb : Str → Option Value} {CX : CXT} {k : Nat} {fa a : Addr} {fd : FuncData} {x : Str} {sp : Sp} {s₁ : Shared} {vs : List Value} {ns : List Int}
  (KX : K.In s₁.heap) (hns : s₁.heap.Ns mainGlobals mg) (hb : s₁.heap.Ns builtinsNs mb) (hbb : ∀ x : Str, x ≠ "__name__" → mb x = bootBuiltins x) (hlim : s₁.heap.NoLimit) (hg : s₁.gens = #[])
  (ha : s₁.heap.get? a = some { cls := .type "list", data := .seq vs.toArray }) (hi : IntsAre vs ns) (hl : ns.length ≤ sizeLine) (hr : Room k callerA)
  (F : ∀ base : Heap, K.In base → base.Ns mainGlobals mg → FnOk P w K mg base CX k fa fd [x] sp) (hbind : ∀ (s : Shared) (u : Value), BindsTo s fd ⟨[u], []⟩ [(x, u)])
  (hsp : ∀ H : Hp, Only H → SqL K H a (ns.map V.int) → sp [.ref a] H (fun v _ => v = .bl true) fun _ _ _ => False)
  (hCX : ∀ H e s', CX [] H s₁ (fun _ _ _ => False) e s' → False) :
  codeAny (model P w) callerA (.call (.ref fa) ⟨[.ref a], []⟩) (fun r s' => r = .ok (.ret (.bool true)) ∧ OldK s₁.heap s'.heap ∧ s'.os = s₁.os ∧ AllBare s'.gens) s₁ := by
 have rv := vals_ints hi
 have lenV := hi.length
 have core : ∀ H : Hp, Only H → SqL K H a (ns.map V.int) → HOk P w H s₁.heap → (∀ b, H b ≠ none → b = a) → (H a ≠ none → K.lookup a = none) →
   codeAny (model P w) callerA (.call (.ref fa) ⟨[.ref a], []⟩) (fun r s' => r = .ok (.ret (.bool true)) ∧ OldK s₁.heap s'.heap ∧ s'.os = s₁.os ∧ AllBare s'.gens) s₁ := by
  intro H hO hS hok hA hK
  have base_of : ∀ {b : Addr} {o : Obj}, s₁.heap.get? b = some o → H b = none → (hidT s₁.heap H).get? b = some o := fun e n => hidT_get e n
  have noA : ∀ {b : Addr} {o : Obj} {es : Array DictEntry} {ep : Nat}, s₁.heap.get? b = some o → o.data = .dict es ep → H b = none := fun {b o es ep} e d => by
   cases q : H b with
   | none => rfl
   | some u =>
    have e' : b = a := hA b (by rw [q]; simp)
    subst e'
    rw [ha] at e; cases e
    have d' : Data.seq vs.toArray _ = Data.dict es ep := d
    cases d'
  have nsK : ∀ {b : Addr} {m : Str → Option Value}, s₁.heap.Ns b m → (hidT s₁.heap H).Ns b m := fun {b m} ⟨o, es, ep, e, d, r⟩ => ⟨o, es, ep, base_of e (noA e d), d, r⟩
  have hKb : K.In (hidT s₁.heap H) := fun b o e => base_of (KX b o e) (by
   cases q : H b with
   | none => rfl
   | some u =>
    have e' : b = a := hA b (by rw [q]; simp)
    subst e'
    rw [hK (by rw [q]; simp)] at e; cases e)
  have hM : Mod K mg (hidT s₁.heap H) := ⟨hKb, nsK hns, ⟨mb, nsK hb, hbb⟩, let ⟨mc, h1, h2⟩ := hlim; ⟨mc, nsK h1, h2⟩⟩
  have e0 : Env0 P w K mg (hidT s₁.heap H) callerA [] s₁ H := ⟨rfl, hM, fun b o e => of_hidT e, Nat.le_of_eq (hidT_size _ _), trivial, fun b hb => absurd (show b ∈ ([] : List Addr) from hb) (by simp), hok, .of_eq hg⟩
  refine codeAny_mono ((F _ hKb (nsK hns)).run callerA [] s₁ H ⟨[.ref a], []⟩ [.ref a] [.ref a] _ _ hr e0 (hbind s₁ (.ref a)) (.cons rfl .nil) (hsp H hO hS)) fun r s' h => ?_
  cases r with
  | error e => exact (hCX H e s' h).elim
  | ok fl =>
   cases fl with
   | next => exact False.elim h
   | brk => exact False.elim h
   | cont => exact False.elim h
   | ret u =>
    obtain ⟨v, H', os, bare, un, hok', r', q⟩ := h
    have q' : v = .bl true := q
    subst q'
    obtain rfl : u = Value.bool true := r'
    refine ⟨rfl, OldK.of_keep fun b o e => ?_, os, bare⟩
    cases q : H b with
    | none => exact un.keep b o e q (by intro z; exact absurd (show b ∈ ([] : List Addr) from z) (by simp)) (by simp)
    | some u =>
     rcases hO b with z | ⟨ob, xs, z⟩
     ·rw [q] at z; cases z
     ·have z2 := un.frzs b ob _ z
      obtain ⟨e1, _⟩ := hok b _ z
      obtain ⟨e2, _⟩ := hok' b _ z2
      rw [e] at e1; cases e1
      exact e2
 cases hk : K.lookup a with
 | some o =>
  have e := KX a o hk
  rw [ha] at e
  cases e
  refine core (fun _ => none) (fun _ => .inl rfl) (.inr ⟨_, vs.toArray, _, hk, rfl, rfl, rfl, by rw [List.size_toArray, lenV]; exact hl, by simpa using rv⟩) (fun b u z => by have z' : (none : Option HO) = some u := z; cases z') (fun b z => absurd rfl z) fun z => absurd rfl z
 | none =>
  refine core (fun b => if b = a then some (.frz { cls := .type "list", data := .seq vs.toArray } (.lst (ns.map V.int))) else none) (fun b => ?_) (.inl (.inr ⟨{ cls := .type "list", data := .seq vs.toArray }, if_pos rfl⟩)) (fun b u z => ?_) (fun b z => ?_) fun _ => hk
  ·by_cases hb : b = a
   ·exact .inr ⟨_, _, if_pos hb⟩
   ·exact .inl (if_neg hb)
  ·by_cases hb : b = a
   ·have z' := (if_pos hb).symm.trans z
    cases z'
    subst hb
    exact ⟨ha, by rw [List.length_map]; exact hl, vs, _, rv, ha⟩
   ·have z' := (if_neg hb).symm.trans z
    cases z'
  ·by_cases hb : b = a
   ·exact hb
   ·exact absurd (if_neg hb) z
end L2
namespace L2
open PySem PySem.Spec PyProof.Rows
abbrev KOf {K : PySem.W.Frag} {h : Heap} (_ : K.In h) : PySem.W.Frag := K
theorem walk_of {l : PySem.W.OpenLaw} {n k : Nat} {q : Program} {loose : List Str} {XP : (Str → Option Value) → Heap → Prop} {YP : World → Heap → Prop} {d : DefRec} {K : Params → PySem.W.Frag} {CX : World → CXT} {sp : World → Sp} {x : Str}
  (hn : l.most = some n) (hn2 : n ≤ sizeLine) (hdf : d.params.defaults = []) (hr : Room k callerA)
  (hY : ∀ (w : World) (h : Heap), YP w h → (K w.params).In h)
  (F : ∀ (w : World) (mg : Str → Option Value) (fa : Addr) (h : Heap), (K w.params).In h → h.Ns mainGlobals mg → mg d.name = some (.ref fa) →
   ∃ fd : FuncData, (∀ (s : Shared) (u : Value), BindsTo s fd ⟨[u], []⟩ [(x, u)]) ∧
    ∀ base : Heap, (K w.params).In base → base.Ns mainGlobals mg → FnOk l.prog w (K w.params) mg base (CX w) k fa fd [x] (sp w))
  (hsp : ∀ (w : World) (H : Hp) (a : Addr) (ns : List Int), ns.length ≤ n → Only H → SqL (K w.params) H a (ns.map V.int) → sp w [.ref a] H (fun v _ => v = .bl true) fun _ _ _ => False)
  (hCX : ∀ (w : World) (H : Hp) (s : Shared) (e : Value) (s' : Shared), CX w [] H s (fun _ _ _ => False) e s' → False) :
  PySem.W.WalkO q loose XP YP l.row.toRowW d [] (fun f vs => PySem.call f vs) := by
 refine Att.attach_call hn hdf fun w s₀ s₁ mg mb fa o pm cd doc a vs ns G Y ho hd hcd hmg hobj hints hlen hg => ?_
 have KX := hY w _ Y
 obtain ⟨fd, hb, hF⟩ := F w mg fa _ KX G.T.g hmg
 exact law_call KX G.T.g G.T.b G.T.builtins G.T.nolimit hg hobj hints (Nat.le_trans hlen hn2) hr hF hb (fun H hO hS => hsp w H a ns hlen hO hS) fun H e s' => hCX w H s₁ e s'
theorem walk_ofK {l : PySem.W.OpenLaw} {n k : Nat} {q : Program} {loose : List Str} {XP : (Str → Option Value) → Heap → Prop} {YP : World → Heap → Prop} {d : DefRec} {K : Params → PySem.W.Frag} {CX : CXT} {sp : PySem.W.Frag → Sp} {x : Str}
  (hn : l.most = some n) (hn2 : n ≤ sizeLine) (hdf : d.params.defaults = []) (hr : Room k callerA)
  (hY : ∀ (w : World) (h : Heap), YP w h → (K w.params).In h)
  (F : ∀ (w : World) (mg : Str → Option Value) (fa : Addr) (h : Heap), (K w.params).In h → h.Ns mainGlobals mg → mg d.name = some (.ref fa) →
   ∃ fd : FuncData, (∀ (s : Shared) (u : Value), BindsTo s fd ⟨[u], []⟩ [(x, u)]) ∧
    ∀ base : Heap, (K w.params).In base → base.Ns mainGlobals mg → FnOk l.prog w (K w.params) mg base CX k fa fd [x] (sp (K w.params)))
  (hsp : ∀ (K : PySem.W.Frag) (H : Hp) (a : Addr) (ns : List Int), ns.length ≤ n → Only H → SqL K H a (ns.map V.int) → sp K [.ref a] H (fun v _ => v = .bl true) fun _ _ _ => False)
  (hCX : ∀ (H : Hp) (s : Shared) (e : Value) (s' : Shared), CX [] H s (fun _ _ _ => False) e s' → False) :
  PySem.W.WalkO q loose XP YP l.row.toRowW d [] (fun f vs => PySem.call f vs) :=
 walk_of (K := K) (CX := fun _ => CX) (sp := fun w => sp (K w.params)) hn hn2 hdf hr hY F (fun w H a ns h1 h2 h3 => hsp (K w.params) H a ns h1 h2 h3) fun _ H s e s' => hCX H s e s'
end L2
namespace L2
open PySem PySem.Spec PyProof.Rows
def inClass (s : Stmt) (j : Nat) : Stmt := match s with
 | .ClassDef _ _ _ body _ _ _ _ _ _ _ => body.getD j (.Pass ⟨0, 0, 0, 0⟩)
 | _ => .Pass ⟨0, 0, 0, 0⟩
def defArgs (s : Stmt) : Arguments := match s with
 | .FunctionDef _ a _ _ _ _ _ _ _ _ => a
 | _ => { posonlyargs := [], args := [], vararg := none, kwonlyargs := [], kw_defaults := [], kwarg := none, defaults := [] }
def defBody (s : Stmt) : List Stmt := match s with
 | .FunctionDef _ _ b _ _ _ _ _ _ _ => b
 | _ => []
def defScope (s : Stmt) : Scope := match s with
 | .FunctionDef _ _ _ _ _ _ sc _ _ _ => sc
 | _ => { kind := .function, names := [], isGenerator := false, isCoroutine := false }
abbrev CX0 : CXT := fun _ _ _ _ _ _ => False
abbrev E0 : XK := fun _ _ _ => False
theorem pass0 {X : Cx} : Passes CX0 X E0 := fun _ _ _ _ _ _ _ h => h.elim
structure Fun (K : PySem.W.Frag) (x qual : Str) (st : Stmt) (f : Addr) (fd : FuncData) : Prop where
 ex : ∃ (oc : Value) (od : Option Addr) (kV doc pm : Value) (an : Option Addr) (cdv ct : Value) (osl : Array (Option Value)),
  fd = PySem.W.fnOf x qual (defArgs st) (defBody st) (defScope st) .none kV doc pm an cdv ct ∧ K.lookup f = some ⟨oc, od, .func fd, osl⟩ ∧ PySem.W.codeIn K cdv qual = true
 kp : PySem.W.keepIn K (.ref f) = true
section
variable {P : Program} {w : World} {K : PySem.W.Frag} {mg : Str → Option Value} {base : Heap}
theorem Fun.ok {x qual : Str} {st : Stmt} {f : Addr} {fd : FuncData} {N ps : List Str} {k : Nat} {sp : Sp} (F : Fun K x qual st f fd) (S : FnScope N ps (defScope st)) (len : ∀ vs H Q E, sp vs H Q E → vs.length = ps.length)
  (hbody : ∀ (cdv : Value) (A : Around) (outer : List Env) (s : Shared) (H : Hp) (vs : List V) (Q : VK) (E : XK), Room k (A.deeper (envOfC qual (defScope st) s.heap.objs.size f cdv)) → sp vs H Q E →
   ∃ t, PSs (cxOf CX0 P w K mg base N qual (defScope st) f cdv A outer s H E).nox (defBody st) t ∧ t { nx := fun _ H' => Q .non H', rt := Q } (start N vs) H) : FnOk P w K mg base CX0 (k + 1) f fd ps sp := by
 obtain ⟨oc, od, kV, doc, pm, an, cdv, ct, osl, rfl, lk, hcd⟩ := F.ex
 refine fn_of lk hcd S len fun A outer s H vs Q E hr hsp => ?_
 obtain ⟨t, h, q⟩ := hbody cdv A outer s H vs Q E hr hsp
 exact ⟨t, h.nox, q⟩
theorem Fun.binds {x qual : Str} {st : Stmt} {f : Addr} {fd : FuncData} {ps : List Str} (F : Fun K x qual st f fd)
  (h : ∀ (kV doc pm : Value) (an : Option Addr) (cdv ct : Value) (us : List Value), us.length = ps.length → bindArgs (PySem.W.fnOf x qual (defArgs st) (defBody st) (defScope st) .none kV doc pm an cdv ct) ⟨us, []⟩ = pure (ps.zip us)) : Binds K fd ps [] := by
 obtain ⟨oc, od, kV, doc, pm, an, cdv, ct, osl, rfl, lk, hcd⟩ := F.ex
 exact .all (h kV doc pm an cdv ct)
theorem fun_mk {x qual : Str} {st : Stmt} {f : Addr} {oc : Value} {od an : Option Addr} {osl : Array (Option Value)} {kV doc pm cdv ct : Value} (l : K.lookup f = some ⟨oc, od, .func (PySem.W.fnOf x qual (defArgs st) (defBody st) (defScope st) .none kV doc pm an cdv ct), osl⟩)
  (c : PySem.W.codeIn K cdv qual = true) (k : PySem.W.keepIn K (.ref f) = true) : Fun K x qual st f (PySem.W.fnOf x qual (defArgs st) (defBody st) (defScope st) .none kV doc pm an cdv ct) := ⟨⟨oc, od, kV, doc, pm, an, cdv, ct, osl, rfl, l, c⟩, k⟩
end
section
variable {X : Cx}
theorem pv (i : Nat) {x : Str} {pos : Pos} (hN : X.N[i]? = some x := by rfl) (hv : Vis X.env.scope x := by first | exact Or.inl rfl | exact Or.inr (Or.inl rfl) | exact Or.inr (Or.inr rfl)) (hd : (x == ("__debug__" : Str)) = false := by decide)
  (hcd : (x == ("__classdict__" : Str)) = false := by decide) : PE X (.Name x pos) (tVar i) := pe_var hN hv hd hcd
end
theorem iteF {A B : Prop} (h : B) : if false = true then A else B := by
 rw [if_neg Bool.false_ne_true]
 exact h
theorem iteT {A B : Prop} (h : A) : if true = true then A else B := by
 rw [if_pos rfl]
 exact h
theorem iteNS {c A B : Prop} [Decidable c] (hc : c) (h : B) : if (!decide c) = true then A else B := by
 rw [decide_eq_true hc]
 exact iteF h
def Same (H H' : Hp) : Prop := ∀ b o, H b = some o → H' b = some o
theorem Same.refl (H : Hp) : Same H H := fun _ _ h => h
theorem Same.trans {H H1 H2 : Hp} (a : Same H H1) (b : Same H1 H2) : Same H H2 := fun c o h => b c o (a c o h)
theorem Same.free {H H' : Hp} (e : Same H H') {l : Addr} (h : H' l = Option.none) : H l = Option.none := by
 cases q : H l with
 | none => rfl
 | some o =>
  rw [e l o q] at h
  cases h
theorem Same.seq {K : PySem.W.Frag} {H H' : Hp} {a : Addr} {xs : List V} (e : Same H H') (h : SqL K H a xs) : SqL K H' a xs := by
 rcases h with (h | ⟨o, h⟩) | h
 ·exact .inl (.inl (e _ _ h))
 ·exact .inl (.inr ⟨o, e _ _ h⟩)
 ·exact .inr h
section
variable {κ : Type} [DecidableEq κ]
end
end L2
set_option maxHeartbeats 4000000
namespace L2
open PySem PySem.Spec PyProof.Rows
def compCx (X : Cx) (N' : List Str) (scope : Scope) (cl : List (Str × Addr)) (C : Addr) (s : Shared) (H : Hp) (fp : List Addr) : Cx :=
 { X with N := N', s₀ := s, H₀ := H, env := compEnvC scope cl C X.env, outer := X.stack, stack := X.stack, ex := fp, fn := fun _ => false, pn := [], xe := fun _ _ => False }
def AllL {α : Type} (P : α → Prop) : List α → Prop
 | [] => True
 | x :: r => P x ∧ AllL P r
theorem AllL.mem {α : Type} {P : α → Prop} : ∀ {l : List α}, AllL P l → ∀ x ∈ l, P x
 | [], _, x, hx => by simp at hx
 | y :: r, h, x, hx => by
  rcases List.mem_cons.mp hx with e | e
  ·rw [e]; exact h.1
  ·exact AllL.mem h.2 x e
theorem AllL.get {α : Type} {P : α → Prop} {l : List α} (h : AllL P l) {i : Nat} {x : α} (e : l[i]? = some x) : P x := h.mem x (List.mem_of_getElem? e)
structure FrAt (X : Cx) (scope : Scope) (cl : List (Str × Addr)) (p : Str × Nat) : Prop where
 nm : X.N[p.2]? = some p.1
 kx : X.env.kindOf p.1 = some .cell ∨ X.env.kindOf p.1 = some .free
 kc : (relabel scope X.env).names.lookup p.1 = some .cell ∨ (relabel scope X.env).names.lookup p.1 = some .free
 cl : ∃ c, cl.lookup p.1 = some c ∧ X.env.cells.lookup p.1 = some c
structure CompSc (X : Cx) (scope : Scope) (cl : List (Str × Addr)) (x : Str) (fr : List (Str × Nat)) : Prop where
 clos : closureFor scope X.env = pure cl
 kind : scope.kind = .function
 nocell : ∀ y ∈ scope.names, y.2 ≠ .cell
 locs : ∀ y ∈ scope.names, y.2 = .local → scope.names.lookup y.1 = some .local
 here : scope.names.lookup x = some .local
 nd : (x :: fr.map (·.1)).Nodup
 sub : AllL (fun p => X.env.cells.lookup p.1 = some p.2) cl
 has : ((relabel scope X.env).names.all fun p => !(p.2 == .cell || p.2 == .free) || (cl.lookup p.1).isSome) = true
 frs : AllL (FrAt X scope cl) fr
theorem mem_of_lk {α : Type} {x : Str} {v : α} : ∀ {l : List (Str × α)}, l.lookup x = some v → (x, v) ∈ l
 | [], h => by simp at h
 | (y, w) :: r, h => by
  cases hx : x == y with
  | true =>
   have e : x = y := beq_iff_eq.mp hx
   simp only [List.lookup_cons, hx] at h
   cases h
   subst e
   exact List.mem_cons_self
  | false =>
   simp only [List.lookup_cons, hx] at h
   exact List.mem_cons_of_mem _ (mem_of_lk h)
theorem CompSc.subL {X : Cx} {scope : Scope} {cl : List (Str × Addr)} {x : Str} {fr : List (Str × Nat)} (S : CompSc X scope cl x fr) : ∀ y c, cl.lookup y = some c → X.env.cells.lookup y = some c :=
 fun y c e => S.sub.mem (y, c) (mem_of_lk e)
def PTs (X : Cx) (ifs : List Expr) (t : TT) : Prop :=
 ∀ (pins : List (Addr × Obj)) (s : Shared) (σ : St) (H : Hp) (Q : Bool → Hp → Prop), Inv X pins σ H s → t σ H Q →
  wpAny (model X.prog X.w) X.A (forIn ifs true fun c r => if r = true then do let ok ← isTrue c X.env (eval c X.env); pure (ForInStep.yield ok) else pure (ForInStep.yield r)) (TP X pins σ Q) X.xe s
def tYes : TT := fun _ H Q => Q true H
theorem pts_nil {X : Cx} : PTs X [] tYes := fun _ _ _ H _ I h => wpAny_tests_nil ⟨H, I, h⟩
theorem pts_one {X : Cx} {c : Expr} {t : TT} (h : PT X c t) : PTs X [c] t := fun pins s σ H Q I hw => wpAny_tests_one (h pins s σ H Q I hw)
theorem compLoop_any {prog : Program} {w : World} {A : Around} {R : Result → Shared → Prop} {s : Shared} {elt target iter : Expr} {ifs : List Expr} {scope : Scope} {pos : Pos} {it acc : Value} {env : Env} (I : Nat → Shared → Prop)
  (turn : ∀ n s, I n s → wpAny (model prog w) A (pyNext it) (fun r s₁ => match r with
   | none => R (.ok .next) s₁
   | some v => wpAny (model prog w) A (letOwnedTupleGo target it v) (fun _ s₁' => wpAny (model prog w) A (assign target env v) (fun _ s₂ =>
     wpAny (model prog w) A (forIn ifs true fun c r => if r = true then do let ok ← isTrue c env (eval c env); pure (ForInStep.yield ok) else pure (ForInStep.yield r)) (fun ok s₃ =>
      if ok = true then wpAny (model prog w) A (eval elt env) (fun x s₄ =>
       wpAny (model prog w) A (call (.builtin "list.append") [acc, x]) (fun _ s₅ => ∃ m, m < n ∧ I m s₅) (notedBy (model prog w) A env fun e s' => R (.error e) s') s₄) (notedBy (model prog w) A env fun e s' => R (.error e) s') s₃
      else ∃ m, m < n ∧ I m s₃) (notedBy (model prog w) A env fun e s' => R (.error e) s') s₂) (notedBy (model prog w) A env fun e s' => R (.error e) s') s₁') (notedBy (model prog w) A env fun e s' => R (.error e) s') s₁) (notedBy (model prog w) A env fun e s' => R (.error e) s') s)
  (n : Nat) (h : I n s) :
  codeAny (model prog w) A (.compLoop (.ListComp elt [⟨target, iter, ifs, 0⟩] scope pos) 0 it acc env) R s := by
 refine codeAny_loop rfl I (fun n s hI => ?_) n h
 show wpAny _ A ((compTurn (.ListComp elt [⟨target, iter, ifs, 0⟩] scope pos) 0 it acc env).onRaise (fun x => do noteFrame x env; theTreesLotGoes x)) _ _ s
 refine wpAny_noted ?_
 rw [compTurn_list]
 refine wpAny_bind (wpAny_standAt (wpAny_bind (wpAny_mono (turn n s hI) (fun r s₁ h₁ => ?_) fun _ _ h' => h')))
 cases r with
 | none => exact wpAny_pure h₁
 | some v =>
  refine wpAny_bind (wpAny_mono h₁ (fun _ s₁' h₁' => ?_) fun _ _ h' => h')
  refine wpAny_bind (wpAny_mono h₁' (fun _ s₂ h₂ => wpAny_bind (wpAny_mono h₂ (fun ok s₃ h₃ => ?_) fun _ _ h' => h')) fun _ _ h' => h')
  cases ok with
  | false => exact wpAny_pure ⟨rfl, h₃⟩
  | true =>
   exact wpAny_bind (wpAny_bind (wpAny_mono h₃ (fun x s₄ h₄ => wpAny_bind (wpAny_mono h₄ (fun _ s₅ h₅ => wpAny_pure (wpAny_pure ⟨rfl, h₅⟩)) fun _ _ h' => h')) fun _ _ h' => h'))
def frv (fr : List (Str × Nat)) (σ : St) : St := fr.map fun p => (σ[p.2]?).join
def tLC (wi : TI) (fr : List (Str × Nat)) (tc : TT) (te : TE) : TE := fun σ H Q => wi σ H fun J H1 => ∃ W : Nat → Nat → List V → Hp → Prop, (∃ m, W 0 m [] H1) ∧ ∀ i m acc H, W i m acc H →
 (J.stop i H ∧ acc.length ≤ sizeLine ∧ ∀ p, H p = none → Q (.ref p) (upd H p (.lst acc))) ∨
 (J.go i H ∧ ∀ x H', J.yld i H x H' → tc (some x :: frv fr σ) H' fun b H2 => if b = true then te (some x :: frv fr σ) H2 fun v H3 => acc.length < sizeLine ∧ ∃ m', m' < m ∧ W (i + 1) m' (acc ++ [v]) H3
  else ∃ m', m' < m ∧ W (i + 1) m' acc H2)
section
variable {X : Cx} {x : Str} {px pos : Pos} {iter elt : Expr} {ifs : List Expr} {scope : Scope} {cl : List (Str × Addr)} {wi : TI} {tc : TT} {te : TE} {fr : List (Str × Nat)}
theorem compCx_ok {pins : List (Addr × Obj)} {σ : St} {H : Hp} {s : Shared} {fp : List Addr} {C : Addr} (S : CompSc X scope cl x fr) (I : Inv X pins σ H s) (hC : s.heap.objs.size ≤ C)
  (hf : ∀ b ∈ fp, FpOk X pins H b) (ho : ∀ b ∈ fp, ∃ o, s.heap.get? b = some o) : (compCx X (x :: fr.map (·.1)) scope cl C s H fp).Ok where
 mod := I.ok.mod
 kind := S.kind
 glob := I.ok.glob
 blt := I.ok.blt
 above := hC
 inj := fun y z c h1 h2 => I.ok.inj y z c (S.subL y c h1) (S.subL z c h2)
 has := fun y hy => by
  have all := List.all_eq_true.mp S.has
  have go : ∀ k, (k == NameKind.cell || k == NameKind.free) = true → (relabel scope X.env).names.lookup y = some k → ∃ c, cl.lookup y = some c := fun k hk e => by
   have q := all (y, k) (mem_of_lk e)
   have q' : (!(k == NameKind.cell || k == NameKind.free) || (cl.lookup y).isSome) = true := q
   rw [hk] at q'
   exact Option.isSome_iff_exists.mp (by simpa using q')
  rcases hy with hy | hy
  ·exact go .cell rfl hy
  ·exact go .free rfl hy
 cab := fun y c hfn _ => by cases hfn
 hd := I.ok.hd
 frames := I.ok.frames
 stk := .inl rfl
 exf := fun b hb => by
  obtain ⟨o, e⟩ := ho b hb
  exact ⟨Nat.ne_of_lt (Nat.lt_of_lt_of_le (Heap.lt_size e) hC), fun y c h => (hf b hb).2.2.2.2.1 y c (S.subL y c h)⟩
 bs := I.bs
 bsz := Nat.le_trans I.ok.bsz I.sz
 noex := fun b o e hb => by
  rcases (hf b hb).2.2.2.1 with z | z
  ·exact I.ok.noex b o e z
  ·exact absurd (Nat.lt_of_lt_of_le (Heap.lt_size e) (Nat.le_trans I.ok.bsz z)) (Nat.lt_irrefl _)
 exfs := fun b hb z => by
  rcases List.mem_cons.mp (I.stkSub b z) with e | e
  ·exact (hf b hb).2.1 e
  ·exact (hf b hb).2.2.1 e
 funs := I.stack
 frf := I.stkFree
theorem compCx_inv {pins : List (Addr × Obj)} {σ : St} {H : Hp} {s s' : Shared} {fp : List Addr} {C D : Addr} {oD : Obj} {m : Str → Option Value} (S : CompSc X scope cl x fr) (I : Inv X pins σ H s) (hC : s.heap.objs.size ≤ C)
  (hf : ∀ b ∈ fp, FpOk X pins H b) (ho : ∀ b ∈ fp, ∃ o, s.heap.get? b = some o) (os : s'.os = s.os) (bare : AllBare s'.gens) (old : ∀ b o, s.heap.get? b = some o → s'.heap.get? b = some o) (ns : s'.heap.Ns C m)
  (hD : s.heap.objs.size ≤ D) (hDC : D ≠ C) (eD : s'.heap.get? D = some oD) (dD : ∀ v, oD.data ≠ .cell v) :
  Inv (compCx X (x :: fr.map (·.1)) scope cl C s H fp) [(D, oD)] (none :: frv fr σ) H s' where
 ok := compCx_ok S I hC hf ho
 os := os
 bare := bare
 base := Un.kept old
 loc := by
  refine ⟨m, ns, fun i y v h1 h2 _ => ?_⟩
  cases i with
  | zero =>
   have h2' : some (none : Option V) = some (some v) := h2
   cases h2'
  | succ j =>
   have h1' : (fr.map (·.1))[j]? = some y := h1
   have h2' : (frv fr σ)[j]? = some (some v) := h2
   rw [List.getElem?_map] at h1'
   unfold frv at h2'
   rw [List.getElem?_map] at h2'
   cases e : fr[j]? with
   | none => rw [e] at h1'; cases h1'
   | some p =>
    rw [e] at h1' h2'
    have ey : p.1 = y := Option.some.inj h1'
    have ev : (σ[p.2]?).join = some v := Option.some.inj h2'
    have ev' : σ[p.2]? = some (some v) := by
     cases q : σ[p.2]? with
     | none => rw [q] at ev; cases ev
     | some w =>
      rw [q] at ev
      have : w = some v := ev
      rw [this]
    have F := S.frs.get e
    obtain ⟨c, c1, c2⟩ := F.cl
    obtain ⟨m', hn', hl'⟩ := I.loc
    have vis : Vis X.env.scope p.1 := by
     rcases F.kx with k | k
     ·exact .inr (.inl k)
     ·exact .inr (.inr k)
    obtain ⟨u, r, l⟩ := hl' p.2 p.1 v F.nm ev' vis
    rcases l with ⟨k, _⟩ | ⟨k, c', e', hc'⟩
    ·rcases F.kx with k' | k' <;> · rw [k] at k'; cases k'
    ·rw [c2] at e'
     cases e'
     subst ey
     refine ⟨u, r, .inr ⟨F.kc, c, c1, ?_⟩⟩
     obtain ⟨oc, hoc, hd⟩ := hc'
     exact ⟨oc, old _ _ hoc, hd⟩
 cell := fun y c e => by
  obtain ⟨v, oc, hoc, hd⟩ := I.cell y c (S.subL y c e)
  exact ⟨v, oc, old _ _ hoc, hd⟩
 free := I.hok.fresh hC
 freeC := fun y c e => I.freeC y c (S.subL y c e)
 pin := fun p hp => by
  have e : p = (D, oD) := by
   have : p ∈ ([] : List (Addr × Obj)) ++ [(D, oD)] := hp
   simpa using this
  subst e
  refine ⟨eD, I.hok.fresh hD, hDC, fun hb => ?_, dD⟩
  have hb' : D ∈ frs X.stack := hb
  have ok := compCx_ok S I hC hf ho
  obtain ⟨_, o, q, _⟩ := ok.funs.mem hb
  exact absurd (Nat.lt_of_lt_of_le (Heap.lt_size q) hD) (Nat.lt_irrefl _)
 hok := I.hok.kept old
 len := by
  show (none :: frv fr σ).length = (x :: fr.map (·.1)).length
  simp [frv]
abbrev oL (its : List Value) (n : Nat) : Obj := { cls := .type "list", data := .seq its.toArray n }
theorem oL_nc (its : List Value) (n : Nat) : ∀ v, (oL its n).data ≠ .cell v := fun v z => by
 have z' : Data.seq its.toArray n = Data.cell v := z
 cases z'
theorem comp_back {pins : List (Addr × Obj)} {σ σ' : St} {H H' : Hp} {s s' : Shared} {fp : List Addr} {C D : Addr} {its : List Value} {n : Nat} {acc : List V} {h'' : Heap} (I : Inv X pins σ H s) (hC : s.heap.objs.size ≤ C) (hD : s.heap.objs.size ≤ D) (hDC : D ≠ C)
  (hf : ∀ b ∈ fp, FpOk X pins H b) (J : Inv (compCx X (x :: fr.map (·.1)) scope cl C s H fp) [(D, oL its n)] σ' H' s') (r : Vals acc its) (hz : acc.length ≤ sizeLine) (sb : Heap.SameBut C s'.heap h'') :
  Inv X pins σ (upd H' D (.lst acc)) { s' with heap := h'' } := by
 have pD := J.pin (D, oL its n) (List.mem_append_right _ List.mem_cons_self)
 have nC : ∀ b o, s.heap.get? b = some o → b ≠ C := fun b o e => Nat.ne_of_lt (Nat.lt_of_lt_of_le (Heap.lt_size e) hC)
 have nD : ∀ b o, s.heap.get? b = some o → b ≠ D := fun b o e => Nat.ne_of_lt (Nat.lt_of_lt_of_le (Heap.lt_size e) hD)
 have HC : H' C = none := J.free
 have HD : H D = none := I.hok.fresh hD
 refine I.call' (ch := fp) J.os ⟨fun b o e k hb hx => ?_, fun b o e k hb hx => ?_, fun b o e k hx => ?_, fun b o e hx => ?_, fun b xs e => ?_, fun b o u e => ?_, fun b ps e => ?_⟩ (fun b u e => ?_) J.bare fun b hb => ?_
 ·exact (sb.2 b (nC b o e)).trans (J.base.keep b o e k hb hx)
 ·obtain ⟨sl, q⟩ := J.base.slot b o e k hb hx
  exact ⟨sl, (sb.2 b (nC b o e)).trans q⟩
 ·rw [upd_ne (nD b o e)]
  exact J.base.free b o e k hx
 ·obtain ⟨o', q⟩ := J.base.there b o e hx
  exact ⟨o', (sb.2 b (nC b o e)).trans q⟩
 ·rw [upd_ne (ne_of_none e HD)]
  exact J.base.tups b xs e
 ·rw [upd_ne (ne_of_none e HD)]
  exact J.base.frzs b o u e
 ·rw [upd_ne (ne_of_none e HD)]
  exact J.base.tbls b ps e
 ·by_cases hb : b = D
  ·subst hb
   rw [upd_same] at e
   cases e
   exact ⟨hz, its, n, r, (sb.2 b hDC).trans pD.1⟩
  ·rw [upd_ne hb] at e
   refine (J.hok b u e).stay (fun c v hc q => (sb.2 c ?_).trans q) (fun c q => ?_) fun c xs q => ?_
   ·rcases hc with z | z
    ·rw [z]; exact ne_of_none e HC
    ·exact ne_of_none z HC
   ·rw [upd_ne (ne_of_none q pD.2.1)]; exact q
   ·rw [upd_ne (ne_of_none q pD.2.1)]; exact q
 ·exact ⟨(hf b hb).2.2.2.1, (hf b hb).2.1, (hf b hb).2.2.2.2.1, (hf b hb).2.2.2.2.2⟩
theorem pe_lcomp (hc : X.calm = true) (hi : PI X (.Name x px) iter wi) (S : CompSc X scope cl x fr)
  (ht : ∀ C s H fp, PTs (compCx X (x :: fr.map (·.1)) scope cl C s H fp) ifs tc) (he : ∀ C s H fp, PE (compCx X (x :: fr.map (·.1)) scope cl C s H fp) elt te)
  (hs : ∀ v, foldedSetIterable iter X.env v = pure v := by intro _; rfl) : PE X (.ListComp elt [⟨.Name x px, iter, ifs, 0⟩] scope pos) (tLC wi fr tc te) := by
 intro pins s σ H Q I h
 rw [eval_ListComp]
 refine wpAny_comprehension_free (use := none) (cl := cl) rfl hs S.clos S.kind S.locs (thn (hi pins s σ H _ I h) fun v s1 h1 => thn h1 fun itv s2 h2 => ?_)
 obtain ⟨it, fp, tn, J, H2, e, I2, T, st2, f2, W, ⟨m0, w0⟩, turn⟩ := h2
 subst e
 refine wpAny_newObj_type (wpAny_newFunctionEnv S.nocell (by intro y hy; simp at hy) (fun h₁ hns₁ hsb₁ => ?_) S.kind)
 dsimp only at hns₁ hsb₁ ⊢
 generalize hHp : s2.heap.push { cls := .type "list", dict := none, data := .seq ([] : List Value).toArray } = hp at hns₁ hsb₁ ⊢
 have eC : hp.objs.size = s2.heap.objs.size + 1 := by rw [← hHp, Heap.size_push]
 have hDC : s2.heap.objs.size ≠ hp.objs.size := by rw [eC]; exact Nat.ne_of_lt (Nat.lt_succ_self _)
 have hC : s2.heap.objs.size ≤ hp.objs.size := by rw [eC]; exact Nat.le_succ _
 have hD : s2.heap.objs.size ≤ s2.heap.objs.size := Nat.le_refl _
 have nC : ∀ b o, s2.heap.get? b = some o → b ≠ hp.objs.size := fun b o e => Nat.ne_of_lt (Nat.lt_of_lt_of_le (Heap.lt_size e) hC)
 have nD : ∀ b o, s2.heap.get? b = some o → b ≠ s2.heap.objs.size := fun b o e => Nat.ne_of_lt (Heap.lt_size e)
 have old : ∀ b o, s2.heap.get? b = some o → h₁.get? b = some o := fun b o e => hsb₁.extBut b o (nC b o e) (Heap.get?_push_of_some _ (hHp ▸ Heap.get?_push_of_some _ e))
 have eD : h₁.get? s2.heap.objs.size = some (oL [] 0) := hsb₁.extBut _ _ hDC (Heap.get?_push_of_some _ (hHp ▸ Heap.get?_push_size _ rfl))
 have ho : ∀ b ∈ fp, ∃ o, s2.heap.get? b = some o := fun b hb => by
  obtain ⟨o, e, _⟩ := T.obj 0 _ st2 b hb
  exact ⟨o, e⟩
 have J0 : Inv (compCx X (x :: fr.map (·.1)) scope cl hp.objs.size s2 H2 fp) [(s2.heap.objs.size, oL [] 0)] (none :: frv fr σ) H2 { s2 with heap := h₁, toks := s2.toks + ([] : List (Str × Value)).length } :=
  compCx_inv S I2 hC f2 ho rfl I2.bare old hns₁ hD hDC eD (oL_nc [] 0)
 have fpne : ∀ b ∈ fp, b ≠ s2.heap.objs.size := fun b hb => by
  obtain ⟨o, e⟩ := ho b hb
  exact nD b o e
 have fpC : ∀ b ∈ fp, b ≠ hp.objs.size := fun b hb => by
  obtain ⟨o, e⟩ := ho b hb
  exact nC b o e
 have okX := J0.ok
 have stat : ∀ {H' : Hp} {oD : Obj}, (∀ b ∈ fp, H' b = none) → ∀ b ∈ fp, FpOk (compCx X (x :: fr.map (·.1)) scope cl hp.objs.size s2 H2 fp) [(s2.heap.objs.size, oD)] H' b := fun {H' oD} hn b hb =>
  ⟨hn b hb, fpC b hb, okX.exfs b hb, .inl hb, (okX.exf b hb).2, fun p hp' => by
   have e : p = (s2.heap.objs.size, oD) := by
    have : p ∈ ([] : List (Addr × Obj)) ++ [(s2.heap.objs.size, oD)] := hp'
    simpa using this
   rw [e]
   exact (fpne b hb).symm⟩
 have st1 : tn 0 h₁ := T.keep _ _ _ st2 fun b _ o e => old b o e
 have loop : ∀ s₃ : Shared, s₃ = { s2 with heap := h₁, toks := s2.toks + ([] : List (Str × Value)).length } →
   codeAny (model X.prog X.w) X.A (.compLoop (.ListComp elt [⟨.Name x px, iter, ifs, 0⟩] scope pos) 0 (.ref it) (.ref s2.heap.objs.size) (compEnvC scope cl hp.objs.size X.env))
    (compPost (model X.prog X.w) X.A X.xe none (EP X pins σ Q) (.ref s2.heap.objs.size) hp.objs.size) s₃ := by
  rintro s₃ rfl
  refine compLoop_any (fun n s' => ∃ i y H' acc its k, Inv (compCx X (x :: fr.map (·.1)) scope cl hp.objs.size s2 H2 fp) [(s2.heap.objs.size, oL its k)] (y :: frv fr σ) H' s' ∧ tn i s'.heap ∧ (∀ b ∈ fp, H' b = none) ∧ Vals acc its ∧ W i n acc H') ?_ m0
   ⟨0, none, H2, [], [], 0, J0, st1, fun b hb => (f2 b hb).1, .nil, w0⟩
  rintro n s3 ⟨i, y, H3, acc, its, k, I3, st3, fr3, rv, w3⟩
  have noE : ∀ {α : Type} {t : Sem α} {Q' : α → Shared → Prop} {s' : Shared} {E' : Value → Shared → Prop}, wpAny (model X.prog X.w) X.A t Q' (fun _ _ => False) s' → wpAny (model X.prog X.w) X.A t Q' E' s' := fun {α t Q' s' E'} h => wpAny_mono h (fun _ _ q => q) fun _ _ z => z.elim
  rcases turn i n acc H3 w3 with ⟨stop, hz, qn⟩ | ⟨go, step⟩
  ·refine thn (T.done (compCx X (x :: fr.map (·.1)) scope cl hp.objs.size s2 H2 fp) rfl rfl rfl hc i _ s3 _ H3 _ I3 (stat fr3) st3 stop) fun r s4 ⟨hr, I4⟩ => ?_
   subst hr
   obtain ⟨m4, hn4, _⟩ := I4.loc
   have pD := I4.pin (s2.heap.objs.size, oL its k) (List.mem_append_right _ List.mem_cons_self)
   refine ⟨m4, hn4, fun h'' sb => ⟨.ref s2.heap.objs.size, _, comp_back I2 hC hD hDC f2 I4 rv hz sb, rfl, qn _ pD.2.1⟩⟩
  ·refine thn (T.item (compCx X (x :: fr.map (·.1)) scope cl hp.objs.size s2 H2 fp) rfl rfl rfl hc i _ s3 _ H3 _ I3 (stat fr3) st3 go) fun r s4 ⟨u, hr, h4⟩ => ?_
   subst hr
   refine thn h4 fun _ s5 ⟨xv, H5, I5, r5, y5, st5, fr5⟩ => ?_
   have I5' := I5.pinned (stat fr5) (T.obj _ _ st5)
   have hx' : (relabel scope X.env).names.lookup x = some .local := lookup_relabel_local S.here
   refine wpAny_assign_Name (store_ok (i := 0) I5' S.nd rfl (.inl hx') r5 (fun s6 I6 => ?_) (.inr hx'))
   have I6' : Inv (compCx X (x :: fr.map (·.1)) scope cl hp.objs.size s2 H2 fp) ([(s2.heap.objs.size, oL its k)] ++ pinsAt fp s5.heap) (some xv :: frv fr σ) H5 s6 := I6
   refine noE (thn (ht _ _ _ _ _ s6 _ H5 _ I6' (step xv H5 y5)) fun b s7 ⟨H7, I7, q7⟩ => ?_)
   have back : ∀ {σ8 : St} {H8 : Hp} {s8 : Shared}, Inv (compCx X (x :: fr.map (·.1)) scope cl hp.objs.size s2 H2 fp) ([(s2.heap.objs.size, oL its k)] ++ pinsAt fp s5.heap) σ8 H8 s8 → tn (i + 1) s8.heap ∧ ∀ b ∈ fp, H8 b = none := fun {σ8 H8 s8} I8 => by
    refine ⟨T.keep _ _ _ st5 fun b hb o e => (I8.pin (b, o) (List.mem_append_right _ (List.mem_append_right _ (mem_pinsAt hb e)))).1, fun b hb => ?_⟩
    obtain ⟨o, e, d⟩ := T.obj _ _ st5 b hb
    exact (I8.pin (b, o) (List.mem_append_right _ (List.mem_append_right _ (mem_pinsAt hb e)))).2.1
   cases b with
   | false =>
    rw [if_neg Bool.false_ne_true] at q7 ⊢
    obtain ⟨m', hm, w7⟩ := q7
    obtain ⟨t7, n7⟩ := back I7
    exact ⟨m', hm, i + 1, _, H7, acc, its, k, I7.unpinned, t7, n7, rv, w7⟩
   | true =>
    rw [if_pos rfl] at q7 ⊢
    refine noE (thn (he _ _ _ _ _ s7 _ H7 _ I7 q7) fun u8 s8 ⟨v8, H8, I8, r8, hlt, m', hm, w8⟩ => ?_)
    obtain ⟨t8, n8⟩ := back I8
    have pD := I8.pin (s2.heap.objs.size, oL its k) (List.mem_append_right _ (List.mem_append_left _ List.mem_cons_self))
    have hl := rv.length
    refine wpAny_list_append_plain (items := its.toArray) ⟨k, pD.1⟩ (fun h9 ⟨k9, e9⟩ sb9 => ?_) (by rw [List.size_toArray]; omega)
    have e9' : h9.get? s2.heap.objs.size = some (oL (its ++ [u8]) k9) := by
     rw [e9]
     simp [oL]
    have I9 : Inv (compCx X (x :: fr.map (·.1)) scope cl hp.objs.size s2 H2 fp) [] (some xv :: frv fr σ) H8 { s8 with heap := h9, toks := s8.toks } :=
     (I8.pins_of (pins' := []) fun p z => absurd z (by simp)).turned (it := s2.heap.objs.size) (fun b o hb e => (sb9.2 b hb).trans e) pD.2.1 hDC (.inr hD) (fun y c e z => by
      obtain ⟨w', oc, hoc, hd⟩ := I8.cell y c e
      rw [z, pD.1] at hoc
      cases hoc
      exact oL_nc _ _ _ hd) fun p z => absurd (show p ∈ ([] : List (Addr × Obj)) ++ [] from z) (by simp)
    refine ⟨m', hm, i + 1, _, H8, acc ++ [v8], its ++ [u8], k9, I9.pins_of fun p z => ?_, T.keep _ _ _ t8 fun b hb o e => (sb9.2 b (fpne b hb)).trans e, n8, rv.append (.cons r8 .nil), w8⟩
    have e : p = (s2.heap.objs.size, oL (its ++ [u8]) k9) := by simpa using z
    subst e
    exact ⟨e9', pD.2.1, pD.2.2.1, pD.2.2.2.1, oL_nc _ _⟩
 exact codeAny_compStart_list (loop _ rfl) (T.self _ 0 _ _ _ st1 (loop _ rfl))
end
theorem lc_range {lo : Int} {n : Nat} {fr : List (Str × Nat)} {te : TE} {σ : St} {H : Hp} {Qp : Addr → List V → Hp → Prop} (f : Nat → V) (hn : n ≤ sizeLine)
  (hf : ∀ i, i < n → ∀ Q' : VK, Q' (f i) H → te (some (.int (lo + i)) :: frv fr σ) H Q') (hq : ∀ p, H p = none → Qp p ((List.range n).map f) H) :
  ∃ W : Nat → Nat → List V → Hp → Prop, (∃ m, W 0 m [] H) ∧ ∀ i m acc H, W i m acc H →
   ((Itr lo n).stop i H ∧ acc.length ≤ sizeLine ∧ ∀ p, H p = none → Qp p acc H) ∨
   ((Itr lo n).go i H ∧ ∀ x H', (Itr lo n).yld i H x H' → tYes (some x :: frv fr σ) H' fun b H2 => if b = true then te (some x :: frv fr σ) H2 fun v H3 => acc.length < sizeLine ∧ ∃ m', m' < m ∧ W (i + 1) m' (acc ++ [v]) H3
    else ∃ m', m' < m ∧ W (i + 1) m' acc H2) := by
 refine ⟨fun i m acc H' => H' = H ∧ i ≤ n ∧ m = n - i ∧ acc = (List.range i).map f, ⟨n, rfl, Nat.zero_le _, by simp, rfl⟩, ?_⟩
 rintro i m acc H' ⟨rfl, hi, rfl, rfl⟩
 have el : ((List.range i).map f).length = i := by simp
 by_cases hlt : i < n
 ·refine .inr ⟨hlt, fun x H1 y => ?_⟩
  obtain ⟨e, y⟩ := y
  subst e y
  dsimp only [tYes]
  rw [if_pos rfl]
  refine hf i hlt _ ⟨by rw [el]; omega, n - (i + 1), by omega, rfl, hlt, rfl, ?_⟩
  rw [List.range_succ, List.map_append]
  rfl
 ·have e : i = n := by omega
  subst e
  exact .inl ⟨Nat.le_refl _, by rw [el]; exact hn, hq⟩
end L2
namespace L2
open PySem PySem.Spec PyProof.Rows
section
variable {X : Cx}
theorem call_isinst : CallR X (.builtin "isinstance") (fun xs H Q => ∃ x n t b, xs = [x, .ty n] ∧ TyOf X.K H x t ∧ PySem.W.kitOne X.K t (.type n) = some b ∧ Q (.bl b) H) := by
 intro pins s σ H xs us Q I r h
 obtain ⟨x, n, t, b, rfl, ty, e, q⟩ := h
 obtain ⟨u, w', rfl, ru, rw'⟩ := vals2 r
 cases rw'
 exact isinst_ok I ru ty e fun tk => ⟨.bl b, H, I.tok tk, rfl, q⟩
theorem bo_int : bootBuiltins "int" = some (.type "int") := by decide +kernel
theorem bo_bool : bootBuiltins "bool" = some (.type "bool") := by decide +kernel
theorem bo_len : bootBuiltins "len" = some (.builtin "len") := by decide +kernel
theorem bo_isinstance : bootBuiltins "isinstance" = some (.builtin "isinstance") := by decide +kernel
end
end L2
namespace L2
open PySem PySem.Spec PyProof.Rows
mutual
inductive DRd (K : PySem.W.Frag) (H : Hp) : V → PyData → Prop where
 | non : DRd K H .non .none
 | bl (b : Bool) : DRd K H (.bl b) (.bool b)
 | int (i : Int) : DRd K H (.int i) (.int i)
 | str (x : Str) : DRd K H (.str x) (.str x)
 | lst {a : Addr} {xs : List V} {ds : List PyData} (h : SqL K H a xs) (r : DRds K H xs ds) : DRd K H (.ref a) (.list ds)
 | tup {a : Addr} {xs : List V} {ds : List PyData} (h : SqT K H a xs) (r : DRds K H xs ds) : DRd K H (.ref a) (.tuple ds)
inductive DRds (K : PySem.W.Frag) (H : Hp) : List V → List PyData → Prop where
 | nil : DRds K H [] []
 | cons {x : V} {d : PyData} {xs : List V} {ds : List PyData} (h : DRd K H x d) (r : DRds K H xs ds) : DRds K H (x :: xs) (d :: ds)
end
section
variable {X : Cx} {pins : List (Addr × Obj)} {σ : St} {H : Hp} {s : Shared}
mutual
theorem drd_reads (I : Inv X pins σ H s) : ∀ {x : V} {d : PyData}, DRd X.K H x d → ∀ {u : Value}, RelV x u → ∃ as, Reads s.heap u d as
 | _, _, .non, u, r => by cases (show u = Value.none from r); exact ⟨_, .none⟩
 | _, _, .bl b, u, r => by cases (show u = Value.bool b from r); exact ⟨_, .bool b⟩
 | _, _, .int i, u, r => by obtain ⟨t, e⟩ := (show ∃ t, u = Value.int i t from r); cases e; exact ⟨_, .int i t⟩
 | _, _, .str x, u, r => by obtain ⟨t, e⟩ := (show ∃ t, u = Value.str x t from r); cases e; exact ⟨_, .str x t⟩
 | _, _, .lst (a := a) h rs, u, r => by
  cases (show u = Value.ref a from r)
  obtain ⟨its, rv, p, _⟩ := I.list h
  obtain ⟨o, e, c, n, d⟩ := p.isList
  obtain ⟨as, q⟩ := drds_reads I rs rv
  exact ⟨_, .list e c d (by simpa using q)⟩
 | _, _, .tup (a := a) h rs, u, r => by
  cases (show u = Value.ref a from r)
  obtain ⟨its, rv, p, _⟩ := I.tuple h
  obtain ⟨o, e, c, n, d⟩ := p
  obtain ⟨as, q⟩ := drds_reads I rs rv
  exact ⟨_, .tuple e c d (by simpa using q)⟩
theorem drds_reads (I : Inv X pins σ H s) : ∀ {xs : List V} {ds : List PyData}, DRds X.K H xs ds → ∀ {us : List Value}, Vals xs us → ∃ as, ReadsAll s.heap us ds as
 | _, _, .nil, _, .nil => ⟨_, .nil⟩
 | _, _, .cons h r, _, .cons v vs => by
  obtain ⟨as, q⟩ := drd_reads I h v
  obtain ⟨bs, q'⟩ := drds_reads I r vs
  exact ⟨_, .cons q q'⟩
end
end
section
variable {X : Cx}
def rEqD (K : PySem.W.Frag) : R2 := fun x y H Q => ∃ da db, DRd K H x da ∧ DRd K H y db ∧ PySem.SeqAt.shaped da = true ∧ PySem.SeqAt.shaped db = true ∧ PySem.SeqAt.noMix da db = true ∧ Q (.bl (same da db)) H
theorem op_eqD (hu : X.A.units + 64 < cLine) : OpR X (compareOp .Eq) (rEqD X.K) := by
 intro pins s σ H x y v u Q I rx ry h
 obtain ⟨da, db, h1, h2, s1, s2, nm, q⟩ := h
 obtain ⟨as, r1⟩ := drd_reads I h1 rx
 obtain ⟨bs, r2⟩ := drd_reads I h2 ry
 exact eq_dataH_same r1 r2 s1 s2 hu nm ⟨.bl _, H, I, rfl, q⟩
end
end L2
namespace L2
open PySem PySem.Spec PyProof.Rows
def IntG (mg : Str → Option Value) (x : Str) (n : Int) : Prop := ∃ t, mg x = some (.int n t)
def Raw (K : PySem.W.Frag) (mg : Str → Option Value) (x : Str) (st : Stmt) : Prop := ∃ f fd, mg x = some (.ref f) ∧ Fun K x x st f fd
def GF (P : Program) (w : World) (K : PySem.W.Frag) (mg : Str → Option Value) (base : Heap) (x : Str) (ps : List Str) (k : Nat) (sp : Sp) : Prop :=
 ∃ f fd, mg x = some (.ref f) ∧ (∃ oc od osl, K.lookup f = some ⟨oc, od, .func fd, osl⟩) ∧ PySem.W.keepIn K (.ref f) = true ∧ Binds K fd ps [] ∧ FnOk P w K mg base CX0 k f fd ps sp
def RawC (K : PySem.W.Frag) (mg : Str → Option Value) (x q : Str) (C : Addr) (st : Stmt) : Prop := mg x = some (.ref C) ∧ ∃ f fd, Mk K C f ∧ Fun K "__init__" q st f fd
def GC (P : Program) (w : World) (K : PySem.W.Frag) (mg : Str → Option Value) (base : Heap) (x : Str) (C : Addr) (ps : List Str) (k : Nat) (sp : Sp) : Prop :=
 mg x = some (.ref C) ∧ ∃ f fd, Mk K C f ∧ Binds K fd ps [] ∧ FnOk P w K mg base CX0 k f fd ps sp
section
variable {P : Program} {w : World} {K : PySem.W.Frag} {mg : Str → Option Value} {base : Heap} {x : Str} {st : Stmt} {N ps : List Str} {k : Nat} {sp : Sp}
theorem GF.mk (R : Raw K mg x st) (S : FnScope N ps (defScope st))
  (hb : ∀ (kV doc pm : Value) (an : Option Addr) (cdv ct : Value) (us : List Value), us.length = ps.length → bindArgs (PySem.W.fnOf x x (defArgs st) (defBody st) (defScope st) .none kV doc pm an cdv ct) ⟨us, []⟩ = pure (ps.zip us))
  (len : ∀ vs H Q E, sp vs H Q E → vs.length = ps.length)
  (hbody : ∀ (f : Addr) (cdv : Value) (A : Around) (outer : List Env) (s : Shared) (H : Hp) (vs : List V) (Q : VK) (E : XK), Room k (A.deeper (envOfC x (defScope st) s.heap.objs.size f cdv)) → sp vs H Q E →
   ∃ t, PSs (cxOf CX0 P w K mg base N x (defScope st) f cdv A outer s H E).nox (defBody st) t ∧ t { nx := fun _ H' => Q .non H', rt := Q } (start N vs) H) : GF P w K mg base x ps (k + 1) sp := by
 obtain ⟨f, fd, e, F⟩ := R
 have lk : ∃ oc od osl, K.lookup f = some ⟨oc, od, .func fd, osl⟩ := by
  obtain ⟨oc, od, kV, doc, pm, an, cdv, ct, osl, _, lk, _⟩ := F.ex
  exact ⟨oc, od, osl, lk⟩
 exact ⟨f, fd, e, lk, F.kp, F.binds hb, F.ok S len fun cdv A outer s H vs Q E hr h => hbody f cdv A outer s H vs Q E hr h⟩
theorem GC.mk {q : Str} {C : Addr} (R : RawC K mg x q C st) (S : FnScope N ps (defScope st))
  (hb : ∀ (kV doc pm : Value) (an : Option Addr) (cdv ct : Value) (us : List Value), us.length = ps.length → bindArgs (PySem.W.fnOf "__init__" q (defArgs st) (defBody st) (defScope st) .none kV doc pm an cdv ct) ⟨us, []⟩ = pure (ps.zip us))
  (len : ∀ vs H Q E, sp vs H Q E → vs.length = ps.length)
  (hbody : ∀ (f : Addr) (cdv : Value) (A : Around) (outer : List Env) (s : Shared) (H : Hp) (vs : List V) (Q : VK) (E : XK), Room k (A.deeper (envOfC q (defScope st) s.heap.objs.size f cdv)) → sp vs H Q E →
   ∃ t, PSs (cxOf CX0 P w K mg base N q (defScope st) f cdv A outer s H E).nox (defBody st) t ∧ t { nx := fun _ H' => Q .non H', rt := Q } (start N vs) H) : GC P w K mg base x C ps (k + 1) sp := by
 obtain ⟨e, f, fd, M, F⟩ := R
 exact ⟨e, f, fd, M, F.binds hb, F.ok S len fun cdv A outer s H vs Q E hr h => hbody f cdv A outer s H vs Q E hr h⟩
theorem GF.fn {f : Addr} {fd : FuncData} {oc : Value} {od : Option Addr} {osl : Array (Option Value)} (G : GF P w K mg base x ps k sp) (e : mg x = some (.ref f)) (l : K.lookup f = some ⟨oc, od, .func fd, osl⟩) : FnOk P w K mg base CX0 k f fd ps sp := by
 obtain ⟨f', fd', e', ⟨oc', od', osl', l'⟩, _, _, F⟩ := G
 rw [e] at e'
 cases e'
 rw [l] at l'
 have q : fd = fd' := by
  have q1 := congrArg Obj.data (Option.some.inj l')
  have q2 : Data.func fd = Data.func fd' := q1
  injection q2
 rw [q]
 exact F
theorem raw_mk {h : Heap} {f : Addr} {oc : Value} {od an : Option Addr} {osl : Array (Option Value)} {kV doc pm cdv ct : Value} (X : K.In h) (G : h.Ns mainGlobals mg) (a : PySem.W.nsIn K mainGlobals x = some (some (.ref f)))
  (l : K.lookup f = some ⟨oc, od, .func (PySem.W.fnOf x x (defArgs st) (defBody st) (defScope st) .none kV doc pm an cdv ct), osl⟩) (c : PySem.W.codeIn K cdv x = true) (k : PySem.W.keepIn K (.ref f) = true) : Raw K mg x st :=
 ⟨f, _, PySem.W.mg_of X G a, fun_mk l c k⟩
theorem rawC_mk {h : Heap} {q : Str} {C f : Addr} {oc : Value} {od an : Option Addr} {osl : Array (Option Value)} {kV doc pm cdv ct : Value} (X : K.In h) (G : h.Ns mainGlobals mg) (a : PySem.W.nsIn K mainGlobals x = some (some (.ref C)))
  (a1 : PySem.W.findIn K (.ref C) "__init__" = some (some (.ref f))) (i1 : PySem.W.isFn K (.ref f) = true)
  (l : K.lookup f = some ⟨oc, od, .func (PySem.W.fnOf "__init__" q (defArgs st) (defBody st) (defScope st) .none kV doc pm an cdv ct), osl⟩) (c : PySem.W.codeIn K cdv q = true) (k : PySem.W.keepIn K (.ref f) = true)
  (mk : PySem.W.makesIn K C = true) (kc : PySem.W.keepIn K (.ref C) = true) : RawC K mg x q C st :=
 ⟨PySem.W.mg_of X G a, f, _, ⟨mk, a1, i1, kc⟩, fun_mk l c k⟩
theorem int_mk {h : Heap} {n : Int} {t : Tok} (X : K.In h) (G : h.Ns mainGlobals mg) (a : PySem.W.nsIn K mainGlobals x = some (some (.int n t))) : IntG mg x n := ⟨t, PySem.W.mg_of X G a⟩
end
section
variable {X : Cx} {x : Str} {ps : List Str} {k : Nat} {sp : Sp} {e : Expr} {es : List Expr} {t : TA} {p pos : Pos} {C : Addr}
theorem pe_gcall (G : GF X.prog X.w X.K X.mg X.base x ps k sp) (hr : Room k X.A) (hg : Gl X x) (ha : PA X (e :: es) t) (hdb : (x == ("__debug__" : Str)) = false := by decide)
  (he : starEach (e :: es) X.env = (false, eval e X.env) :: starEach es X.env := by rfl) (hpl : (backTo pos (starEach es X.env)).any (·.1) = false := by rfl) : PE X (.Call (.Name x p) (e :: es) [] pos) (tCall sp [] E0 t) := by
 obtain ⟨f, fd, hm, _, hk, hb, F⟩ := G
 exact pe_call F hr hg hm hk hb .nil pass0 ha hdb he hpl
theorem pe_gmake (G : GC X.prog X.w X.K X.mg X.base x C ps k sp) (hr : Room (k + 1) X.A) (hg : Gl X x) (ha : PA X (e :: es) t) (hdb : (x == ("__debug__" : Str)) = false := by decide)
  (he : starEach (e :: es) X.env = (false, eval e X.env) :: starEach es X.env := by rfl) (hpl : (backTo pos (starEach es X.env)).any (·.1) = false := by rfl) : PE X (.Call (.Name x p) (e :: es) [] pos) (tMake C sp [] E0 t) := by
 obtain ⟨hm, f, fd, M, hb, F⟩ := G
 exact pe_make M F hr hg hm hb .nil pass0 ha hdb he hpl
theorem pe_gint {n : Int} (hg : Gl X x) (h : IntG X.mg x n) (hd : (x == ("__debug__" : Str)) = false := by decide) : PE X (.Name x pos) (tC (.int n)) := by
 obtain ⟨t, e⟩ := h
 exact pe_glob hg e ⟨t, rfl⟩ hd
def tCut (t : TS) : TS := fun D σ H => ∃ R : St → Hp → Prop, t { D with nx := R } σ H ∧ ∀ σ' H', R σ' H' → D.nx σ' H'
theorem ps_cut {st : Stmt} {t : TS} (h : PS X st t) : PS X st (tCut t) := by
 intro pins s σ H D I hw
 obtain ⟨R, h1, h2⟩ := hw
 refine thn (h pins s σ H _ I h1) fun f s1 q => ?_
 cases f with
 | next =>
  obtain ⟨σ', H', I', q⟩ := q
  exact ⟨σ', H', I', h2 σ' H' q⟩
 | ret v => exact q
 | brk => exact q
 | cont => exact q
theorem hu64 {k : Nat} {A : Around} (hr : Room k A) : A.units + 64 < cLine := hr.units
end
section
variable {σ : St} {H : Hp} {D : Ends} {Q : VK} {QT : Bool → Hp → Prop}
theorem atI_ints {ns : List Int} {i : Int} (h0 : 0 ≤ i) (h1 : i < (ns.length : Int)) : atI (ns.map V.int) i = some (.int (ns.getD i.toNat 0)) := by
 unfold atI ixN
 rw [if_pos h0, List.length_map, if_pos h1]
 show (ns.map V.int)[i.toNat]? = _
 have h2 : i.toNat < ns.length := by omega
 rw [List.getElem?_map, List.getElem?_eq_getElem h2, List.getD_eq_getElem?_getD, List.getElem?_eq_getElem h2]
 rfl
theorem iteD {c A B : Prop} [Decidable c] (h1 : c → A) (h2 : ¬ c → B) : if decide c = true then A else B := by
 by_cases h : c
 ·rw [if_pos (decide_eq_true h)]
  exact h1 h
 ·rw [if_neg (by simp [h])]
  exact h2 h
theorem iteB {b : Bool} {A B : Prop} (h1 : b = true → A) (h2 : b = false → B) : if b = true then A else B := by
 cases b with
 | true => rw [if_pos rfl]; exact h1 rfl
 | false => rw [if_neg Bool.false_ne_true]; exact h2 rfl
theorem iteN {c A B : Prop} [Decidable c] (h1 : ¬ c → A) (h2 : c → B) : if (!decide c) = true then A else B := by
 by_cases h : c
 ·rw [decide_eq_true h]
  exact iteF (h2 h)
 ·rw [decide_eq_false h]
  exact iteT (h1 h)
theorem putF_hit {f : Str} {v w : V} {r : List (Str × V)} : putF f v ((f, w) :: r) = (f, v) :: r := by
 unfold putF
 rw [if_pos rfl]
theorem putF_miss {f g : Str} {v w : V} {r : List (Str × V)} (h : ¬ g = f) : putF f v ((g, w) :: r) = (g, w) :: putF f v r := by
 conv => lhs; unfold putF
 rw [if_neg h]
theorem look_hit {f : Str} {v : V} {r : List (Str × V)} : List.lookup f ((f, v) :: r) = some v := by
 rw [List.lookup_cons, beq_self_eq_true]
theorem look_miss {f g : Str} {v : V} {r : List (Str × V)} (h : ¬ f = g) : List.lookup f ((g, v) :: r) = List.lookup f r := by
 rw [List.lookup_cons, beq_eq_false_iff_ne.mpr h]
end
end L2
namespace Sx
open PySem L2
section
variable {σ : St} {H : Hp} {Q : VK} {QT : Bool → Hp → Prop} {QA : List V → Hp → Prop} {D : Ends} {K : PySem.W.Frag} {ta tb tc : TE} {t u : TS} {c c' : TT} {r r' : R2} {E : XK}
theorem var {i : Nat} {v : V} (e : σ[i]? = some (some v)) (q : Q v H) : tVar i σ H Q := ⟨v, e, q⟩
theorem cst {v : V} (q : Q v H) : tC v σ H Q := q
theorem op (h : ta σ H fun x H1 => tb σ H1 fun y H2 => r x y H2 Q) : tOp r ta tb σ H Q := h
theorem un {r : V → Hp → VK → Prop} (h : ta σ H fun x H1 => r x H1 Q) : tUn r ta σ H Q := h
theorem i0 {g : Int → Int → V} {i j : Int} (q : Q (g i j) H) : rI0 g (.int i) (.int j) H Q := ⟨i, j, rfl, rfl, q⟩
theorem iC {C : Int → Int → Prop} {g : Int → Int → V} {i j : Int} (c : C i j) (q : Q (g i j) H) : rI C g (.int i) (.int j) H Q := ⟨i, j, rfl, rfl, c, q⟩
theorem eqI {i j : Int} (q : Q (.bl (decide (i = j))) H) : rEq (.int i) (.int j) H Q := ⟨rfl, by
 have e : decide (V.int i = V.int j) = decide (i = j) := by rw [Bool.eq_iff_iff]; simp
 rw [e]; exact q⟩
theorem neI {i j : Int} (q : Q (.bl (!decide (i = j))) H) : rNe (.int i) (.int j) H Q := ⟨rfl, by
 have e : decide (V.int i = V.int j) = decide (i = j) := by rw [Bool.eq_iff_iff]; simp
 rw [e]; exact q⟩
theorem eqS {i j : Str} (q : Q (.bl (decide (i = j))) H) : rEq (.str i) (.str j) H Q := ⟨rfl, by
 have e : decide (V.str i = V.str j) = decide (i = j) := by rw [Bool.eq_iff_iff]; simp
 rw [e]; exact q⟩
theorem neS {i j : Str} (q : Q (.bl (!decide (i = j))) H) : rNe (.str i) (.str j) H Q := ⟨rfl, by
 have e : decide (V.str i = V.str j) = decide (i = j) := by rw [Bool.eq_iff_iff]; simp
 rw [e]; exact q⟩
theorem test (h : ta σ H fun x H' => ∃ k, x = .bl k ∧ QT k H') : tTest ta σ H QT := h
theorem tB (h : ta σ H fun x H' => ∃ k, x = .bl k ∧ QT k H') : tB ta σ H QT := h
theorem isbl {b : Bool} {P : Bool → Prop} (q : P b) : ∃ k, V.bl b = .bl k ∧ P k := ⟨b, rfl, q⟩
theorem and (h : c σ H fun b H1 => if b = true then c' σ H1 QT else QT false H1) : tAnd c c' σ H QT := h
theorem or (h : c σ H fun b H1 => if b = true then QT true H1 else c' σ H1 QT) : tOr c c' σ H QT := h
theorem not (h : c σ H fun b H1 => QT (!b) H1) : tNot c σ H QT := h
theorem andV (h : ta σ H fun x H1 => ∃ c, x = .bl c ∧ if c = true then tb σ H1 Q else Q (.bl false) H1) : tAndV ta tb σ H Q := h
theorem orV (h : ta σ H fun x H1 => ∃ c, x = .bl c ∧ if c = true then Q (.bl true) H1 else tb σ H1 Q) : tOrV ta tb σ H Q := h
theorem notV (h : ta σ H fun x H1 => ∃ c, x = .bl c ∧ Q (.bl (!c)) H1) : tNotV ta σ H Q := h
theorem ifE (h : c σ H fun b H1 => if b = true then ta σ H1 Q else tb σ H1 Q) : tIf c ta tb σ H Q := h
theorem chain (h : ta σ H fun x H1 => tb σ H1 fun y H2 => r x y H2 fun z H3 => ∃ k, z = .bl k ∧ (if k = true then tc σ H3 fun w' H4 => r' y w' H4 Q else Q (.bl false) H3)) : tChain r r' ta tb tc σ H Q := h
theorem fld {f : Str} (h : ta σ H fun x H1 => ∃ a C dx fs v, x = .ref a ∧ H1 a = some (.ins C dx fs) ∧ Cls K C ∧ NoAttr K C f ∧ fs.lookup f = some v ∧ Q v H1) : tFld K ta f σ H Q := h
theorem atF {f : Str} {p C dx : Addr} {fs : List (Str × V)} {v : V} (e : H p = some (.ins C dx fs)) (c : Cls K C) (n : NoAttr K C f) (l : fs.lookup f = some v) {P : V → Prop} (q : P v) :
  ∃ a C dx fs v, V.ref p = .ref a ∧ H a = some (.ins C dx fs) ∧ Cls K C ∧ NoAttr K C f ∧ fs.lookup f = some v ∧ P v := ⟨p, C, dx, fs, v, rfl, e, c, n, l, q⟩
theorem next (h : D.nx σ H) : tNext D σ H := h
theorem seq (h : t { D with nx := u D } σ H) : tSeq t u D σ H := h
theorem drop (h : ta σ H fun _ H1 => D.nx σ H1) : tDrop ta D σ H := h
theorem ret (h : ta σ H D.rt) : tRet ta D σ H := h
theorem ifS (h : c σ H fun b H1 => if b = true then t D σ H1 else u D σ H1) : tIfS c t u D σ H := h
theorem asg {g : TG} (h : ta σ H fun x H1 => g x σ H1 D.nx) : tAsg ta g D σ H := h
theorem nm {i : Nat} {v : V} {q : St → Hp → Prop} (h : q (σ.set i (some v)) H) : gName i v σ H q := h
theorem call {sp : Sp} {dvs : List V} {a : TA} (h : a σ H fun vs H1 => sp (vs ++ dvs) H1 Q E) : tCall sp dvs E a σ H Q := h
theorem callB {rr : List V → Hp → VK → Prop} {a : TA} (h : a σ H fun vs H1 => rr vs H1 Q) : tCB rr a σ H Q := h
theorem nil (h : QA [] H) : tNil σ H QA := h
theorem cons {a : TA} (h : ta σ H fun x H1 => a σ H1 fun xs H2 => QA (x :: xs) H2) : tCons ta a σ H QA := h
theorem lst {a : TA} (h : a σ H fun xs H1 => xs.length ≤ sizeLine ∧ ∀ p, H1 p = none → Q (.ref p) (upd H1 p (.lst xs))) : tLst a σ H Q := h
theorem ixL {p : Addr} {xs : List V} {i : Int} {v : V} (h : H p = some (.lst xs)) (e : atI xs i = some v) (q : Q v H) : rIxL K (.ref p) (.int i) H Q := ⟨p, xs, i, v, rfl, rfl, SqL.of h, e, q⟩
theorem ixS {p : Addr} {xs : List V} {i : Int} {v : V} (h : SqL K H p xs) (e : atI xs i = some v) (q : Q v H) : rIxL K (.ref p) (.int i) H Q := ⟨p, xs, i, v, rfl, rfl, h, e, q⟩
theorem ixT {p : Addr} {xs : List V} {i : Int} {v : V} (h : H p = some (.tup xs)) (e : atI xs i = some v) (q : Q v H) : rIxT K (.ref p) (.int i) H Q := ⟨p, xs, i, v, rfl, rfl, SqT.of h, e, q⟩
theorem ixN {p : Addr} {ns : List Int} {i : Int} (h : H p = some (.lst (ns.map V.int))) (h0 : 0 ≤ i) (h1 : i < (ns.length : Int)) (q : Q (.int (ns.getD i.toNat 0)) H) : rIxL K (.ref p) (.int i) H Q := ixL h (atI_ints h0 h1) q
end
end Sx
namespace L2
open PySem PySem.Spec PyProof.Rows
def Ite (K : PySem.W.Frag) (a : Addr) : It :=
 ⟨fun i H => ∃ xs x, SqL K H a xs ∧ xs[i]? = some x, fun i H v H' => ∃ T x, v = .ref T ∧ H T = none ∧ (∀ xs, SqL K H a xs → xs[i]? = some x) ∧ H' = upd H T (.tup [.int i, x]), fun i H => ∃ xs, SqL K H a xs ∧ xs.length ≤ i⟩
theorem turn_enum {P : Program} {w : World} {K : PySem.W.Frag} {elts : List Expr} {x1} {pos : Pos} (a it e : Addr) (hne : e ≠ it) :
  Turn P w K (.Tuple elts x1 pos) (Ite K a) [e, it] e (fun i h => (∃ old, IsEnum h e it (i : Int) old) ∧ h.IsListIter it a i) where
 mem := by simp
 obj := fun i h st b hb => by
  obtain ⟨⟨old, he⟩, o, ho, c, d⟩ := st
  have hb' : b = e ∨ b = it := by simpa using hb
  rcases hb' with rfl | rfl
  ·exact ⟨_, he, fun v z => by
    have z' : Data.fields _ = Data.cell v := z
    cases z'⟩
  ·exact ⟨o, ho, fun v z => by rw [d] at z; cases z⟩
 keep := fun i h h' st k => by
  obtain ⟨⟨old, he⟩, hi⟩ := st
  exact ⟨⟨old, k e (by simp) _ he⟩, hi.at fun o q => k it (by simp) o q⟩
 item := by
  intro X hP hw hK hc i pins s σ H E I hf st hg
  subst hP hw hK
  obtain ⟨⟨old, he⟩, hit⟩ := st
  obtain ⟨xs, x, hq, hx⟩ := hg
  obtain ⟨its, rv, p, hz⟩ := I.list hq
  obtain ⟨u, hu, ru⟩ := rv.get hx
  have fe := hf e (by simp)
  have fi := hf it (by simp)
  refine wpAny_pyNext_enum_item he hit p.isList (x := u) (by simpa using hu) hne fun h1 ho hit1 hT hsz hk => ⟨_, rfl, wpAny_letOwnedTupleGo_enum ho fun h2 he2 hs2 => ?_⟩
  replace hs2 : Heap.SameBut e h1 h2 := hs2
  have fr : H s.heap.objs.size = none := I.hok.fresh (Nat.le_refl _)
  have neT : s.heap.objs.size ≠ e := fun z => by rw [z] at fr; exact absurd (Heap.lt_size he) (by rw [z]; exact Nat.lt_irrefl _)
  have keep : ∀ b o, b ≠ e → b ≠ it → s.heap.get? b = some o → h2.get? b = some o := fun b o n1 n2 q => (hs2.2 b n1).trans (hk b o n1 n2 q)
  have nT : ∀ b u, H b = some u → b ≠ s.heap.objs.size := fun b u q z => by rw [z, fr] at q; cases q
  have ne1 : ∀ b u, H b = some u → b ≠ e := fun b u q z => by rw [z, fe.1] at q; cases q
  have ne2 : ∀ b u, H b = some u → b ≠ it := fun b u q z => by rw [z, fi.1] at q; cases q
  refine ⟨.ref s.heap.objs.size, upd H s.heap.objs.size (.tup [.int i, x]), ?_, rfl, ⟨_, x, rfl, fr, fun ys hy => by rw [I.list_inj hy hq]; exact hx, rfl⟩, ⟨⟨_, by simpa using he2⟩, ?_⟩, fun b hb => ?_⟩
  ·refine I.call' (ch := [e, it]) rfl ⟨fun b o q k hb hx => ?_, fun b o q k hb hx => ?_, fun b o q k hx => ?_, fun b o q hx => ?_, fun b xs q => ?_, fun b o u q => ?_, fun b ps q => ?_⟩ (fun b v q => ?_) I.bare fun b hb => ?_
   ·exact keep b o (fun z => hx (by simp [z])) (fun z => hx (by simp [z])) q
   ·exact ⟨o.slots, keep b o (fun z => hx (by simp [z])) (fun z => hx (by simp [z])) q⟩
   ·rw [upd_ne (Nat.ne_of_lt (Heap.lt_size q))]; exact k
   ·exact ⟨o, keep b o (fun z => hx (by simp [z])) (fun z => hx (by simp [z])) q⟩
   ·rw [upd_ne (nT _ _ q)]; exact q
   ·rw [upd_ne (nT _ _ q)]; exact q
   ·exact ⟨#[], by rw [upd_ne (nT _ _ q), q]; simp⟩
   ·by_cases hb : b = s.heap.objs.size
    ·subst hb
     rw [upd_same] at q
     cases q
     exact ⟨by show 2 ≤ sizeLine; decide, [.int i s.toks, u], .cons ⟨_, rfl⟩ (.cons ru .nil), ⟨_, (hs2.2 _ neT).trans hT, rfl, _, rfl⟩⟩
    ·rw [upd_ne hb] at q
     refine (I.hok b v q).stay (fun c v' hc q' => ?_) (fun c q' => ?_) fun c xs q' => ?_
     ·rcases hc with z | z
      ·exact keep c v' (by rw [z]; exact ne1 b v q) (by rw [z]; exact ne2 b v q) q'
      ·exact keep c v' (ne1 c _ z) (ne2 c _ z) q'
     ·rw [upd_ne (nT _ _ q')]; exact q'
     ·rw [upd_ne (nT _ _ q')]; exact q'
   ·have f := hf b hb
    exact ⟨f.2.2.2.1, f.2.1, f.2.2.2.2.1, f.2.2.2.2.2⟩
  ·exact hit1.extBut hs2.extBut (Ne.symm hne)
  ·have f := hf b hb
   rw [upd_ne fun z => ?_]
   ·exact f.1
   ·have hb' : b = e ∨ b = it := by simpa using hb
    rcases hb' with rfl | rfl
    ·exact neT z.symm
    ·obtain ⟨o, ho, _⟩ := hit
     exact absurd (Heap.lt_size ho) (by rw [z]; exact Nat.lt_irrefl _)
 done := by
  intro X hP hw hK hc i pins s σ H E I hf st hg
  subst hP hw hK
  obtain ⟨⟨old, he⟩, hit⟩ := st
  obtain ⟨xs, hq, hx⟩ := hg
  obtain ⟨its, rv, p, hz⟩ := I.list hq
  obtain ⟨f0, f1, f2, f3, f4, f5⟩ := hf it (by simp)
  have hl := rv.length
  exact wpAny_pyNext_enum_end (I.ok.hd hc) he hit p.isList (by simp; omega) fun h' eb => ⟨rfl, I.turned (t' := s.toks) (fun b o hb e => eb b o hb e) f0 f1 f3 f4 f5⟩
 self := fun _ _ _ _ _ st h => by
  obtain ⟨⟨old, he⟩, _⟩ := st
  exact wpAny_pyIter_enum he h
section
variable {X : Cx}
def iEnum (K : PySem.W.Frag) (ta : TA) : TI := fun σ H R => ta σ H fun vs H1 => ∃ a xs, vs = [.ref a] ∧ SqL K H1 a xs ∧ R (Ite K a) H1
theorem bo_enumerate : bootBuiltins "enumerate" = some (.type "enumerate") := by decide +kernel
theorem pi_enum {elts : List Expr} {x1} {tpos : Pos} {a : Expr} {ta : TA} {p pos : Pos} (hg : Gl X "enumerate") (hm : X.mg "enumerate" = none) (ha : PA X [a] ta) (hs : starEach [a] X.env = [(false, eval a X.env)] := by rfl) :
  PI X (.Tuple elts x1 tpos) (.Call (.Name "enumerate" p) [a] [] pos) (iEnum X.K ta) := by
 intro pins s σ H R I h
 refine Call_ (ld_blt I hg hm bo_enumerate (PyProof.Rows.callWith_type1 (thn (ha pos pins s σ H _ I h) fun us s1 ⟨vs, H1, I1, r1, q1⟩ => ?_) hs rfl))
 obtain ⟨l, xs, e, hq, q⟩ := q1
 subst e
 cases r1 with
 | cons r rr =>
  cases rr
  cases r
  obtain ⟨its, rv, pl, hz⟩ := I1.list hq
  refine call_enumerate_list pl.isList fun h' hE hI hsz hk => ?_
  refine wpAny_pyIter_enum (s := { s1 with heap := h' }) hE ?_
  refine ⟨s1.heap.objs.size + 1, [s1.heap.objs.size + 1, s1.heap.objs.size], _, _, H1, rfl, I1.kept (t' := s1.toks) hk, turn_enum l s1.heap.objs.size (s1.heap.objs.size + 1) (Nat.succ_ne_self _), ⟨⟨_, hE⟩, hI⟩, fun b hb => ?_, q⟩
  have hb' : s1.heap.objs.size ≤ b := by
   have hb2 : b = s1.heap.objs.size + 1 ∨ b = s1.heap.objs.size := by simpa using hb
   rcases hb2 with rfl | rfl
   ·exact Nat.le_succ _
   ·exact Nat.le_refl _
  exact I1.fpOk hb' (I1.hok.fresh hb')
theorem for_enum {K : PySem.W.Frag} {a : Addr} {xs : List V} {g : TG} {tb : TS} {D : Ends} {σ : St} {H : Hp} (Pv : Nat → St → Hp → Prop) (h0 : Pv 0 σ H) (hl : ∀ i σ H, i ≤ xs.length → Pv i σ H → SqL K H a xs)
  (hs : ∀ i x T σ H, xs[i]? = some x → Pv i σ H → H T = none → g (.ref T) σ (upd H T (.tup [.int i, x])) fun σ2 H2 => tb { D with nx := Pv (i + 1), ct := Pv (i + 1), bk := D.nx } σ2 H2) (hd : ∀ σ H, Pv xs.length σ H → D.nx σ H) :
  ∃ W : Nat → Nat → St → Hp → Prop, (∃ m, W 0 m σ H) ∧ ∀ i m σ H, W i m σ H →
   ((Ite K a).stop i H ∧ D.nx σ H) ∨ ((Ite K a).go i H ∧ ∃ N : St → Hp → Prop, (∀ σ' H', N σ' H' → ∃ m', m' < m ∧ W (i + 1) m' σ' H') ∧ ∀ x H', (Ite K a).yld i H x H' → g x σ H' fun σ2 H2 => tb { D with nx := N, ct := N, bk := D.nx } σ2 H2) := by
 refine ⟨fun i m σ H => m = xs.length - i ∧ i ≤ xs.length ∧ Pv i σ H, ⟨xs.length, by simp, Nat.zero_le _, h0⟩, ?_⟩
 rintro i m σ H ⟨rfl, hi, p⟩
 have q := hl i σ H hi p
 by_cases hlt : i < xs.length
 ·refine .inr ⟨⟨xs, xs[i], q, by simp [hlt]⟩, Pv (i + 1), fun σ' H' p' => ⟨xs.length - (i + 1), by omega, rfl, hlt, p'⟩, fun x H' y => ?_⟩
  obtain ⟨T, v, e1, e2, y, e3⟩ := y
  subst e1 e3
  exact hs i v T σ H (y xs q) p e2
 ·have e : i = xs.length := by omega
  subst e
  exact .inl ⟨⟨xs, q, Nat.le_refl _⟩, hd σ H p⟩
end
structure CompScN (X : Cx) (scope : Scope) (cl : List (Str × Addr)) (xs : List Str) (fr : List (Str × Nat)) : Prop where
 clos : closureFor scope X.env = pure cl
 kind : scope.kind = .function
 nocell : ∀ y ∈ scope.names, y.2 ≠ .cell
 locs : ∀ y ∈ scope.names, y.2 = .local → scope.names.lookup y.1 = some .local
 nd : (xs ++ fr.map (·.1)).Nodup
 sub : AllL (fun p => X.env.cells.lookup p.1 = some p.2) cl
 has : ((relabel scope X.env).names.all fun p => !(p.2 == .cell || p.2 == .free) || (cl.lookup p.1).isSome) = true
 frs : AllL (FrAt X scope cl) fr
theorem CompScN.subL {X : Cx} {scope : Scope} {cl : List (Str × Addr)} {xs : List Str} {fr : List (Str × Nat)} (S : CompScN X scope cl xs fr) : ∀ y c, cl.lookup y = some c → X.env.cells.lookup y = some c :=
 fun y c e => S.sub.mem (y, c) (mem_of_lk e)
def tLCN (wi : TI) (xs : List Str) (fr : List (Str × Nat)) (g : TG) (tc : TT) (te : TE) : TE := fun σ H Q => wi σ H fun J H1 => ∃ W : Nat → Nat → List V → Hp → Prop, (∃ m, W 0 m [] H1) ∧ ∀ i m acc H, W i m acc H →
 (J.stop i H ∧ acc.length ≤ sizeLine ∧ ∀ p, H p = none → Q (.ref p) (upd H p (.lst acc))) ∨
 (J.go i H ∧ ∀ x H', J.yld i H x H' → ∀ ys : St, ys.length = xs.length → g x (ys ++ frv fr σ) H' fun σ2 H2 => (∃ zs : St, zs.length = xs.length ∧ σ2 = zs ++ frv fr σ) ∧ tc σ2 H2 fun b H3 => if b = true then te σ2 H3 fun v H4 => acc.length < sizeLine ∧ ∃ m', m' < m ∧ W (i + 1) m' (acc ++ [v]) H4
  else ∃ m', m' < m ∧ W (i + 1) m' acc H3)
section
variable {X : Cx} {xs : List Str} {pos : Pos} {iter elt tgt : Expr} {g : TG} {ifs : List Expr} {scope : Scope} {cl : List (Str × Addr)} {wi : TI} {tc : TT} {te : TE} {fr : List (Str × Nat)}
theorem compCxN_ok {pins : List (Addr × Obj)} {σ : St} {H : Hp} {s : Shared} {fp : List Addr} {C : Addr} (S : CompScN X scope cl xs fr) (I : Inv X pins σ H s) (hC : s.heap.objs.size ≤ C)
  (hf : ∀ b ∈ fp, FpOk X pins H b) (ho : ∀ b ∈ fp, ∃ o, s.heap.get? b = some o) : (compCx X (xs ++ fr.map (·.1)) scope cl C s H fp).Ok where
 mod := I.ok.mod
 kind := S.kind
 glob := I.ok.glob
 blt := I.ok.blt
 above := hC
 inj := fun y z c h1 h2 => I.ok.inj y z c (S.subL y c h1) (S.subL z c h2)
 has := fun y hy => by
  have all := List.all_eq_true.mp S.has
  have go : ∀ k, (k == NameKind.cell || k == NameKind.free) = true → (relabel scope X.env).names.lookup y = some k → ∃ c, cl.lookup y = some c := fun k hk e => by
   have q := all (y, k) (mem_of_lk e)
   have q' : (!(k == NameKind.cell || k == NameKind.free) || (cl.lookup y).isSome) = true := q
   rw [hk] at q'
   exact Option.isSome_iff_exists.mp (by simpa using q')
  rcases hy with hy | hy
  ·exact go .cell rfl hy
  ·exact go .free rfl hy
 cab := fun y c hfn _ => by cases hfn
 hd := I.ok.hd
 frames := I.ok.frames
 stk := .inl rfl
 exf := fun b hb => by
  obtain ⟨o, e⟩ := ho b hb
  exact ⟨Nat.ne_of_lt (Nat.lt_of_lt_of_le (Heap.lt_size e) hC), fun y c h => (hf b hb).2.2.2.2.1 y c (S.subL y c h)⟩
 bs := I.bs
 bsz := Nat.le_trans I.ok.bsz I.sz
 noex := fun b o e hb => by
  rcases (hf b hb).2.2.2.1 with z | z
  ·exact I.ok.noex b o e z
  ·exact absurd (Nat.lt_of_lt_of_le (Heap.lt_size e) (Nat.le_trans I.ok.bsz z)) (Nat.lt_irrefl _)
 exfs := fun b hb z => by
  rcases List.mem_cons.mp (I.stkSub b z) with e | e
  ·exact (hf b hb).2.1 e
  ·exact (hf b hb).2.2.1 e
 funs := I.stack
 frf := I.stkFree
theorem compCxN_inv {pins : List (Addr × Obj)} {σ : St} {H : Hp} {s s' : Shared} {fp : List Addr} {C D : Addr} {oD : Obj} {m : Str → Option Value} (S : CompScN X scope cl xs fr) (I : Inv X pins σ H s) (hC : s.heap.objs.size ≤ C)
  (hf : ∀ b ∈ fp, FpOk X pins H b) (ho : ∀ b ∈ fp, ∃ o, s.heap.get? b = some o) (os : s'.os = s.os) (bare : AllBare s'.gens) (old : ∀ b o, s.heap.get? b = some o → s'.heap.get? b = some o) (ns : s'.heap.Ns C m)
  (hD : s.heap.objs.size ≤ D) (hDC : D ≠ C) (eD : s'.heap.get? D = some oD) (dD : ∀ v, oD.data ≠ .cell v) :
  Inv (compCx X (xs ++ fr.map (·.1)) scope cl C s H fp) [(D, oD)] (List.replicate xs.length none ++ frv fr σ) H s' where
 ok := compCxN_ok S I hC hf ho
 os := os
 bare := bare
 base := Un.kept old
 loc := by
  refine ⟨m, ns, fun i y v h1 h2 _ => ?_⟩
  by_cases hi : i < xs.length
  ·rw [List.getElem?_append_left (by simp; exact hi), List.getElem?_replicate] at h2
   simp [hi] at h2
  ·have h1' : (fr.map (·.1))[i - xs.length]? = some y := by
    have q : (xs ++ fr.map (·.1))[i]? = some y := h1
    rw [List.getElem?_append_right (by omega)] at q
    exact q
   have h2' : (frv fr σ)[i - xs.length]? = some (some v) := by
    rw [List.getElem?_append_right (by simp; omega), List.length_replicate] at h2
    exact h2
   generalize i - xs.length = j at h1' h2'
   rw [List.getElem?_map] at h1'
   unfold frv at h2'
   rw [List.getElem?_map] at h2'
   cases e : fr[j]? with
   | none => rw [e] at h1'; cases h1'
   | some p =>
    rw [e] at h1' h2'
    have ey : p.1 = y := Option.some.inj h1'
    have ev : (σ[p.2]?).join = some v := Option.some.inj h2'
    have ev' : σ[p.2]? = some (some v) := by
     cases q : σ[p.2]? with
     | none => rw [q] at ev; cases ev
     | some w =>
      rw [q] at ev
      have : w = some v := ev
      rw [this]
    have F := S.frs.get e
    obtain ⟨c, c1, c2⟩ := F.cl
    obtain ⟨m', hn', hl'⟩ := I.loc
    have vis : Vis X.env.scope p.1 := by
     rcases F.kx with k | k
     ·exact .inr (.inl k)
     ·exact .inr (.inr k)
    obtain ⟨u, r, l⟩ := hl' p.2 p.1 v F.nm ev' vis
    rcases l with ⟨k, _⟩ | ⟨k, c', e', hc'⟩
    ·rcases F.kx with k' | k' <;> · rw [k] at k'; cases k'
    ·rw [c2] at e'
     cases e'
     subst ey
     refine ⟨u, r, .inr ⟨F.kc, c, c1, ?_⟩⟩
     obtain ⟨oc, hoc, hd⟩ := hc'
     exact ⟨oc, old _ _ hoc, hd⟩
 cell := fun y c e => by
  obtain ⟨v, oc, hoc, hd⟩ := I.cell y c (S.subL y c e)
  exact ⟨v, oc, old _ _ hoc, hd⟩
 free := I.hok.fresh hC
 freeC := fun y c e => I.freeC y c (S.subL y c e)
 pin := fun p hp => by
  have e : p = (D, oD) := by
   have : p ∈ ([] : List (Addr × Obj)) ++ [(D, oD)] := hp
   simpa using this
  subst e
  refine ⟨eD, I.hok.fresh hD, hDC, fun hb => ?_, dD⟩
  have hb' : D ∈ frs X.stack := hb
  have ok := compCxN_ok S I hC hf ho
  obtain ⟨_, o, q, _⟩ := ok.funs.mem hb
  exact absurd (Nat.lt_of_lt_of_le (Heap.lt_size q) hD) (Nat.lt_irrefl _)
 hok := I.hok.kept old
 len := by
  show (List.replicate xs.length none ++ frv fr σ).length = (xs ++ fr.map (·.1)).length
  simp [frv]
theorem comp_backN {pins : List (Addr × Obj)} {σ σ' : St} {H H' : Hp} {s s' : Shared} {fp : List Addr} {C D : Addr} {its : List Value} {n : Nat} {acc : List V} {h'' : Heap} (I : Inv X pins σ H s) (hC : s.heap.objs.size ≤ C) (hD : s.heap.objs.size ≤ D) (hDC : D ≠ C)
  (hf : ∀ b ∈ fp, FpOk X pins H b) (J : Inv (compCx X (xs ++ fr.map (·.1)) scope cl C s H fp) [(D, oL its n)] σ' H' s') (r : Vals acc its) (hz : acc.length ≤ sizeLine) (sb : Heap.SameBut C s'.heap h'') :
  Inv X pins σ (upd H' D (.lst acc)) { s' with heap := h'' } := by
 have pD := J.pin (D, oL its n) (List.mem_append_right _ List.mem_cons_self)
 have nC : ∀ b o, s.heap.get? b = some o → b ≠ C := fun b o e => Nat.ne_of_lt (Nat.lt_of_lt_of_le (Heap.lt_size e) hC)
 have nD : ∀ b o, s.heap.get? b = some o → b ≠ D := fun b o e => Nat.ne_of_lt (Nat.lt_of_lt_of_le (Heap.lt_size e) hD)
 have HC : H' C = none := J.free
 have HD : H D = none := I.hok.fresh hD
 refine I.call' (ch := fp) J.os ⟨fun b o e k hb hx => ?_, fun b o e k hb hx => ?_, fun b o e k hx => ?_, fun b o e hx => ?_, fun b xs e => ?_, fun b o u e => ?_, fun b ps e => ?_⟩ (fun b u e => ?_) J.bare fun b hb => ?_
 ·exact (sb.2 b (nC b o e)).trans (J.base.keep b o e k hb hx)
 ·obtain ⟨sl, q⟩ := J.base.slot b o e k hb hx
  exact ⟨sl, (sb.2 b (nC b o e)).trans q⟩
 ·rw [upd_ne (nD b o e)]
  exact J.base.free b o e k hx
 ·obtain ⟨o', q⟩ := J.base.there b o e hx
  exact ⟨o', (sb.2 b (nC b o e)).trans q⟩
 ·rw [upd_ne (ne_of_none e HD)]
  exact J.base.tups b xs e
 ·rw [upd_ne (ne_of_none e HD)]
  exact J.base.frzs b o u e
 ·rw [upd_ne (ne_of_none e HD)]
  exact J.base.tbls b ps e
 ·by_cases hb : b = D
  ·subst hb
   rw [upd_same] at e
   cases e
   exact ⟨hz, its, n, r, (sb.2 b hDC).trans pD.1⟩
  ·rw [upd_ne hb] at e
   refine (J.hok b u e).stay (fun c v hc q => (sb.2 c ?_).trans q) (fun c q => ?_) fun c xs q => ?_
   ·rcases hc with z | z
    ·rw [z]; exact ne_of_none e HC
    ·exact ne_of_none z HC
   ·rw [upd_ne (ne_of_none q pD.2.1)]; exact q
   ·rw [upd_ne (ne_of_none q pD.2.1)]; exact q
 ·exact ⟨(hf b hb).2.2.2.1, (hf b hb).2.1, (hf b hb).2.2.2.2.1, (hf b hb).2.2.2.2.2⟩
theorem pe_lcompN (hc : X.calm = true) (hi : PI X tgt iter wi) (S : CompScN X scope cl xs fr)
  (hgt : ∀ C s H fp, PG (compCx X (xs ++ fr.map (·.1)) scope cl C s H fp) tgt g)
  (ht : ∀ C s H fp, PTs (compCx X (xs ++ fr.map (·.1)) scope cl C s H fp) ifs tc) (he : ∀ C s H fp, PE (compCx X (xs ++ fr.map (·.1)) scope cl C s H fp) elt te)
  (hs : ∀ v, foldedSetIterable iter X.env v = pure v := by intro _; rfl) : PE X (.ListComp elt [⟨tgt, iter, ifs, 0⟩] scope pos) (tLCN wi xs fr g tc te) := by
 intro pins s σ H Q I h
 rw [eval_ListComp]
 refine wpAny_comprehension_free (use := none) (cl := cl) rfl hs S.clos S.kind S.locs (thn (hi pins s σ H _ I h) fun v s1 h1 => thn h1 fun itv s2 h2 => ?_)
 obtain ⟨it, fp, tn, J, H2, e, I2, T, st2, f2, W, ⟨m0, w0⟩, turn⟩ := h2
 subst e
 refine wpAny_newObj_type (wpAny_newFunctionEnv S.nocell (by intro y hy; simp at hy) (fun h₁ hns₁ hsb₁ => ?_) S.kind)
 dsimp only at hns₁ hsb₁ ⊢
 generalize hHp : s2.heap.push { cls := .type "list", dict := none, data := .seq ([] : List Value).toArray } = hp at hns₁ hsb₁ ⊢
 have eC : hp.objs.size = s2.heap.objs.size + 1 := by rw [← hHp, Heap.size_push]
 have hDC : s2.heap.objs.size ≠ hp.objs.size := by rw [eC]; exact Nat.ne_of_lt (Nat.lt_succ_self _)
 have hC : s2.heap.objs.size ≤ hp.objs.size := by rw [eC]; exact Nat.le_succ _
 have hD : s2.heap.objs.size ≤ s2.heap.objs.size := Nat.le_refl _
 have nC : ∀ b o, s2.heap.get? b = some o → b ≠ hp.objs.size := fun b o e => Nat.ne_of_lt (Nat.lt_of_lt_of_le (Heap.lt_size e) hC)
 have nD : ∀ b o, s2.heap.get? b = some o → b ≠ s2.heap.objs.size := fun b o e => Nat.ne_of_lt (Heap.lt_size e)
 have old : ∀ b o, s2.heap.get? b = some o → h₁.get? b = some o := fun b o e => hsb₁.extBut b o (nC b o e) (Heap.get?_push_of_some _ (hHp ▸ Heap.get?_push_of_some _ e))
 have eD : h₁.get? s2.heap.objs.size = some (oL [] 0) := hsb₁.extBut _ _ hDC (Heap.get?_push_of_some _ (hHp ▸ Heap.get?_push_size _ rfl))
 have ho : ∀ b ∈ fp, ∃ o, s2.heap.get? b = some o := fun b hb => by
  obtain ⟨o, e, _⟩ := T.obj 0 _ st2 b hb
  exact ⟨o, e⟩
 have J0 : Inv (compCx X (xs ++ fr.map (·.1)) scope cl hp.objs.size s2 H2 fp) [(s2.heap.objs.size, oL [] 0)] (List.replicate xs.length none ++ frv fr σ) H2 { s2 with heap := h₁, toks := s2.toks + ([] : List (Str × Value)).length } :=
  compCxN_inv S I2 hC f2 ho rfl I2.bare old hns₁ hD hDC eD (oL_nc [] 0)
 have fpne : ∀ b ∈ fp, b ≠ s2.heap.objs.size := fun b hb => by
  obtain ⟨o, e⟩ := ho b hb
  exact nD b o e
 have fpC : ∀ b ∈ fp, b ≠ hp.objs.size := fun b hb => by
  obtain ⟨o, e⟩ := ho b hb
  exact nC b o e
 have okX := J0.ok
 have stat : ∀ {H' : Hp} {oD : Obj}, (∀ b ∈ fp, H' b = none) → ∀ b ∈ fp, FpOk (compCx X (xs ++ fr.map (·.1)) scope cl hp.objs.size s2 H2 fp) [(s2.heap.objs.size, oD)] H' b := fun {H' oD} hn b hb =>
  ⟨hn b hb, fpC b hb, okX.exfs b hb, .inl hb, (okX.exf b hb).2, fun p hp' => by
   have e : p = (s2.heap.objs.size, oD) := by
    have : p ∈ ([] : List (Addr × Obj)) ++ [(s2.heap.objs.size, oD)] := hp'
    simpa using this
   rw [e]
   exact (fpne b hb).symm⟩
 have st1 : tn 0 h₁ := T.keep _ _ _ st2 fun b _ o e => old b o e
 have loop : ∀ s₃ : Shared, s₃ = { s2 with heap := h₁, toks := s2.toks + ([] : List (Str × Value)).length } →
   codeAny (model X.prog X.w) X.A (.compLoop (.ListComp elt [⟨tgt, iter, ifs, 0⟩] scope pos) 0 (.ref it) (.ref s2.heap.objs.size) (compEnvC scope cl hp.objs.size X.env))
    (compPost (model X.prog X.w) X.A X.xe none (EP X pins σ Q) (.ref s2.heap.objs.size) hp.objs.size) s₃ := by
  rintro s₃ rfl
  refine compLoop_any (fun n s' => ∃ i ys H' acc its k, ys.length = xs.length ∧ Inv (compCx X (xs ++ fr.map (·.1)) scope cl hp.objs.size s2 H2 fp) [(s2.heap.objs.size, oL its k)] (ys ++ frv fr σ) H' s' ∧ tn i s'.heap ∧ (∀ b ∈ fp, H' b = none) ∧ Vals acc its ∧ W i n acc H') ?_ m0
   ⟨0, List.replicate xs.length none, H2, [], [], 0, by simp, J0, st1, fun b hb => (f2 b hb).1, .nil, w0⟩
  rintro n s3 ⟨i, ys, H3, acc, its, k, hys, I3, st3, fr3, rv, w3⟩
  have noE : ∀ {α : Type} {t : Sem α} {Q' : α → Shared → Prop} {s' : Shared} {E' : Value → Shared → Prop}, wpAny (model X.prog X.w) X.A t Q' (fun _ _ => False) s' → wpAny (model X.prog X.w) X.A t Q' E' s' := fun {α t Q' s' E'} h => wpAny_mono h (fun _ _ q => q) fun _ _ z => z.elim
  rcases turn i n acc H3 w3 with ⟨stop, hz, qn⟩ | ⟨go, step⟩
  ·refine thn (T.done (compCx X (xs ++ fr.map (·.1)) scope cl hp.objs.size s2 H2 fp) rfl rfl rfl hc i _ s3 _ H3 _ I3 (stat fr3) st3 stop) fun r s4 ⟨hr, I4⟩ => ?_
   subst hr
   obtain ⟨m4, hn4, _⟩ := I4.loc
   have pD := I4.pin (s2.heap.objs.size, oL its k) (List.mem_append_right _ List.mem_cons_self)
   refine ⟨m4, hn4, fun h'' sb => ⟨.ref s2.heap.objs.size, _, comp_backN I2 hC hD hDC f2 I4 rv hz sb, rfl, qn _ pD.2.1⟩⟩
  ·refine thn (T.item (compCx X (xs ++ fr.map (·.1)) scope cl hp.objs.size s2 H2 fp) rfl rfl rfl hc i _ s3 _ H3 _ I3 (stat fr3) st3 go) fun r s4 ⟨u, hr, h4⟩ => ?_
   subst hr
   refine thn h4 fun _ s5 ⟨xv, H5, I5, r5, y5, st5, fr5⟩ => ?_
   have I5' := I5.pinned (stat fr5) (T.obj _ _ st5)
   refine noE (thn (hgt _ _ _ _ _ s5 _ H5 xv u _ I5' r5 (step xv H5 y5 ys hys)) fun _ s6 ⟨σ6, H6, I6', ⟨zs, hzs, e6⟩, q6⟩ => ?_)
   subst e6
   refine noE (thn (ht _ _ _ _ _ s6 _ H6 _ I6' q6) fun b s7 ⟨H7, I7, q7⟩ => ?_)
   have back : ∀ {σ8 : St} {H8 : Hp} {s8 : Shared}, Inv (compCx X (xs ++ fr.map (·.1)) scope cl hp.objs.size s2 H2 fp) ([(s2.heap.objs.size, oL its k)] ++ pinsAt fp s5.heap) σ8 H8 s8 → tn (i + 1) s8.heap ∧ ∀ b ∈ fp, H8 b = none := fun {σ8 H8 s8} I8 => by
    refine ⟨T.keep _ _ _ st5 fun b hb o e => (I8.pin (b, o) (List.mem_append_right _ (List.mem_append_right _ (mem_pinsAt hb e)))).1, fun b hb => ?_⟩
    obtain ⟨o, e, d⟩ := T.obj _ _ st5 b hb
    exact (I8.pin (b, o) (List.mem_append_right _ (List.mem_append_right _ (mem_pinsAt hb e)))).2.1
   cases b with
   | false =>
    rw [if_neg Bool.false_ne_true] at q7 ⊢
    obtain ⟨m', hm, w7⟩ := q7
    obtain ⟨t7, n7⟩ := back I7
    exact ⟨m', hm, i + 1, zs, H7, acc, its, k, hzs, I7.unpinned, t7, n7, rv, w7⟩
   | true =>
    rw [if_pos rfl] at q7 ⊢
    refine noE (thn (he _ _ _ _ _ s7 _ H7 _ I7 q7) fun u8 s8 ⟨v8, H8, I8, r8, hlt, m', hm, w8⟩ => ?_)
    obtain ⟨t8, n8⟩ := back I8
    have pD := I8.pin (s2.heap.objs.size, oL its k) (List.mem_append_right _ (List.mem_append_left _ List.mem_cons_self))
    have hl := rv.length
    refine wpAny_list_append_plain (items := its.toArray) ⟨k, pD.1⟩ (fun h9 ⟨k9, e9⟩ sb9 => ?_) (by rw [List.size_toArray]; omega)
    have e9' : h9.get? s2.heap.objs.size = some (oL (its ++ [u8]) k9) := by
     rw [e9]
     simp [oL]
    have I9 : Inv (compCx X (xs ++ fr.map (·.1)) scope cl hp.objs.size s2 H2 fp) [] (zs ++ frv fr σ) H8 { s8 with heap := h9, toks := s8.toks } :=
     (I8.pins_of (pins' := []) fun p z => absurd z (by simp)).turned (it := s2.heap.objs.size) (fun b o hb e => (sb9.2 b hb).trans e) pD.2.1 hDC (.inr hD) (fun y c e z => by
      obtain ⟨w', oc, hoc, hd⟩ := I8.cell y c e
      rw [z, pD.1] at hoc
      cases hoc
      exact oL_nc _ _ _ hd) fun p z => absurd (show p ∈ ([] : List (Addr × Obj)) ++ [] from z) (by simp)
    refine ⟨m', hm, i + 1, zs, H8, acc ++ [v8], its ++ [u8], k9, hzs, I9.pins_of fun p z => ?_, T.keep _ _ _ t8 fun b hb o e => (sb9.2 b (fpne b hb)).trans e, n8, rv.append (.cons r8 .nil), w8⟩
    have e : p = (s2.heap.objs.size, oL (its ++ [u8]) k9) := by simpa using z
    subst e
    exact ⟨e9', pD.2.1, pD.2.2.1, pD.2.2.2.1, oL_nc _ _⟩
 exact codeAny_compStart_list (loop _ rfl) (T.self _ 0 _ _ _ st1 (loop _ rfl))
end
end L2
namespace L2
open PySem PySem.Spec PyProof.Rows
theorem filter_take_succ {α β : Type} {xs : List α} {i : Nat} {x : α} (p : α → Bool) (f : α → β) (e : xs[i]? = some x) :
  ((xs.take (i + 1)).filter p).map f = ((xs.take i).filter p).map f ++ (if p x = true then [f x] else []) := by
 have hi : i < xs.length := by
  rcases Nat.lt_or_ge i xs.length with h | h
  ·exact h
  ·rw [List.getElem?_eq_none h] at e; cases e
 rw [List.take_succ, e, Option.toList_some, List.filter_append, List.map_append]
 by_cases h : p x = true
 ·rw [if_pos h, List.filter_cons_of_pos h, List.filter_nil]; rfl
 ·rw [if_neg h, List.filter_cons_of_neg h, List.filter_nil]; rfl
theorem lc_list {K : PySem.W.Frag} {a : Addr} {xs : List V} {fr : List (Str × Nat)} {tc : TT} {te : TE} {σ : St} {H : Hp} {Qp : Addr → List V → Hp → Prop} (p : V → Bool) (f : V → V) (hq : SqL K H a xs) (hn : xs.length ≤ sizeLine)
  (hc : ∀ x ∈ xs, ∀ Q' : Bool → Hp → Prop, Q' (p x) H → tc (some x :: frv fr σ) H Q')
  (hf : ∀ x ∈ xs, p x = true → ∀ Q' : VK, Q' (f x) H → te (some x :: frv fr σ) H Q') (hQ : ∀ q, H q = none → Qp q ((xs.filter p).map f) H) :
  ∃ W : Nat → Nat → List V → Hp → Prop, (∃ m, W 0 m [] H) ∧ ∀ i m acc H, W i m acc H →
   ((Itl K a).stop i H ∧ acc.length ≤ sizeLine ∧ ∀ p, H p = none → Qp p acc H) ∨
   ((Itl K a).go i H ∧ ∀ x H', (Itl K a).yld i H x H' → tc (some x :: frv fr σ) H' fun b H2 => if b = true then te (some x :: frv fr σ) H2 fun v H3 => acc.length < sizeLine ∧ ∃ m', m' < m ∧ W (i + 1) m' (acc ++ [v]) H3
    else ∃ m', m' < m ∧ W (i + 1) m' acc H2) := by
 refine ⟨fun i m acc H' => H' = H ∧ i ≤ xs.length ∧ m = xs.length - i ∧ acc = ((xs.take i).filter p).map f, ⟨xs.length, rfl, Nat.zero_le _, by simp, by simp⟩, ?_⟩
 rintro i m acc H' ⟨rfl, hi, rfl, rfl⟩
 have el : (((xs.take i).filter p).map f).length ≤ i := by
  rw [List.length_map]
  exact Nat.le_trans (List.length_filter_le _ _) (by rw [List.length_take]; omega)
 by_cases hlt : i < xs.length
 ·refine .inr ⟨⟨xs, xs[i], hq, by simp [hlt]⟩, fun x H1 y => ?_⟩
  obtain ⟨e, y⟩ := y
  subst e
  have ex := y xs hq
  have hx : x ∈ xs := List.mem_of_getElem? ex
  refine hc x hx _ ?_
  have es := filter_take_succ p f ex
  by_cases hp : p x = true
  ·rw [if_pos hp] at es ⊢
   exact hf x hx hp _ ⟨by omega, _, by omega, rfl, hlt, rfl, es.symm⟩
  ·rw [if_neg hp] at es ⊢
   exact ⟨_, by omega, rfl, hlt, rfl, by rw [es, List.append_nil]⟩
 ·have e : i = xs.length := by omega
  subst e
  refine .inl ⟨⟨xs, hq, Nat.le_refl _⟩, by omega, ?_⟩
  rw [List.take_length]
  exact hQ
theorem lc_listI {K : PySem.W.Frag} {a : Addr} {xs : List V} {fr : List (Str × Nat)} {te : TE} {σ : St} {H : Hp} {Qp : Addr → List V → Hp → Prop} (I : Nat → List V → Hp → Prop) (hn : xs.length ≤ sizeLine) (h0 : I 0 [] H) (hl : ∀ i acc H', I i acc H' → acc.length = i) (hs : ∀ i acc H', I i acc H' → SqL K H' a xs)
  (hf : ∀ i x acc H', xs[i]? = some x → I i acc H' → ∀ Q' : VK, (∀ v H2, I (i + 1) (acc ++ [v]) H2 → Q' v H2) → te (some x :: frv fr σ) H' Q') (hQ : ∀ acc H', I xs.length acc H' → ∀ p, H' p = none → Qp p acc H') :
  ∃ W : Nat → Nat → List V → Hp → Prop, (∃ m, W 0 m [] H) ∧ ∀ i m acc H, W i m acc H →
   ((Itl K a).stop i H ∧ acc.length ≤ sizeLine ∧ ∀ p, H p = none → Qp p acc H) ∨
   ((Itl K a).go i H ∧ ∀ x H', (Itl K a).yld i H x H' → tYes (some x :: frv fr σ) H' fun b H2 => if b = true then te (some x :: frv fr σ) H2 fun v H3 => acc.length < sizeLine ∧ ∃ m', m' < m ∧ W (i + 1) m' (acc ++ [v]) H3
    else ∃ m', m' < m ∧ W (i + 1) m' acc H2) := by
 refine ⟨fun i m acc H' => I i acc H' ∧ i ≤ xs.length ∧ m = xs.length - i, ⟨xs.length, h0, Nat.zero_le _, by simp⟩, ?_⟩
 rintro i m acc H' ⟨hI, hi, rfl⟩
 have el := hl i acc H' hI
 have hq := hs i acc H' hI
 by_cases hlt : i < xs.length
 ·refine .inr ⟨⟨xs, xs[i], hq, by simp [hlt]⟩, fun x H1 y => ?_⟩
  obtain ⟨e, y⟩ := y
  subst e
  have ex := y xs hq
  dsimp only [tYes]
  rw [if_pos rfl]
  exact hf i x acc _ ex hI _ fun v H2 q => ⟨by omega, xs.length - (i + 1), by omega, q, hlt, rfl⟩
 ·have e : i = xs.length := by omega
  subst e
  exact .inl ⟨⟨xs, hq, Nat.le_refl _⟩, by omega, hQ acc H' hI⟩
end L2
namespace L2
open PySem PySem.Spec PyProof.Rows
section
variable {X : Cx} {K : PySem.W.Frag} {a e : Expr} {ta : TE} {f : Str} {pos : Pos}
theorem ix_listK (h : X.K = K) : IxR X (rIxL K) := by subst h; exact ix_list
theorem ix_tupK (h : X.K = K) : IxR X (rIxT K) := by subst h; exact ix_tup
theorem pg_tupK {es : List Expr} {k : Nat} {t : TGs} {n : Nat} (h : X.K = K) (hc : X.calm = true) (hp : PGs X es t)
  (hn : (assignEach es X.env).length = n := by rfl) (hst : (assignEach es X.env).findIdx? (·.1) = none := by rfl) : PG X (.Tuple es k pos) (gTup K n t) := by subst h; exact pg_tup hc hp hn hst
theorem pe_fldK (h : X.K = K) (he : PE X e ta) (hb : attributeBase e f X.env (eval e X.env) = eval e X.env) : PE X (.Attribute e f pos) (tFld K ta f) := by subst h; exact pe_fld he hb
theorem op_in_seqK (h : X.K = K) : OpR X (compareOp .In) (rIn K false) := by subst h; exact op_in_seq
theorem op_notIn_seqK (h : X.K = K) : OpR X (compareOp .NotIn) (rIn K true) := by subst h; exact op_notIn_seq
theorem op_eqDK (h : X.K = K) (hu : X.A.units + 64 < cLine) : OpR X (compareOp .Eq) (rEqD K) := by subst h; exact op_eqD hu
theorem pi_enumK {elts : List Expr} {x1} {tpos : Pos} {ta : TA} {p : Pos} (h : X.K = K) (hg : Gl X "enumerate") (hm : X.mg "enumerate" = none) (ha : PA X [a] ta) (hs : starEach [a] X.env = [(false, eval a X.env)] := by rfl) :
  PI X (.Tuple elts x1 tpos) (.Call (.Name "enumerate" p) [a] [] pos) (iEnum K ta) := by subst h; exact pi_enum hg hm ha hs
theorem pi_listK {tg : Expr} (h : X.K = K) (hl : PE X e ta) : PI X tg e (iList K ta) := by subst h; exact pi_list hl
theorem ps_fldK {o value : Expr} {tv : TE} {pos' : Pos} (h : X.K = K) (ha : PE X o ta) (hv : PE X value tv) (hs : swapsWith value (some (.Attribute o f pos')) pos.line X.env = pure false) : PS X (.Assign [.Attribute o f pos'] value pos) (sFld K ta tv f) := by subst h; exact ps_fld ha hv hs
theorem sl_listK (h : X.K = K) : SlR X (rSlL K) := by subst h; exact sl_list
theorem call_isinstK (h : X.K = K) : CallR X (.builtin "isinstance") (fun xs H Q => ∃ x n t b, xs = [x, .ty n] ∧ TyOf K H x t ∧ PySem.W.kitOne K t (.type n) = some b ∧ Q (.bl b) H) := by subst h; exact call_isinst
theorem bo_str : bootBuiltins "str" = some (.type "str") := by decide +kernel
theorem call_len_seqK (h : X.K = K) : CallR X (.builtin "len") (fun xs H Q => ∃ p ys, xs = [.ref p] ∧ (SqL K H p ys ∨ SqT K H p ys) ∧ Q (.int ys.length) H) := by subst h; exact call_len_seq
end
end L2
namespace L2
open PySem PySem.Spec PyProof.Rows
def noStar : Expr → Bool
 | .Starred .. => false
 | _ => true
theorem star_ns {e : Expr} {es : List Expr} {env : Env} (h : noStar e = true) : starEach (e :: es) env = (false, eval e env) :: starEach es env := by
 cases e <;> first | rfl | cases h
theorem any_ns {pos : Pos} {env : Env} : ∀ {es : List Expr}, es.all noStar = true → (backTo pos (starEach es env)).any (·.1) = false
 | [], _ => rfl
 | e :: es, h => by
  rw [List.all_cons, Bool.and_eq_true] at h
  rw [star_ns h.1]
  show (false || (backTo pos (starEach es env)).any (·.1)) = false
  rw [any_ns h.2]
  rfl
section
variable {X : Cx} {x : Str} {ps : List Str} {k : Nat} {sp : Sp} {e : Expr} {es : List Expr} {t : TA} {te : TE} {p pos : Pos} {C : Addr} {r : List V → Hp → VK → Prop} {id T : String}
def cInt : Expr → Option Int
 | .Constant (.int i) _ _ => some i
 | _ => none
def cInts : List Expr → Option (List Int)
 | [] => some []
 | e :: es => (cInt e).bind fun i => (cInts es).map fun r => i :: r
def tInts (ns : List Int) : TA := fun _ H Q => Q (ns.map V.int) H
theorem pa_ints : ∀ {es : List Expr} {ns : List Int}, cInts es = some ns → PA X es (tInts ns)
 | [], ns, h => by
  cases h
  exact pa_nil
 | e :: es, ns, h => by
  rw [cInts] at h
  cases e1 : cInt e with
  | none => rw [e1] at h; cases h
  | some i =>
   cases e2 : cInts es with
   | none => rw [e1, e2] at h; cases h
   | some r =>
    rw [e1, e2] at h
    cases h
    have hr := pa_ints e2
    have : ∃ j p, e = .Constant (.int i) j p := by
     unfold cInt at e1
     split at e1
     ·cases e1; exact ⟨_, _, rfl⟩
     ·cases e1
    obtain ⟨j, p, rfl⟩ := this
    exact pa_cons pe_int hr (star_ns rfl)
theorem hu1 {k : Nat} {A : Around} (hr : Room k A) : A.units + 1 < cLine := by
 have h := hr.units
 omega
theorem pa_c (ha : PE X e te) (hr : PA X es t) (h : noStar e = true := by rfl) : PA X (e :: es) (tCons te t) := pa_cons ha hr (star_ns h)
theorem pe_gcallN (G : GF X.prog X.w X.K X.mg X.base x ps k sp) (hr : Room k X.A) (hg : Gl X x) (ha : PA X (e :: es) t) (hdb : (x == ("__debug__" : Str)) = false := by decide)
  (h : (e :: es).all noStar = true := by rfl) : PE X (.Call (.Name x p) (e :: es) [] pos) (tCall sp [] E0 t) :=
 pe_gcall G hr hg ha hdb (star_ns (Bool.and_eq_true_iff.mp h).1) (any_ns (Bool.and_eq_true_iff.mp h).2)
theorem pe_gmakeN (G : GC X.prog X.w X.K X.mg X.base x C ps k sp) (hr : Room (k + 1) X.A) (hg : Gl X x) (ha : PA X (e :: es) t) (hdb : (x == ("__debug__" : Str)) = false := by decide)
  (h : (e :: es).all noStar = true := by rfl) : PE X (.Call (.Name x p) (e :: es) [] pos) (tMake C sp [] E0 t) :=
 pe_gmake G hr hg ha hdb (star_ns (Bool.and_eq_true_iff.mp h).1) (any_ns (Bool.and_eq_true_iff.mp h).2)
theorem pe_callBN (hc : CallR X (.builtin id) r) (hg : Gl X x) (hm : X.mg x = none) (hv : bootBuiltins x = some (.builtin id)) (ha : PA X (e :: es) t) (hn : x ≠ "__name__" := by decide) (hdb : (x == ("__debug__" : Str)) = false := by decide)
  (h : (e :: es).all noStar = true := by rfl) : PE X (.Call (.Name x p) (e :: es) [] pos) (tCB r t) :=
 pe_callB hc hg hm hv ha hn hdb (star_ns (Bool.and_eq_true_iff.mp h).1) (any_ns (Bool.and_eq_true_iff.mp h).2)
theorem pe_callTyN (hc : CallR X (.type T) r) (hg : Gl X x) (hm : X.mg x = none) (hv : bootBuiltins x = some (.type T)) (ha : PA X (e :: es) t) (hn : x ≠ "__name__" := by decide) (hdb : (x == ("__debug__" : Str)) = false := by decide)
  (h : (e :: es).all noStar = true := by rfl) : PE X (.Call (.Name x p) (e :: es) [] pos) (tCB r t) :=
 pe_callTy hc hg hm hv ha hn hdb (star_ns (Bool.and_eq_true_iff.mp h).1) (any_ns (Bool.and_eq_true_iff.mp h).2)
end
end L2
namespace Sx
open PySem L2
section
variable {σ : St} {H : Hp} {Q : VK} {QT : Bool → Hp → Prop} {D : Ends} {K : PySem.W.Frag} {t : TS} {E : XK}
theorem cut (R : St → Hp → Prop) (h : t { D with nx := R } σ H) (k : ∀ σ' H', R σ' H' → D.nx σ' H') : tCut t D σ H := ⟨R, h, k⟩
theorem lc {wi : TI} {fr : List (Str × Nat)} {tc : TT} {te : TE} (h : wi σ H fun J H1 => ∃ W : Nat → Nat → List V → Hp → Prop, (∃ m, W 0 m [] H1) ∧ ∀ i m acc H, W i m acc H →
 (J.stop i H ∧ acc.length ≤ sizeLine ∧ ∀ p, H p = none → Q (.ref p) (upd H p (.lst acc))) ∨
 (J.go i H ∧ ∀ x H', J.yld i H x H' → tc (some x :: frv fr σ) H' fun b H2 => if b = true then te (some x :: frv fr σ) H2 fun v H3 => acc.length < sizeLine ∧ ∃ m', m' < m ∧ W (i + 1) m' (acc ++ [v]) H3
  else ∃ m', m' < m ∧ W (i + 1) m' acc H2)) : tLC wi fr tc te σ H Q := h
theorem lcN {wi : TI} {xs : List Str} {fr : List (Str × Nat)} {g : TG} {tc : TT} {te : TE} (h : wi σ H fun J H1 => ∃ W : Nat → Nat → List V → Hp → Prop, (∃ m, W 0 m [] H1) ∧ ∀ i m acc H, W i m acc H →
 (J.stop i H ∧ acc.length ≤ sizeLine ∧ ∀ p, H p = none → Q (.ref p) (upd H p (.lst acc))) ∨
 (J.go i H ∧ ∀ x H', J.yld i H x H' → ∀ ys : St, ys.length = xs.length → g x (ys ++ frv fr σ) H' fun σ2 H2 => (∃ zs : St, zs.length = xs.length ∧ σ2 = zs ++ frv fr σ) ∧ tc σ2 H2 fun b H3 => if b = true then te σ2 H3 fun v H4 => acc.length < sizeLine ∧ ∃ m', m' < m ∧ W (i + 1) m' (acc ++ [v]) H4
  else ∃ m', m' < m ∧ W (i + 1) m' acc H3)) : tLCN wi xs fr g tc te σ H Q := h
theorem iL {ta : TE} {R : It → Hp → Prop} (h : ta σ H fun x H1 => ∃ a, x = .ref a ∧ (∃ xs, SqL K H1 a xs) ∧ R (Itl K a) H1) : iList K ta σ H R := h
theorem iE {ta : TA} {R : It → Hp → Prop} (h : ta σ H fun vs H1 => ∃ a xs, vs = [.ref a] ∧ SqL K H1 a xs ∧ R (Ite K a) H1) : iEnum K ta σ H R := h
theorem iR1 {ta : TA} {R : It → Hp → Prop} (h : ta σ H fun vs H1 => ∃ j : Int, vs = [.int j] ∧ -(2 ^ 62) ≤ j ∧ j < 2 ^ 62 ∧ R (Itr 0 j.toNat) H1) : iRng1 ta σ H R := h
theorem for_ {wi : TI} {g : TG} {tb : TS} (h : wi σ H fun J H1 => ∃ W : Nat → Nat → St → Hp → Prop, (∃ m, W 0 m σ H1) ∧ ∀ i m σ H, W i m σ H →
 (J.stop i H ∧ D.nx σ H) ∨ (J.go i H ∧ ∃ N : St → Hp → Prop, (∀ σ' H', N σ' H' → ∃ m', m' < m ∧ W (i + 1) m' σ' H') ∧ ∀ x H', J.yld i H x H' → g x σ H' fun σ2 H2 => tb { D with nx := N, ct := N, bk := D.nx } σ2 H2)) : tFor wi g tb D σ H := h
theorem make {C : Addr} {sp : Sp} {dvs : List V} {ta : TA} (h : ta σ H fun vs H1 => ∀ x dx, H1 x = none → H1 dx = none → dx ≠ x → sp (.ref x :: (vs ++ dvs)) (upd (upd H1 dx (.own x)) x (.ins C dx [])) (fun v H2 => v = .non ∧ Q (.ref x) H2) E) : tMake C sp dvs E ta σ H Q := h
theorem dget {td ty : TE} (h : td σ H fun x H1 => ty σ H1 fun y H2 => ∃ a v, x = .ref a ∧ DGet H2 a y (some v) ∧ Q v H2) : tDGet td ty σ H Q := h
theorem dput {td ty tv : TE} (h : tv σ H fun v H1 => td σ H1 fun x H2 => ty σ H2 fun y H3 => ∃ a H4, x = .ref a ∧ DPut H3 a y v H4 ∧ D.nx σ H4) : sDPut td ty tv D σ H := h
theorem sfld {ta tv : TE} {f : Str} (h : tv σ H fun y H1 => ta σ H1 fun x H2 => ∃ a C dx fs, x = .ref a ∧ H2 a = some (.ins C dx fs) ∧ Cls K C ∧ NoAttr K C f ∧ fs.length < 1000 ∧ D.nx σ (upd H2 a (.ins C dx (putF f y fs)))) : sFld K ta tv f D σ H := h
theorem intsA {ns : List Int} {QA : List V → Hp → Prop} (h : QA (ns.map V.int) H) : tInts ns σ H QA := h
theorem sl {r : V → Option Int → Option Int → Hp → VK → Prop} {te : TE} {tl th : TO} (h : te σ H fun x H1 => tl σ H1 fun l H2 => th σ H2 fun u H3 => r x l u H3 Q) : tSl r te tl th σ H Q := h
theorem part {te : TE} {QO : Option Int → Hp → Prop} (h : te σ H fun x H1 => ∃ i, x = .int i ∧ QO (some i) H1) : tPart te σ H QO := h
theorem nopart {QO : Option Int → Hp → Prop} (h : QO none H) : tNoPart σ H QO := h
theorem isI {i : Int} {P : Int → Prop} (q : P i) : ∃ k, V.int i = .int k ∧ P k := ⟨i, rfl, q⟩
theorem cat {l b : Addr} {xs zs : List V} (h1 : H l = some (.lst xs)) (h2 : H b = some (.lst zs)) (hz : xs.length + zs.length ≤ sizeLine) (q : ∀ p, H p = none → Q (.ref p) (upd H p (.lst (xs ++ zs)))) : rCat (.ref l) (.ref b) H Q := ⟨l, b, xs, zs, rfl, rfl, h1, h2, hz, q⟩
theorem bm {T : String} {r : V → List V → Hp → VK → Prop} {to : TE} {a : TA} (h : to σ H fun x H1 => tyV K T x H1 ∧ a σ H1 fun xs H2 => r x xs H2 Q) : tBM K T r to a σ H Q := h
theorem iteNT {A B : Prop} (h : B) : if (!true) = true then A else B := h
theorem iteNF {A B : Prop} (h : A) : if (!false) = true then A else B := h
theorem nonAnd {P : Prop} (q : P) : V.non = V.non ∧ P := ⟨rfl, q⟩
end
end Sx
namespace L2
open PySem PySem.Spec PyProof.Rows
section
variable {X : Cx} {x : Str} {px pos : Pos} {iter elt : Expr} {ifs : List Expr} {scope : Scope} {cl : List (Str × Addr)} {wi : TI} {tc : TT} {te : TE} {fr : List (Str × Nat)}
theorem ps_setLC {i : Nat} {yn : Str} {py spos : Pos} (hN : X.N.Nodup) (hiy : X.N[i]? = some yn) (hy : Loc X.env.scope yn) (hsw : swapsWith (.ListComp elt [⟨.Name x px, iter, ifs, 0⟩] scope pos) (some (.Name yn py)) spos.line X.env = pure true) (hc : X.calm = true) (hi : PI X (.Name x px) iter wi) (S : CompSc X scope cl x fr)
  (ht : ∀ C s H fp, PTs (compCx X (x :: fr.map (·.1)) scope cl C s H fp) ifs tc) (he : ∀ C s H fp, PE (compCx X (x :: fr.map (·.1)) scope cl C s H fp) elt te)
  (hs : ∀ v, foldedSetIterable iter X.env v = pure v := by intro _; rfl) (hf : X.fn yn = true ∨ X.env.scope.names.lookup yn = some .local := by first | exact .inl rfl | exact .inr rfl | assumption) :
  PS X (.Assign [.Name yn py] (.ListComp elt [⟨.Name x px, iter, ifs, 0⟩] scope pos) spos) (tAsg (tLC wi fr tc te) (gName i)) := by
 intro pins s σ H D I h
 rw [exec_Assign_Name_used _ _ _ _ hsw]
 refine wpAny_bind (wpAny_standAt (wpAny_bind ?_))
 show wpAny _ X.A (do let _ ← comprehension (.ListComp elt [⟨.Name x px, iter, ifs, 0⟩] scope pos) scope X.env _ (newList []) false (eval iter X.env) (some (assign (.Name yn py) X.env))) _ _ s
 refine wpAny_bind (wpAny_mono (wpAny_comprehension_free (use := some (assign (.Name yn py) X.env)) (Q := fun _ s' => SP X pins D .next s') (cl := cl) rfl hs S.clos S.kind S.locs (thn (hi pins s σ H _ I h) fun v s1 h1 => thn h1 fun itv s2 h2 => ?_)) (fun _ s' hq => wpAny_pure (wpAny_pure hq)) fun _ _ e => e)
 obtain ⟨it, fp, tn, J, H2, e, I2, T, st2, f2, W, ⟨m0, w0⟩, turn⟩ := h2
 subst e
 refine wpAny_newObj_type (wpAny_newFunctionEnv S.nocell (by intro y hy; simp at hy) (fun h₁ hns₁ hsb₁ => ?_) S.kind)
 dsimp only at hns₁ hsb₁ ⊢
 generalize hHp : s2.heap.push { cls := .type "list", dict := none, data := .seq ([] : List Value).toArray } = hp at hns₁ hsb₁ ⊢
 have eC : hp.objs.size = s2.heap.objs.size + 1 := by rw [← hHp, Heap.size_push]
 have hDC : s2.heap.objs.size ≠ hp.objs.size := by rw [eC]; exact Nat.ne_of_lt (Nat.lt_succ_self _)
 have hC : s2.heap.objs.size ≤ hp.objs.size := by rw [eC]; exact Nat.le_succ _
 have hD : s2.heap.objs.size ≤ s2.heap.objs.size := Nat.le_refl _
 have nC : ∀ b o, s2.heap.get? b = some o → b ≠ hp.objs.size := fun b o e => Nat.ne_of_lt (Nat.lt_of_lt_of_le (Heap.lt_size e) hC)
 have nD : ∀ b o, s2.heap.get? b = some o → b ≠ s2.heap.objs.size := fun b o e => Nat.ne_of_lt (Heap.lt_size e)
 have old : ∀ b o, s2.heap.get? b = some o → h₁.get? b = some o := fun b o e => hsb₁.extBut b o (nC b o e) (Heap.get?_push_of_some _ (hHp ▸ Heap.get?_push_of_some _ e))
 have eD : h₁.get? s2.heap.objs.size = some (oL [] 0) := hsb₁.extBut _ _ hDC (Heap.get?_push_of_some _ (hHp ▸ Heap.get?_push_size _ rfl))
 have ho : ∀ b ∈ fp, ∃ o, s2.heap.get? b = some o := fun b hb => by
  obtain ⟨o, e, _⟩ := T.obj 0 _ st2 b hb
  exact ⟨o, e⟩
 have J0 : Inv (compCx X (x :: fr.map (·.1)) scope cl hp.objs.size s2 H2 fp) [(s2.heap.objs.size, oL [] 0)] (none :: frv fr σ) H2 { s2 with heap := h₁, toks := s2.toks + ([] : List (Str × Value)).length } :=
  compCx_inv S I2 hC f2 ho rfl I2.bare old hns₁ hD hDC eD (oL_nc [] 0)
 have fpne : ∀ b ∈ fp, b ≠ s2.heap.objs.size := fun b hb => by
  obtain ⟨o, e⟩ := ho b hb
  exact nD b o e
 have fpC : ∀ b ∈ fp, b ≠ hp.objs.size := fun b hb => by
  obtain ⟨o, e⟩ := ho b hb
  exact nC b o e
 have okX := J0.ok
 have stat : ∀ {H' : Hp} {oD : Obj}, (∀ b ∈ fp, H' b = none) → ∀ b ∈ fp, FpOk (compCx X (x :: fr.map (·.1)) scope cl hp.objs.size s2 H2 fp) [(s2.heap.objs.size, oD)] H' b := fun {H' oD} hn b hb =>
  ⟨hn b hb, fpC b hb, okX.exfs b hb, .inl hb, (okX.exf b hb).2, fun p hp' => by
   have e : p = (s2.heap.objs.size, oD) := by
    have : p ∈ ([] : List (Addr × Obj)) ++ [(s2.heap.objs.size, oD)] := hp'
    simpa using this
   rw [e]
   exact (fpne b hb).symm⟩
 have st1 : tn 0 h₁ := T.keep _ _ _ st2 fun b _ o e => old b o e
 have loop : ∀ s₃ : Shared, s₃ = { s2 with heap := h₁, toks := s2.toks + ([] : List (Str × Value)).length } →
   codeAny (model X.prog X.w) X.A (.compLoop (.ListComp elt [⟨.Name x px, iter, ifs, 0⟩] scope pos) 0 (.ref it) (.ref s2.heap.objs.size) (compEnvC scope cl hp.objs.size X.env))
    (compPost (model X.prog X.w) X.A X.xe (some (assign (.Name yn py) X.env)) (fun _ s' => SP X pins D .next s') (.ref s2.heap.objs.size) hp.objs.size) s₃ := by
  rintro s₃ rfl
  refine compLoop_any (fun n s' => ∃ i y H' acc its k, Inv (compCx X (x :: fr.map (·.1)) scope cl hp.objs.size s2 H2 fp) [(s2.heap.objs.size, oL its k)] (y :: frv fr σ) H' s' ∧ tn i s'.heap ∧ (∀ b ∈ fp, H' b = none) ∧ Vals acc its ∧ W i n acc H') ?_ m0
   ⟨0, none, H2, [], [], 0, J0, st1, fun b hb => (f2 b hb).1, .nil, w0⟩
  rintro n s3 ⟨i, y, H3, acc, its, k, I3, st3, fr3, rv, w3⟩
  have noE : ∀ {α : Type} {t : Sem α} {Q' : α → Shared → Prop} {s' : Shared} {E' : Value → Shared → Prop}, wpAny (model X.prog X.w) X.A t Q' (fun _ _ => False) s' → wpAny (model X.prog X.w) X.A t Q' E' s' := fun {α t Q' s' E'} h => wpAny_mono h (fun _ _ q => q) fun _ _ z => z.elim
  rcases turn i n acc H3 w3 with ⟨stop, hz, qn⟩ | ⟨go, step⟩
  ·refine thn (T.done (compCx X (x :: fr.map (·.1)) scope cl hp.objs.size s2 H2 fp) rfl rfl rfl hc i _ s3 _ H3 _ I3 (stat fr3) st3 stop) fun r s4 ⟨hr, I4⟩ => ?_
   subst hr
   obtain ⟨m4, hn4, _⟩ := I4.loc
   have pD := I4.pin (s2.heap.objs.size, oL its k) (List.mem_append_right _ List.mem_cons_self)
   have I5 : Inv X pins σ (upd H3 s2.heap.objs.size (.lst acc)) s4 := comp_back I2 hC hD hDC f2 I4 rv hz ⟨rfl, fun _ _ => rfl⟩
   have nCl : hp.objs.size ≠ X.env.locals := fun z => absurd (Nat.lt_of_lt_of_le I2.lt hC) (by rw [z]; exact Nat.lt_irrefl _)
   have nCc : ∀ z c, X.env.cells.lookup z = some c → c ≠ hp.objs.size := fun z c e q => by
    obtain ⟨w', oc, hoc, _⟩ := I2.cell z c e
    exact nC c oc hoc q
   have HC : (upd H3 s2.heap.objs.size (.lst acc)) hp.objs.size = none := by rw [upd_ne hDC.symm]; exact I4.free
   show wpAny _ X.A (assign (.Name yn py) X.env (.ref s2.heap.objs.size)) _ _ s4
   refine wpAny_assign_Name (store_ok2 (v := .ref s2.heap.objs.size) I5 hN hiy hy rfl (fun s6 I6 hsb => ?_) hf)
   obtain ⟨ad, sb, hb⟩ := hsb
   have nCa : hp.objs.size ≠ ad := by
    rcases hb with e | e
    ·rw [e]; exact nCl
    ·exact fun q => nCc yn ad e q.symm
   refine ⟨m4, hn4.sameBut sb nCa, fun h'' sb2 => ⟨_, _, I6.turned (it := hp.objs.size) (t' := s6.toks) (fun b o hb' e => (sb2.2 b hb').trans e) HC nCl (.inr (Nat.le_trans I2.sz hC)) nCc fun p hp' z => ?_, qn _ pD.2.1⟩⟩
   exact nC p.1 p.2 (I2.pin p hp').1 z
  ·refine thn (T.item (compCx X (x :: fr.map (·.1)) scope cl hp.objs.size s2 H2 fp) rfl rfl rfl hc i _ s3 _ H3 _ I3 (stat fr3) st3 go) fun r s4 ⟨u, hr, h4⟩ => ?_
   subst hr
   refine thn h4 fun _ s5 ⟨xv, H5, I5, r5, y5, st5, fr5⟩ => ?_
   have I5' := I5.pinned (stat fr5) (T.obj _ _ st5)
   have hx' : (relabel scope X.env).names.lookup x = some .local := lookup_relabel_local S.here
   refine wpAny_assign_Name (store_ok (i := 0) I5' S.nd rfl (.inl hx') r5 (fun s6 I6 => ?_) (.inr hx'))
   have I6' : Inv (compCx X (x :: fr.map (·.1)) scope cl hp.objs.size s2 H2 fp) ([(s2.heap.objs.size, oL its k)] ++ pinsAt fp s5.heap) (some xv :: frv fr σ) H5 s6 := I6
   refine noE (thn (ht _ _ _ _ _ s6 _ H5 _ I6' (step xv H5 y5)) fun b s7 ⟨H7, I7, q7⟩ => ?_)
   have back : ∀ {σ8 : St} {H8 : Hp} {s8 : Shared}, Inv (compCx X (x :: fr.map (·.1)) scope cl hp.objs.size s2 H2 fp) ([(s2.heap.objs.size, oL its k)] ++ pinsAt fp s5.heap) σ8 H8 s8 → tn (i + 1) s8.heap ∧ ∀ b ∈ fp, H8 b = none := fun {σ8 H8 s8} I8 => by
    refine ⟨T.keep _ _ _ st5 fun b hb o e => (I8.pin (b, o) (List.mem_append_right _ (List.mem_append_right _ (mem_pinsAt hb e)))).1, fun b hb => ?_⟩
    obtain ⟨o, e, d⟩ := T.obj _ _ st5 b hb
    exact (I8.pin (b, o) (List.mem_append_right _ (List.mem_append_right _ (mem_pinsAt hb e)))).2.1
   cases b with
   | false =>
    rw [if_neg Bool.false_ne_true] at q7 ⊢
    obtain ⟨m', hm, w7⟩ := q7
    obtain ⟨t7, n7⟩ := back I7
    exact ⟨m', hm, i + 1, _, H7, acc, its, k, I7.unpinned, t7, n7, rv, w7⟩
   | true =>
    rw [if_pos rfl] at q7 ⊢
    refine noE (thn (he _ _ _ _ _ s7 _ H7 _ I7 q7) fun u8 s8 ⟨v8, H8, I8, r8, hlt, m', hm, w8⟩ => ?_)
    obtain ⟨t8, n8⟩ := back I8
    have pD := I8.pin (s2.heap.objs.size, oL its k) (List.mem_append_right _ (List.mem_append_left _ List.mem_cons_self))
    have hl := rv.length
    refine wpAny_list_append_plain (items := its.toArray) ⟨k, pD.1⟩ (fun h9 ⟨k9, e9⟩ sb9 => ?_) (by rw [List.size_toArray]; omega)
    have e9' : h9.get? s2.heap.objs.size = some (oL (its ++ [u8]) k9) := by
     rw [e9]
     simp [oL]
    have I9 : Inv (compCx X (x :: fr.map (·.1)) scope cl hp.objs.size s2 H2 fp) [] (some xv :: frv fr σ) H8 { s8 with heap := h9, toks := s8.toks } :=
     (I8.pins_of (pins' := []) fun p z => absurd z (by simp)).turned (it := s2.heap.objs.size) (fun b o hb e => (sb9.2 b hb).trans e) pD.2.1 hDC (.inr hD) (fun y c e z => by
      obtain ⟨w', oc, hoc, hd⟩ := I8.cell y c e
      rw [z, pD.1] at hoc
      cases hoc
      exact oL_nc _ _ _ hd) fun p z => absurd (show p ∈ ([] : List (Addr × Obj)) ++ [] from z) (by simp)
    refine ⟨m', hm, i + 1, _, H8, acc ++ [v8], its ++ [u8], k9, I9.pins_of fun p z => ?_, T.keep _ _ _ t8 fun b hb o e => (sb9.2 b (fpne b hb)).trans e, n8, rv.append (.cons r8 .nil), w8⟩
    have e : p = (s2.heap.objs.size, oL (its ++ [u8]) k9) := by simpa using z
    subst e
    exact ⟨e9', pD.2.1, pD.2.2.1, pD.2.2.2.1, oL_nc _ _⟩
 exact codeAny_compStart_list (loop _ rfl) (T.self _ 0 _ _ _ st1 (loop _ rfl))
end
end L2
namespace L2
open PySem PySem.Spec PyProof.Rows
def StrG (mg : Str → Option Value) (x : Str) (n : Str) : Prop := ∃ t, mg x = some (.str n t)
section
variable {K : PySem.W.Frag} {mg : Str → Option Value} {x : Str}
theorem str_mk {h : Heap} {n : Str} {t : Tok} (X : K.In h) (G : h.Ns mainGlobals mg) (a : PySem.W.nsIn K mainGlobals x = some (some (.str n t))) : StrG mg x n := ⟨t, PySem.W.mg_of X G a⟩
end
section
variable {X : Cx} {x : Str} {pos : Pos}
theorem pe_gstr {n : Str} (hg : Gl X x) (h : StrG X.mg x n) (hd : (x == ("__debug__" : Str)) = false := by decide) : PE X (.Name x pos) (tC (.str n)) := by
 obtain ⟨t, e⟩ := h
 exact pe_glob hg e ⟨t, rfl⟩ hd
end
theorem putF_add {f : Str} {v : V} : ∀ {fs : List (Str × V)}, f ∉ fs.map (·.1) → putF f v fs = fs ++ [(f, v)]
 | [], _ => rfl
 | (g, w) :: r, h => by
  rw [putF_miss (fun e => h (by rw [e]; exact List.mem_cons_self)), putF_add (fun z => h (List.mem_cons_of_mem _ z))]
  rfl
end L2
namespace Sx
open PySem L2
section
variable {K : PySem.W.Frag} {H : Hp} {Q : VK} {l : Addr}
theorem tyL {xs : List V} (h : H l = some (.lst xs)) : tyV K "list" (.ref l) H := .inl ⟨rfl, _, SqL.of h⟩
end
end Sx
namespace L2
open PySem
end L2
namespace L2
open PySem PySem.Spec PyProof.Rows
end L2
namespace L2
open PySem
theorem cutFrom (xs : List V) (k : Nat) : cutV xs (some (k : Int)) none = xs.drop k := by
 unfold cutV
 rw [HT.sIx_nat, HT.sIx_none]
 rcases Nat.le_total k xs.length with h | h
 ·rw [Nat.min_eq_left h]
  exact List.take_of_length_le (by simp)
 ·rw [Nat.min_eq_right h, List.drop_length, List.drop_eq_nil_of_le h]
  simp
theorem cutMid (xs : List V) (a b : Nat) : cutV xs (some (a : Int)) (some (b : Int)) = (xs.drop a).take (b - a) := by
 unfold cutV
 rw [HT.sIx_nat, HT.sIx_nat]
 rcases Nat.le_total a xs.length with h | h
 ·rw [Nat.min_eq_left h]
  rcases Nat.le_total b xs.length with g | g
  ·rw [Nat.min_eq_left g]
  ·rw [Nat.min_eq_right g, List.take_of_length_le (by simp), List.take_of_length_le (by simp; omega)]
 ·rw [Nat.min_eq_right h, List.drop_length, List.drop_eq_nil_of_le h]
  simp
end L2
namespace L2
open PySem PySem.Spec PyProof.Rows
section
variable {X : Cx} {K : PySem.W.Frag}
end
section
variable {X : Cx} {K : PySem.W.Frag}
end
end L2
namespace Sx
open PySem L2
section
variable {K : PySem.W.Frag} {H : Hp} {Q : VK} {l : Addr}
end
end Sx
namespace L2
open PySem PySem.Spec PyProof.Rows
theorem Same.newH {H : Hp} {l : Addr} {o : HO} (n : H l = none) : Same H (upd H l o) := fun b u e => by rw [upd_ne (ne_of_none e n)]; exact e
def rLenOf (K : PySem.W.Frag) : List V → Hp → VK → Prop := fun xs H Q => ∃ p ys, xs = [.ref p] ∧ (SqL K H p ys ∨ SqT K H p ys) ∧ Q (.int ys.length) H
def rIsT (K : PySem.W.Frag) : List V → Hp → VK → Prop := fun xs H Q => ∃ x n t b, xs = [x, .ty n] ∧ TyOf K H x t ∧ PySem.W.kitOne K t (.type n) = some b ∧ Q (.bl b) H
def rInt1 : List V → Hp → VK → Prop := fun xs H Q => (∃ i, xs = [.int i] ∧ Q (.int i) H) ∨ ∃ k, xs = [.bl k] ∧ Q (.int (if k then 1 else 0)) H
def rMin2 : List V → Hp → VK → Prop := fun xs H Q => ∃ i j, xs = [.int i, .int j] ∧ Q (.int (if j < i then j else i)) H
section
variable {X : Cx} {K : PySem.W.Frag}
theorem call_len_seqN (h : X.K = K) : CallR X (.builtin "len") (rLenOf K) := call_len_seqK h
theorem call_isinstN (h : X.K = K) : CallR X (.builtin "isinstance") (rIsT K) := call_isinstK h
theorem call_int1N : CallR X (.type "int") rInt1 := call_int1
theorem call_min2N (hc : X.calm = true) : CallR X (.builtin "min") rMin2 := call_min2 hc
theorem bo_min : bootBuiltins "min" = some (.builtin "min") := by decide +kernel
end
end L2
namespace Sx
open PySem L2
section
variable {K : PySem.W.Frag} {σ : St} {H : Hp} {Q : VK} {l : Addr} {a : TA} {xs ys : List V}
def NewT (xs : List V) (H : Hp) (Q : VK) : Prop := xs.length ≤ sizeLine ∧ ∀ p, H p = none → Q (.ref p) (upd H p (.tup xs))
def NewL (xs : List V) (H : Hp) (Q : VK) : Prop := xs.length ≤ sizeLine ∧ ∀ p, H p = none → Q (.ref p) (upd H p (.lst xs))
theorem tupN (h : a σ H fun xs H1 => NewT xs H1 Q) : tTup a σ H Q := h
theorem lstN (h : a σ H fun xs H1 => NewL xs H1 Q) : tLst a σ H Q := h
theorem newT (hz : xs.length ≤ sizeLine) (k : ∀ p H', H p = none → H' p = some (.tup xs) → Same H H' → Q (.ref p) H') : NewT xs H Q := ⟨hz, fun p n => k p _ n upd_same (Same.newH n)⟩
theorem newL (hz : xs.length ≤ sizeLine) (k : ∀ p H', H p = none → H' p = some (.lst xs) → Same H H' → Q (.ref p) H') : NewL xs H Q := ⟨hz, fun p n => k p _ n upd_same (Same.newH n)⟩
theorem isT {x : V} {n : String} {t : Value} {b : Bool} (ty : TyOf K H x t) (e : PySem.W.kitOne K t (.type n) = some b) (k : Q (.bl b) H) : rIsT K [x, .ty n] H Q := ⟨x, n, t, b, rfl, ty, e, k⟩
theorem intB {b : Bool} (k : Q (.int (if b then 1 else 0)) H) : rInt1 [.bl b] H Q := .inr ⟨b, rfl, k⟩
theorem catN {b : Addr} (h1 : H l = some (.lst xs)) (h2 : H b = some (.lst ys)) (hz : xs.length + ys.length ≤ 16777216) (k : ∀ p H', H p = none → H' p = some (.lst (xs ++ ys)) → Same H H' → Q (.ref p) H') : rCat (.ref l) (.ref b) H Q := Sx.cat h1 h2 (by rw [sizeLine_eq]; exact hz) fun p n => k p _ n upd_same (Same.newH n)
theorem slN {lo hi : Option Int} (h : SqL K H l xs) (k : ∀ p H', H p = none → H' p = some (.lst (cutV xs lo hi)) → Same H H' → Q (.ref p) H') : rSlL K (.ref l) lo hi H Q := ⟨l, xs, rfl, h, fun p n => k p _ n upd_same (Same.newH n)⟩
end
end Sx
namespace L2
end L2
namespace L2
open PySem PySem.Spec PyProof.Rows
end L2
namespace L2
open PySem PySem.Spec PyProof.Rows
section
variable {X : Cx} {K : PySem.W.Frag}
end
end L2
namespace Sx
open PySem L2 PyProof.Rows
section
variable {K : PySem.W.Frag} {H : Hp} {Q : VK} {l b : Addr} {xs ys : List V}
end
end Sx
namespace L2
open PySem PySem.Spec PyProof.Rows
end L2
namespace L2
open PySem PySem.Spec PyProof.Rows
end L2
namespace L2
open PySem PySem.Spec PyProof.Rows
def rNotInD : R2 := fun x y H Q => ∃ a o, y = .ref a ∧ DGet H a x o ∧ Q (.bl (!o.isSome)) H
def rLenDK : List V → Hp → VK → Prop := fun xs H Q => ∃ a kvs, xs = [.ref a] ∧ H a = some (.dK kvs) ∧ Q (.int (kvs.length : Nat)) H
section
variable {X : Cx}
theorem op_notInD (hu : X.A.units + 1 < cLine) : OpR X (compareOp .NotIn) rNotInD := by
 intro pins s σ H x y v u Q I rx ry h
 obtain ⟨a, o, rfl, g, q⟩ := h
 cases ry
 exact d_notIn hu I g rx fun s3 I3 => ⟨.bl (!o.isSome), H, I3, rfl, q⟩
theorem call_lenDK : CallR X (.builtin "len") rLenDK := by
 intro pins s σ H xs us Q I r h
 obtain ⟨a, kvs, rfl, e, q⟩ := h
 obtain ⟨u, rfl, rx⟩ := vals1 r
 cases rx
 exact d_len I (.inl e) fun t s3 I3 => ⟨.int _, H, I3, ⟨_, rfl⟩, q⟩
end
end L2
namespace L2
open PySem PySem.Spec PyProof.Rows
section
variable {X : Cx} {xs : List Str} {pos : Pos} {iter elt tgt : Expr} {g : TG} {ifs : List Expr} {scope : Scope} {cl : List (Str × Addr)} {wi : TI} {tc : TT} {te : TE} {fr : List (Str × Nat)}
end
end L2
namespace L2
open PySem PySem.Spec PyProof.Rows
theorem vals_all {y : V} : ∀ {xs : List V} {us : List Value}, Vals xs us → xs.all flatV = true → ∀ (i : Nat) u, us[i]? = some u → ∃ v, xs[i]? = some v ∧ eqU y u = eqV v y
 | _, _, .nil, _, i, u, h => by simp at h
 | v :: xs, u' :: us, .cons r t, f, 0, u, h => by
  rw [List.all_cons, Bool.and_eq_true] at f
  cases h
  exact ⟨v, rfl, eqU_of r f.1⟩
 | v :: xs, u' :: us, .cons r t, f, i + 1, u, h => by
  rw [List.all_cons, Bool.and_eq_true] at f
  exact vals_all t f.2 i u h
section
variable {X : Cx}
end
end L2
namespace L2
open PySem PySem.Spec PyProof.Rows
def TupK (K : PySem.W.Frag) (a : Addr) (xs : List V) : Prop :=
 ∃ (o : Obj) (its : Array Value) (n : Nat), K.lookup a = some o ∧ o.cls = .type "tuple" ∧ o.dict = none ∧ o.data = .seq its n ∧ its.size ≤ sizeLine ∧ Vals xs its.toList
def TupG (K : PySem.W.Frag) (mg : Str → Option Value) (x : Str) (xs : List V) : Prop := ∃ a, mg x = some (.ref a) ∧ TupK K a xs
section
variable {K : PySem.W.Frag} {mg : Str → Option Value} {x : Str} {a : Addr} {xs : List V} {H : Hp}
theorem TupK.sq (h : TupK K a xs) : SqT K H a xs := by
 obtain ⟨o, its, n, h1, h2, _, h3, h4, h5⟩ := h
 exact .inr ⟨o, its, n, h1, h2, h3, h4, h5⟩
theorem tup_mk {h : Heap} {its : Array Value} {n : Nat} {osl : Array (Option Value)} (X : K.In h) (G : h.Ns mainGlobals mg) (e : PySem.W.nsIn K mainGlobals x = some (some (.ref a)))
  (l : K.lookup a = some ⟨.type "tuple", none, .seq its n, osl⟩) (hz : its.size ≤ sizeLine) (v : Vals xs its.toList) : TupG K mg x xs :=
 ⟨a, PySem.W.mg_of X G e, _, its, n, l, rfl, rfl, rfl, hz, v⟩
end
inductive Fmt : V → Str → Prop where
 | int {i : Int} (h : i.natAbs.log2 < 1920) : Fmt (.int i) (toString i : String)
 | str {y : Str} (h : y.length ≤ sizeLine) : Fmt (.str y) y
abbrev TJ := Str → TE
section
variable {X : Cx} {K : PySem.W.Frag} {x : Str} {pos : Pos} {xs : List V}
def tTopT (K : PySem.W.Frag) (xs : List V) : TE := fun _ H Q => ∀ a, TupK K a xs → Q (.ref a) H
theorem pe_gtup (hk : X.K = K) (hg : Gl X x) (h : TupG K X.mg x xs) (hd : (x == ("__debug__" : Str)) = false := by decide) : PE X (.Name x pos) (tTopT K xs) := by
 obtain ⟨a, e, h⟩ := h
 exact fun _ _ _ H _ I q => ld_glob I hg e ⟨.ref a, H, I, rfl, q a h⟩ hd
def PJ (X : Cx) (es : List Expr) (t : TJ) : Prop :=
 ∀ (pins : List (Addr × Obj)) (s : Shared) (σ : St) (H : Hp) (acc : Str) (Q : VK), Inv X pins σ H s → t acc σ H Q →
  PySem.Joins (model X.prog X.w) X.A X.xe (evalEach es X.env) acc (fun out s1 => out.length ≤ sizeLine ∧ EP X pins σ Q (.str out s1.toks) { s1 with toks := s1.toks + 1 }) s
def jNil : TJ := fun acc _ H Q => acc.length ≤ sizeLine ∧ Q (.str acc) H
def jStr (x : Str) (u : TJ) : TJ := fun acc σ H Q => (acc ++ x).length ≤ sizeLine ∧ u (acc ++ x) σ H Q
def jVal (ta : TE) (u : TJ) : TJ := fun acc σ H Q => ta σ H fun v H1 => ∃ y, Fmt v y ∧ (acc ++ y).length ≤ sizeLine ∧ u (acc ++ y) σ H1 Q
theorem pj_nil : PJ X [] jNil := fun pins s σ H acc Q I h => ⟨h.1, .str acc, H, I.tok _, ⟨_, rfl⟩, h.2⟩
theorem pj_str {j} {es : List Expr} {u : TJ} (hu : PJ X es u) : PJ X (.Constant (.str x) j pos :: es) (jStr x u) := by
 intro pins s σ H acc Q I h
 obtain ⟨hz, h⟩ := h
 exact Calls.Constant_str ⟨x, _, rfl, hz, hu pins _ σ H (acc ++ x) Q (I.tok _) h⟩
theorem pj_val {e : Expr} {ta : TE} {es : List Expr} {u : TJ} (he : PE X e ta) (hu : PJ X es u) : PJ X (.FormattedValue e (-1) none pos :: es) (jVal ta u) := by
 intro pins s σ H acc Q I h
 refine wpAny_FormattedValue_plain (thn (he pins s σ H _ I h) fun v s1 ⟨x, H1, I1, r1, y, f, hz, q⟩ => ?_)
 cases f with
 | int hl =>
  obtain ⟨t, rfl⟩ := r1
  exact wpAny_formatField_int hl ⟨_, _, rfl, hz, hu pins _ σ H1 _ Q (I1.tok _) q⟩
 | str hl =>
  obtain ⟨t, rfl⟩ := r1
  exact wpAny_formatField_str ⟨_, _, rfl, hz, hu pins _ σ H1 _ Q I1 q⟩ ⟨_, _, rfl, hz, hu pins _ σ H1 _ Q (I1.tok _) q⟩ hl
def tJoined (u : TJ) : TE := u Str.empty
theorem pe_joined {v1 v2 : Expr} {rest : List Expr} {u : TJ} (hu : PJ X (v1 :: v2 :: rest) u) : PE X (.JoinedStr (v1 :: v2 :: rest) pos) (tJoined u) :=
 fun pins s σ H Q I h => wpAny_JoinedStr (hu pins s σ H Str.empty Q I h)
theorem pe_gcall0 {k : Nat} {sp : Sp} {p : Pos} {ps : List Str} (G : GF X.prog X.w X.K X.mg X.base x ps k sp) (hr : Room k X.A) (hg : Gl X x) (hdb : (x == ("__debug__" : Str)) = false := by decide) : PE X (.Call (.Name x p) [] [] pos) (tCall sp [] E0 tNil) := by
 obtain ⟨f, fd, hm, _, hk, hb, F⟩ := G
 exact pe_call0 F hr hg hm hk hb .nil pass0 hdb
theorem strVals : ∀ {ts : List Str} {us : List Value}, Vals (ts.map V.str) us → ∃ l : List (Str × Tok), us = strValues l ∧ l.map (·.1) = ts
 | [], _, .nil => ⟨[], rfl, rfl⟩
 | y :: ts, _, .cons ⟨t, e⟩ r => by
  obtain ⟨l, e1, e2⟩ := strVals r
  subst e e1 e2
  exact ⟨(y, t) :: l, rfl, rfl⟩
def rJoin (K : PySem.W.Frag) : V → List V → Hp → VK → Prop := fun x vs H Q => ∃ (sep : Str) (a : Addr) (ts : List Str), x = .str sep ∧ vs = [.ref a] ∧ SqL K H a (ts.map V.str) ∧ JoinOk sep ts = true ∧ Q (.str (Str.join sep ts)) H
theorem mt_join (h : X.K = K) : MtM X "str.join" (rJoin K) := by
 subst h
 intro pins s σ H x vs v us Q I rx rv h
 obtain ⟨sep, a, ts, rfl, rfl, hq, hj, q⟩ := h
 obtain ⟨t, rfl⟩ := rx
 obtain ⟨u, rfl, ru⟩ := rv.one
 cases ru
 obtain ⟨its, r, pl, hz⟩ := I.list hq
 obtain ⟨l, rfl, e⟩ := strVals r
 have e2 : Txt.join sep ts = Str.join sep ts := StrLaws.glued_eq_join sep ts
 exact SC.join pl.isList e hj fun t' k => ⟨.str _, H, I.tok _, ⟨t', rfl⟩, by rw [e2]; exact q⟩
end
end L2
namespace Sx
open PySem L2
section
variable {σ : St} {H : Hp} {Q : VK} {K : PySem.W.Frag} {ta : TE} {u : TJ} {acc x : Str}
theorem topT {xs : List V} (h : ∀ a, TupK K a xs → Q (.ref a) H) : tTopT K xs σ H Q := h
theorem fs (h : u Str.empty σ H Q) : tJoined u σ H Q := h
theorem jn (h : acc.length ≤ sizeLine ∧ Q (.str acc) H) : jNil acc σ H Q := h
theorem jv (h : ta σ H fun v H1 => ∃ y, Fmt v y ∧ (acc ++ y).length ≤ sizeLine ∧ u (acc ++ y) σ H1 Q) : jVal ta u acc σ H Q := h
theorem js (h : (acc ++ x).length ≤ sizeLine ∧ u (acc ++ x) σ H Q) : jStr x u acc σ H Q := h
end
end Sx
namespace L2
open PySem PySem.Spec PyProof.Rows
section
variable {prog : Program} {w : World} {A : Around} {E : Value → Shared → Prop} {s : Shared}
end
section
variable {X : Cx} {K : PySem.W.Frag}
end
theorem lc_pairsF {K : PySem.W.Frag} {J : It} {n : Nat} {x1 x2 : Str} {fr : List (Str × Nat)} {tc : TT} {te : TE} {σ : St} {H : Hp} {Qp : Addr → List V → Hp → Prop} (I : Nat → List V → Hp → Prop) (g h : Nat → V) (hn : n ≤ sizeLine)
  (hy : ∀ i acc H v H', J.yld i H v H' → i < n → I i acc H → ∃ T, v = .ref T ∧ H T = none ∧ H' = upd H T (.tup [g i, h i])) (hgo : ∀ i acc H, i < n → I i acc H → J.go i H) (hstop : ∀ acc H, I n acc H → J.stop n H)
  (h0 : I 0 [] H) (hl : ∀ i acc H', I i acc H' → acc.length ≤ i)
  (hf : ∀ i acc H', i < n → I i acc H' → ∀ H1, Same H' H1 → ∀ (QT : Bool → Hp → Prop), (∀ H2, (∀ Q' : VK, (∀ v H3, I (i + 1) (acc ++ [v]) H3 → Q' v H3) → te ([some (g i), some (h i)] ++ frv fr σ) H2 Q') → QT true H2) →
   (∀ H2, I (i + 1) acc H2 → QT false H2) → tc ([some (g i), some (h i)] ++ frv fr σ) H1 QT) (hQ : ∀ acc H', I n acc H' → ∀ p, H' p = none → Qp p acc H') :
  ∃ W : Nat → Nat → List V → Hp → Prop, (∃ m, W 0 m [] H) ∧ ∀ i m acc H, W i m acc H →
   (J.stop i H ∧ acc.length ≤ sizeLine ∧ ∀ p, H p = none → Qp p acc H) ∨
   (J.go i H ∧ ∀ x H', J.yld i H x H' → ∀ ys : St, ys.length = [x1, x2].length → (gTup K 2 (gCons (gName 0) (gCons (gName 1) gNil))) x (ys ++ frv fr σ) H' fun σ2 H2 => (∃ zs : St, zs.length = [x1, x2].length ∧ σ2 = zs ++ frv fr σ) ∧ tc σ2 H2 fun b H3 => if b = true then te σ2 H3 fun v H4 => acc.length < sizeLine ∧ ∃ m', m' < m ∧ W (i + 1) m' (acc ++ [v]) H4
    else ∃ m', m' < m ∧ W (i + 1) m' acc H3) := by
 refine ⟨fun i m acc H' => I i acc H' ∧ i ≤ n ∧ m = n - i, ⟨n, h0, Nat.zero_le _, by simp⟩, ?_⟩
 rintro i m acc H' ⟨hI, hi, rfl⟩
 have el := hl i acc H' hI
 by_cases hlt : i < n
 ·refine .inr ⟨hgo i acc H' hlt hI, fun x H1 y ys hys => ?_⟩
  obtain ⟨T, e1, e2, e3⟩ := hy i acc H' x H1 y hlt hI
  subst e1 e3
  match ys, hys with
  | [y1, y2], _ =>
   refine ⟨T, _, rfl, SqT.of upd_same, rfl, _, _, rfl, _, _, rfl, rfl, ⟨[some (g i), some (h i)], rfl, rfl⟩, ?_⟩
   refine hf i acc H' hlt hI _ (Same.newH e2) _ (fun H2 k => ?_) fun H2 k => ?_
   ·rw [if_pos rfl]
    exact k _ fun v H3 q => ⟨by omega, n - (i + 1), by omega, q, hlt, rfl⟩
   ·rw [if_neg Bool.false_ne_true]
    exact ⟨n - (i + 1), by omega, k, hlt, rfl⟩
 ·have e : i = n := by omega
  subst e
  exact .inl ⟨hstop acc H' hI, by omega, hQ acc H' hI⟩
end L2
namespace Sx
open PySem L2
section
variable {K : PySem.W.Frag} {σ : St} {H : Hp} {Q : VK} {l : Addr}
theorem bmS {r : V → List V → Hp → VK → Prop} {a : TA} {x : Str} (h : a σ H fun xs H2 => r (.str x) xs H2 Q) : tyV K "str" (.str x) H ∧ a σ H fun xs H2 => r (.str x) xs H2 Q := ⟨rfl, h⟩
theorem joinL {sep : Str} {ts : List Str} (h : H l = some (.lst (ts.map V.str))) (hj : JoinOk sep ts = true) (k : Q (.str (Str.join sep ts)) H) : rJoin K (.str sep) [.ref l] H Q := ⟨sep, l, ts, rfl, rfl, SqL.of h, hj, k⟩
theorem addS {x y : Str} (hz : x.length + y.length ≤ 16777216) (k : Q (.str (x ++ y)) H) : ∃ i j, V.str x = .str i ∧ V.str y = .str j ∧ i.length + j.length ≤ sizeLine ∧ Q (.str (i ++ j)) H := ⟨x, y, rfl, rfl, by rw [sizeLine_eq]; exact hz, k⟩
theorem topIx {a : Addr} {xs : List V} {i : Int} {v : V} (h : TupK K a xs) (e : atI xs i = some v) (q : Q v H) : rIxT K (.ref a) (.int i) H Q := ⟨a, xs, i, v, rfl, rfl, h.sq, e, q⟩
theorem addL {x : V} {xs : List V} {P : Hp → Prop} (h : H l = some (.lst xs)) (hz : xs.length < 16777216) (k : ∀ H', H' l = some (.lst (xs ++ [x])) → (∀ b o, b ≠ l → H b = some o → H' b = some o) → P H') : rAppend (.ref l) [x] H (fun _ H' => P H') :=
 ⟨l, xs, x, rfl, rfl, h, by rw [sizeLine_eq]; exact hz, k _ upd_same fun b o n e => by rw [upd_ne n]; exact e⟩
end
end Sx
namespace L2
open PySem PySem.Spec PyProof.Rows
section
variable {X : Cx} {K : PySem.W.Frag}
end
end L2
namespace Sx
open PySem L2
section
variable {K : PySem.W.Frag} {σ : St} {H : Hp} {Q : VK} {l : Addr}
end
end Sx
namespace L2
open PySem PySem.Spec PyProof.Rows
theorem vals_strs : ∀ (tk : Nat) (ts : List Str), Vals (ts.map V.str) (strValues (numbered tk ts))
 | _, [] => .nil
 | tk, t :: ts => .cons ⟨tk, rfl⟩ (vals_strs (tk + 1) ts)
theorem parts_len (x : Str) (w : Nat) : ∀ (cuts : List Nat) (a : Nat), (StrLaws.partsFrom x w a cuts).length = cuts.length + 1
 | [], _ => rfl
 | c :: r, a => by
  show (StrLaws.partsFrom x w (c + w) r).length + 1 = _
  rw [parts_len x w r (c + w)]
  rfl
theorem split_few (z y : Str) : (Builtin.Str.partsBetween z (Builtin.Str.occurrences z y 0 z.length (z.length + 1)) y.length).length ≤ z.length + 2 := by
 rw [StrLaws.partsBetween_eq, parts_len]
 have := StrLaws.occ_length_le_len z y 0 z.length (z.length + 1)
 omega
theorem split_len (z y : Str) : (Txt.split z y).length ≤ z.length + 2 := by
 unfold Txt.split
 split
 ·show 1 ≤ _; omega
 ·split
  ·show 1 ≤ _; omega
  ·exact split_few z y
section
variable {X : Cx} {K : PySem.W.Frag}
def rSplit : V → List V → Hp → VK → Prop := fun x vs H Q => ∃ z y : Str, x = .str z ∧ vs = [.str y] ∧ (y.length == 0) = false ∧ z.length ≤ 1000000 ∧ ∀ l H', H l = none → H' l = some (.lst ((Txt.split z y).map V.str)) → Same H H' → Q (.ref l) H'
theorem mt_split : MtM X "str.split" rSplit := by
 intro pins s σ H x vs v us Q I rx rv h
 obtain ⟨z, y, rfl, rfl, hy, hz, q⟩ := h
 obtain ⟨t, rfl⟩ := rx
 obtain ⟨w, rfl, u, rfl⟩ := rv.one
 have hsz : sizeLine = 16777216 := sizeLine_eq
 have hf : H s.heap.objs.size = none := I.fresh
 have one : Txt.split z y = [z] → ∀ k, EP X pins σ Q (.ref s.heap.objs.size) { s with heap := s.heap.push { cls := .type "list", data := .seq [Value.str z t].toArray }, toks := k } := fun e k =>
  ⟨.ref _, _, I.lnew (ys := [.str z]) (.cons ⟨t, rfl⟩ .nil) (by show 1 ≤ sizeLine; decide), rfl, q _ _ hf (by rw [upd_same, e]; rfl) (Same.newH hf)⟩
 cases h1 : (decide (z.length < y.length) || decide (Builtin.Str.strKind z < Builtin.Str.strKind y))
 ·cases h2 : (Builtin.Str.occurrences z y 0 z.length (z.length + 1)).isEmpty
  ·have few := split_few z y
   refine call_meets F.slot_str_split (typeIs_str _ _ _) F.entry_str_split (F.args_str_split_2 _ _) (meets_str_split_sep z y t u h1 hy h2 (by omega) (by omega)) ?_
   have e : Txt.split z y = Builtin.Str.partsBetween z (Builtin.Str.occurrences z y 0 z.length (z.length + 1)) y.length := by
    unfold Txt.split
    rw [if_neg (by rw [h1]; exact Bool.false_ne_true), if_neg (by rw [h2]; exact Bool.false_ne_true)]
   rw [← e] at few ⊢
   rw [strsFrom_eq]
   exact ⟨.ref _, _, I.lnew (vals_strs _ _) (by rw [List.length_map]; omega), rfl, q _ _ hf upd_same (Same.newH hf)⟩
  ·have e : Txt.split z y = [z] := by
    unfold Txt.split
    rw [if_neg (by rw [h1]; exact Bool.false_ne_true), if_pos h2]
   exact call_meets F.slot_str_split (typeIs_str _ _ _) F.entry_str_split (F.args_str_split_2 _ _) (meets_str_split_not_found z y t u h1 hy h2) (one e s.toks)
 ·have e : Txt.split z y = [z] := by
   unfold Txt.split
   rw [if_pos h1]
  exact call_meets F.slot_str_split (typeIs_str _ _ _) F.entry_str_split (F.args_str_split_2 _ _) (meets_str_split_cannot_occur z y t u h1) (one e s.toks)
def headS (z y : Str) : Str := match Builtin.Str.occurrences z y 0 z.length 1 with
 | i :: _ => Builtin.Str.strSub z 0 i
 | [] => z
def rPart : V → List V → Hp → VK → Prop := fun x vs H Q => ∃ z y : Str, x = .str z ∧ vs = [.str y] ∧ (y.length == 0) = false ∧ z.length ≤ 1000000 ∧ ∀ l a b H', H l = none → H' l = some (.tup [.str (headS z y), a, b]) → Same H H' → Q (.ref l) H'
theorem mt_part : MtM X "str.partition" rPart := by
 intro pins s σ H x vs v us Q I rx rv h
 obtain ⟨z, y, rfl, rfl, hy, hz, q⟩ := h
 obtain ⟨t, rfl⟩ := rx
 obtain ⟨w, rfl, u, rfl⟩ := rv.one
 have hsz : sizeLine = 16777216 := sizeLine_eq
 have hf : H s.heap.objs.size = none := I.fresh
 have fin : ∀ (its : List Value) (ys : List V) k, Vals ys its → ys.length ≤ sizeLine → (∃ a b, ys = [.str (headS z y), a, b]) → EP X pins σ Q (.ref s.heap.objs.size) { s with toks := k, heap := s.heap.push { cls := .type "tuple", data := .seq its.toArray } } := by
  intro its ys k hv hl he
  obtain ⟨a, b, rfl⟩ := he
  exact ⟨.ref _, _, I.laid (t' := k) (o := .tup _) (fun c o e => Heap.get?_push_of_some _ e) (Nat.le_refl _) ⟨hl, its, hv, IsTup.new _ _⟩, rfl, q _ _ _ _ hf upd_same (Same.newH hf)⟩
 refine call_meets F.slot_str_partition (typeIs_str _ _ _) F.entry_str_partition (F.args_str_partition_2 _ _) (meets_str_partition z y t u hy (by omega)) ?_
 unfold headS at fin
 cases e : Builtin.Str.occurrences z y 0 z.length 1 with
 | nil =>
  rw [e] at fin
  exact fin _ [.str z, .str Str.empty, .str Str.empty] _ (.cons ⟨t, rfl⟩ (.cons ⟨_, rfl⟩ (.cons ⟨_, rfl⟩ .nil))) (by show 3 ≤ sizeLine; decide) ⟨_, _, rfl⟩
 | cons i r =>
  rw [e] at fin
  exact fin _ [.str (Builtin.Str.strSub z 0 i), .str y, .str (Builtin.Str.strSub z (i + y.length) z.length)] _ (.cons ⟨_, rfl⟩ (.cons ⟨_, rfl⟩ (.cons ⟨_, rfl⟩ .nil))) (by show 3 ≤ sizeLine; decide) ⟨_, _, rfl⟩
def rAff (f : Str → Str → Bool) : V → List V → Hp → VK → Prop := fun x vs H Q => ∃ z y : Str, x = .str z ∧ vs = [.str y] ∧ Q (.bl (f z y)) H
theorem mt_starts : MtM X "str.startswith" (rAff Txt.startswith) := by
 intro pins s σ H x vs v us Q I rx rv h
 obtain ⟨z, y, rfl, rfl, q⟩ := h
 obtain ⟨t, rfl⟩ := rx
 obtain ⟨w, rfl, u, rfl⟩ := rv.one
 exact SC.startswith ⟨.bl _, H, I, rfl, q⟩
theorem mt_ends : MtM X "str.endswith" (rAff Txt.endswith) := by
 intro pins s σ H x vs v us Q I rx rv h
 obtain ⟨z, y, rfl, rfl, q⟩ := h
 obtain ⟨t, rfl⟩ := rx
 obtain ⟨w, rfl, u, rfl⟩ := rv.one
 exact SC.endswith ⟨.bl _, H, I, rfl, q⟩
def rSlS : V → Option Int → Option Int → Hp → VK → Prop := fun x lo hi H Q => ∃ z : Str, x = .str z ∧ z.length ≤ 1000000 ∧ Q (.str (StrLaws.sliceText z lo hi)) H
theorem part_of {v : Value} {o : Option Int} (h : IsPart v o) : ∃ l : Option (Int × Tok), v = partValue l ∧ l.map (·.1) = o := by
 cases h with
 | none => exact ⟨none, rfl, rfl⟩
 | int i t => exact ⟨some (i, t), rfl, rfl⟩
theorem sl_str : SlR X rSlS := by
 intro pins s σ H x v vl vu lo hi sl Q I rx hs pl pu h
 obtain ⟨z, rfl, hz, q⟩ := h
 obtain ⟨t, rfl⟩ := rx
 obtain ⟨l, rfl, e1⟩ := part_of pl
 obtain ⟨u, rfl, e2⟩ := part_of pu
 refine ⟨"str", _, F.slot_str_getitem.lookup, typeIs_str _ _ _, ?_⟩
 refine wpAny_getItem_str_slice (l := l) (u := u) (st := none) hs rfl ?_
 have hsz : sizeLine = 16777216 := sizeLine_eq
 unfold StrLaws.sliceText at q
 unfold sliceMade
 have e3 : slicePicked z l u none = Builtin.Str.strSliceIndices lo hi 1 z.length := by
  unfold slicePicked
  rw [e1, e2]
  rfl
 rw [e3]
 have e4 : (((none : Option (Int × Tok)).map (·.1)).getD 1 : Int) = 1 := rfl
 rw [e4]
 by_cases c : ((1 : Int) == 1 && (Builtin.Str.strSliceIndices lo hi 1 z.length).length == z.length) = true
 ·rw [if_pos c] at q ⊢
  exact ⟨.str z, H, I, ⟨t, rfl⟩, q⟩
 ·rw [if_neg c] at q ⊢
  refine ⟨?_, .str _, H, I.tok _, ⟨_, rfl⟩, q⟩
  have h1 := sliceIndices_le lo hi z.length
  have h2 : ((Builtin.Str.strSliceIndices lo hi 1 z.length).filterMap (z.cps[·]?)).length ≤ (Builtin.Str.strSliceIndices lo hi 1 z.length).length := List.length_filterMap_le _ _
  show ((Builtin.Str.strSliceIndices lo hi 1 z.length).filterMap (z.cps[·]?)).toArray.size ≤ sizeLine
  rw [List.size_toArray]
  omega
end
end L2
namespace L2
open PySem PySem.Spec PyProof.Rows
section
variable {X : Cx} {K : PySem.W.Frag}
theorem bools_of : ∀ {bs : List Bool} {its : List Value}, Vals (bs.map V.bl) its → its = bs.map Value.bool
 | [], _, .nil => rfl
 | b :: bs, _, .cons h r => by
  cases (show _ = Value.bool b from h)
  rw [bools_of r]
  rfl
def rAll (K : PySem.W.Frag) : List V → Hp → VK → Prop := fun xs H Q => ∃ (p : Addr) (bs : List Bool), xs = [.ref p] ∧ SqL K H p (bs.map V.bl) ∧ Q (.bl (bs.all id)) H
theorem call_allB (h : X.K = K) (hc : X.calm = true) : CallR X (.builtin "all") (rAll K) := by
 subst h
 intro pins s σ H xs us Q I r h
 obtain ⟨p, bs, rfl, hp, q⟩ := h
 obtain ⟨u, rfl, ru⟩ := vals1 r
 cases ru
 obtain ⟨its, rv, pl, hzz⟩ := I.list hp
 have hl := pl.isList
 have e : its = bs.map Value.bool := bools_of rv
 have hlt : p < s.heap.objs.size := by obtain ⟨_, z, _⟩ := hl; exact Heap.lt_size z
 have hI : ({ s with heap := s.heap.push { cls := .type "list_iterator", data := .fields #[.ref p, .int 0 0] } } : Shared).heap.IsListIter s.heap.objs.size p 0 := ⟨_, Heap.get?_push_size _ rfl, rfl, rfl⟩
 refine call_all_walk (wpAny_pyIter_list hl ⟨_, _, _, _, _, _, fun i => bs.getD i true, rfl, Walks.list (A := X.A.in1) (I.ok.hd hc) _ p (Nat.ne_of_lt hlt) its.toArray, ⟨hI, hl.push _⟩, ?_, fun h' tk hk => ?_⟩)
 ·intro i v s' Q' E' hv hq
  dsimp only at hq
  have hv' : its[i]? = some v := by simpa using hv
  rw [e, List.getElem?_map] at hv'
  cases g : bs[i]? with
  | none => rw [g] at hv'; cases hv'
  | some b =>
   rw [g] at hv'
   cases (Option.some.inj hv')
   have hb : bs.getD i true = b := by rw [List.getD_eq_getElem?_getD, g]; rfl
   rw [hb] at hq
   exact wpAny_truthy_bool hq
 ·have ez : ((List.range its.toArray.size).all fun i => bs.getD i true) = bs.all id := by
   rw [e]
   rw [Bool.eq_iff_iff, List.all_eq_true, List.all_eq_true]
   constructor
   ·intro h b hb
    obtain ⟨i, hi, g⟩ := List.getElem_of_mem hb
    have := h i (by simpa using hi)
    rw [List.getD_eq_getElem?_getD, List.getElem?_eq_getElem hi, g] at this
    exact this
   ·intro h i hi
    have hi' : i < bs.length := by simpa using hi
    rw [List.getD_eq_getElem?_getD, List.getElem?_eq_getElem hi']
    exact h _ (List.getElem_mem hi')
  refine ⟨.bl (bs.all id), H, I.kept (h' := h') (t' := tk) (old_kept hk), ?_, q⟩
  rw [ez]
  rfl
theorem bo_all : bootBuiltins "all" = some (.builtin "all") := by decide +kernel
def rIntS : List V → Hp → VK → Prop := fun xs H Q => ∃ z : Str, xs = [.str z] ∧ (∀ c ∈ z.cps.toList, 48 ≤ c ∧ c ≤ 57) ∧ z.cps.toList ≠ [] ∧ z.length ≤ 640 ∧ Q (.int ((NumText.digitsVal z.cps.toList : Nat) : Int)) H
theorem call_intS : CallR X (.type "int") rIntS := by
 intro pins s σ H xs us Q I r h
 obtain ⟨z, rfl, h1, h2, h3, q⟩ := h
 obtain ⟨u, rfl, t, rfl⟩ := vals1 r
 exact PySem.W.KIN.call_text (PySem.intText_digits h1 h2 (by omega)) h3 ⟨.int _, H, I.tok _, ⟨_, rfl⟩, q⟩
def rCount : V → List V → Hp → VK → Prop := fun x vs H Q => ∃ (l : Addr) (ts : List Str) (y : Str), x = .ref l ∧ vs = [.str y] ∧ H l = some (.lst (ts.map V.str)) ∧ Q (.int (ts.count y : Nat)) H
theorem count_eq {y : V} : ∀ {xs : List V} {us : List Value}, Vals xs us → xs.all flatV = true → us.countP (eqU y) = xs.countP fun v => eqV v y
 | _, _, .nil, _ => rfl
 | v :: xs, u :: us, .cons r t, f => by
  rw [List.all_cons, Bool.and_eq_true] at f
  rw [List.countP_cons, List.countP_cons, count_eq t f.2, eqU_of r f.1]
theorem count_strs (y : Str) : ∀ ts : List Str, ((ts.map V.str).countP fun v => eqV v (.str y)) = ts.count y
 | [] => rfl
 | t :: ts => by
  rw [List.map_cons, List.countP_cons, List.count_cons, count_strs y ts]
  rfl
theorem flat_strs : ∀ ts : List Str, (ts.map V.str).all flatV = true
 | [] => rfl
 | _ :: ts => flat_strs ts
theorem mt_count : MtM X "list.count" rCount := by
 intro pins s σ H x vs v us Q I rx rv h
 obtain ⟨l, ts, y, rfl, rfl, hH, q⟩ := h
 cases rx
 obtain ⟨u, rfl, ru⟩ := rv.one
 obtain ⟨z, its, n, r, hl, e⟩ := I.lstM hH
 refine call_meets F.slot_list_count ⟨_, e, rfl⟩ F.entry_list_count (F.args_list_count_2 _ _) (PySem.SeqAt.list_countAt l its.toArray n _ _ u (eqU (.str y))) ⟨e, fun w hw => mem_eqAt ru rfl r (flat_strs ts) w (by simpa using hw), ?_⟩
 refine ⟨.int _, H, I.tok _, ⟨_, rfl⟩, ?_⟩
 rw [count_eq r (flat_strs ts), count_strs]
 exact q
end
end L2
namespace L2
open PySem PySem.Spec PyProof.Rows
def PEt (X : Cx) (e : Expr) (t : TE) : Prop :=
 ∀ (pins : List (Addr × Obj)) (s : Shared) (σ : St) (H : Hp) (Q : VK), Inv X pins σ H s → t σ H Q → wpAny (model X.prog X.w) X.A (eval e X.env) (fun u s' => EP X pins σ Q u s' ∧ 0 < s'.toks) X.xe s
section
variable {X : Cx} {K : PySem.W.Frag} {a o : Expr} {ta to : TE}
theorem pe_oft {e : Expr} {t : TE} (h : PEt X e t) : PE X e t := fun pins s σ H Q I q => thn (h pins s σ H Q I q) fun _ _ z => z.1
theorem pet_ix {n : Int} {j} {p2 pos : Pos} (h : X.K = K) (ha : PE X a ta) (hs : PlainIx (.Constant (.int n) j p2)) (h0 : 0 ≤ n := by decide) : PEt X (.Subscript a (.Constant (.int n) j p2) pos) (tOp (rIxL K) ta (tC (.int n))) := by
 subst h
 intro pins s σ H Q I h
 refine Subscript_ (thn (ha pins s σ H _ I h) fun v s1 ⟨x, H1, I1, r1, q1⟩ => wpAny_Constant_int ?_)
 obtain ⟨p, xs, i, z, rfl, e2, hq, he, q⟩ := q1
 cases e2
 cases r1
 obtain ⟨its, r, pl, hz⟩ := (I1.tok (s1.toks + 1)).list hq
 obtain ⟨k, h1, h2, h3, h4, h5⟩ := atI_get he
 obtain ⟨w, ew, rw'⟩ := r.get h2
 have hl := r.length
 have hn := line63
 have hj : n.toNat = k := by
  rw [seqIndex_of h0 h5] at h1
  exact Option.some.inj h1
 exact item_listR pl.isList h0 (by omega) (by rw [hj]; simpa using ew) ⟨⟨z, H1, I1.tok _, rw', q⟩, Nat.succ_pos _⟩ (hs _ _)
def tRepl (y z : Str) (to : TE) : TE := fun σ H Q => to σ H fun x H1 => ∃ w : Str, x = .str w ∧ w.length ≤ 100000 ∧ Q (.str (Txt.replace w y z)) H1
theorem pet_repl {y z : Str} {j1 j2} {p1 p2 apos cpos : Pos} (ho : PEt X o to) (hyz : (y == z) = false) (hz : z.length ≤ 14)
  (hbase : attributeBase o "replace" X.env (eval o X.env) = eval o X.env := by rfl) (hline : (apos.endLine == cpos.line) = true := by rfl) :
  PEt X (.Call (.Attribute o "replace" apos) [.Constant (.str y) j1 p1, .Constant (.str z) j2 p2] [] cpos) (tRepl y z to) := by
 intro pins s σ H Q I h
 refine wpAny_Call_method_late hbase rfl hline rfl (thn (ho pins s σ H _ I h) fun v s1 ⟨⟨x, H1, I1, r1, w, e, hw, q⟩, tk⟩ => ?_)
 subst e
 obtain ⟨t, rfl⟩ := r1
 refine ⟨"str", "str.replace", F.plainAttrs_str, F.slot_str_replace, F.type_str_replace, typeIs_str _ _ _, fun _ e => (nomatch e), ?_⟩
 refine Calls.callWith_builtin rfl (Calls.evalArgs_plain ?_)
 refine Calls.spliced_cons (Calls.Constant_str (k := j1) (pos := p1) ?_)
 refine Calls.spliced_cons (Calls.Constant_str (k := j2) (pos := p2) (Calls.spliced_nil ?_))
 have hlong : Builtin.Str.tooLong (w.length + (Builtin.Str.occurrences w y 0 w.length (w.length + 1)).length * z.length) = false := by
  have h1 := StrLaws.occ_length_le w y 0 w.length (w.length + 1)
  have h2 : (Builtin.Str.occurrences w y 0 w.length (w.length + 1)).length * z.length ≤ (w.length + 1) * 14 := Nat.mul_le_mul h1 hz
  have h3 : sizeLine = 16777216 := sizeLine_eq
  unfold Builtin.Str.tooLong
  exact decide_eq_false (by omega)
 refine call_gives F.slot_str_replace (typeIs_str _ _ _) F.entry_str_replace (F.args_str_replace_3 _ _ _) (gives_str_replace w y z t s1.toks (s1.toks + 1) fun _ => ⟨by rw [Bool.or_eq_false_iff]; exact ⟨beq_eq_false_iff_ne.mpr (Nat.ne_of_gt tk), beq_eq_false_iff_ne.mpr (Nat.succ_ne_zero _)⟩, by simp, hyz, hlong⟩) ?_
 have q' := q
 unfold Txt.replace at q'
 cases hc : ((Builtin.Str.occurrences w y 0 w.length (w.length + 1)).isEmpty || (y.length == 0 && z.length == 0))
 ·rw [hc] at q'
  simp only [Bool.false_eq_true, if_false] at q' ⊢
  refine ⟨PySem.fits_replaced y ?_, ⟨.str _, H1, I1.tok _, ⟨_, rfl⟩, q'⟩, Nat.succ_pos _⟩
  have h2 : (w.length + 1) * z.length ≤ (w.length + 1) * 14 := Nat.mul_le_mul_left _ hz
  omega
 ·rw [hc] at q'
  simp only [if_true] at q' ⊢
  exact ⟨⟨.str _, H1, I1.tok _, ⟨_, rfl⟩, q'⟩, Nat.succ_pos _⟩
end
end L2
namespace L2
open PySem PySem.Spec PyProof.Rows
open Builtin in
theorem tindex (a : Addr) (xs : Array Value) (n : Nat) (dd : Option Addr) (sl : Array (Option Value)) (x : Value) (e : Value → Bool) (j : Nat) (hj : j < xs.size) (hit : e xs[j] = true) (hno : ∀ m (hm : m < xs.size), m < j → e xs[m] = false) :
  Meets («tuple.index» ⟨[.ref a, x], []⟩) (fun A R s => s.heap.get? a = some ⟨.type "tuple", dd, .seq xs n, sl⟩ ∧ (∀ y ∈ xs, SeqAt.EqAt A.in1 s y x (e y)) ∧ R (.ok (.ret (.int j s.toks))) { s with toks := s.toks + 1 }) := by
 intro prog w A R s h
 obtain ⟨hl, he, h⟩ := h
 unfold «tuple.index»
 refine wpAny_bind (m := selfAndSome "tuple.index" "index" 1 3 _) (wpAny_pure ?_)
 refine wpAny_bind (m := Tuple.tupleItemsOf (.ref a)) ?_
 unfold Tuple.tupleItemsOf
 refine wpAny_bind (wpAny_seqItems hl rfl (wpAny_pure ?_))
 refine wpAny_bind (wpAny_pure ?_)
 refine wpAny_bind (wpAny_pure ?_)
 dsimp only
 refine wpAny_bind ?_
 rw [Std.Legacy.Range.forIn_eq_forIn_range']
 simp only [Std.Legacy.Range.size, Nat.sub_zero, Nat.add_sub_cancel, Nat.div_one, Nat.min_self]
 refine wpAny_forIn_list _ (fun rest b s' => b.1 = none ∧ s' = s ∧ ∃ i, rest = List.range' i (xs.size - i) ∧ i ≤ j) _ ?_ ?_ _ _ ⟨rfl, rfl, 0, by simp, Nat.zero_le _⟩
 ·rintro i rest b s' ⟨_, rfl, k, hr, hk⟩
  have ek : xs.size - k = (xs.size - (k + 1)) + 1 := by omega
  rw [ek, List.range'_succ] at hr
  injection hr with h1 h2
  subst h1
  have hi : i < xs.size := by omega
  rw [Array.getElem?_eq_getElem hi]
  dsimp only
  refine wpAny_bind (he xs[i] (Array.getElem_mem hi) prog w _ _ ?_)
  by_cases c : i = j
  ·subst c
   rw [hit, if_pos rfl]
   exact wpAny_bind (wpAny_bind (wpAny_mkInt (wpAny_pure (wpAny_pure (wpAny_pure h)))))
  ·rw [hno i hi (by omega), if_neg Bool.false_ne_true]
   exact wpAny_pure ⟨rfl, rfl, i + 1, h2, by omega⟩
 ·rintro b s' ⟨_, rfl, k, hr, hk⟩
  have ek : xs.size - k = (xs.size - (k + 1)) + 1 := by omega
  rw [ek, List.range'_succ] at hr
  cases hr
def rTidx (K : PySem.W.Frag) : V → List V → Hp → VK → Prop := fun x vs H Q => ∃ (a : Addr) (ts : List Str) (y : Str), x = .ref a ∧ vs = [.str y] ∧ TupK K a (ts.map V.str) ∧ y ∈ ts ∧ Q (.int (ts.idxOf y : Nat)) H
theorem mt_tidx {X : Cx} {K : PySem.W.Frag} (h : X.K = K) : MtM X "tuple.index" (rTidx K) := by
 subst h
 intro pins s σ H x vs v us Q I rx rv h
 obtain ⟨a, ts, y, rfl, rfl, ha, hy, q⟩ := h
 cases rx
 obtain ⟨u, rfl, ru⟩ := rv.one
 obtain ⟨its, r, pt, hz⟩ := I.tuple (ha.sq (H := H))
 obtain ⟨⟨cls, dd, data, sl⟩, e2, hc, m, hd⟩ := pt
 simp only at hc hd
 subst hc hd
 have hl := r.length
 rw [List.length_map] at hl
 have hj : ts.idxOf y < ts.length := List.idxOf_lt_length_of_mem hy
 have key : ∀ (i : Nat) (hi : i < its.toArray.size), eqU (.str y) its.toArray[i] = decide (ts[i]? = some y) := by
  intro i hi
  have hi' : i < its.length := by simpa using hi
  obtain ⟨v1, h1, h2⟩ := vals_all (y := .str y) r (flat_strs ts) i its[i] (List.getElem?_eq_getElem hi')
  rw [List.getElem?_map] at h1
  have hit : i < ts.length := by omega
  rw [List.getElem?_eq_getElem hit] at h1 ⊢
  cases h1
  show eqU (.str y) its[i] = _
  rw [h2]
  show (ts[i] == y) = _
  rw [Bool.eq_iff_iff]
  simp
 refine call_meets F.slot_tuple_index ⟨_, e2, rfl⟩ F.entry_tuple_index (F.args_tuple_index_2 _ _) (tindex a its.toArray m dd sl u (eqU (.str y)) (ts.idxOf y) (by rw [List.size_toArray]; omega) ?_ ?_) ⟨e2, fun w hw => mem_eqAt ru rfl r (flat_strs ts) w (by simpa using hw), ⟨.int _, H, I.tok _, ⟨_, rfl⟩, q⟩⟩
 ·rw [key]
  exact decide_eq_true (by rw [List.getElem?_eq_getElem hj, List.getElem_idxOf hj])
 ·intro i hi hlt
  rw [key]
  refine decide_eq_false fun z => ?_
  have hit : i < ts.length := by omega
  rw [List.getElem?_eq_getElem hit] at z
  have := List.not_of_lt_findIdx (p := (· == y)) (xs := ts) (i := i) hlt
  rw [Option.some.inj z] at this
  simp at this
end L2
namespace L2
open PySem PySem.Spec PyProof.Rows
section
variable {prog : Program} {w : World} {A : Around} {E : Value → Shared → Prop} {s : Shared}
theorem cntItem {e it l : Addr} {i : Nat} {c : Int} {its : Array Value} {x old : Value} {Q : Value → Shared → Prop} (he : IsEnum s.heap e it c old) (hi : s.heap.IsListIter it l i) (hl : s.heap.IsList l its) (hx : its[i]? = some x) (ne : e ≠ it)
  (q : ∀ g, IsEnumOut g e it (c + 1) x s.heap.objs.size → g.IsListIter it l (i + 1) → g.get? s.heap.objs.size = some { cls := .type "tuple", data := .seq #[.int c s.toks, x] } → g.objs.size = s.heap.objs.size + 1 →
   (∀ b o, b ≠ e → b ≠ it → s.heap.get? b = some o → g.get? b = some o) → Q (.ref s.heap.objs.size) { s with heap := g, toks := s.toks + 1 }) :
  wpAny (model prog w) A (Builtin.«enumerate.__next__» ⟨[.ref e], []⟩) (fun fin s' => ∃ v, fin = .done (.ret v) ∧ Q v s') E s := by
 refine wpAny_bind (m := field (.ref e) 2) (wpAny_field he rfl (x := .ref it) rfl ?_)
 refine wpAny_bind (wpAny_nextOf_list_item hi hl hx fun g1 i1 s1 => ?_)
 have e1 : IsEnum g1 e it c old := s1.extBut _ _ ne he
 refine wpAny_bind (m := field (.ref e) 3) (wpAny_field e1 rfl (x := rawInt c) rfl ?_)
 refine wpAny_bind (m := field (.ref e) 4) (wpAny_field e1 rfl (x := .none) rfl ?_)
 refine wpAny_bind (m := mkInt c) (wpAny_mkInt ?_)
 refine wpAny_bind (wpAny_setField_rec e1 (by simp) fun g2 e2 s2 => ?_)
 replace e2 : IsEnum g2 e it (c + 1) old := e2
 refine wpAny_bind (wpAny_setField_rec e2 (by simp) fun g3 e3 s3 => ?_)
 replace e3 : IsEnum g3 e it (c + 1) old := e3
 refine wpAny_bind (wpAny_newTuple ?_)
 have z3 : g3.objs.size = s.heap.objs.size := by rw [s3.1, s2.1, s1.1]
 have k3 : ∀ b o, b ≠ e → b ≠ it → s.heap.get? b = some o → g3.get? b = some o := fun b o n1 n2 h => s3.extBut _ _ n1 (s2.extBut _ _ n1 (s1.extBut _ _ n2 h))
 have i3 : g3.IsListIter it l (i + 1) := (i1.extBut s2.extBut ne.symm).extBut s3.extBut ne.symm
 have el : e < s.heap.objs.size := Heap.lt_size he
 have e4 : IsEnum (g3.push { cls := .type "tuple", data := .seq #[.int c s.toks, x] }) e it (c + 1) old := Heap.get?_push_of_some _ e3
 have t4 : (g3.push { cls := .type "tuple", data := .seq #[.int c s.toks, x] }).get? s.heap.objs.size = some { cls := .type "tuple", data := .seq #[.int c s.toks, x] } := by
  rw [← z3]; exact Heap.get?_push_size _ rfl
 have z4 : (g3.push { cls := .type "tuple", data := .seq #[.int c s.toks, x] }).objs.size = s.heap.objs.size + 1 := by rw [Heap.size_push, z3]
 have k4 : ∀ b o, b ≠ e → b ≠ it → s.heap.get? b = some o → (g3.push { cls := .type "tuple", data := .seq #[.int c s.toks, x] }).get? b = some o := fun b o n1 n2 h => Heap.get?_push_of_some _ (k3 b o n1 n2 h)
 have i4 : (g3.push { cls := .type "tuple", data := .seq #[.int c s.toks, x] }).IsListIter it l (i + 1) := i3.at fun o h => Heap.get?_push_of_some _ h
 refine wpAny_bind (m := Builtin.SmallTypes.ownedTupleIsFree (.ref e)) ?_
 unfold Builtin.SmallTypes.ownedTupleIsFree
 refine wpAny_bind (wpAny_field e4 rfl (x := .none) rfl (wpAny_pure ?_))
 simp only [if_true]
 refine wpAny_bind (wpAny_rule ?_)
 refine wpAny_bind (wpAny_field e4 rfl (x := old) rfl ?_)
 refine wpAny_bind (wpAny_setField_rec e4 (by simp) fun g5 e5 s5 => ?_)
 replace e5 : IsEnum g5 e it (c + 1) x := e5
 refine wpAny_bind (m := Builtin.SmallTypes.ownedTupleHandOut (.ref e) (.ref g3.objs.size)) ?_
 unfold Builtin.SmallTypes.ownedTupleHandOut
 refine wpAny_bind (wpAny_setField_rec e5 (by simp) fun g6 e6 s6 => ?_)
 replace e6 : IsEnumOut g6 e it (c + 1) x g3.objs.size := e6
 refine wpAny_setField_rec e6 (by simp) fun g7 e7 s7 => ?_
 replace e7 : IsEnumOut g7 e it (c + 1) x g3.objs.size := e7
 rw [z3] at e7
 refine wpAny_bind (wpAny_letGo (wpAny_pure ⟨_, rfl, ?_⟩))
 show Q (.ref g3.objs.size) _
 rw [z3]
 have up : ∀ b o, b ≠ e → (g3.push { cls := .type "tuple", data := .seq #[.int c s.toks, x] }).get? b = some o → g7.get? b = some o := fun b o n h => s7.extBut _ _ n (s6.extBut _ _ n (s5.extBut _ _ n h))
 exact q g7 e7 (i4.at fun o h => up _ o ne.symm h) (up _ _ (Nat.ne_of_gt el) t4) (by rw [s7.1, s6.1, s5.1, z4]) fun b o n1 n2 h => up b o n1 (k4 b o n1 n2 h)
theorem cntNext {e it l : Addr} {i : Nat} {c : Int} {its : Array Value} {x old : Value} {Q : Option Value → Shared → Prop} (he : IsEnum s.heap e it c old) (hi : s.heap.IsListIter it l i) (hl : s.heap.IsList l its) (hx : its[i]? = some x) (ne : e ≠ it)
  (q : ∀ g, IsEnumOut g e it (c + 1) x s.heap.objs.size → g.IsListIter it l (i + 1) → g.get? s.heap.objs.size = some { cls := .type "tuple", data := .seq #[.int c s.toks, x] } → g.objs.size = s.heap.objs.size + 1 →
   (∀ b o, b ≠ e → b ≠ it → s.heap.get? b = some o → g.get? b = some o) → Q (some (.ref s.heap.objs.size)) { s with heap := g, toks := s.toks + 1 }) : wpAny (model prog w) A (pyNext (.ref e)) Q E s := by
 have ty : s.TypeIs (.ref e) "enumerate" := ⟨_, he, rfl⟩
 unfold pyNext
 exact wpAny_bind (wpAny_attempt (wpAny_callSpecial?_slot (name := Str.ofString "__next__") ty F.slot_enumerate_next (wpAny_call_entry F.slot_enumerate_next ty F.entry_enumerate_next
  (cntItem he hi hl hx ne fun g b1 b2 b3 b4 b5 => wpAny_pure (q g b1 b2 b3 b4 b5)) (F.args_enumerate_next_1 _))))
theorem cntStop {e it l : Addr} {i : Nat} {c : Int} {its : Array Value} {old : Value} {Q : Option Value → Shared → Prop} (hA : A.handled = none) (he : IsEnum s.heap e it c old) (hi : s.heap.IsListIter it l i) (hl : s.heap.IsList l its) (hx : its[i]? = none)
  (q : ∀ g, Heap.ExtBut it s.heap g → Q none { s with heap := g }) : wpAny (model prog w) A (pyNext (.ref e)) Q E s := by
 have ty : s.TypeIs (.ref e) "enumerate" := ⟨_, he, rfl⟩
 unfold pyNext
 refine wpAny_bind (wpAny_attempt (wpAny_callSpecial?_slot (name := Str.ofString "__next__") ty F.slot_enumerate_next (wpAny_call_entry F.slot_enumerate_next ty F.entry_enumerate_next ?_ (F.args_enumerate_next_1 _))))
 refine wpAny_bind (m := field (.ref e) 2) (wpAny_field he rfl (x := .ref it) rfl ?_)
 refine wpAny_bind (wpAny_nextOf_list_end hA hi hl hx fun g x k hx' => ?_)
 obtain ⟨o, e1, e2⟩ := hx'
 exact wpAny_bind (wpAny_isInstance (T := "StopIteration") (b := true) ⟨o, e1, e2⟩ isSubtype_stop (wpAny_pure (q _ k)))
end
def Itn (K : PySem.W.Frag) (n : Int) (a : Addr) : It :=
 ⟨fun i H => ∃ xs x, SqL K H a xs ∧ xs[i]? = some x, fun i H v H' => ∃ T x, v = .ref T ∧ H T = none ∧ (∀ xs, SqL K H a xs → xs[i]? = some x) ∧ H' = upd H T (.tup [.int (n + i), x]), fun i H => ∃ xs, SqL K H a xs ∧ xs.length ≤ i⟩
theorem turn_cnt {P : Program} {w : World} {K : PySem.W.Frag} {elts : List Expr} {x1} {pos : Pos} (n : Int) (a it e : Addr) (hne : e ≠ it) :
  Turn P w K (.Tuple elts x1 pos) (Itn K n a) [e, it] e (fun i h => (∃ old, IsEnum h e it (n + (i : Int)) old) ∧ h.IsListIter it a i) where
 mem := by simp
 obj := fun i h st b hb => by
  obtain ⟨⟨old, he⟩, o, ho, c, d⟩ := st
  have hb' : b = e ∨ b = it := by simpa using hb
  rcases hb' with rfl | rfl
  ·exact ⟨_, he, fun v z => by
    have z' : Data.fields _ = Data.cell v := z
    cases z'⟩
  ·exact ⟨o, ho, fun v z => by rw [d] at z; cases z⟩
 keep := fun i h h' st k => by
  obtain ⟨⟨old, he⟩, hi⟩ := st
  exact ⟨⟨old, k e (by simp) _ he⟩, hi.at fun o q => k it (by simp) o q⟩
 item := by
  intro X hP hw hK hc i pins s σ H E I hf st hg
  subst hP hw hK
  obtain ⟨⟨old, he⟩, hit⟩ := st
  obtain ⟨xs, x, hq, hx⟩ := hg
  obtain ⟨its, rv, p, hz⟩ := I.list hq
  obtain ⟨u, hu, ru⟩ := rv.get hx
  have fe := hf e (by simp)
  have fi := hf it (by simp)
  refine cntNext he hit p.isList (x := u) (by simpa using hu) hne fun h1 ho hit1 hT hsz hk => ⟨_, rfl, wpAny_letOwnedTupleGo_enum ho fun h2 he2 hs2 => ?_⟩
  replace hs2 : Heap.SameBut e h1 h2 := hs2
  have fr : H s.heap.objs.size = none := I.hok.fresh (Nat.le_refl _)
  have neT : s.heap.objs.size ≠ e := fun z => by rw [z] at fr; exact absurd (Heap.lt_size he) (by rw [z]; exact Nat.lt_irrefl _)
  have keep : ∀ b o, b ≠ e → b ≠ it → s.heap.get? b = some o → h2.get? b = some o := fun b o n1 n2 q => (hs2.2 b n1).trans (hk b o n1 n2 q)
  have nT : ∀ b u, H b = some u → b ≠ s.heap.objs.size := fun b u q z => by rw [z, fr] at q; cases q
  have ne1 : ∀ b u, H b = some u → b ≠ e := fun b u q z => by rw [z, fe.1] at q; cases q
  have ne2 : ∀ b u, H b = some u → b ≠ it := fun b u q z => by rw [z, fi.1] at q; cases q
  refine ⟨.ref s.heap.objs.size, upd H s.heap.objs.size (.tup [.int (n + i), x]), ?_, rfl, ⟨_, x, rfl, fr, fun ys hy => by rw [I.list_inj hy hq]; exact hx, rfl⟩, ⟨⟨u, ?_⟩, ?_⟩, fun b hb => ?_⟩
  ·refine I.call' (ch := [e, it]) rfl ⟨fun b o q k hb hx => ?_, fun b o q k hb hx => ?_, fun b o q k hx => ?_, fun b o q hx => ?_, fun b xs q => ?_, fun b o u q => ?_, fun b ps q => ?_⟩ (fun b v q => ?_) I.bare fun b hb => ?_
   ·exact keep b o (fun z => hx (by simp [z])) (fun z => hx (by simp [z])) q
   ·exact ⟨o.slots, keep b o (fun z => hx (by simp [z])) (fun z => hx (by simp [z])) q⟩
   ·rw [upd_ne (Nat.ne_of_lt (Heap.lt_size q))]; exact k
   ·exact ⟨o, keep b o (fun z => hx (by simp [z])) (fun z => hx (by simp [z])) q⟩
   ·rw [upd_ne (nT _ _ q)]; exact q
   ·rw [upd_ne (nT _ _ q)]; exact q
   ·exact ⟨#[], by rw [upd_ne (nT _ _ q), q]; simp⟩
   ·by_cases hb : b = s.heap.objs.size
    ·subst hb
     rw [upd_same] at q
     cases q
     exact ⟨by show 2 ≤ sizeLine; decide, [.int (n + i) s.toks, u], .cons ⟨_, rfl⟩ (.cons ru .nil), ⟨_, (hs2.2 _ neT).trans hT, rfl, _, rfl⟩⟩
    ·rw [upd_ne hb] at q
     refine (I.hok b v q).stay (fun c v' hc q' => ?_) (fun c q' => ?_) fun c xs q' => ?_
     ·rcases hc with z | z
      ·exact keep c v' (by rw [z]; exact ne1 b v q) (by rw [z]; exact ne2 b v q) q'
      ·exact keep c v' (ne1 c _ z) (ne2 c _ z) q'
     ·rw [upd_ne (nT _ _ q')]; exact q'
     ·rw [upd_ne (nT _ _ q')]; exact q'
   ·have f := hf b hb
    exact ⟨f.2.2.2.1, f.2.1, f.2.2.2.2.1, f.2.2.2.2.2⟩
  ·have ec : n + ((i + 1 : Nat) : Int) = n + (i : Int) + 1 := by omega
   rw [ec]
   exact he2
  ·exact hit1.extBut hs2.extBut (Ne.symm hne)
  ·have f := hf b hb
   rw [upd_ne fun z => ?_]
   ·exact f.1
   ·have hb' : b = e ∨ b = it := by simpa using hb
    rcases hb' with rfl | rfl
    ·exact neT z.symm
    ·obtain ⟨o, ho, _⟩ := hit
     exact absurd (Heap.lt_size ho) (by rw [z]; exact Nat.lt_irrefl _)
 done := by
  intro X hP hw hK hc i pins s σ H E I hf st hg
  subst hP hw hK
  obtain ⟨⟨old, he⟩, hit⟩ := st
  obtain ⟨xs, hq, hx⟩ := hg
  obtain ⟨its, rv, p, hz⟩ := I.list hq
  obtain ⟨f0, f1, f2, f3, f4, f5⟩ := hf it (by simp)
  have hl := rv.length
  exact cntStop (I.ok.hd hc) he hit p.isList (by simp; omega) fun h' eb => ⟨rfl, I.turned (t' := s.toks) (fun b o hb e => eb b o hb e) f0 f1 f3 f4 f5⟩
 self := fun _ _ _ _ _ st h => by
  obtain ⟨⟨old, he⟩, _⟩ := st
  exact wpAny_pyIter_enum he h
theorem for_cnt {K : PySem.W.Frag} {n : Int} {a : Addr} {xs : List V} {g : TG} {tb : TS} {D : Ends} {σ : St} {H : Hp} (Pv : Nat → St → Hp → Prop) (h0 : Pv 0 σ H) (hl : ∀ i σ H, i ≤ xs.length → Pv i σ H → SqL K H a xs)
  (hs : ∀ i x T σ H, xs[i]? = some x → Pv i σ H → H T = none → g (.ref T) σ (upd H T (.tup [.int (n + i), x])) fun σ2 H2 => tb { D with nx := Pv (i + 1), ct := Pv (i + 1), bk := D.nx } σ2 H2) (hd : ∀ σ H, Pv xs.length σ H → D.nx σ H) :
  ∃ W : Nat → Nat → St → Hp → Prop, (∃ m, W 0 m σ H) ∧ ∀ i m σ H, W i m σ H →
   ((Itn K n a).stop i H ∧ D.nx σ H) ∨ ((Itn K n a).go i H ∧ ∃ N : St → Hp → Prop, (∀ σ' H', N σ' H' → ∃ m', m' < m ∧ W (i + 1) m' σ' H') ∧ ∀ x H', (Itn K n a).yld i H x H' → g x σ H' fun σ2 H2 => tb { D with nx := N, ct := N, bk := D.nx } σ2 H2) := by
 refine ⟨fun i m σ H => m = xs.length - i ∧ i ≤ xs.length ∧ Pv i σ H, ⟨xs.length, by simp, Nat.zero_le _, h0⟩, ?_⟩
 rintro i m σ H ⟨rfl, hi, p⟩
 have q := hl i σ H hi p
 by_cases hlt : i < xs.length
 ·refine .inr ⟨⟨xs, xs[i], q, by simp [hlt]⟩, Pv (i + 1), fun σ' H' p' => ⟨xs.length - (i + 1), by omega, rfl, hlt, p'⟩, fun x H' y => ?_⟩
  obtain ⟨T, v, e1, e2, y, e3⟩ := y
  subst e1 e3
  exact hs i v T σ H (y xs q) p e2
 ·have e : i = xs.length := by omega
  subst e
  exact .inl ⟨⟨xs, q, Nat.le_refl _⟩, hd σ H p⟩
section
variable {prog : Program} {w : World} {A : Around} {E : Value → Shared → Prop} {s : Shared}
theorem cntMeets (l : Addr) (its : Array Value) (m : Nat) (t : Tok) (dd : Option Addr) (sl : Array (Option Value)) :
  Meets (Builtin.«enumerate.__new__» ⟨[.type "enumerate", .ref l], [("start", .int 1 t)]⟩) (fun _ R s => s.heap.get? l = some { cls := .type "list", dict := dd, data := .seq its m, slots := sl } ∧
   R (.ok (.ret (.ref (s.heap.push { cls := .type "list_iterator", data := .fields #[.ref l, .int 0 0] }).objs.size)))
    { s with heap := (s.heap.push { cls := .type "list_iterator", data := .fields #[.ref l, .int 0 0] }).push { cls := .type "enumerate", data := .fields #[.none, .bool false, .ref s.heap.objs.size, rawInt 1, .none, .none] } }) :=
 .of_wp fun prog w A R s h => by
  obtain ⟨hp, g, d, tk, os⟩ := s; obtain ⟨hl, h⟩ := h
  have hsub := sub_enumerate
  have hL : Heap.IsList (Shared.heap ⟨hp, g, d, tk, os⟩) l its := ⟨_, hl, rfl, m, rfl⟩
  wp_walk using AutoSeq1.wpAny_loadPart' hl
  refine wpAny_stack_any fun st => wpAny_pure ?_
  split
  ·rename_i c _ _ _ _ _
   cases (c == Value.type "enumerate")
   ·refine wpAny_bind (wpAny_of_eq (a := (Value.ref l, some (Value.int 1 t))) (by kernel_rfl) ?_)
    wp_walk using wpAny_pyIter_list hL
    exact ⟨_, rfl, h⟩
   ·refine wpAny_bind (wpAny_of_eq (a := (Value.ref l, some (Value.int 1 t))) (by kernel_rfl) ?_)
    wp_walk using wpAny_pyIter_list hL
    exact ⟨_, rfl, h⟩
  ·refine wpAny_bind (wpAny_of_eq (a := (Value.ref l, some (Value.int 1 t))) (by kernel_rfl) ?_)
   wp_walk using wpAny_pyIter_list hL
   exact ⟨_, rfl, h⟩
theorem cntCheckT (a : Value) (t : Tok) : checkTypeCall "enumerate" ⟨[a], [("start", .int 1 t)]⟩ = pure () := by kernel_rfl
theorem cntCheckN (a : Value) (t : Tok) : checkBuiltinCall "enumerate.__new__" ⟨[.type "enumerate", a], [("start", .int 1 t)]⟩ = pure () := by kernel_rfl
theorem cntCheckI (o a : Value) (t : Tok) : argsOk "object.__init__" ⟨[o, a], [("start", .int 1 t)]⟩ := by kernel_rfl
theorem cntInit {self a : Value} {t : Tok} : Meets (Builtin.«object.__init__» ⟨[self, a], [("start", .int 1 t)]⟩) (fun _ R s => s.TypeIs self "enumerate" ∧ R (.ok (.ret .none)) s) := by
 refine Meets.of_wp fun prog w A R s hs => ?_
 obtain ⟨hT, hq⟩ := hs
 have hl := F.called_enumerate.init.lookup
 have hm := F.called_enumerate.made
 have hne : (some "enumerate.__new__" != some "object.__new__") = true := by decide
 repeat (any_goals (first | assumption | wp_step))
 exact ⟨_, rfl, hq⟩
theorem cntCall {l : Addr} {its : Array Value} {t : Tok} {Q : Value → Shared → Prop} (hL : s.heap.IsList l its)
  (h : ∀ g, IsEnum g (s.heap.objs.size + 1) s.heap.objs.size 1 .none → g.IsListIter s.heap.objs.size l 0 → g.objs.size = s.heap.objs.size + 2 →
   (∀ b o, s.heap.get? b = some o → g.get? b = some o) → Q (.ref (s.heap.objs.size + 1)) { s with heap := g }) :
  wpAny (model prog w) A (call (.type "enumerate") [.ref l] [("start", .int 1 t)]) Q E s := by
 obtain ⟨⟨c, dd, dt, sl⟩, hl, hc, m, hd⟩ := hL
 replace hc : c = .type "list" := hc
 replace hd : dt = .seq its m := hd
 subst hc hd
 obtain ⟨c0, tl, hmro⟩ := F.called_enumerate.mro
 have hmade := F.called_enumerate.made
 have hsub := F.called_enumerate.sub
 have hct := cntCheckT (.ref l) t
 have hcn := cntCheckN (.ref l) t
 refine wpAny_call (codeAny_of_tree ?_)
 show wpAny _ _ (callAny (.type "enumerate") _) _ _ _
 refine wpAny_pure ⟨Code.quiet_builtin _ (by decide +kernel), codeAny_builtin F.entry_type_call ?_⟩
 rw [Around.under_plain (weight_type_call_type "enumerate" [.ref l] [("start", .int 1 t)]) (units_type_call_type "enumerate" [.ref l] [("start", .int 1 t)])]
 have h1 := F.called_enumerate.notType
 have h2 := F.called_enumerate.canCreate
 repeat (any_goals (first | assumption | wp_step))
 refine codeAny_mono (R := (fun r s1 => r = .ok (.ret (.ref (s.heap.objs.size + 1))) ∧ IsEnum s1.heap (s.heap.objs.size + 1) s.heap.objs.size 1 .none ∧ s1.heap.IsListIter s.heap.objs.size l 0 ∧ s1.heap.objs.size = s.heap.objs.size + 2 ∧ (∀ b o, s.heap.get? b = some o → s1.heap.get? b = some o) ∧ s1 = { s with heap := s1.heap })) (codeAny_call_builtin F.called_enumerate.plain F.entry_enumerate_new (wpAny_of_eq hcn (cntMeets l its m t dd sl prog w A.in1 (fun r s1 => r = .ok (.ret (.ref (s.heap.objs.size + 1))) ∧ IsEnum s1.heap (s.heap.objs.size + 1) s.heap.objs.size 1 .none ∧ s1.heap.IsListIter s.heap.objs.size l 0 ∧ s1.heap.objs.size = s.heap.objs.size + 2 ∧ (∀ b o, s.heap.get? b = some o → s1.heap.get? b = some o) ∧ s1 = { s with heap := s1.heap }) s ⟨hl, ?_⟩))) fun r s1 hr => ?_
 ·have hz : (s.heap.push { cls := .type "list_iterator", data := .fields #[.ref l, .int 0 0] }).objs.size = s.heap.objs.size + 1 := Heap.size_push ..
  refine ⟨by rw [hz], ?_, ⟨_, Heap.get?_push_of_some _ (Heap.get?_push_size _ rfl), rfl, rfl⟩, by rw [Heap.size_push, hz], fun b o x => Heap.get?_push_of_some _ (Heap.get?_push_of_some _ x), rfl⟩
  have := Heap.get?_push_size (s.heap.push { cls := .type "list_iterator", data := .fields #[.ref l, .int 0 0] }) (o := { cls := .type "enumerate", data := .fields #[.none, .bool false, .ref s.heap.objs.size, rawInt 1, .none, .none] }) rfl
  rw [hz] at this; exact this
 obtain ⟨rfl, e1, e2, e3, e4, e5⟩ := hr
 have hT : s1.TypeIs (.ref (s.heap.objs.size + 1)) "enumerate" := ⟨_, e1, rfl⟩
 have hli := F.called_enumerate.init.lookup
 have hbi := F.called_enumerate.init.bind (.ref (s.heap.objs.size + 1))
 repeat (any_goals (first | assumption | wp_step))
 refine codeAny_mono (R := fun r s2 => r = .ok (.ret .none) ∧ s2 = s1) (codeAny_call_builtin F.called_enumerate.init.plain F.entry_object_init (F.called_enumerate.init.check _ _ _ _ _ _ _ _ hT (cntCheckI _ _ _) (cntInit prog w A.in1 (fun r s2 => r = .ok (.ret .none) ∧ s2 = s1) s1 ⟨hT, rfl, rfl⟩))) fun r₂ s₂ hr₂ => ?_
 obtain ⟨rfl, rfl⟩ := hr₂
 repeat (any_goals (first | assumption | wp_step))
 rw [e5]
 exact h _ e1 e2 e3 e4
end
section
variable {X : Cx} {K : PySem.W.Frag}
def iCnt (K : PySem.W.Frag) (ta : TA) : TI := fun σ H R => ta σ H fun vs H1 => ∃ a xs, vs = [.ref a] ∧ SqL K H1 a xs ∧ R (Itn K 1 a) H1
theorem callWith_tyK {pos : Pos} {T : String} {M : Model} {A : Around} {E : Value → Shared → Prop} {s : Shared} {args : List (Bool × Sem Value)} {kws : List (Option Str × Sem Value)} {Q : Value → Shared → Prop}
  (hp : args.any (·.1) = false) (hkw : kws.any (·.1.isNone) = false) (h : wpAny M A (evalArgs (.type T) true args kws) (fun a s₁ => wpAny M A (call (.type T) a.pos a.kw) Q E s₁) E s) : wpAny M A (callWith pos (.type T) [] args kws) Q E s := by
 unfold callWith
 refine wpAny_bind (wpAny_holding (wpAny_mono h (fun a s₁ h₁ => wpAny_bind (wpAny_standAt ?_)) fun _ _ x => x))
 simp only [hp, hkw, Bool.or_false]
 exact wpAny_bind (wpAny_pure (wpAny_bind (wpAny_mono h₁ (fun r s₂ hr => wpAny_bind (wpAny_holding (wpAny_point (wpAny_pure hr)))) fun _ _ x => x)))
theorem pi_cntK {elts : List Expr} {x1 j} {tpos : Pos} {a : Expr} {ta : TA} {p pos kp cp : Pos} (h : X.K = K) (hg : Gl X "enumerate") (hm : X.mg "enumerate" = none) (ha : PA X [a] ta) (hs : starEach [a] X.env = [(false, eval a X.env)] := by rfl) :
  PI X (.Tuple elts x1 tpos) (.Call (.Name "enumerate" p) [a] [⟨some "start", .Constant (.int 1) j cp, kp⟩] pos) (iCnt K ta) := by
 subst h
 intro pins s σ H R I h
 refine wpAny_Call_Name_kw (ld_blt I hg hm bo_enumerate ?_)
 refine callWith_tyK (by rw [hs]; rfl) (by rfl) ?_
 have hb : backTo pos (starEach [a] X.env) = (false, eval a X.env) :: backTo pos [] := by rw [hs]; rfl
 have ha' := ha pos pins s σ H _ I h
 rw [hb] at ha' ⊢
 refine evalArgs_kwB (by rfl) (thn ha' fun us s1 ⟨vs, H1, I1, r1, q1⟩ => ?_)
 refine kws_cons (wpAny_Constant_int (kws_nil ?_))
 obtain ⟨l, xs, e, hq, q⟩ := q1
 subst e
 cases r1 with
 | cons r rr =>
  cases rr
  cases r
  have I2 := I1.tok (s1.toks + 1)
  obtain ⟨its, rv, pl, hz⟩ := I2.list hq
  refine cntCall (t := s1.toks) pl.isList fun h' hE hI hsz hk => ?_
  refine wpAny_pyIter_enum (s := { s1 with heap := h', toks := s1.toks + 1 }) hE ?_
  refine ⟨s1.heap.objs.size + 1, [s1.heap.objs.size + 1, s1.heap.objs.size], _, _, H1, rfl, I2.kept (t' := s1.toks + 1) hk, turn_cnt 1 l s1.heap.objs.size (s1.heap.objs.size + 1) (Nat.succ_ne_self _), ⟨⟨_, hE⟩, hI⟩, fun b hb => ?_, q⟩
  have hb' : s1.heap.objs.size ≤ b := by
   have hb2 : b = s1.heap.objs.size + 1 ∨ b = s1.heap.objs.size := by simpa using hb
   rcases hb2 with rfl | rfl
   ·exact Nat.le_succ _
   ·exact Nat.le_refl _
  exact I1.fpOk hb' (I1.hok.fresh hb')
end
end L2
namespace L2
open PySem PySem.Spec PyProof.Rows
def Its (x : Str) : It := ⟨fun i _ => i < x.cps.size, fun i H v H' => H' = H ∧ ∃ c, x.cps[i]? = some c ∧ v = .str ⟨#[c]⟩, fun i _ => x.cps.size ≤ i⟩
theorem turn_str {P : Program} {w : World} {K : PySem.W.Frag} {tg : Expr} (x : Str) (t : Tok) (ty : String) (hty : ty = "str_ascii_iterator" ∨ ty = "str_iterator") (it : Addr) : Turn P w K tg (Its x) [it] it (fun i h => h.IsStrIter it ty x t i) where
 mem := by simp
 obj := fun i h st b hb => by
  have e : b = it := by simpa using hb
  subst e
  obtain ⟨o, e, c, d⟩ := st
  exact ⟨o, e, fun v z => by rw [d] at z; cases z⟩
 keep := fun i h h' st k => by
  obtain ⟨o, e, r⟩ := st
  exact ⟨o, k it (by simp) o e, r⟩
 item := by
  intro X hP hw hK hc i pins s σ H E I hf st hg
  subst hP hw hK
  have hg : i < x.cps.size := hg
  obtain ⟨f0, f1, f2, f3, f4, f5⟩ := hf it (by simp)
  have hx : x.cps[i]? = some x.cps[i] := Array.getElem?_eq_getElem hg
  have fin : ∀ h', h'.IsStrIter it ty x t (i + 1) → Heap.SameBut it s.heap h' → ∃ u, some (Value.str ⟨#[x.cps[i]]⟩ s.toks) = some u ∧ wpAny (model X.prog X.w) X.A (letOwnedTupleGo tg (.ref it) u) (fun _ s2 => ∃ x1 H', Inv X pins σ H' s2 ∧ RelV x1 u ∧ (Its x).yld i H x1 H' ∧ s2.heap.IsStrIter it ty x t (i + 1) ∧ ∀ b ∈ [it], H' b = none) E { s with heap := h', toks := s.toks + 1 } := fun h' st' sb => by
   have I1 : Inv X pins σ H { s with heap := h', toks := s.toks + 1 } := I.turned (t' := s.toks + 1) (fun b o hb e => (sb.2 b hb).trans e) f0 f1 f3 f4 f5
   obtain ⟨o, e, c, d⟩ := id st'
   exact ⟨_, rfl, go_of (s := { s with heap := h', toks := s.toks + 1 }) e c d (by rcases hty with rfl | rfl <;> decide) ⟨.str ⟨#[x.cps[i]]⟩, H, I1, ⟨_, rfl⟩, ⟨rfl, _, hx, rfl⟩, st', fun b hb => (hf b hb).1⟩⟩
  rcases hty with rfl | rfl
  ·exact wpAny_pyNext_ascii_item st hx fin
  ·exact wpAny_pyNext_wide_item st hx fin
 done := by
  intro X hP hw hK hc i pins s σ H E I hf st hg
  subst hP hw hK
  have hg : x.cps.size ≤ i := hg
  obtain ⟨f0, f1, f2, f3, f4, f5⟩ := hf it (by simp)
  have hx : x.cps[i]? = none := Array.getElem?_eq_none hg
  rcases hty with rfl | rfl
  ·exact wpAny_pyNext_ascii_end (I.ok.hd hc) st hx fun h' eb => ⟨rfl, I.turned (t' := s.toks) (fun b o hb e => eb b o hb e) f0 f1 f3 f4 f5⟩
  ·exact wpAny_pyNext_wide_end (I.ok.hd hc) st hx fun h' eb => ⟨rfl, I.turned (t' := s.toks) (fun b o hb e => eb b o hb e) f0 f1 f3 f4 f5⟩
 self := fun _ _ _ _ _ st h => by
  rcases hty with rfl | rfl
  ·exact wpAny_pyIter_striter_ascii st h
  ·exact wpAny_pyIter_striter_wide st h
section
variable {X : Cx} {K : PySem.W.Frag}
def iStr (tl : TE) : TI := fun σ H R => tl σ H fun v H1 => ∃ x, v = .str x ∧ R (Its x) H1
theorem pi_str {tg l : Expr} {tl : TE} (hl : PE X l tl) : PI X tg l (iStr tl) := by
 intro pins s σ H R I h
 refine thn (hl pins s σ H _ I h) fun v s1 ⟨x, H1, I1, r1, q1⟩ => ?_
 obtain ⟨z, e, q⟩ := q1
 subst e
 obtain ⟨t, rfl⟩ := r1
 refine wpAny_pyIter_strU ?_
 refine ⟨s1.heap.objs.size, [s1.heap.objs.size], _, _, H1, rfl, I1.kept (t' := s1.toks) fun b o e => Heap.get?_push_of_some _ e, turn_str z t (strIterType z) (by unfold strIterType; split <;> simp) _, ⟨_, Heap.get?_push_size _ rfl, rfl, rfl⟩, fun b hb => ?_, q⟩
 have e : b = s1.heap.objs.size := by simpa using hb
 subst e
 exact I1.fpOk (Nat.le_refl _) (I1.hok.fresh (Nat.le_refl _))
theorem lc_str {x : Str} {fr : List (Str × Nat)} {te : TE} {σ : St} {H : Hp} {Qp : Addr → List V → Hp → Prop} (f : Nat → V) (hn : x.cps.size ≤ sizeLine)
  (hf : ∀ c ∈ x.cps.toList, ∀ Q' : VK, Q' (f c) H → te (some (.str ⟨#[c]⟩) :: frv fr σ) H Q') (hQ : ∀ p, H p = none → Qp p (x.cps.toList.map f) H) :
  ∃ W : Nat → Nat → List V → Hp → Prop, (∃ m, W 0 m [] H) ∧ ∀ i m acc H, W i m acc H →
   ((Its x).stop i H ∧ acc.length ≤ sizeLine ∧ ∀ p, H p = none → Qp p acc H) ∨
   ((Its x).go i H ∧ ∀ y H', (Its x).yld i H y H' → tYes (some y :: frv fr σ) H' fun b H2 => if b = true then te (some y :: frv fr σ) H2 fun v H3 => acc.length < sizeLine ∧ ∃ m', m' < m ∧ W (i + 1) m' (acc ++ [v]) H3
    else ∃ m', m' < m ∧ W (i + 1) m' acc H2) := by
 refine ⟨fun i m acc H' => H' = H ∧ i ≤ x.cps.size ∧ m = x.cps.size - i ∧ acc = (x.cps.toList.take i).map f, ⟨x.cps.size, rfl, Nat.zero_le _, by simp, by simp⟩, ?_⟩
 rintro i m acc H' ⟨rfl, hi, rfl, rfl⟩
 have el : ((x.cps.toList.take i).map f).length = i := by
  rw [List.length_map, List.length_take, Array.length_toList]; omega
 by_cases hlt : i < x.cps.size
 ·refine .inr ⟨hlt, fun y H1 z => ?_⟩
  obtain ⟨e, c, hc, rfl⟩ := z
  subst e
  have hc' : x.cps.toList[i]? = some c := by rw [Array.getElem?_toList]; exact hc
  dsimp only [tYes]
  rw [if_pos rfl]
  refine hf c (List.mem_of_getElem? hc') _ ⟨by omega, x.cps.size - (i + 1), by omega, rfl, hlt, rfl, ?_⟩
  rw [List.take_add_one, hc', List.map_append]
  rfl
 ·have e : i = x.cps.size := by omega
  subst e
  refine .inl ⟨Nat.le_refl _, by omega, ?_⟩
  rw [List.take_of_length_le (by rw [Array.length_toList]; exact Nat.le_refl _)]
  exact hQ
end
end L2
namespace L2
open PySem PySem.Spec PyProof.Rows
section
variable {X : Cx} {K : PySem.W.Frag}
def rInD : V → V → Hp → VK → Prop := fun x y H Q => ∃ a o, y = .ref a ∧ DGet H a x o ∧ Q (.bl o.isSome) H
theorem op_inD (hu : X.A.units + 1 < cLine) : OpR X (compareOp .In) rInD := by
 intro pins s σ H x y v u Q I rx ry h
 obtain ⟨a, o, rfl, g, q⟩ := h
 cases ry
 exact d_in hu I g rx fun s3 I3 => ⟨.bl o.isSome, H, I3, rfl, q⟩
def rInS : V → V → Hp → VK → Prop := fun x y H Q => ∃ i j, x = .str i ∧ y = .str j ∧ Q (.bl (!(Builtin.Str.occurrences j i 0 j.length 1).isEmpty)) H
theorem op_inS : OpR X (compareOp .In) rInS := op_in_str
def rLenS : List V → Hp → VK → Prop := fun xs H Q => ∃ z, xs = [.str z] ∧ z.length ≤ sizeLine ∧ Q (.int z.length) H
theorem call_lenS : CallR X (.builtin "len") rLenS := call_len_str
end
end L2
namespace Sx
open PySem L2
variable {σ : St} {H : Hp} {Q : VK} {QT : Bool → Hp → Prop} {D : Ends} {K : PySem.W.Frag} {E : XK}
theorem iS {tl : TE} {R : It → Hp → Prop} (h : tl σ H fun v H1 => ∃ x, v = .str x ∧ R (Its x) H1) : iStr tl σ H R := h
theorem iCt {ta : TA} {R : It → Hp → Prop} (h : ta σ H fun vs H1 => ∃ a xs, vs = [.ref a] ∧ SqL K H1 a xs ∧ R (Itn K 1 a) H1) : iCnt K ta σ H R := h
theorem repl {y z : Str} {to : TE} (h : to σ H fun x H1 => ∃ w : Str, x = .str w ∧ w.length ≤ 100000 ∧ Q (.str (Txt.replace w y z)) H1) : tRepl y z to σ H Q := h
theorem dget2 {td ty tx : TE} (h : td σ H fun x H1 => ∃ a, x = .ref a ∧ IsD H1 a ∧ ty σ H1 fun y H2 => tx σ H2 fun z H3 => ∃ o, DGet H3 a y o ∧ Q (o.getD z) H3) : tDGet2 td ty tx σ H Q := h
end Sx
namespace L2
open PySem PySem.Spec PyProof.Rows
structure LeftX (fs : List Addr) (e : Addr) (oe : Obj) (T : Addr) (h h' : Heap) : Prop where
 new : h.objs.size ≤ T
 keep : ∀ b o, h.get? b = some o → b ≠ e → b ∉ fs → h'.get? b = some o
 slot : ∀ b o, h.get? b = some o → b ≠ e → ∃ sl, h'.get? b = some { o with slots := sl }
 exc : h'.get? e = some (Obj.mapFields (·.setIfInBounds 1 (Value.ref T)) oe)
 tb : ∃ oT ts, h'.get? T = some oT ∧ oT.data = .fields ts ∧ ts[3]? = some .none
section
variable {M : Model} {A : Around} {E : Value → Shared → Prop} {s : Shared}
theorem entry_x {base : Heap} {env : Env} {outer : List Env} {L e : Addr} {oe : Obj} {vs : Array Value} {head : Value} {hadNext : Bool} {Q : Unit → Shared → Prop}
  (hfr : A.frames = some (env :: outer)) (hl : s.heap.FunFrames base (env :: outer)) (hf : env.frame = some L) (he : s.heap.get? e = some oe) (hd : oe.data = .fields vs) (hsz : 1 < vs.size)
  (h : ∀ h' T, LeftX ((env :: outer).filterMap (·.frame)) e oe T s.heap h' → Q () { s with heap := h' }) :
  wpAny M A (do let a ← frameOf env; let pl ← entryPlaceOf L hadNext; let b ← EntryCells.newEntry head a .none (rawInt L) .none pl; setField (.ref e) 1 b) (fun _ s' => wpAny M A (setFlight (.ref e) none) Q E s') E s := by
 have hene : e ∉ (env :: outer).filterMap (·.frame) := fun hm => by
  obtain ⟨_, o, ho, hnf⟩ := hl.mem hm
  rw [he] at ho
  cases ho
  exact hnf vs hd
 refine wpAny_bind (wpAny_frameOf_fun hfr hl hf fun h₁ hs₁ => ?_)
 refine wpAny_bind (wpAny_entryPlaceOf fun pl hpl => ?_)
 unfold EntryCells.newEntry newFields
 refine wpAny_bind (wpAny_newObj_type ?_ (hpl.sizeOk5 _ _ _ _ _))
 have he₁ : h₁.get? e = some oe := (hs₁.2.1 e hene).trans he
 generalize hO : ({ cls := .type "traceback", dict := none, data := .fields ([head, .ref L, .none, rawInt L, .none] ++ (if pl.isEmpty then List.replicate 6 Value.none else pl)).toArray } : Obj) = oT
 have hOd : oT.data = .fields ([head, .ref L, .none, rawInt L, .none] ++ (if pl.isEmpty then List.replicate 6 Value.none else pl)).toArray := by rw [← hO]
 have hOf : oT.isFreed = false := by rw [← hO]; rfl
 have he₂ := Heap.get?_push_of_some (h := h₁) oT he₁
 refine wpAny_setField he₂ hd hsz ?_
 have hTe : h₁.objs.size ≠ e := Nat.ne_of_gt (Heap.lt_size he₁)
 have hd₃ := Obj.data_mapFields hd (·.setIfInBounds 1 (Value.ref h₁.objs.size))
 have he₃ := Heap.get?_update_self (Obj.mapFields (·.setIfInBounds 1 (Value.ref h₁.objs.size))) he₂ (Obj.isFreed_of_fields hd₃)
 have hT₃ : ((h₁.push oT).update e (Obj.mapFields (·.setIfInBounds 1 (Value.ref h₁.objs.size)))).get? h₁.objs.size = some oT := (Heap.get?_update_other _ _ (Ne.symm hTe)).trans (Heap.get?_push_size h₁ hOf)
 unfold setFlight
 refine wpAny_bind (wpAny_field he₃ hd₃ (x := .ref h₁.objs.size) (by simp [hsz]) ?_)
 rw [if_pos (show (Value.ref h₁.objs.size != Value.none) = true from by simp)]
 refine wpAny_setField hT₃ hOd (by simp only [List.size_toArray, List.length_append, List.length_cons, List.length_nil] <;> omega) (h _ h₁.objs.size ?_)
 have other : ∀ b, b ≠ e → b ≠ h₁.objs.size → (((h₁.push oT).update e (Obj.mapFields (·.setIfInBounds 1 (Value.ref h₁.objs.size)))).update h₁.objs.size (Obj.mapFields (·.setIfInBounds 3 ((none : Option Addr).elim Value.none fun f => rawInt f)))).get? b = (h₁.push oT).get? b := fun b b1 b2 => by
  rw [Heap.get?_update_other _ _ (Ne.symm b2), Heap.get?_update_other _ _ (Ne.symm b1)]
 refine ⟨Nat.le_of_eq hs₁.1.symm, fun b o hb b1 b2 => ?_, fun b o hb b1 => ?_, ?_, ?_⟩
 ·have hb1 : h₁.get? b = some o := (hs₁.2.1 b b2).trans hb
  rw [other b b1 (Nat.ne_of_lt (Heap.lt_size hb1))]
  exact Heap.get?_push_of_some _ hb1
 ·obtain ⟨sl, hb1⟩ := hs₁.2.2 b o hb
  refine ⟨sl, ?_⟩
  rw [other b b1 (Nat.ne_of_lt (Heap.lt_size hb1))]
  exact Heap.get?_push_of_some _ hb1
 ·rw [Heap.get?_update_other _ _ hTe]
  exact he₃
 ·exact ⟨_, _, Heap.get?_update_self _ hT₃ (Obj.isFreed_of_fields (Obj.data_mapFields hOd _)), Obj.data_mapFields hOd _, by first | (simp; done) | (rcases hpl with rfl | ⟨_, _, _, _, _, _, _, rfl⟩ <;> simp)⟩
theorem leave_first {base : Heap} {env : Env} {outer : List Env} {L e : Addr} {oe : Obj} {vs : Array Value} {Q : Unit → Shared → Prop}
  (hfr : A.frames = some (env :: outer)) (hl : s.heap.FunFrames base (env :: outer)) (hf : env.frame = some L) (he : s.heap.get? e = some oe) (hd : oe.data = .fields vs) (h1 : vs[1]? = some .none)
  (h : ∀ h' T, LeftX ((env :: outer).filterMap (·.frame)) e oe T s.heap h' → Q () { s with heap := h' }) : wpAny M A (leaving env (.ref e)) Q E s := by
 unfold leaving noteFrame
 simp only [hf]
 refine wpAny_bind (wpAny_bind (wpAny_field he hd h1 ?_))
 rw [if_neg (by decide)]
 exact entry_x hfr hl hf he hd (Array.getElem?_eq_some_iff.mp h1).1 h
theorem leave_next {base : Heap} {env : Env} {outer : List Env} {L e T0 : Addr} {oe oT : Obj} {vs ts : Array Value} {Q : Unit → Shared → Prop}
  (hfr : A.frames = some (env :: outer)) (hl : s.heap.FunFrames base (env :: outer)) (hf : env.frame = some L) (he : s.heap.get? e = some oe) (hd : oe.data = .fields vs) (h1 : vs[1]? = some (.ref T0)) (hne : T0 ≠ e)
  (hT : s.heap.get? T0 = some oT) (hdT : oT.data = .fields ts) (h3 : ts[3]? = some .none)
  (h : ∀ h0 h' T, (∀ b, b ≠ T0 → h0.get? b = s.heap.get? b) → h0.objs.size = s.heap.objs.size → LeftX ((env :: outer).filterMap (·.frame)) e oe T h0 h' → Q () { s with heap := h' }) : wpAny M A (leaving env (.ref e)) Q E s := by
 unfold leaving noteFrame
 simp only [hf]
 refine wpAny_bind (wpAny_bind (wpAny_field he hd h1 ?_))
 rw [if_pos (show (Value.ref T0 != Value.none) = true from by simp)]
 refine wpAny_bind (wpAny_field hT hdT h3 ?_)
 rw [if_neg (show ¬ ((Value.none == rawInt L) = true) from by simp [rawInt])]
 refine wpAny_bind (wpAny_setField hT hdT (Array.getElem?_eq_some_iff.mp h3).1 ?_)
 have other : ∀ b, b ≠ T0 → (s.heap.update T0 (Obj.mapFields (·.setIfInBounds 3 Value.none))).get? b = s.heap.get? b := fun b hb => Heap.get?_update_other _ _ (Ne.symm hb)
 have hl' : (s.heap.update T0 (Obj.mapFields (·.setIfInBounds 3 Value.none))).FunFrames base (env :: outer) := hl.of_keeps fun b o hb hnf => ⟨o, (other b fun q => by
  rw [q, hT] at hb
  cases hb
  exact hnf ts hdT).trans hb, rfl⟩
 exact entry_x (s := { s with heap := s.heap.update T0 (Obj.mapFields (·.setIfInBounds 3 Value.none)) }) hfr hl' hf ((other e (Ne.symm hne)).trans he) hd (Array.getElem?_eq_some_iff.mp h1).1 fun h' T x => h _ h' T other (by simp [Heap.update]) x
end
end L2
namespace L2
open PySem PySem.Spec PyProof.Rows
def excF (a C d : Addr) (h : Heap) : Prop := ∃ o vs, h.get? a = some o ∧ o.cls = .ref C ∧ o.dict = some d ∧ o.data = .fields vs ∧ vs.size = 6
abbrev excH (a C d : Addr) : HO := .ext (excF a C d)
def Trc (H : Hp) (h0 h : Heap) (a : Addr) : Prop := ∃ o vs T oT ts, h.get? a = some o ∧ o.data = .fields vs ∧ vs[1]? = some (.ref T) ∧ T ≠ a ∧ h0.get? T = none ∧ H T = none ∧ h.get? T = some oT ∧ oT.data = .fields ts ∧ ts[3]? = some .none
def CXB (P : Program) (w : World) : CXT := fun outer H s E e s' => ∃ a C d H', e = .ref a ∧ s'.os = s.os ∧ AllBare s'.gens ∧ Un (frs outer) [] H H' s.heap s'.heap ∧ HOk P w H' s'.heap ∧ H' a = some (excH a C d) ∧ s.heap.get? a = none ∧ Trc H' s.heap s'.heap a ∧ E e (some a) H'
theorem left_cx {X : Cx} {pins : List (Addr × Obj)} {σ : St} {H : Hp} {s : Shared} {a C d T : Addr} {oe : Obj} {h0 h' : Heap} {E : XK} (J : Inv X pins σ H s) (hex : X.ex = []) (hst : X.stack = X.env :: X.outer) (hfr : X.env.frame = some X.env.locals) (ha : H a = some (excH a C d)) (hna : X.s₀.heap.get? a = none)
  (T0 : Option Addr) (hT0 : ∀ t, T0 = some t → H t = none ∧ X.s₀.heap.get? t = none) (h0k : ∀ b, T0 ≠ some b → h0.get? b = s.heap.get? b) (h0s : h0.objs.size = s.heap.objs.size) (he : s.heap.get? a = some oe) (x : LeftX (frs X.stack) a oe T h0 h') (hE : E (.ref a) (some a) H) :
  CXB X.prog X.w X.outer X.H₀ X.s₀ E (.ref a) { s with heap := h' } := by
 have hU := J.base
 rw [hex] at hU
 obtain ⟨oe', vs, e1, e2, e3, e4, e5⟩ := (J.hok a _ ha).1
 rw [he] at e1
 cases e1
 have nT0 : ∀ b o, X.s₀.heap.get? b = some o → T0 ≠ some b := fun b o q z => by rw [(hT0 b z).2] at q; cases q
 have na : ∀ b o, X.s₀.heap.get? b = some o → b ≠ a := fun b o q z => by rw [z, hna] at q; cases q
 have hfs : ∀ b, b ∈ frs X.stack ↔ b = X.env.locals ∨ b ∈ X.fs := fun b => by
  rw [hst]
  show b ∈ (X.env :: X.outer).filterMap (·.frame) ↔ _
  rw [List.filterMap_cons_some hfr]
  simp [frs]
 have sT : s.heap.objs.size ≤ T := by rw [← h0s]; exact x.new
 have ls : a < s.heap.objs.size := Heap.lt_size he
 refine ⟨a, C, d, H, rfl, J.os, J.bare, ⟨fun b o q n hb _ => ?_, fun b o q n hb _ => ?_, hU.free, fun b o q _ => ?_, hU.tups, hU.frzs, hU.tbls⟩, fun c u hc => ?_, ha, hna, ?_, hE⟩
 ·refine x.keep b o ((h0k b (nT0 b o q)).trans (hU.keep b o q n hb (by simp))) (na b o q) fun z => ?_
  rcases (hfs b).mp z with z | z
  ·exact absurd (Heap.lt_size q) (by rw [z]; exact Nat.not_lt.mpr J.ok.above)
  ·exact hb z
 ·obtain ⟨sl, q1⟩ := hU.slot b o q n hb (by simp)
  obtain ⟨sl2, q2⟩ := x.slot b _ ((h0k b (nT0 b o q)).trans q1) (na b o q)
  exact ⟨sl2, q2⟩
 ·obtain ⟨o', q1⟩ := hU.there b o q (by simp)
  obtain ⟨sl2, q2⟩ := x.slot b _ ((h0k b (nT0 b o q)).trans q1) (na b o q)
  exact ⟨_, q2⟩
 ·by_cases hca : c = a
  ·subst hca
   rw [ha] at hc
   cases hc
   have d1 := Obj.data_mapFields e4 (·.setIfInBounds 1 (Value.ref T))
   refine ⟨⟨_, _, x.exc, (Obj.cls_mapFields _ _).trans e2, ?_, d1, by simp [e5]⟩, ⟨_, x.exc⟩, fun h1 h2 ⟨o, ws, f1, f2⟩ k => ⟨o, ws, k _ f1, f2⟩⟩
   rw [← e3]
   unfold Obj.mapFields
   split <;> rfl
  ·refine (J.hok c u hc).stay (fun b v hb q => ?_) (fun _ q => q) fun _ _ q => q
   have hbt : ∃ y, H b = some y := by
    rcases hb with z | z
    ·exact ⟨_, by rw [z]; exact hc⟩
    ·exact ⟨_, z⟩
   obtain ⟨y, hy⟩ := hbt
   refine x.keep b v ((h0k b fun z => by rw [(hT0 b z).1] at hy; cases hy).trans q) (fun z => ?_) fun z => by rw [J.stkFree b z] at hy; cases hy
   rcases hb with w | w
   ·exact hca (w.symm.trans z)
   ·rw [z, ha] at w; cases w
 ·obtain ⟨oT, ts, t1, t2, t3⟩ := x.tb
  refine ⟨_, _, T, oT, ts, x.exc, Obj.data_mapFields e4 _, by simp [e5], fun z => ?_, Heap.get?_none_of_le (Nat.le_trans J.sz sT), J.hok.fresh sT, t1, t2, t3⟩
  rw [z] at sT
  exact absurd ls (Nat.not_lt.mpr sT)
theorem passB {P : Program} {w : World} {K : PySem.W.Frag} {mg : Str → Option Value} {base : Heap} {N : List Str} {qual : Str} {scope : Scope} {f : Addr} {cd : Value} {A : Around} {outer : List Env} {s0 : Shared} {H0 : Hp} {E : XK} : Passes (CXB P w) (cxOf (CXB P w) P w K mg base N qual scope f cd A outer s0 H0 E) E := by
 intro pins σ H s e s' I h
 obtain ⟨a, C, d, H', rfl, os, bare, un, hok, ha, hna, tr, hE⟩ := h
 have J := I.call' os un hok bare (fun b z => absurd z (by simp))
 obtain ⟨oe, vs, T0, oT, ts, he, hd, h1, hne, hT0n, hT0H, hT, hdT, h3⟩ := tr
 have old : ∀ b, s.heap.get? b = none → s0.heap.get? b = none := fun b z => by
  cases q : s0.heap.get? b with
  | none => rfl
  | some o =>
   obtain ⟨o', q'⟩ := I.base.there b o q (by intro y; cases y)
   rw [z] at q'
   cases q'
 show wpAny (model P w) _ (leaving _ (.ref a)) _ _ s'
 refine leave_next (L := s0.heap.objs.size) J.ok.frames J.stack rfl he hd h1 hne hT hdT h3 fun h0 h' T k0 k1 x => ?_
 exact left_cx J rfl rfl rfl ha (old a hna) (some T0) (fun t z => by cases z; exact ⟨hT0H, old T0 hT0n⟩) (fun b z => k0 b fun y => z (by rw [y])) k1 he x hE
theorem raiseB {P : Program} {w : World} {K : PySem.W.Frag} {mg : Str → Option Value} {base : Heap} {N : List Str} {qual : Str} {scope : Scope} {f : Addr} {cd : Value} {A : Around} {outer : List Env} {s0 : Shared} {H0 : Hp} {E : XK} {pins : List (Addr × Obj)} {σ : St} {H : Hp} {s : Shared} {a C d : Addr} {oe : Obj} {vs : Array Value}
  (J : Inv (cxOf (CXB P w) P w K mg base N qual scope f cd A outer s0 H0 E) pins σ H s) (ha : H a = some (excH a C d)) (hna : s0.heap.get? a = none) (he : s.heap.get? a = some oe) (hd : oe.data = .fields vs) (h1 : vs[1]? = some .none) (hE : E (.ref a) (some a) H) :
  (cxOf (CXB P w) P w K mg base N qual scope f cd A outer s0 H0 E).xe (.ref a) s := by
 show wpAny (model P w) _ (leaving _ (.ref a)) _ _ s
 refine leave_first (L := s0.heap.objs.size) J.ok.frames J.stack rfl he hd h1 fun h' T x => ?_
 exact left_cx J rfl rfl rfl ha hna none (fun t z => (nomatch z)) (fun _ _ => rfl) rfl he x hE
end L2
namespace XC
open PySem
structure TlHas (bmB bm : List Value) : Prop where
 has : ∀ (X : String) (b : Bool), bmB.contains (.type X) = b → bm.contains (.type X) = b
section
variable {prog : Program} {w : World} {A : Around} {h : Heap} {g : Array GenState} {d : Drawn} {t : Nat} {os : OsState}
variable {nm q : Str} {C N : Addr} {bs bm bmB : List Value} {hdct : Bool} {sn : List Str} {sub : List Value} {ab : Bool} {col : Option Bool} {dd : Option Addr} {k0 k1 k2 k3 k5 : Option Value} {B newId initId : String}
theorem exc_new_check {M : Model} {E : Value → Shared → Prop} (F : ExcBaseFacts B newId initId bmB) (T : TlHas bmB bm) {rest : List Value} {Q : Unit → Shared → Prop} (hC : h.get? C = some (excClassObj nm q C N bs bm hdct sn sub ab col dd k0 k1 k2 k3 k5 newId))
  (hq : Q () ⟨h, g, d, t, os⟩) : wpAny M A (checkBuiltinCall newId ⟨.ref C :: rest, []⟩) Q E ⟨h, g, d, t, os⟩ := by
 have hcont : (Value.ref C :: bm).contains (.type B) = true := by rw [List.contains_cons, T.has _ _ F.hasB, Bool.or_true]
 have hstar := F.noStar
 simp only [checkBuiltinCall, F.newKind, F.newSplit, F.newRow]
 repeat (first | refine wpAny_loadPart_at hC ?_ | (refine wpAny_isSubtype_exc hC ?_; rw [hcont]) | refine wpAny_staticBase_exc hC ?_ | refine wpAny_madeBy_exc hC ?_ | simp only [bne_self_eq_false, Bool.false_eq_true, if_false] | wp_step)
 exact hq
theorem exc_new_code {R : Result → Shared → Prop} (F : ExcBaseFacts B newId initId bmB) (T : TlHas bmB bm) {rest : List Value} (hC : h.get? C = some (excClassObj nm q C N bs bm hdct sn sub ab col dd k0 k1 k2 k3 k5 newId))
  (hq : R (.ok (.ret (.ref (h.objs.size + 1)))) ⟨(h.push { cls := .type "tuple", data := .seq rest.toArray }).push { cls := .ref C, data := .fields #[.ref h.objs.size, .none, .none, .none, .bool false, .none] }, g, d, t, os⟩) (hrest : rest.length ≤ sizeLine) :
  codeAny (model prog w) A (.builtin newId ⟨.ref C :: rest, []⟩) R ⟨h, g, d, t, os⟩ := by
 have hends := F.ends
 have hcB : (Value.ref C :: bm).contains (.type B) = true := by rw [List.contains_cons, T.has _ _ F.hasB, Bool.or_true]
 have hcA : (Value.ref C :: bm).contains (.type "AttributeError") = false := by rw [List.contains_cons, T.has _ _ F.noAttr]; rfl
 have hcN : (Value.ref C :: bm).contains (.type "NameError") = false := by rw [List.contains_cons, T.has _ _ F.noName]; rfl
 refine codeAny_builtinAt F.entry ?_
 unfold Builtin.«BaseException.__new__»
 refine wpAt_bind ?_
 show wpAt _ _ _ (stack >>= _) _ _ _
 refine wpAt_bind (wpAt_stack fun p below => wpAt_of_wpAny ?_)
 wp_walk
 refine wpAt_of_wpAny ?_
 rw [F.owner]
 repeat (first | with_reducible refine wpAny_madeHere_exc F.canon hC ?_ | with_reducible refine wpAny_loadPart_at hC ?_ | (with_reducible refine wpAny_isSubtype_exc hC ?_; first | rw [hcB] | rw [hcA] | rw [hcN]) | wp_step)
 show R _ _
 rw [Heap.size_push]
 exact hq
theorem exc_type_call {E : Value → Shared → Prop} (F : ExcBaseFacts B newId initId bmB) (T : TlHas bmB bm) {mN mB : Str → Option Value} {rest tl : List Value} {B1 fI : Addr} {cB : Value} {dB : Option Addr} {cd : ClassData} {sB : Array (Option Value)} {oI : Obj} {Q : PySem.Fin → Shared → Prop}
  (hC : h.get? C = some (excClassObj nm q C N bs bm hdct sn sub ab col dd k0 k1 k2 k3 k5 newId)) (hn : h.Ns N mN) (hni : mN "__init__" = none) (hbm : bm = .ref B1 :: tl)
  (hB1 : h.get? B1 = some { cls := cB, dict := dB, data := .cls cd, slots := sB }) (hnB : h.Ns cd.ns mB) (hi : mB "__init__" = some (.ref fI)) (hfI : h.get? fI = some oI) (hfc : oI.cls = .type "function")
  (hq : ∀ h' e, Heap.MadeExcOf h h' e (.ref C) rest → h.objs.size ≤ e → wpAny (model prog w) A (call (.ref fI) (.ref e :: rest)) (fun r s' => r = .none ∧ Q (.done (.ret (.ref e))) s') E ⟨h', g, d, t, os⟩) (hrest : rest.length ≤ sizeLine) :
  wpAny (model prog w) A (Builtin.«type.__call__» ⟨.ref C :: rest, []⟩) Q E ⟨h, g, d, t, os⟩ := by
 repeat (first | with_reducible refine wpAny_loadPart_at hC ?_ | with_reducible refine wpAny_madeBy_exc hC ?_ | wp_step)
 refine codeAny_call_builtin_code (Code.quiet_builtin _ F.quiet) (exc_new_check F T hC ?_)
 refine exc_new_code F T hC ?_ hrest
 show wpAny _ _ _ _ _ _
 generalize ho : ({ cls := .ref C, data := .fields #[.ref h.objs.size, .none, .none, .none, .bool false, .none] } : Obj) = oE
 generalize ht : ({ cls := .type "tuple", data := .seq rest.toArray } : Obj) = oT
 have up : ∀ b o, h.get? b = some o → ((h.push oT).push oE).get? b = some o := fun b o e => Heap.get?_push_of_some _ (Heap.get?_push_of_some _ e)
 have hC₁ := up _ _ hC
 have hfI₁ := up _ _ hfI
 have hB₁ := up _ _ hB1
 have hn₁ : ((h.push oT).push oE).Ns N mN := let ⟨o, es, ep, e, r⟩ := hn; ⟨o, es, ep, up _ _ e, r⟩
 have hnB₁ : ((h.push oT).push oE).Ns cd.ns mB := let ⟨o, es, ep, e, r⟩ := hnB; ⟨o, es, ep, up _ _ e, r⟩
 have hget : ((h.push oT).push oE).get? (h.objs.size + 1) = some oE := by subst ho ht; heap_get
 have hcC : (Value.ref C :: bm).contains (.ref C) = true := by simp
 have hcl : oE.cls = .ref C := by rw [← ho]
 unfold isInstance
 repeat (first | (with_reducible refine wpAny_loadPart_at hget ?_; rw [hcl]) | (with_reducible refine wpAny_isSubtype_exc hC₁ ?_; rw [hcC]) | wp_step)
 show wpAny _ _ (typeLookup (.ref C) _) _ _ _
 rw [typeLookup_eq]
 refine wpAny_bind (wpAny_mroOf_exc hC₁ ?_)
 rw [lookupAlong_cons]
 refine wpAny_bind (wpAny_classOwn_exc hC₁ hn₁ ?_)
 rw [hni]
 subst hbm
 show wpAny _ _ (lookupAlong (.ref B1 :: tl) _) _ _ _
 rw [lookupAlong_cons]
 refine wpAny_bind (wpAny_classOwn_cls hB₁ hnB₁ ?_)
 rw [hi]
 refine wpAny_pure ?_
 refine wpAny_holding (wpAny_bind ?_)
 unfold bindSpecial
 refine wpAny_bind (wpAny_typeOf (T := "function") ⟨_, hfI₁, hfc⟩ ?_)
 rw [if_pos (by decide)]
 refine wpAny_pure (wpAny_bind (wpAny_mono (hq _ (h.objs.size + 1) ⟨up, Heap.get?_none_of_le (Nat.le_succ _), h.objs.size, by rw [hget, ← ho], Heap.get?_none_of_le (Nat.le_refl _), ?_⟩ (Nat.le_succ _)) (fun r s' hr => ?_) fun _ _ x => x))
 ·subst ht
  exact Heap.get?_push_of_some _ (Heap.get?_push_at rfl rfl)
 ·obtain ⟨rfl, hQ⟩ := hr
  wp_walk
  exact hQ
theorem exc_call {E : Value → Shared → Prop} (F : ExcBaseFacts B newId initId bmB) (T : TlHas bmB bm) {mN mB : Str → Option Value} {rest tl : List Value} {B1 fI : Addr} {cB : Value} {dB : Option Addr} {cd : ClassData} {sB : Array (Option Value)} {oI : Obj} {Q : Value → Shared → Prop}
  (hC : h.get? C = some (excClassObj nm q C N bs bm hdct sn sub ab col dd k0 k1 k2 k3 k5 newId)) (hn : h.Ns N mN) (hni : mN "__init__" = none) (hbm : bm = .ref B1 :: tl)
  (hB1 : h.get? B1 = some { cls := cB, dict := dB, data := .cls cd, slots := sB }) (hnB : h.Ns cd.ns mB) (hi : mB "__init__" = some (.ref fI)) (hfI : h.get? fI = some oI) (hfc : oI.cls = .type "function")
  (hq : ∀ h' e, Heap.MadeExcOf h h' e (.ref C) rest → h.objs.size ≤ e → wpAny (model prog w) (A.under (.builtin "type.__call__" ⟨.ref C :: rest, []⟩)) (call (.ref fI) (.ref e :: rest)) (fun r s' => r = .none ∧ Q (.ref e) s') E ⟨h', g, d, t, os⟩) (hrest : rest.length ≤ sizeLine) :
  wpAny (model prog w) A (call (.ref C) rest) Q E ⟨h, g, d, t, os⟩ := by
 have f1 := tc_lookup
 have f2 := tc_bind (.ref C)
 have hT : (⟨h, g, d, t, os⟩ : Shared).TypeIs (.ref C) "type" := ⟨_, hC, rfl⟩
 refine wpAny_call (codeAny_of_tree ?_)
 show wpAny _ _ (callAny (.ref C) _) _ _ _
 repeat (any_goals (first | assumption | with_reducible refine wpAny_loadPart_at hC ?_ | wp_step))
 refine ⟨rfl, ?_⟩
 exact codeAny_call_builtin_at (Code.quiet_builtin _ (by decide +kernel)) entry_typeCall (wpAny_check_type_call_sub hC (exc_type_call F T hC hn hni hbm hB1 hnB hi hfI hfc (fun h' e hm hs => hq h' e hm hs) hrest))
end
end XC
namespace XC
open PySem
inductive OwnT (h : Heap) (name : Str) (bmB : List Value) : List Value → Prop where
 | base : OwnT h name bmB bmB
 | own {a : Addr} {c0 : Value} {dd : Option Addr} {cd : ClassData} {sl : Array (Option Value)} {mA : Str → Option Value} {tl : List Value} (hA : h.get? a = some { cls := c0, dict := dd, data := .cls cd, slots := sl }) (hn : h.Ns cd.ns mA) (hni : mA name = none) (r : OwnT h name bmB tl) : OwnT h name bmB (.ref a :: tl)
theorem OwnT.has {h : Heap} {name : Str} {bmB tl : List Value} (T : OwnT h name bmB tl) (X : String) : tl.contains (.type X) = bmB.contains (.type X) := by
 induction T with
 | base => rfl
 | own _ _ _ _ ih =>
  rw [List.contains_cons, ih]
  rfl
theorem OwnT.refuse {h : Heap} {name : Str} {bmB tl : List Value} (T : OwnT h name bmB tl) (self : Value) (what : Str) : refuseLoop self what tl = refuseLoop self what bmB := by
 induction T with
 | base => rfl
 | own _ _ _ _ ih => rw [refuseLoop_ref, ih]
section
variable {M : Model} {A : Around} {E : Value → Shared → Prop} {h : Heap} {g : Array GenState} {d : Drawn} {t : Nat} {os : OsState}
variable {nm q : Str} {C N x : Addr} {bs bm bmB : List Value} {hdct : Bool} {sn : List Str} {sub : List Value} {ab : Bool} {col : Option Bool} {dd : Option Addr} {k0 k1 k2 k3 k5 : Option Value} {B newId sa owner : String} {mN mA : Str → Option Value} {name : Str} {v : Value}
theorem look_tail {y : Option Value} {Q : Option Value → Shared → Prop} {tl : List Value} (T : OwnT h name bmB tl) (hr : lookupAlong bmB name = pure y) (hq : Q y ⟨h, g, d, t, os⟩) : wpAny M A (lookupAlong tl name) Q E ⟨h, g, d, t, os⟩ := by
 induction T with
 | base => rw [hr]; exact wpAny_pure hq
 | own hA hn hni _ ih =>
  rw [lookupAlong_cons]
  refine wpAny_bind (wpAny_classOwn_cls hA hn ?_)
  rw [hni]
  exact ih
theorem look_exc {y : Option Value} {Q : Option Value → Shared → Prop} (hC : h.get? C = some (excClassObj nm q C N bs bm hdct sn sub ab col dd k0 k1 k2 k3 k5 newId)) (hn : h.Ns N mN) (hni : mN name = none) (T : OwnT h name bmB bm) (hm : mroOf (.type B) = pure bmB) (hB : typeLookup (.type B) name = pure y)
  (hq : Q y ⟨h, g, d, t, os⟩) : wpAny M A (typeLookup (.ref C) name) Q E ⟨h, g, d, t, os⟩ := by
 have hr : lookupAlong bmB name = pure y := by rw [typeLookup_eq, hm] at hB; exact hB
 rw [typeLookup_eq]
 refine wpAny_bind (wpAny_mroOf_exc hC ?_)
 rw [lookupAlong_cons]
 refine wpAny_bind (wpAny_classOwn_exc hC hn ?_)
 rw [hni]
 exact look_tail T hr hq
theorem check_saT {o : Obj} {nameV : Value} {Q : Unit → Shared → Prop} (SF : StoreFacts B bmB sa owner) (T : OwnT h name bmB bm)
  (hC : h.get? C = some (excClassObj nm q C N bs bm true sn sub ab col dd k0 k1 k2 k3 k5 newId)) (hx : h.get? x = some o) (hc : o.cls = .ref C) (hq : Q () ⟨h, g, d, t, os⟩) :
  wpAny M A (checkBuiltinCall sa ⟨[.ref x, nameV, v], []⟩) Q E ⟨h, g, d, t, os⟩ := by
 have hcB : (Value.ref C :: bm).contains (.type owner) = true := by rw [List.contains_cons, T.has, SF.hasOwner, Bool.or_true]
 have ha := SF.args (.ref x) nameV v
 simp only [checkBuiltinCall, SF.kind, SF.split]
 refine wpAny_bind ?_
 ·unfold isInstance
  repeat (first | (with_reducible refine wpAny_loadPart_at hx ?_; rw [hc]) | (with_reducible refine wpAny_isSubtype_exc hC ?_; rw [hcB]) | wp_step)
  cases hsig : Manifest.signature? sa with
  | none => exact wpAny_pure hq
  | some sig =>
   simp only [argsOk, hsig] at ha
   have h2 : Bind.checkArgs sa sig ⟨[.ref x, nameV, v], []⟩ = pure () := ha
   show wpAny M A (Bind.checkArgs sa sig ⟨[.ref x, nameV, v], []⟩) Q E _
   rw [h2]; exact wpAny_pure hq
end
section
variable {prog : Program} {w : World} {A : Around} {E : Value → Shared → Prop} {h : Heap} {g : Array GenState} {d : Drawn} {t : Nat} {os : OsState}
variable {nm q : Str} {C N x : Addr} {bs bm bmB : List Value} {sn : List Str} {sub : List Value} {ab : Bool} {col : Option Bool} {dd : Option Addr} {k0 k1 k2 k3 k5 : Option Value} {B newId sa owner : String} {mN : Str → Option Value} {name : Str} {v : Value}
theorem first_entry {tk : Tok} {o : Obj} {Q : PySem.Fin → Shared → Prop} (SF : StoreFacts B bmB sa owner) (T : OwnT h name bmB bm)
  (hC : h.get? C = some (excClassObj nm q C N bs bm true sn sub ab col dd k0 k1 k2 k3 k5 newId)) (hn : h.Ns N mN) (hna : mN name = none) (hB : typeLookup (.type B) name = pure none)
  (hx : h.get? x = some o) (hc : o.cls = .ref C) (hnc : ∀ c, o.data ≠ .cls c) (hdn : o.dict = none)
  (hq : ∀ h' tk', h'.get? x = some { cls := o.cls, dict := some h.objs.size, data := o.data, slots := o.slots } → h'.Ns1 h.objs.size (fun y => if y = name then some v else none) → (∀ b u, b ≠ x → h.get? b = some u → h'.get? b = some u) → Q (.done (.ret .none)) ⟨h', g, d, tk', os⟩) :
  wpAny (model prog w) A (Builtin.«object.__setattr__» ⟨[.ref x, .str name tk, v], []⟩) Q E ⟨h, g, d, t, os⟩ := by
 have hpass : refuseLoop (.ref x) "__setattr__" bm = pure () := (T.refuse _ _).trans (SF.passes (.ref x))
 unfold Builtin.«object.__setattr__»
 repeat (first | rw [refuse_eq] | (rw [refuseLoop_ref, hpass]) | (with_reducible refine wpAny_loadPart_at hx ?_; rw [hc]) | with_reducible refine wpAny_mroOf_exc hC ?_ | (with_reducible refine look_exc hC hn hna T SF.mro hB ?_) | wp_step)
 rw [hdn, if_neg (by simp [typeHasDict])]
 split
 ·rename_i hcd
  cases hcd
 split
 ·rename_i c hcd
  exact absurd hcd (hnc c)
 ·have hx₁ : (h.push { cls := .type "dict", data := .dict #[] }).get? x = some o := Heap.get?_push_of_some _ hx
  have hxs : x ≠ h.objs.size := Nat.ne_of_lt (Heap.lt_size hx)
  refine wpAny_bind (wpAny_alloc' ?_)
  refine wpAny_bind (wpAny_update' hx₁ ?_)
  refine wpAny_pure ?_
  have hgd : ((h.push { cls := .type "dict", data := .dict #[] }).update x fun o => { cls := o.cls, dict := some h.objs.size, data := o.data, slots := o.slots }).get? h.objs.size = some { cls := .type "dict", data := .dict #[] } := (Heap.get?_update_ne _ _ _ _ hxs.symm).trans (Heap.get?_push_at rfl rfl)
  have hnd : ((h.push { cls := .type "dict", data := .dict #[] }).update x fun o => { cls := o.cls, dict := some h.objs.size, data := o.data, slots := o.slots }).Ns h.objs.size (fun _ => none) := ⟨_, #[], _, hgd, rfl, fun e he => absurd he (by simp), fun _ => rfl⟩
  show wpAny _ _ (Builtin.ObjectAttr.storeInDict h.objs.size (.str name tk) name v) _ _ _
  unfold Builtin.ObjectAttr.storeInDict Builtin.ObjectAttr.newKeyGuard
  refine wpAny_bind (wpAny_pure (wpAny_bind (wpAny_nsSet1 (Heap.Ns1.of_empty hnd) fun h' hn' hs => ?_)))
  obtain ⟨oD, esD, epD, hoD, hdD, hcD⟩ := hn'.count (Within.cons name v Within.nil)
  refine wpAny_bind (wpAny_lookBehind hoD (by rw [hdD]; exact pastItsLine_dict (Nat.le_trans hcD (by rw [List.length_cons, List.length_nil, sizeLine_eq]; omega))) ?_)
  wp_walk
  refine hq h' _ ?_ hn' fun b ob hbx hb => (hs.2 b (Nat.ne_of_lt (Heap.lt_size hb))).trans ((Heap.get?_update_ne _ _ _ _ hbx).trans (Heap.get?_push_of_some _ hb))
  refine (hs.2 x hxs).trans (Heap.get?_update_self _ hx₁ ?_)
  have hfr := (Heap.get?_some_iff.mp hx).2
  obtain ⟨oc, od, odt, osl⟩ := o
  cases odt <;> first | rfl | exact hfr
theorem first_attr {o : Obj} {Q : Unit → Shared → Prop} (SF : StoreFacts B bmB sa owner) (T : OwnT h name bmB bm) (T2 : OwnT h "__setattr__" bmB bm)
  (hC : h.get? C = some (excClassObj nm q C N bs bm true sn sub ab col dd k0 k1 k2 k3 k5 newId)) (hn : h.Ns N mN) (hns : mN "__setattr__" = none) (hna : mN name = none) (hB : typeLookup (.type B) name = pure none)
  (hx : h.get? x = some o) (hc : o.cls = .ref C) (hnc : ∀ c, o.data ≠ .cls c) (hdn : o.dict = none)
  (hq : ∀ h' tk', h'.get? x = some { cls := o.cls, dict := some h.objs.size, data := o.data, slots := o.slots } → h'.Ns1 h.objs.size (fun y => if y = name then some v else none) → (∀ b u, b ≠ x → h.get? b = some u → h'.get? b = some u) → Q () ⟨h', g, d, tk', os⟩) :
  wpAny (model prog w) A (setAttr (.ref x) name v) Q E ⟨h, g, d, t, os⟩ := by
 have f3 := SF.slot.bind (.ref x)
 unfold setAttr callSpecial? specialOf
 repeat (any_goals (first | assumption | (with_reducible refine wpAny_loadPart_at hx ?_; rw [hc]) | (with_reducible refine look_exc hC hn hns T2 SF.mro SF.slot.lookup ?_) | wp_step))
 refine codeAny_call_builtin SF.slot.plain SF.entry (check_saT SF T hC hx hc (first_entry SF T hC hn hna hB hx hc hnc hdn fun h' tk' a b c => ?_))
 repeat (any_goals (first | assumption | wp_step))
 exact hq h' tk' a b c
end
end XC
namespace XC
open PySem
section
variable {prog : Program} {w : World} {A : Around} {h : Heap} {g : Array GenState} {d : Drawn} {t : Nat} {os : OsState}
variable {nm q : Str} {C N : Addr} {bs bm bmB : List Value} {hdct : Bool} {sn : List Str} {sub : List Value} {ab : Bool} {col : Option Bool} {dd : Option Addr} {k0 k1 k2 k3 k5 : Option Value} {B newId initId : String}
theorem init_check {M : Model} {E : Value → Shared → Prop} (F : ExcBaseFacts B newId initId bmB) (T : TlHas bmB bm) {e : Addr} {oe : Obj} {rest : List Value} {Q : Unit → Shared → Prop}
  (hC : h.get? C = some (excClassObj nm q C N bs bm hdct sn sub ab col dd k0 k1 k2 k3 k5 newId)) (he : h.get? e = some oe) (hcls : oe.cls = .ref C) (hq : Q () ⟨h, g, d, t, os⟩) :
  wpAny M A (checkBuiltinCall initId ⟨.ref e :: rest, []⟩) Q E ⟨h, g, d, t, os⟩ := by
 have hcB : (Value.ref C :: bm).contains (.type B) = true := by rw [List.contains_cons, T.has _ _ F.hasB, Bool.or_true]
 have hshort := F.noStar
 simp only [checkBuiltinCall, F.initKind, F.initSplit, F.initRow]
 repeat (first | (with_reducible refine wpAny_loadPart_at he ?_; rw [hcls]) | with_reducible refine wpAny_loadPart_at hC ?_ | (with_reducible refine wpAny_isSubtype_exc hC ?_; rw [hcB]) | wp_step)
 refine wpAny_onRaise ?_
 rw [show ∀ (a b : String) (n : Nat), Bind.check ⟨.positional, "*", B, .self, [⟨"args", .varPos, false⟩]⟩ a b n (List.map (fun x => x.fst) ({ pos := Value.ref e :: rest } : Args).kw) = pure () from fun a b n => check_star_args _ _ _ _ _ _]
 exact wpAny_pure hq
theorem base_init {E : Value → Shared → Prop} (F : ExcBaseFacts B newId initId bmB) (T : TlHas bmB bm) {e : Addr} {oe : Obj} {vs : Array Value} {v : Value} {Q : Value → Shared → Prop}
  (hC : h.get? C = some (excClassObj nm q C N bs bm hdct sn sub ab col dd k0 k1 k2 k3 k5 newId)) (he : h.get? e = some oe) (hcls : oe.cls = .ref C) (hd : oe.data = .fields vs) (hs : 0 < vs.size)
  (hq : ∀ h', h'.get? e = some (Obj.mapFields (·.setIfInBounds 0 (Value.ref h.objs.size)) oe) → (∀ b o, b ≠ e → h.get? b = some o → h'.get? b = some o) → Q .none ⟨h', g, d, t, os⟩) :
  wpAny (model prog w) A (call (.builtin initId) [.ref e, v]) Q E ⟨h, g, d, t, os⟩ := by
 refine wpAny_call (codeAny_call_builtin F.init.plain F.initEntry (init_check F T hC he hcls ?_))
 have he1 : (h.push { cls := .type "tuple", data := .seq #[v] }).get? e = some oe := Heap.get?_push_of_some _ he
 wp_walk
 rw [hd]
 refine wpAny_pure ?_
 have h0 : vs[0]? = some (vs[0]'hs) := Array.getElem?_eq_getElem hs
 rw [h0]
 refine wpAny_pure ?_
 refine wpAny_bind (wpAny_setField he1 hd hs ?_)
 have hne : ∀ b o, b ≠ e → h.get? b = some o → ((h.push { cls := .type "tuple", data := .seq #[v] }).update e (Obj.mapFields (·.setIfInBounds 0 (Value.ref h.objs.size)))).get? b = some o := fun b o hb q => by
  rw [Heap.get?_update_other _ _ (Ne.symm hb)]
  exact Heap.get?_push_of_some _ q
 have hee : ((h.push { cls := .type "tuple", data := .seq #[v] }).update e (Obj.mapFields (·.setIfInBounds 0 (Value.ref h.objs.size)))).get? e = some (Obj.mapFields (·.setIfInBounds 0 (Value.ref h.objs.size)) oe) := Heap.get?_update_self _ he1 (Obj.isFreed_of_fields (Obj.data_mapFields hd _))
 have fin : ∀ {m : Sem Unit}, (m = pure () ∨ ∃ l, m = letGo l) → wpAny (model prog w) A.in1 m (fun a s' => wpAny (model prog w) A.in1 (ret Value.none) (fun fin s' => match fin with | .done f => wants Q E (.ok f) s' | .again c' => c'.quiet = true ∧ codeAny (model prog w) A c' (wants Q E) s') (fun e s' => wants Q E (.error e) s') s') (fun e s' => wants Q E (.error e) s') ⟨(h.push { cls := .type "tuple", data := .seq #[v] }).update e (Obj.mapFields (·.setIfInBounds 0 (Value.ref h.objs.size))), g, d, t, os⟩ := by
  intro m hm
  rcases hm with rfl | ⟨l, rfl⟩
  ·exact wpAny_pure (wpAny_pure (hq _ hee hne))
  ·exact wpAny_letGo (wpAny_pure (hq _ hee hne))
 refine fin ?_
 split
 ·exact .inr ⟨_, rfl⟩
 ·exact .inl rfl
end
end XC
namespace XC
open PySem
section
variable {M : Model} {A : Around} {E : Value → Shared → Prop} {env : Env}
variable {nm q : Str} {C N : Addr} {bs bm : List Value} {hdct : Bool} {sn : List Str} {sub : List Value} {ab : Bool} {col : Option Bool} {dd : Option Addr} {k0 k1 k2 k3 k5 : Option Value} {newId : String}
theorem raise_made {s : Shared} {x : Sem Value} {Q : Flow → Shared → Prop} (hbase : bm.contains (.type "BaseException") = true) (hh : A.handled = none)
  (h : wpAny M A x (fun v s₁ => ∃ e oe vs, v = .ref e ∧ s₁.heap.get? C = some (excClassObj nm q C N bs bm hdct sn sub ab col dd k0 k1 k2 k3 k5 newId) ∧ s₁.heap.get? e = some oe ∧ oe.cls = .ref C ∧ oe.data = .fields vs ∧ vs[1]? = some .none ∧ E (.ref e) s₁) E s) :
  wpAny M A (raiseStmt env (some x) none) Q E s := by
 have hcB : (Value.ref C :: bm).contains (.type "BaseException") = true := by rw [List.contains_cons, hbase, Bool.or_true]
 unfold raiseStmt
 refine wpAny_bind (wpAny_mono h (fun v s₁ h₁ => ?_) fun _ _ x => x)
 obtain ⟨e, oe, vs, rfl, hC, he, hcls, hd, h1, hE⟩ := h₁
 obtain ⟨hp, g, d, tk, os⟩ := s₁
 repeat (first | (with_reducible refine wpAny_loadPart_at he ?_; rw [hcls]) | with_reducible refine wpAny_loadPart_at he ?_ | with_reducible refine wpAny_loadPart_at hC ?_ | (with_reducible refine wpAny_isSubtype_exc hC ?_; rw [hcB]) | wp_step)
 rw [hd]
 refine wpAny_pure ?_
 rw [h1]
 refine wpAny_pure ?_
 rw [if_neg (by decide)]
 exact wpAny_pure (wpAny_raiseNew_none hh hE)
end
section
variable {prog : Program} {w : World} {A : Around} {E : Value → Shared → Prop} {s : Shared} {env : Env}
variable {nm q : Str} {C N : Addr} {bs bm bmB : List Value} {hdct : Bool} {sn : List Str} {sub : List Value} {ab : Bool} {col : Option Bool} {dd : Option Addr} {k0 k1 k2 k3 k5 : Option Value} {B newId initId : String}
theorem raise_call (F : ExcBaseFacts B newId initId bmB) (T : TlHas bmB bm) {mN mB : Str → Option Value} {tl : List Value} {B1 fI : Addr} {cB : Value} {dB : Option Addr} {cd : ClassData} {sB : Array (Option Value)} {oI : Obj} {x : Str} {np cpos pos : Pos} {args : List Expr} {Q : Flow → Shared → Prop}
  (hh : A.handled = none) (hplain : (backTo cpos (starEach args env)).any (·.1) = false) (hni : mN "__init__" = none) (hbm : bm = .ref B1 :: tl) (hi : mB "__init__" = some (.ref fI)) (hfc : oI.cls = .type "function")
  (h : wpAny (model prog w) A (eval (.Name x np) env) (fun f s₁ => f = .ref C ∧ wpAny (model prog w) A (evalArgs (.ref C) true (backTo cpos (starEach args env)) [])
   (fun a s₂ => a.kw = [] ∧ a.pos.length ≤ sizeLine ∧ s₂.heap.get? C = some (excClassObj nm q C N bs bm hdct sn sub ab col dd k0 k1 k2 k3 k5 newId) ∧ s₂.heap.Ns N mN ∧ s₂.heap.get? B1 = some { cls := cB, dict := dB, data := .cls cd, slots := sB } ∧ s₂.heap.Ns cd.ns mB ∧ s₂.heap.get? fI = some oI ∧
    ∀ h' e, Heap.MadeExcOf s₂.heap h' e (.ref C) a.pos → s₂.heap.objs.size ≤ e → wpAny (model prog w) (A.under (.builtin "type.__call__" ⟨.ref C :: a.pos, []⟩)) (call (.ref fI) (.ref e :: a.pos))
     (fun r s₃ => r = .none ∧ ∃ oe vs, s₃.heap.get? C = some (excClassObj nm q C N bs bm hdct sn sub ab col dd k0 k1 k2 k3 k5 newId) ∧ s₃.heap.get? e = some oe ∧ oe.cls = .ref C ∧ oe.data = .fields vs ∧ vs[1]? = some .none ∧ E (.ref e) s₃) E { s₂ with heap := h' }) E s₁) E s) :
  wpAny (model prog w) A (exec (.Raise (some (.Call (.Name x np) args [] cpos)) none pos) env) Q E s := by
 rw [arm_exec_Raise]
 have hb : bm.contains (.type "BaseException") = true := T.has _ _ F.hasBase
 have go : wpAny (model prog w) A (eval (.Call (.Name x np) args [] cpos) env) (fun v s₁ => ∃ e oe vs, v = .ref e ∧ s₁.heap.get? C = some (excClassObj nm q C N bs bm hdct sn sub ab col dd k0 k1 k2 k3 k5 newId) ∧ s₁.heap.get? e = some oe ∧ oe.cls = .ref C ∧ oe.data = .fields vs ∧ vs[1]? = some .none ∧ E (.ref e) s₁) E s := by
  refine wpAny_Call_ofName (wpAny_mono h (fun f s₁ h₁ => ?_) fun _ _ x => x)
  obtain ⟨rfl, h₁⟩ := h₁
  unfold callWith
  refine wpAny_bind (wpAny_holding (wpAny_mono h₁ (fun a s₂ h₂ => wpAny_bind (wpAny_standAt ?_)) fun _ _ x => x))
  obtain ⟨apos, akw⟩ := a
  obtain ⟨hkw, hlen, hC, hn, hB1, hnB, hfI, h₂⟩ := h₂
  obtain rfl : akw = [] := hkw
  obtain ⟨hp, g, d, tk, os⟩ := s₂
  simp only [hplain]
  refine wpAny_bind (wpAny_keeperOf_exc hC ?_)
  refine wpAny_bind (exc_call F T hC hn hni hbm hB1 hnB hi hfI hfc (fun h' e hm hs => wpAny_mono (h₂ h' e hm hs) (fun r s₃ ⟨hr, oe, vs, z⟩ => ⟨hr, wpAny_bind (wpAny_holding (wpAny_point (wpAny_pure ⟨e, oe, vs, rfl, z⟩)))⟩) fun _ _ z => z) hlen)
 refine wpAny_bind (wpAny_standAt ?_)
 show wpAny _ _ (raiseStmt env (some (do let v ← eval (.Call (.Name x np) args [] cpos) env; standAt pos; pure v)) none) _ _ _
 exact raise_made hb hh (wpAny_bind (wpAny_mono go (fun v s₁ h₁ => wpAny_bind (wpAny_standAt (wpAny_pure h₁))) fun _ _ x => x))
end
end XC
namespace L2
open PySem PySem.Spec PyProof.Rows
def bmVE : List Value := [.type "ValueError", .type "Exception", .type "BaseException", .type "object"]
def exc0 (a C : Addr) (h : Heap) : Prop := ∃ o vs, h.get? a = some o ∧ o.cls = .ref C ∧ o.dict = none ∧ o.data = .fields vs ∧ vs.size = 6 ∧ vs[1]? = some .none
def excN (a C d : Addr) (h : Heap) : Prop := ∃ o vs, h.get? a = some o ∧ o.cls = .ref C ∧ o.dict = some d ∧ o.data = .fields vs ∧ vs.size = 6 ∧ vs[1]? = some .none
def XC1 (h : Heap) (C : Addr) : Prop := ∃ (nm q : Str) (N : Addr) (bs bm : List Value) (sn : List Str) (sub : List Value) (ab : Bool) (col : Option Bool) (dd : Option Addr) (k0 k1 k2 k3 k5 : Option Value) (newId : String) (mN : Str → Option Value),
 h.get? C = some (excClassObj nm q C N bs bm true sn sub ab col dd k0 k1 k2 k3 k5 newId) ∧ h.Ns N mN ∧ mN "line" = none ∧ mN "__setattr__" = none ∧ XC.OwnT h "line" bmVE bm ∧ XC.OwnT h "__setattr__" bmVE bm
theorem ve_line : typeLookup (.type "ValueError") "line" = pure none := by rw [typeLookup_type, builtinLookup_eq_fast]; kernel_rfl
theorem ext_ok {P : Program} {w : World} {H : Hp} {h : Heap} {a : Addr} {φ : Heap → Prop} (x : φ h) (e : ∃ o, h.get? a = some o) (st : ∀ h1 h2 : Heap, φ h1 → (∀ o, h1.get? a = some o → h2.get? a = some o) → φ h2) : ObjOk P w H h a (.ext φ) := ⟨x, e, st⟩
theorem xline_ok {X : Cx} {pins : List (Addr × Obj)} {σ : St} {H : Hp} {s : Shared} {a C : Addr} {y : V} {u : Value} {Q : Unit → Shared → Prop} (I : Inv X pins σ H s) (ha : H a = some (.ext (exc0 a C))) (hc : XC1 s.heap C) (ry : RelV y u)
  (k : ∀ d s', H d = none → d ≠ a → Inv X pins σ (upd (upd H d (.xd [("line", y)])) a (.ext (excN a C d))) s' → Q () s') : wpAny (model X.prog X.w) X.A (setAttr (.ref a) "line" u) Q X.xe s := by
 obtain ⟨nm, q, N, bs, bm, sn, sub, ab, col, dd, k0, k1, k2, k3, k5, newId, mN, hC, hn, h1, h2, T1, T2⟩ := hc
 obtain ⟨⟨o, vs, e1, e2, e3, e4, e5, e6⟩, _, _⟩ := I.hok a _ ha
 obtain ⟨hp, g, d0, t, os⟩ := s
 refine XC.first_attr PySem.F.store_ValueError T1 T2 hC hn h2 h1 ve_line e1 e2 (fun c z => by rw [e4] at z; cases z) e3 fun h' tk' x1 x2 x3 => ?_
 have hs : H hp.objs.size = none := I.hok.fresh (Nat.le_refl _)
 have hne : hp.objs.size ≠ a := Nat.ne_of_gt (Heap.lt_size e1)
 refine k hp.objs.size _ hs hne ?_
 obtain ⟨oD, es, ep, y1, y2⟩ := x2
 have yf : oD.isFreed = false := (Heap.get?_some_iff.mp y1).2
 have hm : (hp.push oD).get? hp.objs.size = some oD := Heap.get?_push_size _ yf
 have I1 := I.laid (t' := t) (o := .xd [("line", y)]) (h' := hp.push oD) (fun b v e => Heap.get?_push_of_some _ e) (Nat.le_refl _) (by
  refine ⟨fun z => if z = "line" then some u else none, ⟨oD, es, ep, hm, y2⟩, fun z => ?_⟩
  show RelO _ (if z = "line" then some u else none)
  by_cases hz : z = "line"
  ·subst hz
   rw [if_pos rfl]
   have : List.lookup ("line" : Str) [(("line" : Str), y)] = some y := by simp [List.lookup_cons]
   rw [this]
   exact ry
  ·rw [if_neg hz]
   have : List.lookup z [(("line" : Str), y)] = none := by rw [List.lookup_cons, show (z == ("line" : Str)) = false from beq_eq_false_iff_ne.mpr hz]; rfl
   rw [this]
   trivial)
 have hset : (upd H hp.objs.size (.xd [("line", y)])) a = some (.ext (exc0 a C)) := by rw [upd_ne hne.symm]; exact ha
 refine I1.write (t' := tk') (x := a) (e := a) (o := .ext (excN a C hp.objs.size)) (h' := h') (by rw [hset]; trivial) (.inl rfl) (fun b v hb q => ?_) ⟨_, x1⟩ ?_
 ·rcases Heap.get?_push_cases q with ⟨z1, z2⟩ | z
  ·rw [z1, z2]; exact y1
  ·exact x3 b v hb z
 ·exact ext_ok ⟨_, vs, x1, e2, rfl, e4, e5, e6⟩ ⟨_, x1⟩ fun h1 h2 ⟨o, ws, f1, f2⟩ kk => ⟨o, ws, kk _ f1, f2⟩
def sXl (K : PySem.W.Frag) (ta tv : TE) : TS := fun D σ H => tv σ H fun y H1 => ta σ H1 fun x H2 => ∃ a C, x = .ref a ∧ H2 a = some (.ext (exc0 a C)) ∧ (∀ h, K.In h → XC1 h C) ∧ ∀ d, H2 d = none → d ≠ a → D.nx σ (upd (upd H2 d (.xd [("line", y)])) a (.ext (excN a C d)))
theorem ps_xline {X : Cx} {K : PySem.W.Frag} {o value : Expr} {pos' pos : Pos} {ta tv : TE} (hK : X.K = K) (ha : PE X o ta) (hv : PE X value tv) (hs : swapsWith value (some (.Attribute o "line" pos')) pos.line X.env = pure false) : PS X (.Assign [.Attribute o "line" pos'] value pos) (sXl K ta tv) := by
 subst hK
 intro pins s σ H D I h
 refine plainObj_wpAny_Assign_Attribute (thn (hv pins s σ H _ I h) fun u s1 ⟨y, H1, I1, ry, q⟩ => thn (ha pins s1 σ H1 _ I1 q) fun ov s2 ⟨x, H2, I2, rx, a, C, ex, ea, hc, q2⟩ => ?_) hs
 subst ex
 obtain rfl : ov = Value.ref a := rx
 exact xline_ok I2 ea (hc _ I2.kIn) ry fun d s3 n1 n2 I3 => ⟨σ, _, I3, q2 d n1 n2⟩
end L2
namespace L2
open PySem PySem.Spec PyProof.Rows
structure XB (K : PySem.W.Frag) (D : Addr) : Prop where
 reads : PySem.W.readsIn K D (.type "type") = true
 ga : PySem.W.specialIn K (.ref D) "__getattribute__" = some (some (.builtin "type.__getattribute__"))
 init : PySem.W.findCls K (.ref D) (.type "type") "__init__" = some (.val (.builtin "ValueError.__init__"))
def XC2 (h : Heap) (C : Addr) : Prop := ∃ (nm q : Str) (N : Addr) (bs bm : List Value) (sn : List Str) (sub : List Value) (ab : Bool) (col : Option Bool) (dd : Option Addr) (k0 k1 k2 k3 k5 : Option Value),
 h.get? C = some (excClassObj nm q C N bs bm true sn sub ab col dd k0 k1 k2 k3 k5 "ValueError.__new__") ∧ XC.TlHas bmVE bm
theorem upd_back {H : Hp} {a : Addr} {o : HO} (e : H a = some o) : upd H a o = H := by
 funext b
 by_cases hb : b = a
 ·subst hb; rw [upd_same, e]
 ·rw [upd_ne hb]
def tBi (K : PySem.W.Frag) (ta tv : TE) : TE := fun σ H Q => ta σ H fun x H1 => tv σ H1 fun _ H2 => ∃ a C, x = .ref a ∧ H2 a = some (.ext (exc0 a C)) ∧ (∀ h, K.In h → XC2 h C) ∧ Q .non H2
theorem pe_binit {X : Cx} {K : PySem.W.Frag} {D : Addr} {x : Str} {p apos pos : Pos} {e f : Expr} {ta tv : TE} {pl : Sem Bool} (hK : X.K = K) (hg : Gl X x) (hm : X.mg x = some (.ref D)) (b : XB K D) (he : PE X e ta) (hf : PE X f tv) (hdb : (x == ("__debug__" : Str)) = false := by decide)
  (hb : backTo pos (starEach [e, f] X.env) = [(false, eval e X.env), (false, eval f X.env)] := by rfl)
  (ht : eval (.Call (.Attribute (.Name x p) "__init__" apos) [e, f] [] pos) X.env = (do
   let ov ← eval (.Name x p) X.env
   standAt apos.atName
   let (f', first) ← holding [ov] (getMethod ov "__init__" pl)
   callWith pos f' first (backTo pos (starEach [e, f] X.env)) (backToKw pos (keywordEach [] X.env))) := by rfl) :
  PE X (.Call (.Attribute (.Name x p) "__init__" apos) [e, f] [] pos) (tBi K ta tv) := by
 subst hK
 intro pins s σ H Q I h
 refine PySem.W.methodCall_KW (pl := pl) (ld_glob I hg hm ?_ hdb) ht
 refine PySem.W.method_cls I.kIn b.ga (PySem.W.cls_value I.kIn b.reads b.init (by decide +kernel) ?_)
 rw [hb]
 refine Calls.callWith_builtin rfl (Calls.evalArgs_plain (Calls.spliced_cons (thn (he pins _ σ H _ (I.tok _) h) fun iv s2 ⟨y, H1, I1, rx, q1⟩ =>
  Calls.spliced_cons (thn (hf pins s2 σ H1 _ I1 q1) fun fv s3 ⟨z, H2, I2, rz, a, C, ex, ea, hc, q3⟩ => Calls.spliced_nil ?_))))
 subst ex
 obtain rfl : iv = Value.ref a := rx
 obtain ⟨nm, q, N, bs, bm, sn, sub, ab, col, dd, k0, k1, k2, k3, k5, hC, T⟩ := hc _ I2.kIn
 obtain ⟨⟨o, vs, e1, e2, e3, e4, e5, e6⟩, _, _⟩ := I2.hok a _ ea
 obtain ⟨oc, od, odt, osl⟩ := o
 dsimp only at e2 e3 e4
 subst e2 e3 e4
 obtain ⟨hp, g, d0, t, os⟩ := s3
 refine XC.base_init PySem.F.excBase_ValueError T hC e1 rfl rfl (by omega) fun h' x1 x3 => ?_
 refine ⟨.non, H2, ?_, rfl, q3⟩
 have := I2.write (t' := t) (x := a) (e := a) (o := .ext (exc0 a C)) (h' := h') (by rw [ea]; trivial) (.inl rfl) x3 ⟨_, x1⟩ ?_
 ·rw [upd_back ea] at this; exact this
 ·refine ext_ok ⟨_, vs.setIfInBounds 0 (Value.ref hp.objs.size), x1, ?_, ?_, ?_, ?_, ?_⟩ ⟨_, x1⟩ fun h1 h2 ⟨o, ws, f1, f2⟩ kk => ⟨o, ws, kk _ f1, f2⟩
  ·rfl
  ·rfl
  ·rfl
  ·rw [Array.size_setIfInBounds]; exact e5
  ·rw [Array.getElem?_setIfInBounds_ne (by decide)]; exact e6
end L2
namespace L2
open PySem PySem.Spec PyProof.Rows
def XR (K : PySem.W.Frag) (C fI : Addr) : Prop := ∃ (nm q : Str) (N : Addr) (bs bm : List Value) (sn : List Str) (sub : List Value) (ab : Bool) (col : Option Bool) (dd : Option Addr) (k0 k1 k2 k3 k5 : Option Value) (mN mB : Str → Option Value) (tl : List Value) (B1 : Addr) (cB : Value) (dB : Option Addr) (cd : ClassData) (sB : Array (Option Value)) (oI : Obj),
 mN "__init__" = none ∧ bm = .ref B1 :: tl ∧ mB "__init__" = some (.ref fI) ∧ oI.cls = .type "function" ∧ XC.TlHas bmVE bm ∧ ∀ h, K.In h → h.get? C = some (excClassObj nm q C N bs bm true sn sub ab col dd k0 k1 k2 k3 k5 "ValueError.__new__") ∧ h.Ns N mN ∧ h.get? B1 = some { cls := cB, dict := dB, data := .cls cd, slots := sB } ∧ h.Ns cd.ns mB ∧ h.get? fI = some oI
structure NumOk (n : Int) : Prop where
 log : n.natAbs.log2 < 1920
 len : (Str.ofString (toString n)).length ≤ 100
def spXI (K : PySem.W.Frag) : Sp := fun vs H Q _ => ∃ a C n, vs = [.ref a, .int n] ∧ NumOk n ∧ H a = some (.ext (exc0 a C)) ∧ (∀ h, K.In h → XC1 h C) ∧ (∀ h, K.In h → XC2 h C) ∧ ∀ d, H d = none → d ≠ a → Q .non (upd (upd H d (.xd [("line", .int n)])) a (.ext (excN a C d)))
def sRaise (C : Addr) (te : TE) (E : XK) : TS := fun _ σ H => te σ H fun y H1 => ∃ n, y = .int n ∧ NumOk n ∧ ∀ a d, H1 a = none → H1 d = none → d ≠ a → E (.ref a) (some a) (upd (upd H1 d (.xd [("line", .int n)])) a (excH a C d))
theorem ps_raise {P : Program} {w : World} {K : PySem.W.Frag} {mg : Str → Option Value} {base : Heap} {N : List Str} {qual : Str} {scope : Scope} {f : Addr} {cdv : Value} {A : Around} {outer : List Env} {s0 : Shared} {H0 : Hp} {E : XK} {C fI : Addr} {fd : FuncData} {k : Nat} {x : Str} {np cpos pos : Pos} {e : Expr} {te : TE}
  (xr : XR K C fI) (F : FnOk P w K mg base CX0 k fI fd ["self", "line"] (spXI K)) (hb : Binds K fd ["self", "line"] []) (x1 : ∀ h, K.In h → XC1 h C) (x2 : ∀ h, K.In h → XC2 h C) (hr : Room (k + 1) (cxOf (CXB P w) P w K mg base N qual scope f cdv A outer s0 H0 E).A)
  (hg : Gl (cxOf (CXB P w) P w K mg base N qual scope f cdv A outer s0 H0 E) x) (hm : mg x = some (.ref C)) (he : PE (cxOf (CXB P w) P w K mg base N qual scope f cdv A outer s0 H0 E) e te) (hdb : (x == ("__debug__" : Str)) = false := by decide)
  (hbk : backTo cpos (starEach [e] (cxOf (CXB P w) P w K mg base N qual scope f cdv A outer s0 H0 E).env) = [(false, eval e (cxOf (CXB P w) P w K mg base N qual scope f cdv A outer s0 H0 E).env)] := by rfl) :
  PS (cxOf (CXB P w) P w K mg base N qual scope f cdv A outer s0 H0 E) (.Raise (some (.Call (.Name x np) [e] [] cpos)) none pos) (sRaise C te E) := by
 obtain ⟨nm, q, Nc, bs, bm, sn, sub, ab, col, dd, k0, k1, k2, k3, k5, mN, mB, tl, B1, cB, dB, cd, sB, oI, z1, z2, z3, z4, T, hh⟩ := xr
 intro pins s σ H D I h
 refine XC.raise_call (nm := nm) (q := q) (C := C) (N := Nc) (bs := bs) (hdct := true) (sn := sn) (sub := sub) (ab := ab) (col := col) (dd := dd) (k0 := k0) (k1 := k1) (k2 := k2) (k3 := k3) (k5 := k5) (cB := cB) (dB := dB) (cd := cd) (sB := sB) PySem.F.excBase_ValueError T hr.hd (by rw [hbk]; rfl) z1 z2 z3 z4 ?_
 refine ld_glob I hg hm ⟨rfl, ?_⟩ hdb
 rw [hbk]
 refine Calls.evalArgs_plain (Calls.spliced_cons (thn (he pins s σ H _ I h) fun u s1 ⟨y, H1, I1, ry, n, ey, hno, hE⟩ => Calls.spliced_nil ?_))
 subst ey
 obtain ⟨hC, hN, hB, hnB, hf⟩ := hh _ I1.kIn
 refine ⟨rfl, by show (1 : Nat) ≤ _; decide, hC, hN, hB, hnB, hf, fun h' a mx hs => ?_⟩
 obtain ⟨t, g1, g2, g3⟩ := mx.there
 have hna : H1 a = none := I1.hok.fresh hs
 have I2 := I1.laid (t' := s1.toks) (a := a) (o := .ext (exc0 a C)) (h' := h') mx.keeps hs (ext_ok ⟨_, _, g1, rfl, rfl, rfl, rfl, rfl⟩ ⟨_, g1⟩ fun h1 h2 ⟨o, ws, f1, f2⟩ kk => ⟨o, ws, kk _ f1, f2⟩)
 have r2 : Vals [V.ref a, V.int n] [Value.ref a, u] := .cons rfl (.cons ry .nil)
 have hq : spXI K [V.ref a, V.int n] (upd H1 a (.ext (exc0 a C))) (fun v H2 => v = .non ∧ ∃ d, (upd H1 a (.ext (exc0 a C))) d = none ∧ d ≠ a ∧ H2 = upd (upd (upd H1 a (.ext (exc0 a C))) d (.xd [("line", .int n)])) a (.ext (excN a C d))) (fun _ _ _ => False) :=
  ⟨a, C, n, rfl, hno, upd_same, x1, x2, fun d n1 n2 => ⟨rfl, d, n1, n2, rfl⟩⟩
 refine wpAny_call (codeAny_mono (F.run _ (cxOf (CXB P w) P w K mg base N qual scope f cdv A outer s0 H0 E).stack _ _ ⟨[Value.ref a, u], []⟩ [Value.ref a, u] _ _ (fun _ _ _ => False) (hr.make C [u] []) (I2.env0.make C [u] []) (hb _ [Value.ref a, u] I2.kIn rfl) r2 hq) fun r s' hq' => ?_)
 cases r with
 | error e => exact False.elim hq'
 | ok fl =>
  cases fl with
  | next => exact False.elim hq'
  | brk => exact False.elim hq'
  | cont => exact False.elim hq'
  | ret u' =>
   obtain ⟨v, H', I3, rv, ev, d, n1, n2, eH⟩ := I2.after hq'
   subst ev eH
   have n3 : H1 d = none := by rw [upd_ne n2] at n1; exact n1
   obtain ⟨⟨o, vs, e1, e2, e3, e4, e5, e6⟩, _, _⟩ := I3.hok a _ upd_same
   have I4 := I3.write (t' := s'.toks) (x := a) (e := a) (o := excH a C d) (h' := s'.heap) (by rw [upd_same]; trivial) (.inl rfl) (fun b v _ q => q) ⟨_, e1⟩ (ext_ok ⟨_, vs, e1, e2, e3, e4, e5⟩ ⟨_, e1⟩ fun h1 h2 ⟨o, ws, f1, f2⟩ kk => ⟨o, ws, kk _ f1, f2⟩)
   have eU : upd (upd (upd (upd H1 a (.ext (exc0 a C))) d (.xd [("line", .int n)])) a (.ext (excN a C d))) a (excH a C d) = upd (upd H1 d (.xd [("line", .int n)])) a (excH a C d) := by
    funext b
    by_cases hb : b = a
    ·subst hb; rw [upd_same, upd_same]
    ·rw [upd_ne hb, upd_ne hb, upd_ne hb]
     by_cases hd : b = d
     ·subst hd; rw [upd_same, upd_same]
     ·rw [upd_ne hd, upd_ne hd, upd_ne hb]
   rw [eU] at I4
   refine ⟨rv, o, vs, (hh _ I3.kIn).1, e1, e2, e4, e6, ?_⟩
   refine raiseB I4 upd_same ?_ e1 e4 e6 (hE a d hna n3 n2)
   cases q0 : s0.heap.get? a with
   | none => rfl
   | some o0 =>
    obtain ⟨o1, q1⟩ := I1.base.there a o0 q0 (by show a ∉ []; simp)
    have := mx.new
    rw [this] at q1
    cases q1
end L2
namespace L2
open PySem PySem.Spec PyProof.Rows
def GE (P : Program) (w : World) (K : PySem.W.Frag) (mg : Str → Option Value) (base : Heap) (x : Str) (ps : List Str) (k : Nat) (sp : Sp) : Prop :=
 ∃ f fd, mg x = some (.ref f) ∧ PySem.W.keepIn K (.ref f) = true ∧ Binds K fd ps [] ∧ FnOk P w K mg base (CXB P w) k f fd ps sp
def GX (P : Program) (w : World) (K : PySem.W.Frag) (mg : Str → Option Value) (base : Heap) (x : Str) (C : Addr) (k : Nat) : Prop :=
 mg x = some (.ref C) ∧ (∀ h, K.In h → XC1 h C) ∧ (∀ h, K.In h → XC2 h C) ∧ ∃ fI fd, XR K C fI ∧ Binds K fd ["self", "line"] [] ∧ FnOk P w K mg base CX0 k fI fd ["self", "line"] (spXI K)
section
variable {P : Program} {w : World} {K : PySem.W.Frag} {mg : Str → Option Value} {base : Heap} {x : Str} {st : Stmt} {N ps : List Str} {k : Nat} {sp : Sp}
theorem GE.mk (R : Raw K mg x st) (S : FnScope N ps (defScope st))
  (hb : ∀ (kV doc pm : Value) (an : Option Addr) (cdv ct : Value) (us : List Value), us.length = ps.length → bindArgs (PySem.W.fnOf x x (defArgs st) (defBody st) (defScope st) .none kV doc pm an cdv ct) ⟨us, []⟩ = pure (ps.zip us))
  (len : ∀ vs H Q E, sp vs H Q E → vs.length = ps.length)
  (hbody : ∀ (f : Addr) (cdv : Value) (A : Around) (outer : List Env) (s : Shared) (H : Hp) (vs : List V) (Q : VK) (E : XK), Room k (A.deeper (envOfC x (defScope st) s.heap.objs.size f cdv)) → sp vs H Q E →
   ∃ t, PSs (cxOf (CXB P w) P w K mg base N x (defScope st) f cdv A outer s H E) (defBody st) t ∧ t { nx := fun _ H' => Q .non H', rt := Q } (start N vs) H) : GE P w K mg base x ps (k + 1) sp := by
 obtain ⟨f, fd, e, F⟩ := R
 refine ⟨f, fd, e, F.kp, F.binds hb, ?_⟩
 obtain ⟨oc, od, kV, doc, pm, an, cdv, ct, osl, rfl, lk, hcd⟩ := F.ex
 exact fn_of lk hcd S len fun A outer s H vs Q E hr hsp => hbody f cdv A outer s H vs Q E hr hsp
theorem GX.mk {q : Str} {C fI : Addr} {fd : FuncData} (hm : mg x = some (.ref C)) (x1 : ∀ h, K.In h → XC1 h C) (x2 : ∀ h, K.In h → XC2 h C) (xr : XR K C fI) (F : Fun K "__init__" q st fI fd) (S : FnScope N ["self", "line"] (defScope st))
  (hb : ∀ (kV doc pm : Value) (an : Option Addr) (cdv ct : Value) (us : List Value), us.length = (["self", "line"] : List Str).length → bindArgs (PySem.W.fnOf "__init__" q (defArgs st) (defBody st) (defScope st) .none kV doc pm an cdv ct) ⟨us, []⟩ = pure ((["self", "line"] : List Str).zip us))
  (hbody : ∀ (f : Addr) (cdv : Value) (A : Around) (outer : List Env) (s : Shared) (H : Hp) (vs : List V) (Q : VK) (E : XK), Room k (A.deeper (envOfC q (defScope st) s.heap.objs.size f cdv)) → spXI K vs H Q E →
   ∃ t, PSs (cxOf CX0 P w K mg base N q (defScope st) f cdv A outer s H E).nox (defBody st) t ∧ t { nx := fun _ H' => Q .non H', rt := Q } (start N vs) H) : GX P w K mg base x C (k + 1) :=
 ⟨hm, x1, x2, fI, fd, xr, F.binds hb, F.ok S (fun vs H Q E ⟨a, C, n, e, _⟩ => by rw [e]; rfl) fun cdv A outer s H vs Q E hr h => hbody fI cdv A outer s H vs Q E hr h⟩
end
section
variable {P : Program} {w : World} {K : PySem.W.Frag} {mg : Str → Option Value} {base : Heap} {N : List Str} {qual : Str} {scope : Scope} {f : Addr} {cdv : Value} {A : Around} {outer : List Env} {s0 : Shared} {H0 : Hp} {E : XK}
variable {C : Addr} {k : Nat} {x : Str} {ps : List Str} {sp : Sp} {np cpos p pos : Pos} {e : Expr} {es : List Expr} {te : TE} {t : TA}
theorem ownB : PassesOwn (model P w) (cxOf (CXB P w) P w K mg base N qual scope f cdv A outer s0 H0 E).A (cxOf (CXB P w) P w K mg base N qual scope f cdv A outer s0 H0 E).env (cxOf (CXB P w) P w K mg base N qual scope f cdv A outer s0 H0 E).xe := PassesOwn.leaving
theorem ps_graise (G : GX P w K mg base x C k) (hr : Room (k + 1) (cxOf (CXB P w) P w K mg base N qual scope f cdv A outer s0 H0 E).A)
  (hg : Gl (cxOf (CXB P w) P w K mg base N qual scope f cdv A outer s0 H0 E) x) (he : PE (cxOf (CXB P w) P w K mg base N qual scope f cdv A outer s0 H0 E) e te) (hdb : (x == ("__debug__" : Str)) = false := by decide)
  (hbk : backTo cpos (starEach [e] (cxOf (CXB P w) P w K mg base N qual scope f cdv A outer s0 H0 E).env) = [(false, eval e (cxOf (CXB P w) P w K mg base N qual scope f cdv A outer s0 H0 E).env)] := by rfl) :
  PS (cxOf (CXB P w) P w K mg base N qual scope f cdv A outer s0 H0 E) (.Raise (some (.Call (.Name x np) [e] [] cpos)) none pos) (sRaise C te E) := by
 obtain ⟨hm, x1, x2, fI, fd, xr, hb, F⟩ := G
 exact ps_raise xr F hb x1 x2 hr hg hm he hdb hbk
end
end L2
namespace L2
open PySem PySem.Spec PyProof.Rows PySem.W
def tailN (K : Frag) (name : Str) (bmB : List Value) : List Value → Bool
 | [] => bmB == []
 | v :: r => (v :: r) == bmB || match v with
  | .ref A => (match K.lookup A with
   | some ⟨_, _, .cls cd, _⟩ => nsOkIn K cd.ns && nsIn K cd.ns name == some none && tailN K name bmB r
   | _ => false)
  | _ => false
theorem ownT_of {K : Frag} {h : Heap} {name : Str} {bmB : List Value} (X : K.In h) : ∀ {l : List Value}, tailN K name bmB l = true → XC.OwnT h name bmB l
 | [], e => by rw [← beq_iff_eq.mp e]; exact .base
 | v :: r, e => by
  unfold tailN at e
  rcases Bool.or_eq_true_iff.mp e with q | q
  ·rw [beq_iff_eq.mp q]; exact .base
  ·split at q
   ·split at q
    ·rename_i ho
     simp only [Bool.and_eq_true, beq_iff_eq] at q
     exact .own (X _ _ ho) (.of_isNs (isNs_of_in X q.1.1)) (nsMap_none_of_in X q.1.1 q.1.2) (ownT_of X q.2)
    ·cases q
   ·cases q
theorem tlHas_of {h : Heap} {name : Str} {bmB : List Value} : ∀ {l : List Value}, XC.OwnT h name bmB l → XC.TlHas bmB l
 | _, .base => ⟨fun _ _ e => e⟩
 | _, .own _ _ _ r => ⟨fun Y b e => by rw [List.contains_cons, (tlHas_of r).has Y b e]; exact Bool.false_or b⟩
theorem ns_some_of {K : Frag} {h : Heap} {N : Addr} {m : Str → Option Value} {n : Str} {v : Value} (X : K.In h) (G : h.Ns N m) (e : nsIn K N n = some (some v)) : m n = some v := by
 obtain ⟨o, es, ep, ho, hd, _, hf⟩ := G
 unfold nsIn at e
 split at e
 ·rename_i c d es' n' sl q
  have := X _ _ q
  rw [ho] at this
  cases this
  cases hd
  split at e
  ·rename_i y he
   cases e
   rw [← hf]
   unfold nsFind findBy
   rw [← Array.find?_toList, he]
   rfl
  ·split at e <;> cases e
 ·cases e
theorem nsMap_eq {K : Frag} {h h' : Heap} {N : Addr} (X : K.In h) (X' : K.In h') (e : nsOkIn K N = true) : h.nsMap N = h'.nsMap N := by
 unfold nsOkIn at e
 split at e
 ·rename_i ho
  funext y
  unfold Heap.nsMap
  rw [X _ _ ho, X' _ _ ho]
 ·cases e
def xIn (K : Frag) (C fI : Addr) : Bool := match K.lookup C with
 | some ⟨.type "type", _, .cls cd, sl⟩ => (match cd.mro, sl.toList with
  | .ref C' :: .ref B1 :: tl, [_, _, _, _, some (.builtin n), _] => C' == C && n == "ValueError.__new__" && !cd.hasDel && cd.hasDict && tailN K "line" bmVE (.ref B1 :: tl) && tailN K "__setattr__" bmVE (.ref B1 :: tl) && nsOkIn K cd.ns && nsIn K cd.ns "__init__" == some none &&
    nsIn K cd.ns "line" == some none && nsIn K cd.ns "__setattr__" == some none && (match K.lookup B1 with | some ⟨_, _, .cls cdB, _⟩ => nsOkIn K cdB.ns && nsIn K cdB.ns "__init__" == some (some (.ref fI)) | _ => false) && (match K.lookup fI with | some ⟨.type "function", _, _, _⟩ => true | _ => false)
  | _, _ => false)
 | _ => false
theorem x_of_in {K : Frag} {C fI : Addr} {h0 : Heap} (X0 : K.In h0) (q : xIn K C fI = true) : (∀ h, K.In h → XC1 h C) ∧ (∀ h, K.In h → XC2 h C) ∧ XR K C fI := by
 unfold xIn at q
 split at q
 ·rename_i dd cd sl ho
  split at q
  ·rename_i C' B1 tl k0 k1 k2 k3 n k5 hm hs
   simp only [Bool.and_eq_true, beq_iff_eq, Bool.not_eq_true'] at q
   obtain ⟨⟨⟨⟨⟨⟨⟨⟨⟨⟨⟨rfl, rfl⟩, hdel⟩, hdct⟩, t1⟩, t2⟩, hok⟩, i1⟩, i2⟩, i3⟩, hB⟩, hf⟩ := q
   obtain ⟨nm, bs, mro, ns, qn, hd, sn, sub, ab, col, del⟩ := cd
   dsimp only at hm hdel hdct hok i1 i2 i3
   subst hm hdel hdct
   have hsl : sl = #[k0, k1, k2, k3, some (.builtin "ValueError.__new__"), k5] := by
    obtain ⟨l⟩ := sl
    simp only at hs
    rw [hs]
   subst hsl
   split at hB
   ·rename_i cB dB cdB sB hoB
    simp only [Bool.and_eq_true, beq_iff_eq] at hB
    split at hf
    ·rename_i ofd ofa ofs hof
     refine ⟨fun h X => ?_, fun h X => ?_, ?_⟩
     ·exact ⟨nm, qn, ns, bs, _, sn, sub, ab, col, dd, k0, k1, k2, k3, k5, _, _, X _ _ ho, .of_isNs (isNs_of_in X hok), nsMap_none_of_in X hok i2, nsMap_none_of_in X hok i3, ownT_of X t1, ownT_of X t2⟩
     ·exact ⟨nm, qn, ns, bs, _, sn, sub, ab, col, dd, k0, k1, k2, k3, k5, X _ _ ho, tlHas_of (ownT_of X t1)⟩
     ·refine ⟨nm, qn, ns, bs, _, sn, sub, ab, col, dd, k0, k1, k2, k3, k5, h0.nsMap ns, h0.nsMap cdB.ns, tl, B1, cB, dB, cdB, sB, _, nsMap_none_of_in X0 hok i1, rfl, ns_some_of X0 (.of_isNs (isNs_of_in X0 hB.1)) hB.2, rfl, tlHas_of (ownT_of X0 t1), fun h X => ⟨X _ _ ho, ?_, X _ _ hoB, ?_, X _ _ hof⟩⟩
      ·rw [nsMap_eq X0 X hok]; exact .of_isNs (isNs_of_in X hok)
      ·rw [nsMap_eq X0 X hB.1]; exact .of_isNs (isNs_of_in X hB.1)
    ·cases hf
   ·cases hB
  ·cases q
 ·cases q
end L2
namespace L2
open PySem PySem.Spec PyProof.Rows
def tBoth (sp sp' : Sp) (E : XK) (t : TA) : TE := fun σ H Q => t σ H fun vs H1 => sp vs H1 Q E0 ∨ sp' vs H1 Q E
section
variable {P : Program} {w : World} {K : PySem.W.Frag} {mg : Str → Option Value} {base : Heap} {N : List Str} {qual : Str} {scope : Scope} {f : Addr} {cdv : Value} {A : Around} {outer : List Env} {s0 : Shared} {H0 : Hp} {E : XK}
variable {k k' : Nat} {x : Str} {ps ps' : List Str} {sp sp' : Sp} {p pos : Pos} {e : Expr} {es : List Expr} {t : TA}
theorem pe_bothN (G : GF P w K mg base x ps k sp) (G' : GE P w K mg base x ps' k' sp') (hr : Room k (cxOf (CXB P w) P w K mg base N qual scope f cdv A outer s0 H0 E).A) (hr' : Room k' (cxOf (CXB P w) P w K mg base N qual scope f cdv A outer s0 H0 E).A) (hg : Gl (cxOf (CXB P w) P w K mg base N qual scope f cdv A outer s0 H0 E) x)
  (ha : PA (cxOf (CXB P w) P w K mg base N qual scope f cdv A outer s0 H0 E) (e :: es) t) (hdb : (x == ("__debug__" : Str)) = false := by decide) (h : (e :: es).all noStar = true := by rfl) :
  PE (cxOf (CXB P w) P w K mg base N qual scope f cdv A outer s0 H0 E) (.Call (.Name x p) (e :: es) [] pos) (tBoth sp sp' E t) := by
 obtain ⟨f1, fd, hm, _, hk, hb, F⟩ := G
 obtain ⟨f2, fd', hm', hk', hb', F'⟩ := G'
 obtain rfl : f1 = f2 := by rw [hm] at hm'; cases hm'; rfl
 intro pins s σ H Q I hw
 refine wpAny_Call_Name_kw (ld_glob I hg hm ?_ hdb)
 refine PySem.W.callWith_K (h₀ := base) I.ok.mod.kin hk (thn (ha pos pins s σ H _ I hw) fun us s1 ⟨vs, H1, I1, r, q⟩ => ⟨I1.kIn, ?_⟩) (star_ns (Bool.and_eq_true_iff.mp h).1) (any_ns (Bool.and_eq_true_iff.mp h).2)
 rcases q with q | q
 ·exact run_fn (dvs := []) F hr hb .nil pass0 I1 r (by rw [List.append_nil]; exact q)
 ·exact run_fn (dvs := []) F' hr' hb' .nil passB I1 r (by rw [List.append_nil]; exact q)
end
end L2
namespace XC
open PySem PySem.W PySem.Spec PySem.Calls PyProof.Rows
section
variable {prog : Program} {w : World} {A : Around} {E : Value → Shared → Prop} {h : Heap} {g : Array GenState} {d : Drawn} {t : Nat} {os : OsState} {K : Frag} {a C : Addr} {o : Obj} {od : Option Obj} {name : Str} {v : Value}
theorem check_ga {M : Model} {nameV : Value} {Q : Unit → Shared → Prop} (X : K.In h) (hx : h.get? a = some o) (hc : o.cls = .ref C) (hm : mroIn K C (.type "BaseException") = some true) (hq : Q () ⟨h, g, d, t, os⟩) :
  wpAny M A (checkBuiltinCall "BaseException.__getattribute__" ⟨[.ref a, nameV], []⟩) Q E ⟨h, g, d, t, os⟩ := by
 have hk : builtinKind "BaseException.__getattribute__" = some .slot := by decide +kernel
 have hsplit : splitId "BaseException.__getattribute__" = some ("BaseException", "__getattribute__") := by decide +kernel
 have ha := F.args_bexc_ga (.ref a) nameV
 have L := looks_mroIn (M := M) X hm
 simp only [checkBuiltinCall, hk, hsplit]
 refine wpAny_bind ?_
 ·unfold isInstance
  repeat (first | (with_reducible refine wpAny_loadPart_at hx ?_; rw [hc]) | with_reducible refine L.at ?_ | wp_step)
  exact hq
theorem entry_ga {tk : Tok} {Q : PySem.Fin → Shared → Prop} (X : K.In h) (J : InstAt h a o C od) (hf : findObj K C od name = some (.value v)) (hq : Q (.done (.ret v)) ⟨h, g, d, t, os⟩) :
  wpAny (model prog w) A (Builtin.«object.__getattribute__» ⟨[.ref a, .str name tk], []⟩) Q E ⟨h, g, d, t, os⟩ := by
 have LF := looks_find (M := model prog w) X J hf
 have hx := J.at_
 have hc := J.cls
 repeat (any_goals (first | assumption | (with_reducible refine wpAny_loadPart_at hx ?_; rw [hc]) | with_reducible refine LF.at ?_ | wp_step))
theorem exc_attr {expr : Bool} {Q : Value → Shared → Prop} (X : K.In h) (J : InstAt h a o C od) (hga : findIn K (.ref C) "__getattribute__" = some (some (.builtin "BaseException.__getattribute__"))) (hgt : findIn K (.ref C) "__getattr__" = some none)
  (hm : mroIn K C (.type "BaseException") = some true) (hf : findObj K C od name = some (.value v)) (hv : handedIn v = true) (hq : Q v ⟨h, g, d, t + 1, os⟩) :
  wpAny (model prog w) A (getAttr (.ref a) name expr) Q E ⟨h, g, d, t, os⟩ := by
 have hx := J.at_
 have hc := J.cls
 have L1 := looks_findIn (M := model prog w) X hga
 have L2 := looks_findIn (M := model prog w) X hgt
 have hh := handedOut_of hv
 have FG : Slot "ValueError" "__getattribute__" "BaseException.__getattribute__" := F.attr_ValueError.ga
 have f3 := FG.bind (.ref a)
 have hx0 : (expr && onTheHeap (Value.builtin "BaseException.__getattribute__")) = false := by cases expr <;> rfl
 have hx2 : (Value.builtin "BaseException.__getattribute__" == Value.builtin "object.__getattribute__") = false := by decide +kernel
 have hx1 : (onTheHeap (Value.ref C) && Value.builtin "BaseException.__getattribute__" == Value.builtin "object.__getattribute__") = false := by rw [hx2]; rfl
 have go : ∀ tk : Tok, wpAny (model prog w) A (getAttrBy (.ref a) (.str name tk) true expr) Q E ⟨h, g, d, t + 1, os⟩ := fun tk => by
  repeat (any_goals (first | assumption | (with_reducible refine wpAny_loadPart_at hx ?_; rw [hc]) | with_reducible refine L1.at ?_ | with_reducible refine L2.at ?_ | wp_step))
  refine codeAny_call_builtin FG.plain F.entry_bexc_ga (check_ga X hx hc hm (entry_ga X J hf ?_))
  show wpAny _ _ (handedOut v) _ _ _
  rw [hh]
  exact wpAny_pure hq
 unfold getAttr
 repeat (any_goals (first | assumption | with_reducible apply go | wp_step))
theorem exc_isi {c : Value} (hs : kitCls K (.ref C) c = some true) (hne : (Value.ref C == c) = false) : Answers (fun s => K.In s.heap ∧ InstAt s.heap a o C od) (.ref a) c true := by
 intro dep tk prog w A R s hs'
 obtain ⟨h0, g, d, tt, os⟩ := s
 obtain ⟨⟨X, p⟩, hq⟩ := hs'
 have LT : Looks (model prog w) h0 (typeOf (.ref a)) (.ref C) := p.type
 unfold Builtin.«isinstance.nested»
 refine wpAny_bind (LT.at ?_)
 rw [if_neg (by rw [hne]; exact Bool.false_ne_true)]
 obtain ⟨hty, his, hsub⟩ := kit_cls (M := model prog w) X hs
 have LI : Looks (model prog w) h0 (isInstance (.ref a) c) true := LT.andThen hsub
 refine wpAny_bind (hty.at ?_)
 rw [if_pos (by decide)]
 k_delta "plainIsInstance"
 refine wpAny_bind (wpAny_bind (his.at ?_))
 simp only [Bool.not_true, Bool.false_eq_true, if_false]
 refine wpAny_bind (LI.at ?_)
 first
  | exact wpAny_pure (wpAny_pure (hq tt))
  | (simp only [if_true]; first | exact wpAny_pure (wpAny_pure (hq tt)) | exact wpAny_pure (hq tt) | exact wpAny_bind (wpAny_pure (wpAny_pure (hq tt))))
theorem exc_isinst {c : Value} {s : Shared} {Q : Value → Shared → Prop} (hs : kitCls K (.ref C) c = some true) (hne : (Value.ref C == c) = false) (X : K.In s.heap) (p : InstAt s.heap a o C od) (hq : ∀ tk, Q (.bool true) { s with toks := tk }) :
  wpAny (model prog w) A (call (.builtin "isinstance") [.ref a, c]) Q E s :=
 call_isinstance (S := fun _ R s => (K.In s.heap ∧ InstAt s.heap a o C od) ∧ ∀ tk, R (.ok (.ret (.bool true))) { s with toks := tk })
  (fun prog w A R s hs' => isinstance_outer (exc_isi hs hne 0 _ prog w A R s hs') (fun z => nomatch z)) ⟨⟨X, p⟩, hq⟩
end
end XC
namespace L2
open PySem PySem.Spec PyProof.Rows
abbrev Cx.mkd (X : Cx) (a : Addr) : Cx := { X with A := X.A.mark (some (.ref a)), calm := false, xe := fun _ _ => False }
section
variable {X : Cx} {pins : List (Addr × Obj)} {σ : St} {H : Hp} {s : Shared}
theorem Inv.mkd (I : Inv X pins σ H s) (a : Addr) : Inv (X.mkd a) pins σ H s :=
 ⟨⟨I.ok.mod, I.ok.kind, I.ok.glob, I.ok.blt, I.ok.above, I.ok.inj, I.ok.has, I.ok.cab, (fun z => by cases z), I.ok.frames, I.ok.stk, I.ok.exf, I.ok.bs, I.ok.bsz, I.ok.noex, I.ok.exfs, I.ok.funs, I.ok.frf⟩, I.os, I.bare, I.base, I.loc, I.cell, I.free, I.freeC, I.pin, I.hok, I.len⟩
theorem Inv.unmkd {a : Addr} (I0 : X.Ok) (I : Inv (X.mkd a) pins σ H s) : Inv X pins σ H s :=
 ⟨I0, I.os, I.bare, I.base, I.loc, I.cell, I.free, I.freeC, I.pin, I.hok, I.len⟩
theorem forget_ok {M : Model} {A : Around} {E : Value → Shared → Prop} {i : Nat} {x : Str} {pos : Pos} {Q : Unit → Shared → Prop} (I : Inv X pins σ H s) (hN : X.N.Nodup) (hi : X.N[i]? = some x) (hx : X.env.scope.names.lookup x = some .local)
  (h : ∀ s', Inv X pins (σ.set i none) H s' → Q () s') : wpAny M A (do bindName X.env x .none; unbindBehindTheSuite X.env x pos) Q E s := by
 have hcls : (X.env.scope.kind == .class || (X.env.scope.kind == .module && X.env.locals != X.env.globals)) = false := by rw [I.ok.kind]; rfl
 have hiσ : i < σ.length := by rw [I.len]; exact (List.getElem?_eq_some_iff.mp hi).1
 refine wpAny_bind (wpAny_bindName (store_ok (v := .non) I hN hi (.inl hx) rfl (fun s1 I1 => ?_) (.inr hx)))
 unfold unbindBehindTheSuite
 refine wpAny_onRaise ?_
 obtain ⟨m, hn, hl⟩ := id I1.loc
 obtain ⟨u, ru, lk⟩ := hl i x .non hi (List.getElem?_set_self hiσ) (.inl hx)
 have hv : m x = some u := by
  rcases lk with ⟨_, q⟩ | ⟨q, _⟩
  ·exact q
  ·have q' : X.env.scope.names.lookup x = some .cell ∨ X.env.scope.names.lookup x = some .free := q
   rw [hx] at q'
   rcases q' with q' | q' <;> cases q'
 refine wpAny_unbindName_local hx hn hv hcls fun h' u' hn' hs => h _ ?_
 obtain ⟨oL, _, _, hoL, _⟩ := id hn
 have cne := I1.cne
 refine ⟨I1.ok, I1.os, I1.bare, ⟨fun b o e n hb hx => ?_, fun b o e n hb hx => ?_, I1.base.free, fun b o e hx => ?_, I1.base.tups, I1.base.frzs, I1.base.tbls⟩, ⟨_, hn', fun j y v' e1 e2 e3 => ?_⟩, fun y c e => ?_, I1.free, I1.freeC, fun p hp => ?_, fun b ob e => ?_, by simpa using I.len⟩
 ·exact (hs.2 b (Nat.ne_of_lt (Nat.lt_of_lt_of_le (Heap.lt_size e) I1.ok.above))).trans (I1.base.keep b o e n hb hx)
 ·obtain ⟨sl, e1⟩ := I1.base.slot b o e n hb hx
  exact ⟨sl, (hs.2 b (Nat.ne_of_lt (Nat.lt_of_lt_of_le (Heap.lt_size e) I1.ok.above))).trans e1⟩
 ·obtain ⟨o', e1⟩ := I1.base.there b o e hx
  exact ⟨o', (hs.2 b (Nat.ne_of_lt (Nat.lt_of_lt_of_le (Heap.lt_size e) I1.ok.above))).trans e1⟩
 ·by_cases hj : j = i
  ·subst hj
   rw [List.getElem?_set_self hiσ] at e2
   cases e2
  ·rw [List.getElem?_set_ne (Ne.symm hj)] at e2
   obtain ⟨w', r', q⟩ := hl j y v' e1 (by rw [List.getElem?_set_ne (Ne.symm hj)]; exact e2) e3
   refine ⟨w', r', ?_⟩
   rcases q with ⟨k, e⟩ | ⟨k, c, e, z⟩
   ·refine .inl ⟨k, ?_⟩
    have : y ≠ x := fun e => hj (nodup_ix hN e1 (e ▸ hi))
    simp [this, e]
   ·exact .inr ⟨k, c, e, z.sameBut hs (cne y c e)⟩
 ·obtain ⟨w', z⟩ := I1.cell y c e
  exact ⟨w', z.sameBut hs (cne y c e)⟩
 ·obtain ⟨e, n, ne, nf, d⟩ := I1.pin p hp
  exact ⟨(hs.2 p.1 ne).trans e, n, ne, nf, d⟩
 ·refine (I1.hok b ob e).stay (fun c w' hc q => (hs.2 c ?_).trans q) (fun _ q => q) fun _ _ q => q
  rintro rfl
  have hf : H X.env.locals = none := I1.free
  rcases hc with z | hc
  ·rw [← z, hf] at e; cases e
  ·rw [hf] at hc; cases hc
structure TrX (X : Cx) (pins : List (Addr × Obj)) (H : Hp) (h : Heap) (a : Addr) (T : Addr) : Prop where
 exc : ∃ o vs, h.get? a = some o ∧ o.data = .fields vs ∧ vs[1]? = some (.ref T)
 tb : ∃ oT ts, h.get? T = some oT ∧ oT.data = .fields ts ∧ 3 < ts.size
 ne : T ≠ a
 free : H T = none
 loc : T ≠ X.env.locals
 new : X.s₀.heap.objs.size ≤ T
 cell : ∀ x c, X.env.cells.lookup x = some c → c ≠ T
 pin : ∀ p ∈ X.pn ++ pins, p.1 ≠ T
theorem land_ok {M : Model} {A : Around} {E : Value → Shared → Prop} {a T : Addr} {Q : Unit → Shared → Prop} (I : Inv X pins σ H s) (tr : TrX X pins H s.heap a T) (h : ∀ s', Inv X pins σ H s' → TrX X pins H s'.heap a T → Q () s') : wpAny M A (setFlight (.ref a) none) Q E s := by
 obtain ⟨o, vs, e1, e2, e3⟩ := tr.exc
 obtain ⟨oT, ts, t1, t2, t3⟩ := tr.tb
 refine wpAny_setFlight_none e1 e2 e3 t1 t2 t3 (h _ ?_ ?_)
 ·exact I.turned (t' := s.toks) (it := T) (fun b o hb q => (Heap.get?_update_other _ _ (Ne.symm hb)).trans q) tr.free tr.loc (.inr tr.new) tr.cell tr.pin
 ·exact ⟨⟨o, vs, (Heap.get?_update_other _ _ tr.ne).trans e1, e2, e3⟩, ⟨_, _, Heap.get?_update_self _ t1 (Obj.isFreed_of_fields (Obj.data_mapFields t2 _)), Obj.data_mapFields t2 _, by simpa using t3⟩, tr.ne, tr.free, tr.loc, tr.new, tr.cell, tr.pin⟩
end
def PH (X : Cx) (hs : List ExceptHandler) (th : Addr → Addr → TS) : Prop :=
 ∀ (pins : List (Addr × Obj)) (s : Shared) (σ : St) (H : Hp) (D : Ends) (a C d T : Addr), Inv X pins σ H s → H a = some (excH a C d) → TrX X pins H s.heap a T → th C a D σ H → wpAny (model X.prog X.w) X.A (handleBy (.ref a) X.env hs) (SP X pins D) X.xe s
def thNone : Addr → Addr → TS := fun _ _ _ _ _ => False
def thOn (K : PySem.W.Frag) (Ci : Addr) (i : Nat) (ts : TS) (th : Addr → Addr → TS) : Addr → Addr → TS := fun C a D σ H => ∃ b, PySem.W.exmOne K (.ref C) (.ref Ci) = some b ∧
 if b = true then ts { nx := fun σ' H' => D.nx (σ'.set i none) H', rt := fun _ _ => False } (σ.set i (some (.ref a))) H else th C a D σ H
section
variable {X : Cx}
theorem ph_nil : PH X [] thNone := fun _ _ _ _ _ _ _ _ _ _ _ _ z => z.elim
theorem ph_cons {K : PySem.W.Frag} {x n : Str} {np pos : Pos} {i : Nat} {b₀ : Stmt} {suite : List Stmt} {rest : List ExceptHandler} {Ci : Addr} {ts : TS} {th : Addr → Addr → TS} (hK : X.K = K) (hg : Gl X x) (hm : X.mg x = some (.ref Ci)) (hN : X.N.Nodup) (hi : X.N[i]? = some n) (hl : X.env.scope.names.lookup n = some .local)
  (hs : ∀ a, PSs (X.mkd a) (b₀ :: suite) ts) (hr : PH X rest th) (hdb : (x == ("__debug__" : Str)) = false := by decide) : PH X (.ExceptHandler (some (.Name x np)) (some n) (b₀ :: suite) pos :: rest) (thOn K Ci i ts th) := by
 subst hK
 intro pins s σ H D a C d T I ha tr h
 obtain ⟨b, eb, h⟩ := h
 refine wpAny_handleBy_cons (codeAny_handlers_test (ld_glob (I.mkd a) hg hm ?_ hdb)) (by intro q; cases q)
 obtain ⟨o, vs, e1, e2, e3, e4, e5⟩ := (I.hok a _ ha).1
 have LT : PySem.W.Looks (model X.prog X.w) s.heap (typeOf (.ref a)) (.ref C) := e2 ▸ (PySem.W.Looks.ld e1).andThen .now
 refine (PySem.W.exm_one I.kIn LT eb).here ?_
 cases b with
 | false => exact hr pins s σ H D a C d T I ha tr (by rw [if_neg Bool.false_ne_true] at h; exact h)
 | true =>
  rw [if_pos rfl] at h
  refine codeAny_handlers_suite_as ?_
  refine land_ok I tr fun s1 I1 tr1 => ?_
  refine store_ok (v := .ref a) I1 hN hi (.inl hl) rfl (fun s2 I2 => ?_) (.inr hl)
  refine wpAny_mono (hs a pins s2 _ H _ (I2.mkd a) h) (fun f s3 q => ?_) fun _ _ z => z.elim
  cases f with
  | next =>
   obtain ⟨σ', H', I3, q⟩ := q
   exact forget_ok (I3.unmkd I.ok) hN hi hl fun s4 I4 => ⟨_, _, I4, q⟩
  | ret u => obtain ⟨_, _, _, _, _, z⟩ := q; exact z.elim
  | brk => obtain ⟨_, _, _, z⟩ := q; exact z.elim
  | cont => obtain ⟨_, _, _, z⟩ := q; exact z.elim
end
section
variable {M : Model} {A : Around} {E : Value → Shared → Prop} {s : Shared}
theorem note_next {base : Heap} {env : Env} {outer : List Env} {L e T0 : Addr} {oe oT : Obj} {vs ts : Array Value} {Q : Unit → Shared → Prop}
  (hfr : A.frames = some (env :: outer)) (hl : s.heap.FunFrames base (env :: outer)) (hf : env.frame = some L) (he : s.heap.get? e = some oe) (hd : oe.data = .fields vs) (h1 : vs[1]? = some (.ref T0)) (hne : T0 ≠ e)
  (hT : s.heap.get? T0 = some oT) (hdT : oT.data = .fields ts) (h3 : ts[3]? = some .none)
  (h : ∀ h0 h' T, (∀ b, b ≠ T0 → h0.get? b = s.heap.get? b) → h0.objs.size = s.heap.objs.size → LeftX ((env :: outer).filterMap (·.frame)) e oe T h0 h' → Q () { s with heap := h' }) :
  wpAny M A (noteFrame (.ref e) env) (fun _ s' => wpAny M A (setFlight (.ref e) none) Q E s') E s := by
 unfold noteFrame
 simp only [hf]
 refine wpAny_bind (wpAny_field he hd h1 ?_)
 rw [if_pos (show (Value.ref T0 != Value.none) = true from by simp)]
 refine wpAny_bind (wpAny_field hT hdT h3 ?_)
 rw [if_neg (show ¬ ((Value.none == rawInt L) = true) from by simp [rawInt])]
 refine wpAny_bind (wpAny_setField hT hdT (Array.getElem?_eq_some_iff.mp h3).1 ?_)
 have other : ∀ b, b ≠ T0 → (s.heap.update T0 (Obj.mapFields (·.setIfInBounds 3 Value.none))).get? b = s.heap.get? b := fun b hb => Heap.get?_update_other _ _ (Ne.symm hb)
 have hl' : (s.heap.update T0 (Obj.mapFields (·.setIfInBounds 3 Value.none))).FunFrames base (env :: outer) := hl.of_keeps fun b o hb hnf => ⟨o, (other b fun q => by
  rw [q, hT] at hb
  cases hb
  exact hnf ts hdT).trans hb, rfl⟩
 exact entry_x (s := { s with heap := s.heap.update T0 (Obj.mapFields (·.setIfInBounds 3 Value.none)) }) hfr hl' hf ((other e (Ne.symm hne)).trans he) hd (Array.getElem?_eq_some_iff.mp h1).1 fun h' T x => h _ h' T other (by simp [Heap.update]) x
end
section
variable {X : Cx} {pins : List (Addr × Obj)} {σ : St} {H : Hp} {s s' : Shared}
theorem caughtB {e : Value} {E : XK} {Q : Unit → Shared → Prop} {E' : Value → Shared → Prop} (hst : X.stack = X.env :: X.outer) (hfr : X.env.frame = some X.env.locals) (I : Inv X pins σ H s) (h : CXB X.prog X.w X.stack H s E e s')
  (k : ∀ a C d T H' s2, e = .ref a → Inv X pins σ H' s2 → H' a = some (excH a C d) → TrX X pins H' s2.heap a T → E e (some a) H' → Q () s2) :
  wpAny (model X.prog X.w) X.A (noteFrame e X.env) (fun _ s2 => wpAny (model X.prog X.w) X.A (setFlight e none) Q E' s2) E' s' := by
 obtain ⟨a, C, d, H', rfl, os, bare, un, hok, ha, hna, tr, hE⟩ := h
 have J := I.call' os un hok bare (fun b z => absurd z (by simp))
 obtain ⟨oe, vs, T0, oT, ts, he, hd, h1, hne, hT0n, hT0H, hT, hdT, h3⟩ := tr
 have fr := J.ok.frames
 have st := J.stack
 rw [hst] at fr st
 refine note_next fr st hfr he hd h1 hne hT hdT h3 fun h0 h' T k0 k1 x => ?_
 have hfs : ∀ b, b ∈ (X.env :: X.outer).filterMap (·.frame) ↔ b ∈ frs X.stack := fun b => by rw [hst]; exact Iff.rfl
 obtain ⟨oe', vs', e1, e2, e3, e4, e5⟩ := (hok a _ ha).1
 rw [he] at e1
 cases e1
 rw [hd] at e4
 cases e4
 have na : ∀ b o, s.heap.get? b = some o → b ≠ a := fun b o q z => by rw [z, hna] at q; cases q
 have nT0 : ∀ b o, s.heap.get? b = some o → b ≠ T0 := fun b o q z => by rw [z, hT0n] at q; cases q
 have sT : s'.heap.objs.size ≤ T := by rw [← k1]; exact x.new
 have u2 : Un (frs X.stack) [] H H' s.heap h' := by
  refine ⟨fun b o q n hb _ => ?_, fun b o q n hb _ => ?_, un.free, fun b o q _ => ?_, un.tups, un.frzs, un.tbls⟩
  ·exact x.keep b o ((k0 b (nT0 b o q)).trans (un.keep b o q n hb (by simp))) (na b o q) fun z => hb ((hfs b).mp z)
  ·obtain ⟨sl, q1⟩ := un.slot b o q n hb (by simp)
   obtain ⟨sl2, q2⟩ := x.slot b _ ((k0 b (nT0 b o q)).trans q1) (na b o q)
   exact ⟨sl2, q2⟩
  ·obtain ⟨o', q1⟩ := un.there b o q (by simp)
   obtain ⟨sl2, q2⟩ := x.slot b _ ((k0 b (nT0 b o q)).trans q1) (na b o q)
   exact ⟨_, q2⟩
 have hok2 : HOk X.prog X.w H' h' := fun c u hc => by
  by_cases hca : c = a
  ·subst hca
   rw [ha] at hc
   cases hc
   have d1 := Obj.data_mapFields hd (·.setIfInBounds 1 (Value.ref T))
   refine ⟨⟨_, _, x.exc, (Obj.cls_mapFields _ _).trans e2, ?_, d1, by simp [e5]⟩, ⟨_, x.exc⟩, fun h1 h2 ⟨o, ws, f1, f2⟩ k => ⟨o, ws, k _ f1, f2⟩⟩
   rw [← e3]
   unfold Obj.mapFields
   split <;> rfl
  ·refine (hok c u hc).stay (fun b v hb q => ?_) (fun _ q => q) fun _ _ q => q
   have hbt : ∃ y, H' b = some y := by
    rcases hb with z | z
    ·exact ⟨_, by rw [z]; exact hc⟩
    ·exact ⟨_, z⟩
   obtain ⟨y, hy⟩ := hbt
   refine x.keep b v ((k0 b fun z => by rw [z, hT0H] at hy; cases hy).trans q) (fun z => ?_) fun z => by rw [J.stkFree b ((hfs b).mp z)] at hy; cases hy
   rcases hb with w | w
   ·exact hca (w.symm.trans z)
   ·rw [z, ha] at w; cases w
 have J2 : Inv X pins σ H' { s' with heap := h' } := I.call' (s' := { s' with heap := h' }) os u2 hok2 bare (fun b z => absurd z (by simp))
 obtain ⟨oT', ts', t1, t2, t3⟩ := x.tb
 refine k a C d T H' _ rfl J2 ha ⟨⟨_, _, x.exc, Obj.data_mapFields hd _, ?_⟩, ⟨oT', ts', t1, t2, (Array.getElem?_eq_some_iff.mp t3).1⟩, fun z => ?_, J.hok.fresh sT, fun z => ?_, Nat.le_trans J.sz sT, fun y c hc z => ?_, fun p hp z => ?_⟩ hE
 ·have : 1 < vs.size := by rw [e5]; decide
  simp [this]
 ·rw [z] at sT; exact absurd (Heap.lt_size he) (Nat.not_lt.mpr sT)
 ·obtain ⟨m, ⟨o, _, _, ho, _⟩, _⟩ := J.loc
  rw [z] at sT; exact absurd (Heap.lt_size ho) (Nat.not_lt.mpr sT)
 ·obtain ⟨v, o, ho, _⟩ := J.cell y c hc
  rw [← z] at sT; exact absurd (Heap.lt_size ho) (Nat.not_lt.mpr sT)
 ·obtain ⟨q, _⟩ := J.pin p hp
  rw [← z] at sT; exact absurd (Heap.lt_size q) (Nat.not_lt.mpr sT)
end
def sTry (sp : Sp) (t : TA) (th : Addr → Addr → TS) : TS := fun D σ H => t σ H fun vs H1 => sp vs H1 (fun _ H2 => D.nx σ H2) fun v _ H2 => ∃ a C d, v = .ref a ∧ H2 a = some (excH a C d) ∧ th C a D σ H2
section
variable {X : Cx} {k : Nat} {x : Str} {ps : List Str} {sp : Sp} {p pos cpos epos : Pos} {e : Expr} {es : List Expr} {t : TA} {h₀ : ExceptHandler} {hs : List ExceptHandler} {th : Addr → Addr → TS}
theorem ps_try (G : GE X.prog X.w X.K X.mg X.base x ps k sp) (hr : Room k X.A) (hg : Gl X x) (hst : X.stack = X.env :: X.outer) (hfr : X.env.frame = some X.env.locals) (ha : PA X.nox (e :: es) t) (hh : PH X (h₀ :: hs) th) (hdb : (x == ("__debug__" : Str)) = false := by decide) (h : (e :: es).all noStar = true := by rfl)
  (hsw : swapsWith (.Call (.Name x p) (e :: es) [] cpos) none epos.line X.env = pure false := by rfl) : PS X (.Try [.Expr (.Call (.Name x p) (e :: es) [] cpos) epos] (h₀ :: hs) [] [] pos) (sTry sp t th) := by
 obtain ⟨f, fd, hm, hk, hb, F⟩ := G
 intro pins s σ H D I hw
 refine wpAny_Try_except ?_
 have go : wpAny (model X.prog X.w) X.A (eval (.Call (.Name x p) (e :: es) [] cpos) X.env) (EP X pins σ fun _ H2 => D.nx σ H2)
   (fun v s1 => wpAny (model X.prog X.w) X.A (noteFrame v X.env) (fun _ s2 => wpAny (model X.prog X.w) X.A (setFlight v none) (fun _ s3 => wpAny (model X.prog X.w) X.A (handleBy v X.env (h₀ :: hs)) (SP X pins D) X.xe s3) X.xe s2) X.xe s1) s := by
  refine wpAny_Call_Name_kw (ld_glob I hg hm ?_ hdb)
  refine PySem.W.callWith_K (h₀ := X.base) I.ok.mod.kin hk (wpAny_mono (ha cpos pins s σ H _ (I.wish _) hw) (fun us s1 ⟨vs, H1, I1, r, q⟩ => ⟨I1.kIn, ?_⟩) fun _ _ z => False.elim z) (star_ns (Bool.and_eq_true_iff.mp h).1) (any_ns (Bool.and_eq_true_iff.mp h).2)
  have I1 := I1.unwish
  have hl : us.length = ps.length := by rw [← r.length]; exact F.len _ _ _ _ q
  refine wpAny_call (codeAny_mono (F.run X.A X.stack s1 H1 ⟨us, []⟩ us vs _ _ hr I1.env0 (by have := hb s1 us I1.kIn (by rw [List.append_nil]; exact hl); rw [List.append_nil] at this; exact this) r q) fun r s' hq => ?_)
  cases r with
  | error v =>
   have hq : CXB X.prog X.w X.stack H1 s1 (fun v _ H2 => ∃ a C d, v = .ref a ∧ H2 a = some (excH a C d) ∧ th C a D σ H2) v s' := hq
   refine caughtB hst hfr I1 hq fun a C d T H2 s2 ev I2 ea tr hE => ?_
   obtain ⟨a', C', d', rfl, ea', hth⟩ := hE
   cases ev
   exact hh pins s2 σ H2 D a C' d' T I2 ea' tr hth
  | ok fl =>
   cases fl with
   | ret u => exact I1.after hq
   | next => exact False.elim hq
   | brk => exact False.elim hq
   | cont => exact False.elim hq
 refine wpAny_execs_cons (wpAny_Expr_any (thn go fun v s1 ⟨x, H1, I1, r1, q1⟩ => ?_) I.quiet hsw)
 exact wpAny_execs_nil (wpAny_execs_nil ⟨σ, H1, I1, q1⟩)
end
end L2
namespace L2
open PySem PySem.Spec PyProof.Rows
structure XG (K : PySem.W.Frag) (C : Addr) (f : Str) : Prop where
 ga : PySem.W.findIn K (.ref C) "__getattribute__" = some (some (.builtin "BaseException.__getattribute__"))
 gt : PySem.W.findIn K (.ref C) "__getattr__" = some none
 be : PySem.W.mroIn K C (.type "BaseException") = some true
 hd : PySem.W.hasDictIn K C = true
 no : NoAttr K C f
section
variable {X : Cx} {pins : List (Addr × Obj)} {σ : St} {H : Hp} {s : Shared} {a C d : Addr} {fs : List (Str × V)}
theorem exc_at (I : Inv X pins σ H s) (ha : H a = some (excH a C d)) (hd : H d = some (.xd fs)) : ∃ (o od : Obj) (mA : Str → Option Value), PySem.W.InstAt s.heap a o C (some od) ∧ (∀ f, PySem.W.lookIn f od = some (mA f)) ∧ ∀ f, RelO (fs.lookup f) (mA f) := by
 obtain ⟨o, vs, e1, e2, e3, e4, e5⟩ := (I.hok a _ ha).1
 obtain ⟨mA, n, r⟩ := (show ObjOk X.prog X.w H s.heap d (.xd fs) from I.hok d _ hd)
 obtain ⟨od, ho, hl⟩ := lookIn_ns n
 refine ⟨o, od, mA, ⟨e1, e2, ?_, ?_⟩, hl, r⟩
 ·unfold PySem.W.notCls; rw [e4]
 ·rw [e3]; exact ho
end
def tXf (K : PySem.W.Frag) (ta : TE) (f : Str) : TE := fun σ H Q => ta σ H fun x H1 => ∃ a C d fs v, x = .ref a ∧ H1 a = some (excH a C d) ∧ H1 d = some (.xd fs) ∧ XG K C f ∧ fs.lookup f = some v ∧ Q v H1
def rIsX (K : PySem.W.Frag) : List V → Hp → VK → Prop := fun xs H Q => ∃ a C d fs v c, xs = [.ref a, v] ∧ H a = some (excH a C d) ∧ H d = some (.xd fs) ∧ ((∃ D, v = .ref D ∧ c = .ref D) ∨ ∃ n, v = .ty n ∧ c = .type n) ∧ PySem.W.kitCls K (.ref C) c = some true ∧ (Value.ref C == c) = false ∧ Q (.bl true) H
section
variable {X : Cx} {K : PySem.W.Frag} {e : Expr} {f : Str} {pos : Pos} {ta : TE}
theorem pe_xfld (hK : X.K = K) (he : PE X e ta) (hb : attributeBase e f X.env (eval e X.env) = eval e X.env) : PE X (.Attribute e f pos) (tXf K ta f) := by
 subst hK
 intro pins s σ H Q I h
 refine attr_of hb (thn (he pins s σ H _ I h) fun u s1 ⟨x, H1, I1, rx, a, C, d, fs, v, ex, ea, ed, xg, l, q⟩ => ?_)
 subst ex
 obtain rfl : u = Value.ref a := rx
 obtain ⟨o, od, mA, J, hl, r⟩ := exc_at I1 ea ed
 obtain ⟨u, hu, ru⟩ := RelO.some_of (v := v) (o := mA f) (by rw [← l]; exact r f)
 obtain ⟨hp, g, dr, t, os⟩ := s1
 exact XC.exc_attr I1.kIn J xg.ga xg.gt xg.be (PySem.W.findObj_own xg.hd xg.no rfl (by rw [hl, hu])) (handed_of ru) ⟨v, H1, I1.tok _, ru, q⟩
theorem call_isX (hK : X.K = K) : CallR X (.builtin "isinstance") (rIsX K) := by
 subst hK
 intro pins s σ H xs us Q I r h
 obtain ⟨a, C, d, fs, v, c, rfl, ea, ed, hv, hk, hne, q⟩ := h
 obtain ⟨u, u', rfl, ru, ru'⟩ := vals2 r
 obtain rfl : u = Value.ref a := ru
 obtain rfl : u' = c := by
  rcases hv with ⟨D, rfl, rfl⟩ | ⟨n, rfl, rfl⟩
  ·exact ru'
  ·exact ru'
 obtain ⟨o, od, mA, J, hl, _⟩ := exc_at I ea ed
 exact XC.exc_isinst hk hne I.kIn J fun tk => ⟨.bl true, H, I.tok tk, rfl, q⟩
end
theorem bo_ValueError : bootBuiltins "ValueError" = some (.type "ValueError") := by decide +kernel
end L2
namespace L2
open PySem PySem.Spec PyProof.Rows
section
variable {X : Cx}
def rInsert : V → List V → Hp → VK → Prop := fun x vs H Q => ∃ l xs y, ∃ i : Nat, x = .ref l ∧ vs = [.int (i : Int), y] ∧ H l = some (.lst xs) ∧ i ≤ xs.length ∧ xs.length ≤ 100000 ∧ Q .non (upd H l (.lst (xs.take i ++ y :: xs.drop i)))
theorem mt_insert : MtM X "list.insert" rInsert := by
 intro pins s σ H x vs v us Q I rx rv h
 obtain ⟨l, xs, y, i, rfl, rfl, hH, hi, hz, q⟩ := h
 cases rx
 obtain ⟨u0, u, rfl, ru0, ru⟩ := vals2 rv
 obtain ⟨t0, rfl⟩ := ru0
 obtain ⟨z, its, n, r, hl, e⟩ := I.lstM hH
 have hsl : (200000 : Nat) ≤ sizeLine := by decide
 have hfit : ¬ (!Builtin.List.listFitsIndex (i : Int)) = true := by
  unfold Builtin.List.listFitsIndex
  simp
  omega
 have hz2 : its.toArray.size ≤ sizeLine := by rw [List.size_toArray, ← hl]; exact z
 generalize hj : (i : Int) = j at hfit
 have hM := PySem.AutoListH.list_insert_list_int_val_1 l its.toArray n j t0 u hfit hz2
 refine call_meets F.slot_list_insert ⟨_, e, rfl⟩ F.entry_list_insert (F.args_list_insert_3 _ _ _) hM ⟨e, ?_⟩
 refine ⟨.non, _, I.lset (its' := its.take i ++ u :: its.drop i) hH e ?_ ((r.take i).append (.cons ru (r.drop i))) ?_, rfl, q⟩
 ·have hk : min i its.length = i := Nat.min_eq_left (by omega)
  have h0 : ¬ ((i : Int) < 0) := by omega
  have hK : (if j < 0 then (j + (its.length : Nat)).toNat else min j.toNat its.length) = i := by rw [← hj, if_neg h0, Int.toNat_natCast, hk]
  apply Array.toList_inj.mp
  simp [hK]
  rw [List.take_of_length_le (by simp)]
 ·rw [List.length_append, List.length_cons, List.length_take, List.length_drop]
  omega
end
end L2
open L2
local macro_rules | `(tactic| wtm_at "s") => `(tactic| first
 | ((with_reducible refine' Sx.var ?e ?_); (case e => exact rfl))
 | (with_reducible first
  | refine Sx.cst ?_ | refine Sx.op ?_ | refine Sx.un ?_ | refine Sx.i0 ?_ | refine Sx.eqI ?_ | refine Sx.neI ?_ | refine Sx.eqB ?_ | refine Sx.neB ?_ | refine Sx.eqS ?_ | refine Sx.neS ?_
  | refine Sx.test ?_ | refine Sx.tB ?_ | refine Sx.isbl ?_ | refine Sx.and ?_ | refine Sx.or ?_ | refine Sx.not ?_ | refine Sx.andV ?_ | refine Sx.orV ?_ | refine Sx.notV ?_ | refine Sx.ifE ?_ | refine Sx.chain ?_ | refine Sx.fld ?_
  | refine Sx.next ?_ | refine Sx.seq ?_ | refine Sx.drop ?_ | refine Sx.ret ?_ | refine Sx.retN ?_ | refine Sx.ifS ?_ | refine Sx.asg ?_ | refine Sx.nm ?_ | refine Sx.sub ?_ | refine Sx.call ?_ | refine Sx.callB ?_ | refine Sx.nil ?_ | refine Sx.cons ?_ | refine Sx.tup ?_ | refine Sx.lst ?_
  | refine Sx.lc ?_ | refine Sx.lcN ?_ | refine Sx.iL ?_ | refine Sx.iT ?_ | refine Sx.iE ?_ | refine Sx.iR1 ?_ | refine Sx.iR2 ?_ | refine Sx.for_ ?_ | refine Sx.make ?_ | refine Sx.dget ?_ | refine Sx.dput ?_ | refine Sx.sfld ?_ | refine Sx.intsA ?_ | refine Sx.pnil ?_ | refine Sx.pcons ?_ | refine Sx.disp ?_ | refine Sx.sl ?_ | refine Sx.part ?_ | refine Sx.nopart ?_ | refine Sx.isI ?_ | refine Sx.tru ?_ | refine Sx.bm ?_ | refine Sx.nonAnd ?_ | refine iteT ?_ | refine iteF ?_ | refine Sx.iteNT ?_ | refine Sx.iteNF ?_)
 | ((with_reducible refine' Sx.iC ?c ?_); (case c => first | exact ⟨by decide, by decide⟩ | exact .inl ⟨by decide, by decide⟩ | exact .inr ⟨by decide, by decide⟩ | (show (0 : Int) < _; first | decide | omega) | exact ⟨by omega, by omega⟩ | exact .inl ⟨by omega, by omega⟩ | exact .inr ⟨by omega, by omega⟩)))
local macro_rules | `(tactic| wtm_at "ss") => `(tactic| repeat wtm_at "s")
namespace Tx
open PySem L2
def top (i : Nat) : Stmt := PySem.Challenge.pw_corehouse_k34_lines_that_are_not_as_told.main.body.getD i (.Pass ⟨0, 0, 0, 0⟩)
abbrev s_word : Stmt := top 13
theorem sc_word : FnScope ["kind", "far", "place"] ["kind", "far", "place"] (defScope s_word) := ⟨rfl, rfl, rfl, by decide +kernel, rfl, by decide +kernel, by decide +kernel⟩
abbrev s_read_line : Stmt := top 26
theorem sc_read_line : FnScope ["row", "number", "line", "pieces"] ["row", "number"] (defScope s_read_line) := ⟨rfl, rfl, rfl, by decide +kernel, rfl, by decide +kernel, by decide +kernel⟩
abbrev s_pieces_of : Stmt := top 27
theorem sc_pieces_of : FnScope ["row", "looked_at"] ["row"] (defScope s_pieces_of) := ⟨rfl, rfl, rfl, by decide +kernel, rfl, by decide +kernel, by decide +kernel⟩
abbrev s_read_label : Stmt := top 28
theorem sc_read_label : FnScope ["line", "piece"] ["line", "piece"] (defScope s_read_label) := ⟨rfl, rfl, rfl, by decide +kernel, rfl, by decide +kernel, by decide +kernel⟩
abbrev s_is_name : Stmt := top 29
theorem sc_is_name : FnScope ["piece"] ["piece"] (defScope s_is_name) := ⟨rfl, rfl, rfl, by decide +kernel, rfl, by decide +kernel, by decide +kernel⟩
abbrev s_is_short_name : Stmt := top 30
theorem sc_is_short_name : FnScope ["piece"] ["piece"] (defScope s_is_short_name) := ⟨rfl, rfl, rfl, by decide +kernel, rfl, by decide +kernel, by decide +kernel⟩
abbrev s_is_told_word : Stmt := top 31
theorem sc_is_told_word : FnScope ["piece"] ["piece"] (defScope s_is_told_word) := ⟨rfl, rfl, rfl, by decide +kernel, rfl, by decide +kernel, by decide +kernel⟩
abbrev s_read_deed : Stmt := top 32
theorem sc_read_deed : FnScope ["line", "name", "behind"] ["line", "name", "behind"] (defScope s_read_deed) := ⟨rfl, rfl, rfl, by decide +kernel, rfl, by decide +kernel, by decide +kernel⟩
abbrev s_read_cell_deed : Stmt := top 33
theorem sc_read_cell_deed : FnScope ["line", "behind", "far"] ["line", "behind"] (defScope s_read_cell_deed) := ⟨rfl, rfl, rfl, by decide +kernel, rfl, by decide +kernel, by decide +kernel⟩
abbrev s_read_ask : Stmt := top 34
theorem sc_read_ask : FnScope ["line", "behind"] ["line", "behind"] (defScope s_read_ask) := ⟨rfl, rfl, rfl, by decide +kernel, rfl, by decide +kernel, by decide +kernel⟩
abbrev s_read_bits : Stmt := top 35
theorem sc_read_bits : FnScope ["line", "behind", "names", "place", "name"] ["line", "behind", "names"] (defScope s_read_bits) := ⟨rfl, rfl, rfl, by decide +kernel, rfl, by decide +kernel, by decide +kernel⟩
abbrev s_read_value : Stmt := top 36
theorem sc_read_value : FnScope ["line", "behind", "factor", "number", "piece"] ["line", "behind"] (defScope s_read_value) := ⟨rfl, rfl, rfl, by decide +kernel, rfl, by decide +kernel, by decide +kernel⟩
abbrev s_is_term : Stmt := top 37
theorem sc_is_term : FnScope ["piece"] ["piece"] (defScope s_is_term) := ⟨rfl, rfl, rfl, by decide +kernel, rfl, by decide +kernel, by decide +kernel⟩
abbrev s_is_figures : Stmt := top 38
theorem sc_is_figures : FnScope ["piece"] ["piece"] (defScope s_is_figures) := ⟨rfl, rfl, rfl, by decide +kernel, rfl, by decide +kernel, by decide +kernel⟩
abbrev s_assembled : Stmt := top 41
theorem sc_assembled : FnScope ["text", "sheet", "lines"] ["text"] (defScope s_assembled) := ⟨rfl, rfl, rfl, by decide +kernel, rfl, by decide +kernel, by decide +kernel⟩
abbrev s_go_over_first : Stmt := top 42
theorem sc_go_over_first : FnScope ["sheet", "text", "lines", "number", "row", "line"] ["sheet", "text"] (defScope s_go_over_first) := ⟨rfl, rfl, rfl, by decide +kernel, rfl, by decide +kernel, by decide +kernel⟩
abbrev s_go_over_again : Stmt := top 43
theorem sc_go_over_again : FnScope ["sheet", "lines", "line"] ["sheet", "lines"] (defScope s_go_over_again) := ⟨rfl, rfl, rfl, by decide +kernel, rfl, by decide +kernel, by decide +kernel⟩
abbrev s_makes_cell : Stmt := top 44
theorem sc_makes_cell : FnScope ["line"] ["line"] (defScope s_makes_cell) := ⟨rfl, rfl, rfl, by decide +kernel, rfl, by decide +kernel, by decide +kernel⟩
abbrev s_tell_label : Stmt := top 45
theorem sc_tell_label : FnScope ["sheet", "line"] ["sheet", "line"] (defScope s_tell_label) := ⟨rfl, rfl, rfl, by decide +kernel, rfl, by decide +kernel, by decide +kernel⟩
abbrev s_move_here : Stmt := top 46
theorem sc_move_here : FnScope ["sheet", "line"] ["sheet", "line"] (defScope s_move_here) := ⟨rfl, rfl, rfl, by decide +kernel, rfl, by decide +kernel, by decide +kernel⟩
abbrev s_bounded_value : Stmt := top 47
theorem sc_bounded_value : FnScope ["sheet", "line", "bound", "value", "factor", "term"] ["sheet", "line", "bound"] (defScope s_bounded_value) := ⟨rfl, rfl, rfl, by decide +kernel, rfl, by decide +kernel, by decide +kernel⟩
abbrev s_term_value : Stmt := top 48
theorem sc_term_value : FnScope ["sheet", "line", "term"] ["sheet", "line", "term"] (defScope s_term_value) := ⟨rfl, rfl, rfl, by decide +kernel, rfl, by decide +kernel, by decide +kernel⟩
abbrev s_word_of : Stmt := top 49
theorem sc_word_of : FnScope ["sheet", "line"] ["sheet", "line"] (defScope s_word_of) := ⟨rfl, rfl, rfl, by decide +kernel, rfl, by decide +kernel, by decide +kernel⟩
abbrev s_pool_place : Stmt := top 50
theorem sc_pool_place : FnScope ["sheet", "line", "pool_word", "place"] ["sheet", "line"] (defScope s_pool_place) := ⟨rfl, rfl, rfl, by decide +kernel, rfl, by decide +kernel, by decide +kernel⟩
abbrev s_make_cell : Stmt := top 51
theorem sc_make_cell : FnScope ["sheet", "line", "place", "made_word"] ["sheet", "line", "place", "made_word"] (defScope s_make_cell) := ⟨rfl, rfl, rfl, by decide +kernel, rfl, by decide +kernel, by decide +kernel⟩
abbrev s_law_cell : Stmt := top 53
theorem sc_law_cell : FnScope ["_law_script", "_law_k"] ["_law_script", "_law_k"] (defScope s_law_cell) := ⟨rfl, rfl, rfl, by decide +kernel, rfl, by decide +kernel, by decide +kernel⟩
abbrev s_law_kinds : Stmt := top 55
theorem sc_law_kinds : FnScope [] [] (defScope s_law_kinds) := ⟨rfl, rfl, rfl, by decide +kernel, rfl, by decide +kernel, by decide +kernel⟩
abbrev s_law_asks : Stmt := top 56
theorem sc_law_asks : FnScope [] [] (defScope s_law_asks) := ⟨rfl, rfl, rfl, by decide +kernel, rfl, by decide +kernel, by decide +kernel⟩
abbrev s_law_named : Stmt := top 57
theorem sc_law_named : FnScope ["_law_names", "_law_place"] ["_law_names", "_law_place"] (defScope s_law_named) := ⟨rfl, rfl, rfl, by decide +kernel, rfl, by decide +kernel, by decide +kernel⟩
abbrev s_law_changes : Stmt := top 58
theorem sc_law_changes : FnScope [] [] (defScope s_law_changes) := ⟨rfl, rfl, rfl, by decide +kernel, rfl, by decide +kernel, by decide +kernel⟩
abbrev s_law_tests : Stmt := top 59
theorem sc_law_tests : FnScope [] [] (defScope s_law_tests) := ⟨rfl, rfl, rfl, by decide +kernel, rfl, by decide +kernel, by decide +kernel⟩
abbrev s_law_line : Stmt := top 60
theorem sc_law_line : FnScope ["_law_number", "_law_kind", "_law_place", "_law_far"] ["_law_number"] (defScope s_law_line) := ⟨rfl, rfl, rfl, by decide +kernel, rfl, by decide +kernel, by decide +kernel⟩
abbrev s_law_said : Stmt := top 61
theorem sc_law_said : FnScope ["_law_text", "_law_told", "e"] ["_law_text"] (defScope s_law_said) := ⟨rfl, rfl, rfl, by decide +kernel, rfl, by decide +kernel, by decide +kernel⟩
abbrev s_law_by_base : Stmt := top 62
theorem sc_law_by_base : FnScope ["_law_text", "_law_told", "e"] ["_law_text"] (defScope s_law_by_base) := ⟨rfl, rfl, rfl, by decide +kernel, rfl, by decide +kernel, by decide +kernel⟩
abbrev s_law_refused : Stmt := top 63
theorem sc_law_refused : FnScope ["_law_text", "_law_due", "_law_found"] ["_law_text", "_law_due"] (defScope s_law_refused) := ⟨rfl, rfl, rfl, by decide +kernel, rfl, by decide +kernel, by decide +kernel⟩
abbrev s_law_menu : Stmt := top 64
theorem sc_law_menu : FnScope ["_law_cell_here", "_law_some"] ["_law_cell_here"] (defScope s_law_menu) := ⟨rfl, rfl, rfl, by decide +kernel, rfl, by decide +kernel, by decide +kernel⟩
abbrev s_law_bad : Stmt := top 65
theorem sc_law_bad : FnScope ["_law_cell_here", "_law_signs"] ["_law_cell_here"] (defScope s_law_bad) := ⟨rfl, rfl, rfl, by decide +kernel, rfl, by decide +kernel, by decide +kernel⟩
abbrev s_law : Stmt := top 66
theorem sc_law : FnScope ["_law_script", "_law_lines", "_law_at", "_law_other"] ["_law_script"] (defScope s_law) := ⟨rfl, rfl, rfl, by decide +kernel, rfl, by decide +kernel, by decide +kernel⟩
abbrev s_BadText_init : Stmt := inClass (top 2) 0
theorem sc_BadText_init : FnScope ["self", "line"] ["self", "line"] (defScope s_BadText_init) := ⟨rfl, rfl, rfl, by decide +kernel, rfl, by decide +kernel, by decide +kernel⟩
abbrev s_Line_init : Stmt := inClass (top 25) 0
theorem sc_Line_init : FnScope ["self", "number"] ["self", "number"] (defScope s_Line_init) := ⟨rfl, rfl, rfl, by decide +kernel, rfl, by decide +kernel, by decide +kernel⟩
abbrev s_Sheet_init : Stmt := inClass (top 40) 0
theorem sc_Sheet_init : FnScope ["self"] ["self"] (defScope s_Sheet_init) := ⟨rfl, rfl, rfl, by decide +kernel, rfl, by decide +kernel, by decide +kernel⟩
end Tx
namespace Mir
open PySem
end Mir
local macro_rules | `(tactic| wtm_at "1") => `(tactic| exact fun _ _ _ _ _ _ us hl => match us, hl with | [_], _ => rfl)
local macro_rules | `(tactic| wtm_at "2") => `(tactic| exact fun _ _ _ _ _ _ us hl => match us, hl with | [_, _], _ => rfl)
local macro_rules | `(tactic| wtm_at "3") => `(tactic| exact fun _ _ _ _ _ _ us hl => match us, hl with | [_, _, _], _ => rfl)
local macro_rules | `(tactic| wtm_at "l") => `(tactic| ((repeat rw [L2.look_miss (by decide +kernel)]); exact L2.look_hit))
local macro_rules | `(tactic| wtm_at "p") => `(tactic| ((repeat rw [L2.putF_miss (by decide +kernel)]); rw [L2.putF_hit]))
namespace Pr
end Pr
namespace Lw
open PySem L2 Mir Pr Tx
structure TxtL (K : PySem.W.Frag) (mg : Str → Option Value) : Prop where
 len_ : mg "len" = none
 isinstance_ : mg "isinstance" = none
 int_ : mg "int" = none
 bool_ : mg "bool" = none
 list_ : mg "list" = none
 range_ : mg "range" = none
 sum_ : mg "sum" = none
 kii : PySem.W.kitOne K (.type "int") (.type "int") = some true
 kib : PySem.W.kitOne K (.type "int") (.type "bool") = some false
 kll : PySem.W.kitOne K (.type "list") (.type "list") = some true
 any_ : mg "any" = none
 enumerate_ : mg "enumerate" = none
 tuple_ : mg "tuple" = none
 str_ : mg "str" = none
 min_ : mg "min" = none
def sp_cell (K : PySem.W.Frag) : Sp := fun vs H Q _ => ∃ (a : Addr) (k : Nat) (ns : List Int), vs = [.ref a, .int (k : Int)] ∧ SqL K H a (ns.map V.int) ∧ Q (.int (ns.getD k 0)) H
section
variable {P : Program} {w : World} {K : PySem.W.Frag} {mg : Str → Option Value} {base : Heap} {C : Addr}
theorem ok_cell (R : Raw K mg "_law_cell" s_law_cell) (T : TxtL K mg) : GF P w K mg base "_law_cell" ["_law_script", "_law_k"] 1 (sp_cell K) := by
 refine GF.mk R sc_law_cell (by wtm_at "2") (fun vs H Q E h => ?_) (fun f cdv A outer s H vs Q E hr h => ?_)
 ·obtain ⟨a, k, ns, rfl, _⟩ := h; rfl
 ·obtain ⟨a, k, ns, rfl, hS, q⟩ := h
  refine ⟨_, (pss_cons (ps_if (pt_cmpR op_lt (pv 1) (pe_callB call_len_seq (by rfl) T.len_ bo_len (pa_cons (pv 0) pa_nil)) (nomark _)) (pss_one (ps_ret (pe_ix ix_list (pv 0) (pv 1) (fun _ _ => rfl)))) pss_nil)
   (pss_one (ps_ret pe_int))), ?_⟩
  refine ⟨_, rfl, _, rfl, a, _, rfl, .inl hS, _, _, rfl, rfl, _, rfl, iteD (fun g => ?_) (fun g => ?_)⟩
  ·rw [List.length_map] at g
   exact ⟨_, rfl, _, rfl, a, _, _, _, rfl, rfl, hS, atI_ints (Int.natCast_nonneg k) g, (by rw [Int.toNat_natCast]; exact q)⟩
  ·rw [List.length_map] at g
   have e : ns.getD k 0 = 0 := by
    rw [List.getD_eq_getElem?_getD, List.getElem?_eq_none (by omega)]
    rfl
   rw [e] at q
   exact q
end
end Lw
namespace Ls
open PySem L2 Tx
def numS (i : Int) : Str := (toString i : String)
def kindsS : List Str := ["and", "add", "rise", "put", "call", "go"]
def asksS : List Str := ["heard", "hear", "room", "say", "sleep", "fetch", "store", "stop", "look"]
def changesS : List Str := ["zero", "turn", "flip", "more", "left", "right"]
def testsS : List Str := ["minus", "none", "mark", "not", "zero", "flat"]
def bitsL : List Int := [32, 16, 8, 4, 2, 1]
def pickN (ts : List Str) (p : Int) : Nat → List Str
 | 0 => []
 | n + 1 => if p / bitsL.getD n 0 % 2 = 1 then pickN ts p n ++ [ts.getD n Str.empty] else pickN ts p n
def pick (ts : List Str) (p : Int) : List Str := pickN ts p 6
def lineS (n : Int) : Str :=
 if n / 128 < 6 then kindsS.getD (n / 128).toNat Str.empty ++ (if n / 64 % 2 = 1 then " far " else " ") ++ numS (n % 64)
 else if n / 128 = 7 ∧ n / 64 % 2 = 0 then Str.join " " ("change" :: pick changesS (n % 64))
 else if n / 128 = 7 then Str.join " " ("test" :: pick testsS (n % 64))
 else if n / 64 % 2 = 0 ∧ n % 64 < 9 then "ask " ++ asksS.getD (n % 64).toNat Str.empty
 else "word " ++ numS n
theorem log_ok {i : Int} (h0 : 0 ≤ i) (h1 : i < 100000) : i.natAbs.log2 < 1920 := by
 have h : i.natAbs < 2 ^ 1920 := Nat.lt_of_lt_of_le (show i.natAbs < 2 ^ 17 by omega) (Nat.pow_le_pow_right (by decide) (by decide))
 by_cases e : i.natAbs = 0
 ·rw [e]; decide
 ·exact (Nat.log2_lt e).mpr h
theorem num_cps (n : Nat) : (numS (n : Int)).cps.toList = (Nat.toDigits 10 n).map Char.toNat := by
 have e : (toString (n : Int) : String) = String.ofList (Nat.toDigits 10 n) := rfl
 unfold numS
 rw [e, Str.ofString_eq_toList, String.toList_ofList]
theorem num_len {i : Nat} (h : i < 10000) : (numS (i : Int)).length ≤ 4 := by
 have e : (numS (i : Int)).length = (Nat.toDigits 10 i).length := by
  rw [← List.length_map (f := Char.toNat), ← num_cps, Array.length_toList]
  rfl
 rw [e]
 exact (Nat.length_toDigits_le_iff (by decide) (by decide)).mpr h
theorem num_len' {i : Int} (h0 : 0 ≤ i) (h1 : i < 10000) : (numS i).length ≤ 4 := by
 obtain ⟨k, rfl⟩ := Int.eq_ofNat_of_zero_le h0
 exact num_len (by omega)
theorem join_cons (sep a : Str) (b : Str) (r : List Str) : Str.join sep (a :: b :: r) = a ++ sep ++ Str.join sep (b :: r) := rfl
theorem pick_len (ts : List Str) (p : Int) : ∀ n, (pickN ts p n).length ≤ n
 | 0 => Nat.le_refl _
 | n + 1 => by
  unfold pickN
  have := pick_len ts p n
  split
  ·rw [List.length_append, List.length_singleton]; omega
  ·omega
theorem pick_in {ts : List Str} {p : Int} {P : Str → Prop} (h : ∀ t ∈ ts, P t) : ∀ n, n ≤ ts.length → ∀ t ∈ pickN ts p n, P t
 | 0, _ => fun t ht => nomatch ht
 | n + 1, hn => by
  unfold pickN
  have ih := pick_in (p := p) h n (by omega)
  split
  ·intro t ht
   rcases List.mem_append.mp ht with ht | ht
   ·exact ih t ht
   ·rw [List.mem_singleton] at ht
    subst ht
    rw [List.getD_eq_getElem?_getD, List.getElem?_eq_getElem (by omega)]
    exact h _ (List.getElem_mem _)
  ·exact ih
theorem join_len (sep : Str) : ∀ (ts : List Str) (m : Nat), (∀ t ∈ ts, t.length ≤ m) → (Str.join sep ts).length ≤ ts.length * (m + sep.length)
 | [], m, _ => Nat.zero_le _
 | [a], m, h => by
  have := h a List.mem_cons_self
  show a.length ≤ 1 * (m + sep.length)
  omega
 | a :: b :: r, m, h => by
  have h1 := h a List.mem_cons_self
  have h2 := join_len sep (b :: r) m fun t ht => h t (List.mem_cons_of_mem _ ht)
  rw [join_cons, strLen_append, strLen_append]
  have e : (a :: b :: r).length * (m + sep.length) = (m + sep.length) + (b :: r).length * (m + sep.length) := by rw [List.length_cons, Nat.succ_mul, Nat.add_comm]
  omega
theorem fold_len (sep : Str) : ∀ (ts : List Str) (acc m : Nat), (∀ t ∈ ts, t.length ≤ m) → ts.foldl (fun n (t : Str) => n + t.length + sep.length) acc ≤ acc + ts.length * (m + sep.length)
 | [], acc, m, _ => by simp
 | a :: r, acc, m, h => by
  have h1 := h a List.mem_cons_self
  have h2 := fold_len sep r (acc + a.length + sep.length) m fun t ht => h t (List.mem_cons_of_mem _ ht)
  rw [List.foldl_cons]
  have e : (a :: r).length * (m + sep.length) = (m + sep.length) + r.length * (m + sep.length) := by rw [List.length_cons, Nat.succ_mul, Nat.add_comm]
  omega
theorem joinOk {sep : Str} {ts : List Str} (m : Nat) (h : ∀ t ∈ ts, t.length ≤ m) (hz : ts.length * (m + sep.length) ≤ sizeLine) : JoinOk sep ts = true := by
 unfold JoinOk Builtin.Str.tooLong
 have := fold_len sep ts 0 m h
 rw [List.foldl_toArray] at *
 simp only [Bool.not_eq_true', decide_eq_false_iff_not]
 omega
theorem getD_in {ts : List Str} {P : Str → Prop} (h : ∀ t ∈ ts, P t) (h0 : P Str.empty) (i : Nat) : P (ts.getD i Str.empty) := by
 rw [List.getD_eq_getElem?_getD]
 cases e : ts[i]? with
 | none => exact h0
 | some t => exact h t (List.mem_of_getElem? e)
theorem kinds_len : ∀ t ∈ kindsS, t.length ≤ 6 := by decide +kernel
theorem asks_len : ∀ t ∈ asksS, t.length ≤ 6 := by decide +kernel
theorem changes_len : ∀ t ∈ changesS, t.length ≤ 6 := by decide +kernel
theorem tests_len : ∀ t ∈ testsS, t.length ≤ 6 := by decide +kernel
theorem l_far : (" far " : Str).length = 5 := by decide +kernel
theorem l_bl : (" " : Str).length = 1 := by decide +kernel
theorem l_ask : ("ask " : Str).length = 4 := by decide +kernel
theorem l_word : ("word " : Str).length = 5 := by decide +kernel
theorem l_change : ("change" : Str).length = 6 := by decide +kernel
theorem l_test : ("test" : Str).length = 4 := by decide +kernel
theorem l_nl : ("\n" : Str).length = 1 := by decide +kernel
theorem bits_len {nm : Str} {ts : List Str} {p : Int} (h1 : nm.length ≤ 6) (h2 : ∀ t ∈ ts, t.length ≤ 6) (h3 : 6 ≤ ts.length) : (Str.join " " (nm :: pick ts p)).length ≤ 60 := by
 have a : ∀ t ∈ nm :: pick ts p, t.length ≤ 6 := fun t ht => by
  rcases List.mem_cons.mp ht with rfl | ht
  ·exact h1
  ·exact pick_in h2 6 h3 t ht
 have b := join_len " " _ 6 a
 have c := pick_len ts p 6
 rw [l_bl, List.length_cons] at b
 have d : (pick ts p).length ≤ 6 := c
 omega
theorem line_len {n : Int} (h0 : 0 ≤ n) (h1 : n < 1024) : (lineS n).length ≤ 60 := by
 unfold lineS
 have a := getD_in kinds_len (by decide) (n / 128).toNat
 have b := getD_in asks_len (by decide) (n % 64).toNat
 have c : (numS (n % 64)).length ≤ 4 := num_len' (by omega) (by omega)
 have d : (numS n).length ≤ 4 := num_len' h0 (by omega)
 split
 ·rw [strLen_append, strLen_append]
  split
  ·rw [l_far]; omega
  ·rw [l_bl]; omega
 ·split
  ·exact bits_len (by rw [l_change]; decide) changes_len (by decide)
  ·split
   ·exact bits_len (by rw [l_test]; decide) tests_len (by decide)
   ·split
    ·rw [strLen_append, l_ask]; omega
    ·rw [strLen_append, l_word]; omega
theorem sz : (100000 : Nat) ≤ sizeLine := by decide
theorem pickN_get {ts : List Str} (p : Int) (n : Nat) : pickN ts p (n + 1) = if p / bitsL.getD n 0 % 2 = 1 then pickN ts p n ++ [ts.getD n Str.empty] else pickN ts p n := rfl
end Ls
local macro_rules | `(tactic| wtm_at "t") => `(tactic| first | (with_reducible first | refine Sx.tupN ?_ | refine Sx.lstN ?_ | refine Sx.intB ?_ | refine Sx.fs ?_ | refine Sx.jv ?_ | refine Sx.iZ ?_) | ((with_reducible refine' Sx.bmS ?_)) | wtm_at "s" | (with_reducible refine iteNS rfl ?_) | (with_reducible refine iteDS rfl ?_))
local macro_rules | `(tactic| wtm_at "tt") => `(tactic| repeat wtm_at "t")
namespace Sc
open PySem L2 Tx
def cs (x : Str) : List Nat := x.cps.toList
def oc (l : List Nat) : Str := ⟨l.toArray⟩
theorem cs_oc (l : List Nat) : cs (oc l) = l := by simp [cs, oc]
theorem oc_cs (x : Str) : oc (cs x) = x := by simp [cs, oc]
theorem cs_inj {x y : Str} (h : cs x = cs y) : x = y := by rw [← oc_cs x, h, oc_cs]
theorem cs_app (x y : Str) : cs (x ++ y) = cs x ++ cs y := by
 show (x.cps ++ y.cps).toList = _
 simp [cs]
theorem cs_len (x : Str) : (cs x).length = x.length := by simp [cs, Str.length]
def splitC (c : Nat) : List Nat → List (List Nat)
 | [] => [[]]
 | a :: r => if a = c then [] :: splitC c r else match splitC c r with
  | h :: t => (a :: h) :: t
  | [] => [[a]]
def joinC (c : List Nat) : List (List Nat) → List Nat
 | [] => []
 | [a] => a
 | a :: b :: r => a ++ c ++ joinC c (b :: r)
theorem split_ne (c : Nat) : ∀ l, splitC c l ≠ []
 | [] => by simp [splitC]
 | a :: r => by
  unfold splitC
  split
  ·simp
  ·split <;> simp
theorem split_skip {c a : Nat} {r h : List Nat} {t : List (List Nat)} (n : ¬ a = c) (e : splitC c r = h :: t) : splitC c (a :: r) = (a :: h) :: t := by
 rw [splitC, if_neg n, e]
theorem split_one {c : Nat} : ∀ {l : List Nat}, c ∉ l → splitC c l = [l]
 | [], _ => rfl
 | a :: r, h => split_skip (fun e => h (by simp [e])) (split_one fun m => h (List.mem_cons_of_mem _ m))
theorem split_app {c : Nat} {r : List Nat} : ∀ {l : List Nat}, c ∉ l → splitC c (l ++ c :: r) = l :: splitC c r
 | [], _ => by show splitC c (c :: r) = _; rw [splitC, if_pos rfl]
 | a :: l, h => split_skip (fun e => h (by simp [e])) (split_app fun m => h (List.mem_cons_of_mem _ m))
theorem split_join {c : Nat} : ∀ {ts : List (List Nat)}, ts ≠ [] → (∀ t ∈ ts, c ∉ t) → splitC c (joinC [c] ts) = ts
 | [], n, _ => absurd rfl n
 | [a], _, h => split_one (h a List.mem_cons_self)
 | a :: b :: r, _, h => by
  show splitC c (a ++ [c] ++ joinC [c] (b :: r)) = _
  rw [List.append_assoc]
  show splitC c (a ++ c :: joinC [c] (b :: r)) = _
  rw [split_app (h a List.mem_cons_self), split_join (List.cons_ne_nil _ _) fun t ht => h t (List.mem_cons_of_mem _ ht)]
theorem cs_join (sep : Str) : ∀ ts : List Str, cs (Str.join sep ts) = joinC (cs sep) (ts.map cs)
 | [] => rfl
 | [_] => rfl
 | a :: b :: r => by
  show cs (a ++ sep ++ Str.join sep (b :: r)) = _
  rw [cs_app, cs_app, cs_join sep (b :: r)]
  rfl
theorem tsplit_ne (x : Str) (c : Nat) : Txt.split x ⟨#[c]⟩ ≠ [] := by
 unfold Txt.split
 split
 ·simp
 ·split
  ·simp
  ·rw [StrLaws.partsBetween_eq]
   obtain ⟨p, r, e⟩ := StrLaws.partsFrom_ne x (Str.length ⟨#[c]⟩) 0 (Builtin.Str.occurrences x ⟨#[c]⟩ 0 x.length (x.length + 1))
   rw [e]
   simp
theorem tsplit (x : Str) (c : Nat) : (Txt.split x ⟨#[c]⟩).map cs = splitC c (cs x) := by
 have h := StrLaws.join_split x ⟨#[c]⟩
 have e : cs x = joinC [c] ((Txt.split x ⟨#[c]⟩).map cs) := by
  conv => lhs; rw [← h]
  exact cs_join ⟨#[c]⟩ _
 rw [e, split_join]
 ·intro z
  exact tsplit_ne x c (List.map_eq_nil_iff.mp z)
 ·intro t ht
  obtain ⟨p, hp, rfl⟩ := List.mem_map.mp ht
  exact StrLaws.split_free x c p hp
def replC (c : Nat) (z : List Nat) (l : List Nat) : List Nat := l.flatMap fun a => if a = c then z else [a]
theorem repl_free {c : Nat} {z : List Nat} : ∀ {l : List Nat}, c ∉ l → replC c z l = l
 | [], _ => rfl
 | a :: r, h => by
  have ih := repl_free (z := z) (l := r) fun m => h (List.mem_cons_of_mem _ m)
  show (if a = c then z else [a]) ++ replC c z r = _
  rw [if_neg (fun e => h (by simp [e])), ih]
  rfl
theorem repl_app (c : Nat) (z : List Nat) (l m : List Nat) : replC c z (l ++ m) = replC c z l ++ replC c z m := by unfold replC; rw [List.flatMap_append]
theorem join_repl {c : Nat} {z : List Nat} : ∀ {ts : List (List Nat)}, (∀ t ∈ ts, c ∉ t) → joinC z ts = replC c z (joinC [c] ts)
 | [], _ => rfl
 | [a], h => (repl_free (h a List.mem_cons_self)).symm
 | a :: b :: r, h => by
  show a ++ z ++ joinC z (b :: r) = replC c z (a ++ [c] ++ joinC [c] (b :: r))
  rw [repl_app, repl_app, repl_free (h a List.mem_cons_self), join_repl fun t ht => h t (List.mem_cons_of_mem _ ht)]
  have e : replC c z [c] = z := by simp [replC]
  rw [e]
theorem treplace (x z : Str) (c : Nat) : cs (Txt.replace x ⟨#[c]⟩ z) = replC c (cs z) (cs x) := by
 rw [StrLaws.replace_one, cs_join, tsplit]
 have h := StrLaws.join_split x ⟨#[c]⟩
 have e : cs x = joinC [c] ((Txt.split x ⟨#[c]⟩).map cs) := by
  conv => lhs; rw [← h]
  exact cs_join ⟨#[c]⟩ _
 rw [join_repl (c := c)]
 ·congr 1
  rw [← tsplit]
  exact e.symm
 ·rw [← tsplit]
  intro t ht
  obtain ⟨p, hp, rfl⟩ := List.mem_map.mp ht
  exact StrLaws.split_free x c p hp
end Sc
namespace Sc
open PySem L2 Tx
def partS (x : Str) (c : Nat) : Str := match Builtin.Str.occurrences x ⟨#[c]⟩ 0 x.length 1 with
 | i :: _ => Builtin.Str.strSub x 0 i
 | [] => x
theorem at_iff (x : Str) (c i : Nat) : StrLaws.At x ⟨#[c]⟩ x.length i ↔ (cs x)[i]? = some c := StrLaws.subAt_one x c i
theorem take_first {c : Nat} : ∀ {l : List Nat} {i : Nat}, l[i]? = some c → (∀ k, k < i → ¬ l[k]? = some c) → l.takeWhile (fun a => !decide (a = c)) = l.take i
 | [], i, h, _ => by simp at h
 | a :: r, 0, h, _ => by
  simp at h
  subst h
  simp
 | a :: r, i + 1, h, n => by
  have ha : ¬ a = c := fun e => n 0 (by omega) (by simp [e])
  have ih := take_first (l := r) (i := i) (by simpa using h) fun k hk e => n (k + 1) (by omega) (by simpa using e)
  rw [List.takeWhile_cons, decide_eq_false ha, List.take_succ_cons, ← ih]
  rfl
theorem take_none {c : Nat} : ∀ {l : List Nat}, c ∉ l → l.takeWhile (fun a => !decide (a = c)) = l
 | [], _ => rfl
 | a :: r, h => by
  have ha : ¬ a = c := fun e => h (by simp [e])
  rw [List.takeWhile_cons, decide_eq_false ha, take_none fun m => h (List.mem_cons_of_mem _ m)]
  rfl
theorem cs_part (x : Str) (c : Nat) : cs (partS x c) = (cs x).takeWhile (fun a => !decide (a = c)) := by
 unfold partS
 rcases StrLaws.occ_head x ⟨#[c]⟩ 1 (Nat.le_refl _) with ⟨e, h⟩ | ⟨i, r, e, h1, h2⟩
 ·rw [e]
  exact (take_none fun m => by
   obtain ⟨i, hi⟩ := List.mem_iff_getElem?.mp m
   exact h i ((at_iff x c i).mpr hi)).symm
 ·rw [e]
  rw [take_first ((at_iff x c i).mp h1) fun k hk z => h2 k hk ((at_iff x c k).mpr z)]
  show (Builtin.Str.strSub x 0 i).cps.toList = _
  rw [StrLaws.strSub_toList, List.drop_zero, Nat.sub_zero]
  rfl
theorem tstart (x : Str) (c : Nat) : Txt.startswith x ⟨#[c]⟩ = decide ((cs x)[0]? = some c) := by
 rw [Bool.eq_iff_iff, decide_eq_true_eq, ← at_iff]
 unfold Txt.startswith StrLaws.At
 simp
theorem tend (x : Str) (c : Nat) : Txt.endswith x ⟨#[c]⟩ = decide ((cs x)[(cs x).length - 1]? = some c) := by
 have e : (cs x).length = x.length := cs_len x
 rw [Bool.eq_iff_iff, decide_eq_true_eq, e, ← at_iff]
 unfold Txt.endswith StrLaws.At
 have l1 : (Str.mk #[c]).length = 1 := rfl
 simp [l1]
 omega
theorem in_one (x : Str) (c : Nat) : (!(Builtin.Str.occurrences x ⟨#[c]⟩ 0 x.length 1).isEmpty) = decide (c ∈ cs x) := StrLaws.found_one x c
end Sc
namespace Sc
open PySem L2 Tx Ls
inductive Bad where
 | noDeed | twice | noName | bounds | taken
 deriving DecidableEq
abbrev R (α : Type) := Except (Bad × Int) α
def letters : Str := "abcdefghijklmnopqrstuvwxyz"
def figures : Str := "0123456789"
def isLet (c : Nat) : Bool := decide (c ∈ cs letters)
def isFig (c : Nat) : Bool := decide (c ∈ cs figures)
def otherS : List Str := ["place", "word", "far", "ask", "change", "test", "here"]
def shortName (p : Str) : Bool := (decide (1 ≤ p.length) && decide (p.length ≤ 8)) && ((cs p).head?.any isLet && (cs p).all fun c => isLet c || isFig c)
def toldWord (p : Str) : Bool := decide (p ∈ kindsS) || (decide (p ∈ asksS) || (decide (p ∈ changesS) || (decide (p ∈ testsS) || decide (p ∈ otherS))))
def isName (p : Str) : Bool := shortName p && !toldWord p
def isFigs (p : Str) : Bool := (decide (1 ≤ p.length) && decide (p.length ≤ 4)) && (cs p).all isFig
def isTerm (p : Str) : Bool := decide (p = "here") || (isName p || isFigs p)
structure Ln where
 num : Int
 label : Option Str
 name : Option Str
 base : Int
 pooled : Bool
 terms : List (Int × Str)
def newLn (n : Int) : Ln := ⟨n, none, none, 0, false, []⟩
def pieces (row : Str) : List Str := (Txt.split (partS row 59) " ").filter fun p => !decide (p = "")
def termPieces (v : Str) : List Str := Txt.split (Txt.replace (Txt.replace v "+" " + ") "-" " - ") " "
def goTerms (ln : Int) : Nat → Int → List Str → List (Int × Str) → R (List (Int × Str))
 | _, _, [], acc => .ok acc
 | n, f, p :: r, acc => if n % 2 = 1 then goTerms ln (n + 1) (if p = "+" then 1 else -1) r acc
  else if isTerm p = true then goTerms ln (n + 1) f r (acc ++ [(f, p)]) else .error (.noDeed, ln)
def readValue (L : Ln) : List Str → R Ln
 | [v] => match goTerms L.num 0 1 (termPieces v) L.terms with
  | .ok ts => .ok { L with terms := ts }
  | .error e => .error e
 | _ => .error (.noDeed, L.num)
def goBits (ln : Int) (names behind : List Str) : List Str → Int → R Int
 | [], a => .ok a
 | p :: r, a => if p ∉ names ∨ 1 < behind.count p then .error (.noDeed, ln) else goBits ln names behind r (a + bitsL.getD (names.idxOf p) 0)
def readAsk (L : Ln) : List Str → R Int
 | [p] => if p ∈ asksS then .ok (asksS.idxOf p : Nat) else .error (.noDeed, L.num)
 | _ => .error (.noDeed, L.num)
def readPool (L : Ln) : List Str → R Ln
 | [] => readValue L []
 | v :: r => if (cs v)[0]? = some 61 then readValue { L with pooled := true } (oc ((cs v).drop 1) :: r) else readValue L (v :: r)
def readCell (L : Ln) (nm : Str) : List Str → R Ln
 | [] => readPool { L with base := (kindsS.idxOf nm : Nat) * 128 } []
 | v :: r => if v = "far" then readPool { L with base := (kindsS.idxOf nm : Nat) * 128 + 64 } r else readPool { L with base := (kindsS.idxOf nm : Nat) * 128 } (v :: r)
def readDeed (L0 : Ln) (nm : Str) (behind : List Str) : R Ln :=
 let L := { L0 with name := some nm }
 if nm = "place" ∨ nm = "word" then readValue L behind
 else if nm ∈ kindsS then readCell L nm behind
 else if nm = "ask" then match readAsk L behind with
  | .ok p => .ok { L with base := 768 + p }
  | .error e => .error e
 else if nm = "change" then match goBits L.num changesS behind behind 0 with
  | .ok p => .ok { L with base := 896 + p }
  | .error e => .error e
 else if nm = "test" then match goBits L.num testsS behind behind 0 with
  | .ok p => .ok { L with base := 960 + p }
  | .error e => .error e
 else .error (.noDeed, L.num)
def readRest (L : Ln) : List Str → R Ln
 | [] => .ok L
 | nm :: r => readDeed L nm r
def readLine (row : Str) (n : Int) : R Ln :=
 match pieces row with
 | [] => .ok (newLn n)
 | p :: r => if (cs p)[(cs p).length - 1]? = some 58 then
   (if isName (oc ((cs p).take ((cs p).length - 1))) = true then readRest { newLn n with label := some (oc ((cs p).take ((cs p).length - 1))) } r else .error (.noDeed, n))
  else readDeed (newLn n) p r
structure Sh where
 labels : List (Str × Int)
 made : List (Int × Int)
 pool : List (Int × Int)
 here : Int
def figVal (l : List Nat) : Int := l.foldl (fun (v : Int) (c : Nat) => v * 10 + ((c : Int) - 48)) 0
def termVal (S : Sh) (ln : Int) (t : Str) : R Int :=
 if t = "here" then .ok S.here
 else if (cs t).head?.any isFig = true then .ok (figVal (cs t))
 else match S.labels.lookup t with
  | some i => .ok i
  | none => .error (.noName, ln)
def sumTerms (S : Sh) (ln : Int) : List (Int × Str) → Int → R Int
 | [], a => .ok a
 | (f, t) :: r, a => match termVal S ln t with
  | .ok v => sumTerms S ln r (a + f * v)
  | .error e => .error e
def boundVal (S : Sh) (L : Ln) (b : Int) : R Int := match sumTerms S L.num L.terms 0 with
 | .ok v => if 0 ≤ v ∧ v < b then .ok v else .error (.bounds, L.num)
 | .error e => .error e
def makes (L : Ln) : Bool := match L.name with
 | none => false
 | some nm => !decide (nm = "place")
def moveHere (S : Sh) (L : Ln) : R Sh :=
 if L.name = some ("place" : Str) then match boundVal S L 64 with
  | .ok v => .ok { S with here := v }
  | .error e => .error e
 else if makes L = true then (if 64 ≤ S.here then .error (.bounds, L.num) else .ok { S with here := S.here + 1 })
 else .ok S
def tellLabel (S : Sh) (L : Ln) : R Sh := match L.label with
 | none => .ok S
 | some x => match S.labels.lookup x with
  | some _ => .error (.twice, L.num)
  | none => .ok { S with labels := S.labels ++ [(x, S.here)] }
def goFirst : List Str → Int → Sh → List Ln → R (Sh × List Ln)
 | [], _, S, Ls => .ok (S, Ls)
 | row :: r, n, S, Ls => match readLine row n with
  | .error e => .error e
  | .ok L => match tellLabel S L with
   | .error e => .error e
   | .ok S1 => match moveHere S1 L with
    | .error e => .error e
    | .ok S2 => goFirst r (n + 1) S2 (Ls ++ [L])
def makeCell (S : Sh) (ln place word : Int) : R Sh :=
 if place < 0 then .error (.taken, ln) else match S.made.lookup place with
  | some _ => .error (.taken, ln)
  | none => .ok { S with made := S.made ++ [(place, word)] }
def poolPlace (S : Sh) (L : Ln) : R (Sh × Int) := match boundVal S L 1024 with
 | .error e => .error e
 | .ok v => match S.pool.lookup v with
  | some p => .ok (S, p)
  | none => match makeCell S L.num (63 - (S.pool.length : Int)) v with
   | .error e => .error e
   | .ok S1 => .ok ({ S1 with pool := S1.pool ++ [(v, 63 - (S.pool.length : Int))] }, 63 - (S.pool.length : Int))
def wordOf (S : Sh) (L : Ln) : R (Sh × Int) :=
 if L.pooled = true then match poolPlace S L with
  | .error e => .error e
  | .ok (S1, p) => .ok (S1, L.base + p)
 else match boundVal S L (if L.name = some ("word" : Str) then 1024 else 64) with
  | .error e => .error e
  | .ok v => .ok (S, L.base + v)
def againOne (S : Sh) (L : Ln) : R Sh :=
 if makes L = true then match wordOf S L with
  | .error e => .error e
  | .ok (S1, v) => makeCell S1 L.num S.here v
 else .ok S
def goAgain : List Ln → Sh → R Sh
 | [], S => .ok S
 | L :: r, S => match againOne S L with
  | .error e => .error e
  | .ok S1 => match moveHere S1 L with
   | .error e => .error e
   | .ok S2 => goAgain r S2
def assembledR (text : Str) : R (List Int) := match goFirst (Txt.split text "\n") 1 ⟨[], [], [], 0⟩ [] with
 | .error e => .error e
 | .ok (S, Ls) => match goAgain Ls { S with here := 0 } with
  | .error e => .error e
  | .ok S => .ok ((List.range 64).map fun (i : Nat) => (S.made.lookup (i : Int)).getD 0)
end Sc
namespace Sc
open PySem L2 Tx Ls
theorem num_pos (n : Nat) : cs (numS (n : Int)) = (Nat.toDigits 10 n).map Char.toNat := num_cps n
theorem fig_digit {k : Nat} (h : k < 10) : isFig (Nat.digitChar k).toNat = true := by
 rw [Nat.toNat_digitChar_of_lt_ten h]
 have e : ∀ i : Fin 10, isFig (48 + i.val) = true := by decide +kernel
 exact e ⟨k, h⟩
theorem figs_of (n : Nat) : ∀ c ∈ cs (numS (n : Int)), isFig c = true ∧ 48 ≤ c ∧ c ≤ 57 := by
 rw [num_pos]
 induction n using Nat.strongRecOn with
 | ind n ih =>
  rw [Nat.toDigits_eq_if (by decide)]
  split
  ·intro c hc
   rw [List.map_singleton, List.mem_singleton] at hc
   subst hc
   exact ⟨fig_digit (by omega), by rw [Nat.toNat_digitChar_of_lt_ten (by omega)]; omega⟩
  ·intro c hc
   rw [List.map_append, List.mem_append, List.map_singleton, List.mem_singleton] at hc
   rcases hc with hc | hc
   ·exact ih (n / 10) (by omega) c hc
   ·subst hc
    exact ⟨fig_digit (by omega), by rw [Nat.toNat_digitChar_of_lt_ten (by omega)]; omega⟩
theorem figVal_snoc (l : List Nat) (c : Nat) : figVal (l ++ [c]) = figVal l * 10 + ((c : Int) - 48) := by unfold figVal; rw [List.foldl_append]; rfl
theorem figVal_num (n : Nat) : figVal (cs (numS (n : Int))) = n := by
 rw [num_pos]
 induction n using Nat.strongRecOn with
 | ind n ih =>
  rw [Nat.toDigits_eq_if (by decide)]
  split
  ·rw [List.map_singleton, Nat.toNat_digitChar_of_lt_ten (by omega)]
   show (0 : Int) * 10 + (((48 + n : Nat) : Int) - 48) = n
   omega
  ·rw [List.map_append, List.map_singleton, figVal_snoc, ih (n / 10) (by omega), Nat.toNat_digitChar_of_lt_ten (by omega)]
   omega
theorem num_ne (n : Nat) : cs (numS (n : Int)) ≠ [] := by
 rw [num_pos]
 intro z
 exact Nat.toDigits_ne_nil (List.map_eq_nil_iff.mp z)
theorem num_free {n : Nat} {c : Nat} (h : c < 48 ∨ 57 < c) : c ∉ cs (numS (n : Int)) := fun m => by
 have := (figs_of n c m).2
 omega
def toksC (l : List Nat) : List (List Nat) := (splitC 32 l).filter fun p => !decide (p = [])
theorem split_cat (c : Nat) (r : List Nat) : ∀ l, splitC c (l ++ c :: r) = splitC c l ++ splitC c r
 | [] => by show splitC c (c :: r) = [[]] ++ _; rw [splitC, if_pos rfl]; rfl
 | a :: l => by
  have ih := split_cat c r l
  show splitC c (a :: (l ++ c :: r)) = _
  rw [splitC, splitC]
  split
  ·rw [ih]; rfl
  ·rw [ih]
   cases e : splitC c l with
   | nil => exact absurd e (split_ne c l)
   | cons h t => rfl
theorem toks_cat (l r : List Nat) : toksC (l ++ 32 :: r) = toksC l ++ toksC r := by unfold toksC; rw [split_cat, List.filter_append]
theorem toks_bl (r : List Nat) : toksC (32 :: r) = toksC r := toks_cat [] r
theorem toks_one {a : List Nat} (h : 32 ∉ a) (n : a ≠ []) : toksC a = [a] := by
 unfold toksC
 rw [split_one h]
 simp [n]
theorem toks_bls (k : Nat) (r : List Nat) : toksC (List.replicate k 32 ++ r) = toksC r := by
 induction k with
 | zero => rfl
 | succ k ih => rw [List.replicate_succ]; show toksC (32 :: (List.replicate k 32 ++ r)) = _; rw [toks_bl, ih]
theorem toks_words (k : Nat) : ∀ ps : List (List Nat), (∀ p ∈ ps, 32 ∉ p ∧ p ≠ []) → toksC (joinC (List.replicate (k + 1) 32) ps) = ps
 | [], _ => rfl
 | [a], h => toks_one (h a List.mem_cons_self).1 (h a List.mem_cons_self).2
 | a :: b :: r, h => by
  have ha := h a List.mem_cons_self
  have ih := toks_words k (b :: r) fun p hp => h p (List.mem_cons_of_mem _ hp)
  show toksC (a ++ List.replicate (k + 1) 32 ++ joinC (List.replicate (k + 1) 32) (b :: r)) = _
  rw [List.append_assoc, List.replicate_succ]
  show toksC (a ++ 32 :: (List.replicate k 32 ++ joinC (32 :: List.replicate k 32) (b :: r))) = _
  rw [toks_cat, toks_one ha.1 ha.2, toks_bls]
  rw [List.replicate_succ] at ih
  rw [ih]
  rfl
theorem ne_emp (p : Str) : (p = "") ↔ cs p = [] := ⟨fun h => by rw [h]; decide +kernel, fun h => cs_inj (by rw [h]; decide +kernel)⟩
theorem pieces_cs (row : Str) : (pieces row).map cs = toksC ((cs row).takeWhile fun a => !decide (a = 59)) := by
 have e : (" " : Str) = ⟨#[32]⟩ := by decide +kernel
 unfold pieces toksC
 rw [← cs_part, e, ← tsplit]
 generalize Txt.split (partS row 59) ⟨#[32]⟩ = l
 induction l with
 | nil => rfl
 | cons a r ih =>
  rw [List.map_cons, List.filter_cons, List.filter_cons]
  by_cases h : a = ""
  ·have h2 := (ne_emp a).mp h
   rw [decide_eq_true h, decide_eq_true h2]
   exact ih
  ·have h2 : ¬ cs a = [] := fun z => h ((ne_emp a).mpr z)
   rw [decide_eq_false h, decide_eq_false h2]
   show (a :: _).map cs = cs a :: _
   rw [List.map_cons, ih]
theorem map_cs_inj : ∀ {a b : List Str}, a.map cs = b.map cs → a = b
 | [], [], _ => rfl
 | [], _ :: _, h => nomatch h
 | _ :: _, [], h => nomatch h
 | x :: a, y :: b, h => by
  rw [List.map_cons, List.map_cons] at h
  injection h with h1 h2
  rw [cs_inj h1, map_cs_inj h2]
theorem pieces_row {row : Str} {ps : List Str} (body tail : List Nat) (e : (cs row).takeWhile (fun a => !decide (a = 59)) = body) (h : toksC body = ps.map cs) : pieces row = ps := by
 apply map_cs_inj
 rw [pieces_cs, e, h]
def Tk (p : Str) : Prop := 32 ∉ cs p ∧ 59 ∉ cs p ∧ cs p ≠ [] ∧ 10 ∉ cs p
theorem free_join {c : Nat} {sep : List Nat} (hs : c ∉ sep) : ∀ {ps : List (List Nat)}, (∀ p ∈ ps, c ∉ p) → c ∉ joinC sep ps
 | [], _ => by simp [joinC]
 | [a], h => h a List.mem_cons_self
 | a :: b :: r, h => by
  have ih := free_join hs (ps := b :: r) fun p hp => h p (List.mem_cons_of_mem _ hp)
  have ha := h a List.mem_cons_self
  show c ∉ a ++ sep ++ joinC sep (b :: r)
  simp only [List.mem_append, not_or]
  exact ⟨⟨ha, hs⟩, ih⟩
theorem pieces_join {ps : List Str} (h : ∀ p ∈ ps, Tk p) : pieces (Str.join " " ps) = ps := by
 have e : cs (" " : Str) = List.replicate 1 32 := by decide +kernel
 have hj : cs (Str.join " " ps) = joinC (List.replicate 1 32) (ps.map cs) := by rw [cs_join, e]
 refine pieces_row (joinC (List.replicate 1 32) (ps.map cs)) [] ?_ ?_
 ·rw [hj]
  refine take_none (free_join (by decide) fun p hp => ?_)
  obtain ⟨q, hq, rfl⟩ := List.mem_map.mp hp
  exact (h q hq).2.1
 ·refine toks_words 0 _ fun p hp => ?_
  obtain ⟨q, hq, rfl⟩ := List.mem_map.mp hp
  exact ⟨(h q hq).1, (h q hq).2.2.1⟩
theorem tk_num (n : Nat) : Tk (numS (n : Int)) := ⟨num_free (by omega), num_free (by omega), num_ne n, num_free (by omega)⟩
theorem tk_kinds : ∀ p ∈ kindsS, Tk p := by unfold Tk; decide +kernel
theorem tk_asks : ∀ p ∈ asksS, Tk p := by unfold Tk; decide +kernel
theorem tk_changes : ∀ p ∈ changesS, Tk p := by unfold Tk; decide +kernel
theorem tk_tests : ∀ p ∈ testsS, Tk p := by unfold Tk; decide +kernel
theorem termPieces_cs (v : Str) : (termPieces v).map cs = splitC 32 (replC 45 [32, 45, 32] (replC 43 [32, 43, 32] (cs v))) := by
 have e1 : (" " : Str) = ⟨#[32]⟩ := by decide +kernel
 have e2 : ("+" : Str) = ⟨#[43]⟩ := by decide +kernel
 have e3 : ("-" : Str) = ⟨#[45]⟩ := by decide +kernel
 have e4 : cs (" + " : Str) = [32, 43, 32] := by decide +kernel
 have e5 : cs (" - " : Str) = [32, 45, 32] := by decide +kernel
 unfold termPieces
 rw [e1, tsplit, e3, treplace, e2, treplace, e4, e5]
theorem termPieces_one {v : Str} (h : 32 ∉ cs v ∧ 43 ∉ cs v ∧ 45 ∉ cs v) : termPieces v = [v] := by
 apply map_cs_inj
 rw [termPieces_cs, repl_free h.2.1, repl_free h.2.2, split_one h.1]
 rfl
theorem figs_num {n : Nat} (h : n < 10000) : isFigs (numS (n : Int)) = true := by
 unfold isFigs
 have l1 := num_len h
 have l2 : 1 ≤ (numS (n : Int)).length := by
  rw [← cs_len]
  have := List.length_pos_iff.mpr (num_ne n)
  omega
 rw [decide_eq_true l1, decide_eq_true l2]
 show (cs (numS (n : Int))).all isFig = true
 rw [List.all_eq_true]
 exact fun c hc => (figs_of n c hc).1
theorem term_num {n : Nat} (h : n < 10000) : isTerm (numS (n : Int)) = true := by
 unfold isTerm
 rw [figs_num h]
 simp
theorem value_one {L : Ln} {v : Str} (h : 32 ∉ cs v ∧ 43 ∉ cs v ∧ 45 ∉ cs v) (ht : isTerm v = true) : readValue L [v] = .ok { L with terms := L.terms ++ [(1, v)] } := by
 unfold readValue
 dsimp only
 rw [termPieces_one h]
 simp [goTerms, ht]
theorem here_not_num {l : List Nat} (h : l ≠ []) (hf : ∀ c ∈ l, isFig c = true) : ¬ (oc l = "here") := fun z => by
 have e := congrArg cs z
 rw [cs_oc] at e
 have : isFig 104 = true := hf 104 (by rw [e]; decide +kernel)
 revert this
 decide +kernel
theorem termVal_figs {S : Sh} {ln : Int} {v : Str} (h : cs v ≠ []) (hf : ∀ c ∈ cs v, isFig c = true) : termVal S ln v = .ok (figVal (cs v)) := by
 unfold termVal
 have n := here_not_num h hf
 rw [oc_cs] at n
 rw [if_neg n]
 have e : (cs v).head?.any isFig = true := by
  cases e : cs v with
  | nil => exact absurd e h
  | cons c r => exact hf c (by rw [e]; exact List.mem_cons_self)
 rw [if_pos e]
def Plain (row : Str) (c : Int) : Prop := ∀ n, ∃ L, readLine row n = .ok L ∧ L.num = n ∧ L.label = none ∧ makes L = true ∧ L.name ≠ some ("place" : Str) ∧ ∀ S, wordOf S L = .ok (S, c)
theorem readLine_of {row p : Str} {r : List Str} {n : Int} (h : pieces row = p :: r) (hc : ¬ (cs p)[(cs p).length - 1]? = some 58) : readLine row n = readDeed (newLn n) p r := by
 unfold readLine
 rw [h]
 exact if_neg hc
theorem kinds_not : ∀ p ∈ kindsS, ¬ (cs p)[(cs p).length - 1]? = some 58 ∧ ¬ p = "place" ∧ ¬ p = "word" := by decide +kernel
theorem bound_one {S : Sh} {L : Ln} {v : Str} {i b : Int} (ht : L.terms = [(1, v)]) (hv : ∀ ln, termVal S ln v = .ok i) (h0 : 0 ≤ i) (h1 : i < b) : boundVal S L b = .ok i := by
 unfold boundVal
 rw [ht]
 simp [sumTerms, hv, h0, h1]
theorem bound_nil {S : Sh} {L : Ln} {b : Int} (ht : L.terms = []) (h1 : 0 < b) : boundVal S L b = .ok 0 := by
 unfold boundVal
 rw [ht]
 simp [sumTerms, h1]
theorem plain_cell {row nm v : Str} {far : Bool} {p : Int} (hk : nm ∈ kindsS) (hp : pieces row = if far = true then [nm, "far", v] else [nm, v]) (hv : 32 ∉ cs v ∧ 43 ∉ cs v ∧ 45 ∉ cs v) (ht : isTerm v = true) (hn : cs v ≠ []) (hf : ∀ c ∈ cs v, isFig c = true)
  (he : figVal (cs v) = p) (h0 : 0 ≤ p) (h1 : p < 64) : Plain row ((kindsS.idxOf nm : Nat) * 128 + (if far = true then 64 else 0) + p) := by
 intro n
 obtain ⟨k1, k2, k3⟩ := kinds_not nm hk
 have hfar : ¬ v = "far" := fun z => by
  rw [z] at hf
  exact absurd (hf 102 (by decide +kernel)) (by decide +kernel)
 have heq : ¬ (cs v)[0]? = some 61 := fun z => by
  have := hf 61 (List.mem_of_getElem? z)
  revert this
  decide +kernel
 have tv : ∀ (S : Sh) ln, termVal S ln v = .ok p := fun S ln => by rw [termVal_figs hn hf, he]
 refine ⟨⟨n, none, some nm, (kindsS.idxOf nm : Nat) * 128 + (if far = true then 64 else 0), false, [(1, v)]⟩, ?_, rfl, rfl, ?_, ?_, fun S => ?_⟩
 ·cases far with
  | true =>
   rw [readLine_of hp k1]
   unfold readDeed
   simp only
   rw [if_neg (by simp [k2, k3]), if_pos hk]
   unfold readCell
   simp only [if_true]
   unfold readPool
   dsimp only
   rw [if_neg heq, value_one hv ht]
   rfl
  | false =>
   rw [readLine_of hp k1]
   unfold readDeed
   simp only
   rw [if_neg (by simp [k2, k3]), if_pos hk]
   unfold readCell
   simp only
   rw [if_neg hfar]
   unfold readPool
   dsimp only
   rw [if_neg heq, value_one hv ht]
   simp [newLn]
 ·simp [makes, k2]
 ·simp [k2]
 ·unfold wordOf
  simp only [Bool.false_eq_true, if_false]
  rw [if_neg (show ¬ (some nm = some ("word" : Str)) from fun z => k3 (Option.some.inj z)), bound_one rfl (tv S) h0 h1]
theorem num_nat {i : Int} (h : 0 ≤ i) : ∃ k : Nat, i = k := Int.eq_ofNat_of_zero_le h
end Sc
namespace Sc
open PySem L2 Tx Ls
theorem bits_go {ln : Int} {names behind : List Str} : ∀ (rest : List Str) (a : Int), (∀ p ∈ rest, p ∈ names ∧ behind.count p ≤ 1) →
  goBits ln names behind rest a = .ok (a + (rest.map fun p => bitsL.getD (names.idxOf p) 0).sum)
 | [], a, _ => by simp [goBits]
 | p :: r, a, h => by
  obtain ⟨h1, h2⟩ := h p List.mem_cons_self
  unfold goBits
  rw [if_neg (by intro z; rcases z with z | z; exact z h1; omega), bits_go r _ fun q hq => h q (List.mem_cons_of_mem _ hq), List.map_cons, List.sum_cons, Int.add_assoc]
theorem plain_bits {row nm : Str} {names ps : List Str} {b : Int} (hp : pieces row = nm :: ps) (hb : (nm = "change" ∧ names = changesS ∧ b = 896) ∨ (nm = "test" ∧ names = testsS ∧ b = 960)) (h : ∀ p ∈ ps, p ∈ names ∧ ps.count p ≤ 1) :
  Plain row (b + (ps.map fun p => bitsL.getD (names.idxOf p) 0).sum) := by
 intro n
 have k : ¬ (cs nm)[(cs nm).length - 1]? = some 58 ∧ ¬ nm = "place" ∧ ¬ nm = "word" ∧ ¬ nm ∈ kindsS ∧ ¬ nm = "ask" := by
  rcases hb with ⟨rfl, _⟩ | ⟨rfl, _⟩ <;> decide +kernel
 obtain ⟨k1, k2, k3, k4, k5⟩ := k
 have g := bits_go (ln := n) (names := names) (behind := ps) ps 0 h
 rw [Int.zero_add] at g
 refine ⟨⟨n, none, some nm, b + (ps.map fun p => bitsL.getD (names.idxOf p) 0).sum, false, []⟩, ?_, rfl, rfl, by simp [makes, k2], by simp [k2], fun S => ?_⟩
 ·rw [readLine_of hp k1]
  unfold readDeed
  dsimp only
  rw [if_neg (by simp [k2, k3]), if_neg k4, if_neg k5]
  rcases hb with ⟨e1, e2, e3⟩ | ⟨e1, e2, e3⟩
  ·rw [if_pos e1]
   subst e2 e3
   have g' : goBits (newLn n).num changesS ps ps 0 = .ok (ps.map fun p => bitsL.getD (changesS.idxOf p) 0).sum := g
   rw [g']
   rfl
  ·rw [if_neg (by rw [e1]; decide +kernel), if_pos e1]
   subst e2 e3
   have g' : goBits (newLn n).num testsS ps ps 0 = .ok (ps.map fun p => bitsL.getD (testsS.idxOf p) 0).sum := g
   rw [g']
   rfl
 ·unfold wordOf
  simp only [Bool.false_eq_true, if_false]
  rw [if_neg (show ¬ (some nm = some ("word" : Str)) from fun z => k3 (Option.some.inj z)), bound_nil rfl (by decide)]
  simp
theorem plain_ask {row p : Str} (hp : pieces row = [("ask" : Str), p]) (h : p ∈ asksS) : Plain row (768 + (asksS.idxOf p : Nat)) := by
 intro n
 have k : ¬ (cs "ask")[(cs "ask").length - 1]? = some 58 ∧ ¬ ("ask" : Str) = "place" ∧ ¬ ("ask" : Str) = "word" ∧ ¬ ("ask" : Str) ∈ kindsS := by decide +kernel
 obtain ⟨k1, k2, k3, k4⟩ := k
 refine ⟨⟨n, none, some ("ask" : Str), 768 + (asksS.idxOf p : Nat), false, []⟩, ?_, rfl, rfl, by simp [makes, k2], by simp [k2], fun S => ?_⟩
 ·rw [readLine_of hp k1]
  unfold readDeed
  dsimp only
  rw [if_neg (by simp [k2, k3]), if_neg k4, if_pos rfl]
  unfold readAsk
  dsimp only
  rw [if_pos h]
  rfl
 ·unfold wordOf
  simp only [Bool.false_eq_true, if_false]
  rw [if_neg (show ¬ (some ("ask" : Str) = some ("word" : Str)) from fun z => k3 (Option.some.inj z)), bound_nil rfl (by decide)]
  simp
theorem plain_word {row v : Str} {c : Int} (hp : pieces row = [("word" : Str), v]) (hv : 32 ∉ cs v ∧ 43 ∉ cs v ∧ 45 ∉ cs v) (ht : isTerm v = true) (hn : cs v ≠ []) (hf : ∀ c ∈ cs v, isFig c = true) (he : figVal (cs v) = c) (h0 : 0 ≤ c) (h1 : c < 1024) : Plain row c := by
 intro n
 have k1 : ¬ (cs "word")[(cs "word").length - 1]? = some 58 := by decide +kernel
 have k2 : ¬ ("word" : Str) = "place" := by decide +kernel
 have tv : ∀ (S : Sh) ln, termVal S ln v = .ok c := fun S ln => by rw [termVal_figs hn hf, he]
 refine ⟨⟨n, none, some ("word" : Str), 0, false, [(1, v)]⟩, ?_, rfl, rfl, by simp [makes, k2], by simp [k2], fun S => ?_⟩
 ·rw [readLine_of hp k1]
  unfold readDeed
  dsimp only
  rw [if_pos (by simp), value_one hv ht]
  rfl
 ·unfold wordOf
  simp only [Bool.false_eq_true, if_false, if_true]
  rw [bound_one rfl (tv S) h0 h1]
  simp
end Sc
namespace Sc
open PySem L2 Tx Ls
theorem sum_pick (ts : List Str) (hl : ts.length = 6) (hn : ts.Nodup) (p : Int) : ∀ n, n ≤ 6 → ((pickN ts p n).map fun q => bitsL.getD (ts.idxOf q) 0).sum = ((List.range n).map fun (i : Nat) => if p / bitsL.getD i 0 % 2 = 1 then bitsL.getD i 0 else 0).sum
 | 0, _ => rfl
 | n + 1, h => by
  have ih := sum_pick ts hl hn p n (by omega)
  rw [List.range_succ, List.map_append, List.sum_append]
  unfold pickN
  have hg : ts.getD n Str.empty = ts[n]'(by omega) := by rw [List.getD_eq_getElem?_getD, List.getElem?_eq_getElem (by omega)]; rfl
  split
  ·rename_i g
   rw [List.map_append, List.sum_append, ih]
   congr 1
   rw [List.map_singleton, List.map_singleton, hg, List.Nodup.idxOf_getElem hn, if_pos g]
  ·rename_i g
   rw [ih, List.map_singleton, if_neg g]
   simp
theorem bits_sum {p : Int} (h0 : 0 ≤ p) (h1 : p < 64) : ((List.range 6).map fun (i : Nat) => if p / bitsL.getD i 0 % 2 = 1 then bitsL.getD i 0 else 0).sum = p := by
 obtain ⟨k, rfl⟩ := num_nat h0
 have e : ∀ k : Fin 64, ((List.range 6).map fun (i : Nat) => if ((k.val : Nat) : Int) / bitsL.getD i 0 % 2 = 1 then bitsL.getD i 0 else 0).sum = ((k.val : Nat) : Int) := by decide +kernel
 exact e ⟨k, by omega⟩
theorem pick_nodup (ts : List Str) (hn : ts.Nodup) (p : Int) : ∀ n, n ≤ ts.length → (pickN ts p n).Nodup ∧ ∀ q ∈ pickN ts p n, ∃ i, i < n ∧ ts[i]? = some q
 | 0, _ => ⟨List.nodup_nil, fun q hq => nomatch hq⟩
 | n + 1, h => by
  obtain ⟨a, b⟩ := pick_nodup ts hn p n (by omega)
  have hg : ts.getD n Str.empty = ts[n]'(by omega) := by rw [List.getD_eq_getElem?_getD, List.getElem?_eq_getElem (by omega)]; rfl
  unfold pickN
  split
  ·rw [hg]
   refine ⟨List.nodup_append.mpr ⟨a, List.nodup_cons.mpr ⟨by simp, List.nodup_nil⟩, fun x hx y hy => ?_⟩, fun q hq => ?_⟩
   ·rw [List.mem_singleton] at hy
    subst hy
    intro z
    obtain ⟨i, hi, e⟩ := b x hx
    rw [List.getElem?_eq_getElem (by omega)] at e
    have e2 := Option.some.inj e
    rw [z] at e2
    have e3 := congrArg ts.idxOf e2
    rw [List.Nodup.idxOf_getElem hn, List.Nodup.idxOf_getElem hn] at e3
    omega
   ·rcases List.mem_append.mp hq with hq | hq
    ·obtain ⟨i, hi, e⟩ := b q hq
     exact ⟨i, by omega, e⟩
    ·rw [List.mem_singleton] at hq
     exact ⟨n, by omega, by rw [hq, List.getElem?_eq_getElem (by omega)]⟩
  ·exact ⟨a, fun q hq => by obtain ⟨i, hi, e⟩ := b q hq; exact ⟨i, by omega, e⟩⟩
theorem nd_changes : changesS.Nodup := by decide +kernel
theorem nd_tests : testsS.Nodup := by decide +kernel
theorem count_le {l : List Str} (h : l.Nodup) (p : Str) : l.count p ≤ 1 := List.nodup_iff_count.mp h p
theorem far_eq : (" far " : Str) = " " ++ "far" ++ " " := by decide +kernel
theorem app_assoc (a b c : Str) : a ++ b ++ c = a ++ (b ++ c) := cs_inj (by simp [cs_app])
def wordsOf (n : Int) : List Str :=
 if n / 128 < 6 then (if n / 64 % 2 = 1 then [kindsS.getD (n / 128).toNat Str.empty, "far", numS (n % 64)] else [kindsS.getD (n / 128).toNat Str.empty, numS (n % 64)])
 else if n / 128 = 7 ∧ n / 64 % 2 = 0 then "change" :: pick changesS (n % 64)
 else if n / 128 = 7 then "test" :: pick testsS (n % 64)
 else if n / 64 % 2 = 0 ∧ n % 64 < 9 then ["ask", asksS.getD (n % 64).toNat Str.empty]
 else ["word", numS n]
theorem line_words (n : Int) : lineS n = Str.join " " (wordsOf n) := by
 unfold lineS wordsOf
 split
 ·split
  ·rw [far_eq]
   show _ = kindsS.getD (n / 128).toNat Str.empty ++ " " ++ ("far" ++ " " ++ numS (n % 64))
   simp only [app_assoc]
  ·rfl
 ·split
  ·rfl
  ·split
   ·rfl
   ·split
    ·have e : ("ask " : Str) = "ask" ++ " " := by decide +kernel
     rw [e]; rfl
    ·have e : ("word " : Str) = "word" ++ " " := by decide +kernel
     rw [e]; rfl
theorem getD_mem {ts : List Str} {i : Nat} (h : i < ts.length) : ts.getD i Str.empty ∈ ts ∧ (ts.Nodup → ts.idxOf (ts.getD i Str.empty) = i) := by
 have e : ts.getD i Str.empty = ts[i] := by rw [List.getD_eq_getElem?_getD, List.getElem?_eq_getElem h]; rfl
 rw [e]
 exact ⟨List.getElem_mem _, fun hn => List.Nodup.idxOf_getElem hn i h⟩
theorem nd_kinds : kindsS.Nodup := by decide +kernel
theorem nd_asks : asksS.Nodup := by decide +kernel
theorem tk_words {n : Int} (h0 : 0 ≤ n) (h1 : n < 1024) : ∀ p ∈ wordsOf n, Tk p := by
 unfold wordsOf
 obtain ⟨a, ha⟩ := num_nat (show 0 ≤ n % 64 by omega)
 obtain ⟨b, hb⟩ := num_nat h0
 have t1 : Tk (numS (n % 64)) := by rw [ha]; exact tk_num a
 have t2 : Tk (numS n) := by rw [hb]; exact tk_num b
 have t3 : Tk "far" ∧ Tk "change" ∧ Tk "test" ∧ Tk "ask" ∧ Tk "word" := by unfold Tk; decide +kernel
 obtain ⟨f1, f2, f3, f4, f5⟩ := t3
 split
 ·rename_i g
  have hi : (n / 128).toNat < kindsS.length := by show _ < 6; omega
  have t4 := tk_kinds _ (getD_mem hi).1
  split
  ·intro p hp
   simp only [List.mem_cons, List.not_mem_nil, or_false] at hp
   rcases hp with rfl | rfl | rfl
   ·exact t4
   ·exact f1
   ·exact t1
  ·intro p hp
   simp only [List.mem_cons, List.not_mem_nil, or_false] at hp
   rcases hp with rfl | rfl
   ·exact t4
   ·exact t1
 ·split
  ·intro p hp
   rcases List.mem_cons.mp hp with rfl | hp
   ·exact f2
   ·exact pick_in tk_changes 6 (by decide) p hp
  ·split
   ·intro p hp
    rcases List.mem_cons.mp hp with rfl | hp
    ·exact f3
    ·exact pick_in tk_tests 6 (by decide) p hp
   ·split
    ·rename_i g
     have hi : (n % 64).toNat < asksS.length := by show _ < 9; omega
     have t4 := tk_asks _ (getD_mem hi).1
     intro p hp
     simp only [List.mem_cons, List.not_mem_nil, or_false] at hp
     rcases hp with rfl | rfl
     ·exact f4
     ·exact t4
    ·intro p hp
     simp only [List.mem_cons, List.not_mem_nil, or_false] at hp
     rcases hp with rfl | rfl
     ·exact f5
     ·exact t2
end Sc
namespace Sc
open PySem L2 Tx Ls
theorem plain_words {row : Str} {n : Int} (h0 : 0 ≤ n) (h1 : n < 1024) (hp : pieces row = wordsOf n) : Plain row n := by
 obtain ⟨a, ha⟩ := num_nat (show 0 ≤ n % 64 by omega)
 obtain ⟨b, hb⟩ := num_nat h0
 have nf : ∀ k : Nat, 32 ∉ cs (numS (k : Int)) ∧ 43 ∉ cs (numS (k : Int)) ∧ 45 ∉ cs (numS (k : Int)) := fun k => ⟨num_free (by omega), num_free (by omega), num_free (by omega)⟩
 have ff : ∀ k : Nat, ∀ c ∈ cs (numS (k : Int)), isFig c = true := fun k c hc => (figs_of k c hc).1
 unfold wordsOf at hp
 split at hp
 ·rename_i g
  have hi : (n / 128).toNat < kindsS.length := by show _ < 6; omega
  obtain ⟨m1, m2⟩ := getD_mem hi
  have m3 := m2 nd_kinds
  rw [ha] at hp
  split at hp
  ·rename_i g2
   have z := plain_cell (far := true) (p := n % 64) m1 hp (nf a) (term_num (by omega)) (num_ne a) (ff a) (by rw [figVal_num, ha]) (by omega) (by omega)
   rw [m3, if_pos rfl] at z
   have e : (((n / 128).toNat : Nat) : Int) * 128 + 64 + n % 64 = n := by omega
   rw [e] at z
   exact z
  ·rename_i g2
   have z := plain_cell (far := false) (p := n % 64) m1 hp (nf a) (term_num (by omega)) (num_ne a) (ff a) (by rw [figVal_num, ha]) (by omega) (by omega)
   rw [m3, if_neg Bool.false_ne_true] at z
   have e : (((n / 128).toNat : Nat) : Int) * 128 + 0 + n % 64 = n := by omega
   rw [e] at z
   exact z
 ·split at hp
  ·rename_i g
   have hn := pick_nodup changesS nd_changes (n % 64) 6 (by decide)
   have z := plain_bits hp (.inl ⟨rfl, rfl, rfl⟩) fun p hp => ⟨pick_in (fun _ h => h) 6 (by decide) p hp, count_le hn.1 p⟩
   have e := sum_pick changesS rfl nd_changes (n % 64) 6 (Nat.le_refl _)
   rw [bits_sum (by omega) (by omega)] at e
   have e' : ((pick changesS (n % 64)).map fun q => bitsL.getD (changesS.idxOf q) 0).sum = n % 64 := e
   rw [e'] at z
   have e2 : 896 + n % 64 = n := by omega
   rw [e2] at z
   exact z
  ·split at hp
   ·rename_i g2 g
    have hn := pick_nodup testsS nd_tests (n % 64) 6 (by decide)
    have z := plain_bits hp (.inr ⟨rfl, rfl, rfl⟩) fun p hp => ⟨pick_in (fun _ h => h) 6 (by decide) p hp, count_le hn.1 p⟩
    have e := sum_pick testsS rfl nd_tests (n % 64) 6 (Nat.le_refl _)
    rw [bits_sum (by omega) (by omega)] at e
    have e' : ((pick testsS (n % 64)).map fun q => bitsL.getD (testsS.idxOf q) 0).sum = n % 64 := e
    rw [e'] at z
    have e2 : 960 + n % 64 = n := by omega
    rw [e2] at z
    exact z
   ·split at hp
    ·rename_i g
     have hi : (n % 64).toNat < asksS.length := by show _ < 9; omega
     obtain ⟨m1, m2⟩ := getD_mem hi
     have z := plain_ask hp m1
     rw [m2 nd_asks] at z
     have e : 768 + (((n % 64).toNat : Nat) : Int) = n := by omega
     rw [e] at z
     exact z
    ·rw [hb] at hp
     exact plain_word hp (nf b) (term_num (by omega)) (num_ne b) (ff b) (by rw [figVal_num, hb]) h0 h1
theorem plain_line {n : Int} (h0 : 0 ≤ n) (h1 : n < 1024) : Plain (lineS n) n := by
 refine plain_words h0 h1 ?_
 rw [line_words]
 exact pieces_join (tk_words h0 h1)
end Sc
namespace Sc
open PySem L2 Tx Ls
theorem nl_eq : ("\n" : Str) = ⟨#[10]⟩ := by decide +kernel
theorem split_rows {rows : List Str} (hn : rows ≠ []) (h : ∀ r ∈ rows, 10 ∉ cs r) : Txt.split (Str.join "\n" rows) "\n" = rows := by
 apply map_cs_inj
 rw [nl_eq, tsplit, cs_join]
 refine split_join ?_ fun t ht => ?_
 ·intro z; exact hn (List.map_eq_nil_iff.mp z)
 ·obtain ⟨q, hq, rfl⟩ := List.mem_map.mp ht
  exact h q hq
theorem free_words {n : Int} (h0 : 0 ≤ n) (h1 : n < 1024) : 10 ∉ cs (lineS n) := by
 rw [line_words, cs_join]
 refine free_join (by decide +kernel) fun p hp => ?_
 obtain ⟨q, hq, rfl⟩ := List.mem_map.mp hp
 exact (tk_words h0 h1 q hq).2.2.2
end Sc
namespace Sc
open PySem L2 Tx Ls
theorem split_flat (c : Nat) : ∀ ts : List (List Nat), ts ≠ [] → splitC c (joinC [c] ts) = ts.flatMap (splitC c)
 | [], h => absurd rfl h
 | [a], _ => by simp [joinC]
 | a :: b :: r, _ => by
  show splitC c (a ++ [c] ++ joinC [c] (b :: r)) = _
  rw [List.append_assoc]
  show splitC c (a ++ c :: joinC [c] (b :: r)) = _
  rw [split_cat, split_flat c (b :: r) (List.cons_ne_nil _ _)]
  rfl
end Sc
namespace Sc
open PySem L2 Tx Ls
end Sc
namespace Lt
open PySem L2 Tx Lw
section
variable {K : PySem.W.Frag} {mg : Str → Option Value} {H : Hp} {Q : VK} {E : XK} {a : Addr} {ns : List Int}
theorem c_cell {i : Int} (hS : SqL K H a (ns.map V.int)) (h0 : 0 ≤ i) (q : Q (.int (ns.getD i.toNat 0)) H) : sp_cell K ([.ref a, .int i] ++ []) H Q E := ⟨a, i.toNat, ns, by rw [Int.toNat_of_nonneg h0]; rfl, hS, q⟩
end
end Lt
local macro_rules | `(tactic| wtm_at "l") => `(tactic| first | wtm_at "t" | ((with_reducible refine' Lt.c_cell ?h ?e ?_); (case h => assumption); (case e => decide)) | ((with_reducible refine' Lt.c_mix ?h ?e ?_); (case h => decide); (case e => decide)) )
local macro_rules | `(tactic| wtm_at "ll") => `(tactic| repeat wtm_at "l")
local macro_rules | `(tactic| wtm_at "x") => `(tactic| first | (with_reducible first | refine Sx.iS ?_ | refine Sx.iCt ?_ | refine Sx.repl ?_ | refine Sx.dget2 ?_) | wtm_at "t")
local macro_rules | `(tactic| wtm_at "xx") => `(tactic| repeat wtm_at "x")
namespace Sc
open PySem L2 Tx Ls
structure TxtX (K : PySem.W.Frag) (mg : Str → Option Value) : Prop where
 DEEDS : TupG K mg "DEEDS" (kindsS.map V.str)
 ASKS : TupG K mg "ASKS" (asksS.map V.str)
 CHANGES : TupG K mg "CHANGES" (changesS.map V.str)
 TESTS : TupG K mg "TESTS" (testsS.map V.str)
 OTHER_WORDS : TupG K mg "OTHER_WORDS" (otherS.map V.str)
 BIT_ROW : TupG K mg "BIT_ROW" (bitsL.map V.int)
 SMALL_LETTERS : StrG mg "SMALL_LETTERS" letters
 FIGURES : StrG mg "FIGURES" figures
 MOST_SIGNS : IntG mg "MOST_SIGNS" 8
 MOST_FIGURES : IntG mg "MOST_FIGURES" 4
 ASK : IntG mg "ASK" 6
 BITS : IntG mg "BITS" 7
 len_ : mg "len" = none
 all_ : mg "all" = none
 enumerate_ : mg "enumerate" = none
theorem in_strs (p : Str) : ∀ ts : List Str, inV (.str p) (ts.map V.str) = decide (p ∈ ts)
 | [] => rfl
 | t :: ts => by
  have ih := in_strs p ts
  unfold inV at ih ⊢
  rw [List.map_cons, List.any_cons, ih]
  show ((t == p) || _) = _
  by_cases e : t = p
  ·subst e
   rw [decide_eq_true (List.mem_cons_self), beq_self_eq_true, Bool.true_or]
  ·rw [show (t == p) = false from beq_eq_false_iff_ne.mpr e, Bool.false_or]
   exact decide_eq_decide.mpr ⟨fun h => List.mem_cons_of_mem _ h, fun h => (List.mem_cons.mp h).resolve_left fun z => e z.symm⟩
section
variable {K : PySem.W.Frag} {H : Hp} {Q : VK}
theorem xLen {z : Str} (h : z.length ≤ 100000) (k : Q (.int z.length) H) : rLenS [.str z] H Q := ⟨z, rfl, Nat.le_trans h sz, k⟩
theorem xIn {a : Addr} {p : Str} {ts : List Str} (h : TupK K a (ts.map V.str)) (k : Q (.bl (decide (p ∈ ts))) H) : rIn K false (.str p) (.ref a) H Q :=
 ⟨a, _, rfl, .inr h.sq, rfl, flat_strs ts, by rw [in_strs]; exact k⟩
theorem xNotIn {a : Addr} {p : Str} {ts : List Str} (h : TupK K a (ts.map V.str)) (k : Q (.bl (decide (p ∉ ts))) H) : rIn K true (.str p) (.ref a) H Q :=
 ⟨a, _, rfl, .inr h.sq, rfl, flat_strs ts, by rw [in_strs]; simpa using k⟩
theorem xSign {c : Nat} {j : Str} (k : Q (.bl (decide (c ∈ cs j))) H) : rInS (.str ⟨#[c]⟩) (.str j) H Q := ⟨_, j, rfl, rfl, by rw [in_one]; exact k⟩
theorem xAll {a : Addr} {bs : List Bool} (h : SqL K H a (bs.map V.bl)) (k : Q (.bl (bs.all id)) H) : rAll K [.ref a] H Q := ⟨a, bs, rfl, h, k⟩
end
def sp_short : Sp := fun vs H Q _ => ∃ p : Str, vs = [.str p] ∧ p.length ≤ 100000 ∧ ∀ H', Same H H' → Q (.bl (shortName p)) H'
def sp_told : Sp := fun vs H Q _ => ∃ p : Str, vs = [.str p] ∧ Q (.bl (toldWord p)) H
def sp_name : Sp := fun vs H Q _ => ∃ p : Str, vs = [.str p] ∧ p.length ≤ 100000 ∧ ∀ H', Same H H' → Q (.bl (isName p)) H'
def sp_figs : Sp := fun vs H Q _ => ∃ p : Str, vs = [.str p] ∧ p.length ≤ 100000 ∧ ∀ H', Same H H' → Q (.bl (isFigs p)) H'
def sp_term : Sp := fun vs H Q _ => ∃ p : Str, vs = [.str p] ∧ p.length ≤ 100000 ∧ ∀ H', Same H H' → Q (.bl (isTerm p)) H'
section
variable {P : Program} {w : World} {K : PySem.W.Frag} {mg : Str → Option Value} {base : Heap}
theorem ok_figs (R : Raw K mg "is_figures" s_is_figures) (T : TxtX K mg) : GF P w K mg base "is_figures" ["piece"] 1 sp_figs := by
 refine GF.mk R sc_is_figures (by wtm_at "1") (fun vs H Q E h => ?_) (fun f cdv A outer s H vs Q E hr h => ?_)
 ·obtain ⟨p, rfl, _⟩ := h; rfl
 ·obtain ⟨p, rfl, hl, k⟩ := h
  refine ⟨_, (@pss_one _ _ _ (@ps_ret _ _ _ _ (@pe_and _ _ _ _ _ _ _ (@pe_chain _ _ _ _ _ _ _ _ _ _ _ _ op_le op_le pe_int (@pe_callBN _ _ _ _ _ _ _ _ _ call_lenS (by rfl) T.len_ bo_len (@pa_c _ _ _ _ _ (pv 0) pa_nil rfl) (by decide) (by decide) rfl) (@pe_gint _ _ _ _ rfl T.MOST_FIGURES (by decide)) (by with_unfolding_all rfl)) (@pe_one _ _ _ _ _ (@pe_callBN _ _ _ _ _ _ _ _ _ (call_allB (K := K) rfl rfl) (by rfl) T.all_ bo_all (@pa_c _ _ _ _ _ (@pe_lcomp _ _ _ _ _ _ _ _ _ _ _ _ ([]) rfl (pi_str (pv 0)) ⟨rfl, rfl, by decide +kernel, by decide +kernel, rfl, by decide +kernel, trivial, rfl, trivial⟩ (fun _ _ _ _ => pts_nil) (fun _ _ _ _ => (@pe_cmpR _ _ _ _ _ _ _ _ op_inS (pv 0) (@pe_gstr _ _ _ _ rfl T.FIGURES (by decide)) (by with_unfolding_all rfl))) (fun _ => rfl)) pa_nil rfl) (by decide) (by decide) rfl))))), ?_⟩
  wtm_at "xx"
  refine xLen hl ?_
  wtm_at "xx"
  have no : ¬ (1 ≤ p.length ∧ p.length ≤ 4) → isFigs p = false := fun z => by
   unfold isFigs
   rw [show (decide (1 ≤ p.length) && decide (p.length ≤ 4)) = false from by simpa using z]
   rfl
  refine iteD (fun g => ?_) (fun g => ?_)
  ·wtm_at "xx"
   refine iteD (fun g2 => ?_) (fun g2 => ?_)
   ·wtm_at "xx"
    have hz := sz
    refine ⟨p, rfl, lc_str (fun c => .bl (isFig c)) (by have : p.cps.size = p.length := rfl; omega) (fun c hc Q' q => ?_) (fun q n => ?_)⟩
    ·wtm_at "xx"
     exact xSign q
    ·wtm_at "xx"
     refine xAll (bs := (cs p).map isFig) (SqL.of (by rw [upd_same, List.map_map]; rfl)) ?_
     have e : isFigs p = ((cs p).map isFig).all id := by
      unfold isFigs
      rw [show (decide (1 ≤ p.length) && decide (p.length ≤ 4)) = true from by simp; omega, List.all_map]
      rfl
     rw [← e]
     exact k _ (Same.newH n)
   ·rw [no (by omega)] at k
    exact k _ (Same.refl _)
  ·rw [no (by omega)] at k
   wtm_at "xx"
   exact k _ (Same.refl _)
theorem ok_told (R : Raw K mg "is_told_word" s_is_told_word) (T : TxtX K mg) : GF P w K mg base "is_told_word" ["piece"] 1 sp_told := by
 refine GF.mk R sc_is_told_word (by wtm_at "1") (fun vs H Q E h => ?_) (fun f cdv A outer s H vs Q E hr h => ?_)
 ·obtain ⟨p, rfl, _⟩ := h; rfl
 ·obtain ⟨p, rfl, k⟩ := h
  refine ⟨_, (@pss_one _ _ _ (@ps_ret _ _ _ _ (@pe_or _ _ _ _ _ _ _ (@pe_cmpR _ _ _ _ _ _ _ _ (op_in_seqK (K := K) rfl) (pv 0) (pe_gtup (K := K) rfl rfl T.DEEDS) (by with_unfolding_all rfl)) (@pe_or _ _ _ _ _ _ _ (@pe_cmpR _ _ _ _ _ _ _ _ (op_in_seqK (K := K) rfl) (pv 0) (pe_gtup (K := K) rfl rfl T.ASKS) (by with_unfolding_all rfl)) (@pe_or _ _ _ _ _ _ _ (@pe_cmpR _ _ _ _ _ _ _ _ (op_in_seqK (K := K) rfl) (pv 0) (pe_gtup (K := K) rfl rfl T.CHANGES) (by with_unfolding_all rfl)) (@pe_or _ _ _ _ _ _ _ (@pe_cmpR _ _ _ _ _ _ _ _ (op_in_seqK (K := K) rfl) (pv 0) (pe_gtup (K := K) rfl rfl T.TESTS) (by with_unfolding_all rfl)) (@pe_one _ _ _ _ _ (@pe_cmpR _ _ _ _ _ _ _ _ (op_in_seqK (K := K) rfl) (pv 0) (pe_gtup (K := K) rfl rfl T.OTHER_WORDS) (by with_unfolding_all rfl))))))))), ?_⟩
  unfold toldWord at k
  wtm_at "xx"
  refine Sx.topT fun a ha => xIn ha ?_
  wtm_at "xx"
  refine iteD (fun g => ?_) (fun g => ?_)
  ·rw [decide_eq_true g] at k
   exact k
  rw [decide_eq_false g] at k
  wtm_at "xx"
  refine Sx.topT fun a ha => xIn ha ?_
  wtm_at "xx"
  refine iteD (fun g => ?_) (fun g => ?_)
  ·rw [decide_eq_true g] at k
   exact k
  rw [decide_eq_false g] at k
  wtm_at "xx"
  refine Sx.topT fun a ha => xIn ha ?_
  wtm_at "xx"
  refine iteD (fun g => ?_) (fun g => ?_)
  ·rw [decide_eq_true g] at k
   exact k
  rw [decide_eq_false g] at k
  wtm_at "xx"
  refine Sx.topT fun a ha => xIn ha ?_
  wtm_at "xx"
  refine iteD (fun g => ?_) (fun g => ?_)
  ·rw [decide_eq_true g] at k
   exact k
  rw [decide_eq_false g] at k
  wtm_at "xx"
  refine Sx.topT fun a ha => xIn ha ?_
  exact k
theorem ok_short (R : Raw K mg "is_short_name" s_is_short_name) (T : TxtX K mg) : GF P w K mg base "is_short_name" ["piece"] 1 sp_short := by
 refine GF.mk R sc_is_short_name (by wtm_at "1") (fun vs H Q E h => ?_) (fun f cdv A outer s H vs Q E hr h => ?_)
 ·obtain ⟨p, rfl, _⟩ := h; rfl
 ·obtain ⟨p, rfl, hl, k⟩ := h
  refine ⟨_, (@pss_cons _ _ _ _ _ (@ps_if _ _ _ _ _ _ _ _ (@pt_not _ _ _ _ (@pt_chain _ _ _ _ _ _ _ _ _ _ _ _ op_le op_le pe_int (@pe_callBN _ _ _ _ _ _ _ _ _ call_lenS (by rfl) T.len_ bo_len (@pa_c _ _ _ _ _ (pv 0) pa_nil rfl) (by decide) (by decide) rfl) (@pe_gint _ _ _ _ rfl T.MOST_SIGNS (by decide)) (by with_unfolding_all rfl))) (@pss_one _ _ _ (@ps_ret _ _ _ _ pe_bl)) pss_nil) (@pss_one _ _ _ (@ps_ret _ _ _ _ (@pe_and _ _ _ _ _ _ _ (@pe_cmpR _ _ _ _ _ _ _ _ op_inS (@pe_ix _ _ _ _ _ _ _ ix_str (pv 0) pe_int (fun _ _ => rfl)) (@pe_gstr _ _ _ _ rfl T.SMALL_LETTERS (by decide)) (by with_unfolding_all rfl)) (@pe_one _ _ _ _ _ (@pe_callBN _ _ _ _ _ _ _ _ _ (call_allB (K := K) rfl rfl) (by rfl) T.all_ bo_all (@pa_c _ _ _ _ _ (@pe_lcomp _ _ _ _ _ _ _ _ _ _ _ _ ([]) rfl (pi_str (pv 0)) ⟨rfl, rfl, by decide +kernel, by decide +kernel, rfl, by decide +kernel, trivial, rfl, trivial⟩ (fun _ _ _ _ => pts_nil) (fun _ _ _ _ => (@pe_or _ _ _ _ _ _ _ (@pe_cmpR _ _ _ _ _ _ _ _ op_inS (pv 0) (@pe_gstr _ _ _ _ rfl T.SMALL_LETTERS (by decide)) (by with_unfolding_all rfl)) (@pe_one _ _ _ _ _ (@pe_cmpR _ _ _ _ _ _ _ _ op_inS (pv 0) (@pe_gstr _ _ _ _ rfl T.FIGURES (by decide)) (by with_unfolding_all rfl))))) (fun _ => rfl)) pa_nil rfl) (by decide) (by decide) rfl)))))), ?_⟩
  have no : ¬ (1 ≤ p.length ∧ p.length ≤ 8) → shortName p = false := fun z => by
   unfold shortName
   rw [show (decide (1 ≤ p.length) && decide (p.length ≤ 8)) = false from by simpa using z]
   rfl
  wtm_at "xx"
  refine xLen hl ?_
  wtm_at "xx"
  refine iteD (fun g => ?_) (fun g => ?_)
  ·wtm_at "xx"
   refine iteN (fun g2 => ?_) (fun g2 => ?_)
   ·rw [no (by omega)] at k
    wtm_at "xx"
    exact k _ (Same.refl _)
   ·wtm_at "xx"
    have hz := sz
    have hsz : p.cps.size = p.length := rfl
    obtain ⟨c, r, e⟩ : ∃ c r, cs p = c :: r := by
     cases e : cs p with
     | nil =>
      have := cs_len p
      rw [e] at this
      have : p.length = 0 := this.symm
      omega
     | cons c r => exact ⟨c, r, rfl⟩
    refine ⟨p, 0, c, rfl, rfl, by omega, by show atI (cs p) ((0 : Nat) : Int) = _; rw [e]; exact atI_nat rfl, ?_⟩
    wtm_at "xx"
    refine xSign ?_
    wtm_at "xx"
    have e0 : shortName p = (isLet c && (cs p).all fun c => isLet c || isFig c) := by
     unfold shortName
     rw [show (decide (1 ≤ p.length) && decide (p.length ≤ 8)) = true from by simp; omega, e]
     rfl
    refine iteD (fun g3 => ?_) (fun g3 => ?_)
    ·wtm_at "xx"
     refine ⟨p, rfl, lc_str (fun c => .bl (isLet c || isFig c)) (by omega) (fun c hc Q' q => ?_) (fun q n => ?_)⟩
     ·wtm_at "xx"
      refine xSign ?_
      wtm_at "xx"
      refine iteD (fun h => ?_) (fun h => ?_)
      ·rw [show isLet c = true from decide_eq_true h] at q
       exact q
      ·rw [show isLet c = false from decide_eq_false h] at q
       wtm_at "xx"
       exact xSign q
     ·wtm_at "xx"
      refine xAll (bs := (cs p).map fun c => isLet c || isFig c) (SqL.of (by rw [upd_same, List.map_map]; rfl)) ?_
      rw [show isLet c = true from decide_eq_true g3, Bool.true_and] at e0
      rw [e0] at k
      rw [List.all_map]
      exact k _ (Same.newH n)
    ·rw [show isLet c = false from decide_eq_false g3, Bool.false_and] at e0
     rw [e0] at k
     exact k _ (Same.refl _)
  ·rw [no (by omega)] at k
   wtm_at "xx"
   exact k _ (Same.refl _)
theorem ok_name (R : Raw K mg "is_name" s_is_name) (G_is_short_name : GF P w K mg base "is_short_name" ["piece"] 1 sp_short) (G_is_told_word : GF P w K mg base "is_told_word" ["piece"] 1 sp_told) : GF P w K mg base "is_name" ["piece"] 2 sp_name := by
 refine GF.mk R sc_is_name (by wtm_at "1") (fun vs H Q E h => ?_) (fun f cdv A outer s H vs Q E hr h => ?_)
 ·obtain ⟨p, rfl, _⟩ := h; rfl
 ·obtain ⟨p, rfl, hl, k⟩ := h
  unfold isName at k
  refine ⟨_, (@pss_one _ _ _ (@ps_ret _ _ _ _ (@pe_and _ _ _ _ _ _ _ (@pe_gcallN _ _ _ _ _ _ _ _ _ _ G_is_short_name (hr.mono (by decide)) rfl (@pa_c _ _ _ _ _ (pv 0) pa_nil rfl) (by decide) rfl) (@pe_one _ _ _ _ _ (@pe_not _ _ _ _ (@pe_gcallN _ _ _ _ _ _ _ _ _ _ G_is_told_word (hr.mono (by decide)) rfl (@pa_c _ _ _ _ _ (pv 0) pa_nil rfl) (by decide) rfl)))))), ?_⟩
  wtm_at "xx"
  refine ⟨p, rfl, hl, fun H1 s1 => ?_⟩
  wtm_at "xx"
  refine iteB (fun g => ?_) (fun g => ?_)
  ·wtm_at "xx"
   refine ⟨p, rfl, ?_⟩
   wtm_at "xx"
   rw [g, Bool.true_and] at k
   exact k _ s1
  ·rw [g, Bool.false_and] at k
   exact k _ s1
theorem ok_term (R : Raw K mg "is_term" s_is_term) (G_is_name : GF P w K mg base "is_name" ["piece"] 2 sp_name) (G_is_figures : GF P w K mg base "is_figures" ["piece"] 1 sp_figs) : GF P w K mg base "is_term" ["piece"] 3 sp_term := by
 refine GF.mk R sc_is_term (by wtm_at "1") (fun vs H Q E h => ?_) (fun f cdv A outer s H vs Q E hr h => ?_)
 ·obtain ⟨p, rfl, _⟩ := h; rfl
 ·obtain ⟨p, rfl, hl, k⟩ := h
  unfold isTerm at k
  refine ⟨_, (@pss_one _ _ _ (@ps_ret _ _ _ _ (@pe_or _ _ _ _ _ _ _ (@pe_cmpR _ _ _ _ _ _ _ _ op_eq (pv 0) pe_str (nomark _)) (@pe_or _ _ _ _ _ _ _ (@pe_gcallN _ _ _ _ _ _ _ _ _ _ G_is_name (hr.mono (by decide)) rfl (@pa_c _ _ _ _ _ (pv 0) pa_nil rfl) (by decide) rfl) (@pe_one _ _ _ _ _ (@pe_gcallN _ _ _ _ _ _ _ _ _ _ G_is_figures (hr.mono (by decide)) rfl (@pa_c _ _ _ _ _ (pv 0) pa_nil rfl) (by decide) rfl)))))), ?_⟩
  wtm_at "xx"
  refine iteD (fun g => ?_) (fun g => ?_)
  ·rw [decide_eq_true g, Bool.true_or] at k
   exact k _ (Same.refl _)
  ·rw [decide_eq_false g, Bool.false_or] at k
   wtm_at "xx"
   refine ⟨p, rfl, hl, fun H1 s1 => ?_⟩
   wtm_at "xx"
   refine iteB (fun g => ?_) (fun g => ?_)
   ·rw [g, Bool.true_or] at k
    exact k _ s1
   ·rw [g, Bool.false_or] at k
    wtm_at "xx"
    exact ⟨p, rfl, hl, fun H2 s2 => k _ (s1.trans s2)⟩
end
end Sc
namespace Sc
open PySem L2 Tx Ls
def FrX (H H' : Hp) (A : List Addr) : Prop := (∀ b o, H b = some o → b ∉ A → H' b = some o) ∧ ∀ b xs, H b = some (.tup xs) → H' b = some (.tup xs)
section
variable {H H1 H2 : Hp} {A : List Addr} {b : Addr} {o : HO}
theorem FrX.same (s : Same H H1) : FrX H H1 A := ⟨fun b o e _ => s b o e, fun b xs e => s _ _ e⟩
theorem FrX.refl : FrX H H A := .same (Same.refl _)
theorem FrX.trans (h : FrX H H1 A) (k : FrX H1 H2 A) : FrX H H2 A := ⟨fun b o e n => k.1 b o (h.1 b o e n) n, fun b xs e => k.2 _ _ (h.2 _ _ e)⟩
theorem FrX.new (n : H b = none) : FrX H (upd H b o) A := .same (Same.newH n)
theorem FrX.at_ (hb : b ∈ A) (ht : ∀ xs, H b ≠ some (.tup xs)) : FrX H (upd H b o) A := ⟨fun c u e n => by rw [upd_ne fun z => n (by rw [z]; exact hb)]; exact e, fun c xs e => by rw [upd_ne fun z => ht xs (by rw [← z]; exact e)]; exact e⟩
theorem FrX.more {B : List Addr} (h : FrX H H1 A) (s : ∀ x ∈ A, x ∈ B) : FrX H H1 B := ⟨fun b o e n => h.1 b o e fun z => n (s b z), h.2⟩
end
theorem xPut {K : PySem.W.Frag} {H : Hp} {C p dx : Addr} {fs : List (Str × V)} {f : Str} {y : V} {R : Hp → Prop} (h : H p = some (.ins C dx fs)) (c : Cls K C) (n : NoAttr K C f) (hl : fs.length < 1000)
  (k : ∀ H', H' p = some (.ins C dx (putF f y fs)) → (∀ b, b ≠ p → H' b = H b) → FrX H H' [p] → R H') : ∃ a C dx fs, V.ref p = .ref a ∧ H a = some (.ins C dx fs) ∧ Cls K C ∧ NoAttr K C f ∧ fs.length < 1000 ∧ R (upd H a (.ins C dx (putF f y fs))) :=
 ⟨p, C, dx, fs, rfl, h, c, n, hl, k _ upd_same (fun b hb => upd_ne hb) (.at_ List.mem_cons_self fun xs z => by rw [h] at z; cases z)⟩
structure LAd where
 a : Addr
 dx : Addr
 l : Addr
def vO : Option Str → V
 | none => .non
 | some s => .str s
def fldsL (A : LAd) (L : Ln) : List (Str × V) := [("number", .int L.num), ("label", vO L.label), ("name", vO L.name), ("base", .int L.base), ("pooled", .bl L.pooled), ("terms", .ref A.l)]
theorem len_fldsL (A : LAd) (L : Ln) : (fldsL A L).length < 1000 := by show 6 < 1000; decide
theorem lk_number (A : LAd) (L : Ln) : (fldsL A L).lookup ("number" : Str) = some (.int L.num) := by
 unfold fldsL; exact look_hit
theorem lk_label (A : LAd) (L : Ln) : (fldsL A L).lookup ("label" : Str) = some (vO L.label) := by
 unfold fldsL; wtm_at "l"
theorem lk_name (A : LAd) (L : Ln) : (fldsL A L).lookup ("name" : Str) = some (vO L.name) := by
 unfold fldsL; wtm_at "l"
theorem lk_base (A : LAd) (L : Ln) : (fldsL A L).lookup ("base" : Str) = some (.int L.base) := by
 unfold fldsL; wtm_at "l"
theorem lk_pooled (A : LAd) (L : Ln) : (fldsL A L).lookup ("pooled" : Str) = some (.bl L.pooled) := by
 unfold fldsL; wtm_at "l"
theorem lk_terms (A : LAd) (L : Ln) : (fldsL A L).lookup ("terms" : Str) = some (.ref A.l) := by
 unfold fldsL; wtm_at "l"
theorem pf_label (A : LAd) (L : Ln) (x : Str) : putF "label" (.str x) (fldsL A L) = fldsL A { L with label := some x } := by
 unfold fldsL; wtm_at "p"; rfl
theorem pf_name (A : LAd) (L : Ln) (x : Str) : putF "name" (.str x) (fldsL A L) = fldsL A { L with name := some x } := by
 unfold fldsL; wtm_at "p"; rfl
theorem pf_base (A : LAd) (L : Ln) (x : Int) : putF "base" (.int x) (fldsL A L) = fldsL A { L with base := x } := by
 unfold fldsL; wtm_at "p"
theorem pf_pooled (A : LAd) (L : Ln) (x : Bool) : putF "pooled" (.bl x) (fldsL A L) = fldsL A { L with pooled := x } := by
 unfold fldsL; wtm_at "p"
def TermsAt (H : Hp) (l : Addr) (ts : List (Int × Str)) : Prop := ∃ rs : List Addr, H l = some (.lst (rs.map V.ref)) ∧ rs.length = ts.length ∧ ∀ (i : Nat) (r : Addr) (p : Int × Str), rs[i]? = some r → ts[i]? = some p → H r = some (.tup [.int p.1, .str p.2])
structure LnAt (CL : Addr) (H : Hp) (A : LAd) (L : Ln) : Prop where
 o : H A.a = some (.ins CL A.dx (fldsL A L))
 t : TermsAt H A.l L.terms
structure TxtN (K : PySem.W.Frag) (mg : Str → Option Value) (CL : Addr) : Prop extends TxtX K mg where
 clL : Cls K CL
 n_number : NoAttr K CL "number"
 n_label : NoAttr K CL "label"
 n_name : NoAttr K CL "name"
 n_base : NoAttr K CL "base"
 n_pooled : NoAttr K CL "pooled"
 n_terms : NoAttr K CL "terms"
section
variable {CL : Addr} {H H' : Hp} {A : LAd} {L L' : Ln}
theorem LnAt.ne (h : LnAt CL H A L) : A.a ≠ A.l := fun z => by
 obtain ⟨rs, e, _⟩ := h.t
 have o := h.o
 rw [z, e] at o
 cases o
theorem TermsAt.mv {l : Addr} {ts : List (Int × Str)} (h : TermsAt H l ts) (hl : ∀ o, H l = some o → H' l = some o) (ht : ∀ b xs, H b = some (.tup xs) → H' b = some (.tup xs)) : TermsAt H' l ts := by
 obtain ⟨rs, e, n, k⟩ := h
 exact ⟨rs, hl _ e, n, fun i r p h1 h2 => ht _ _ (k i r p h1 h2)⟩
theorem LnAt.fr {B : List Addr} (h : LnAt CL H A L) (f : FrX H H' B) (h1 : A.a ∉ B) (h2 : A.l ∉ B) : LnAt CL H' A L := ⟨f.1 _ _ h.o h1, h.t.mv (fun o e => f.1 _ _ e h2) f.2⟩
theorem LnAt.keep (h : LnAt CL H A L) (s : Same H H') : LnAt CL H' A L := ⟨s _ _ h.o, h.t.mv (fun o e => s _ _ e) fun b xs e => s _ _ e⟩
end
section
variable {P : Program} {w : World} {K : PySem.W.Frag} {mg : Str → Option Value} {base : Heap} {CL : Addr}
def sp_initL (CL : Addr) : Sp := fun vs H Q _ => ∃ (p dx : Addr) (n : Int), vs = [.ref p, .int n] ∧ H p = some (.ins CL dx []) ∧ ∀ l H', H l = none → LnAt CL H' ⟨p, dx, l⟩ (newLn n) → FrX H H' [p] → Q .non H'
theorem ok_initL {q : Str} (R : RawC K mg "Line" q CL s_Line_init) (T : TxtN K mg CL) : GC P w K mg base "Line" CL ["self", "number"] 1 (sp_initL CL) := by
 refine GC.mk R sc_Line_init (by wtm_at "2") (fun vs H Q E h => ?_) (fun f cdv A outer s H vs Q E hr h => ?_)
 ·obtain ⟨p, dx, n, rfl, _⟩ := h; rfl
 ·obtain ⟨p, dx, n, rfl, hp, k⟩ := h
  refine ⟨_, (@pss_cons _ _ _ _ _ (@ps_fldK _ (K) _ _ _ _ _ _ _ rfl (pv 0) (pv 1) rfl) (@pss_cons _ _ _ _ _ (@ps_fldK _ (K) _ _ _ _ _ _ _ rfl (pv 0) pe_non rfl) (@pss_cons _ _ _ _ _ (@ps_fldK _ (K) _ _ _ _ _ _ _ rfl (pv 0) pe_non rfl) (@pss_cons _ _ _ _ _ (@ps_fldK _ (K) _ _ _ _ _ _ _ rfl (pv 0) pe_int rfl) (@pss_cons _ _ _ _ _ (@ps_fldK _ (K) _ _ _ _ _ _ _ rfl (pv 0) pe_bl rfl) (@pss_one _ _ _ (@ps_fldK _ (K) _ _ _ _ _ _ _ rfl (pv 0) (@pe_lst _ _ _ _ pa_nil) rfl))))))), ?_⟩
  wtm_at "xx"
  refine xPut hp T.clL T.n_number (by show 0 < 1000; decide) fun H1 h1 o1 f1 => ?_
  wtm_at "xx"
  refine xPut h1 T.clL T.n_label (by show 1 < 1000; decide) fun H2 h2 o2 f2 => ?_
  rw [putF_add (by simp only [putF, List.map_cons, List.map_nil]; decide +kernel)] at h2
  wtm_at "xx"
  refine xPut h2 T.clL T.n_name (by show 2 < 1000; decide) fun H3 h3 o3 f3 => ?_
  rw [putF_add (by simp only [putF, List.map_append, List.map_cons, List.map_nil]; decide +kernel)] at h3
  wtm_at "xx"
  refine xPut h3 T.clL T.n_base (by show 3 < 1000; decide) fun H4 h4 o4 f4 => ?_
  rw [putF_add (by simp only [putF, List.map_append, List.map_cons, List.map_nil]; decide +kernel)] at h4
  wtm_at "xx"
  refine xPut h4 T.clL T.n_pooled (by show 4 < 1000; decide) fun H5 h5 o5 f5 => ?_
  rw [putF_add (by simp only [putF, List.map_append, List.map_cons, List.map_nil]; decide +kernel)] at h5
  wtm_at "xx"
  refine ⟨by decide, fun l nl => ?_⟩
  wtm_at "xx"
  have npl : p ≠ l := ne_of_none h5 nl
  refine xPut (by rw [upd_ne npl]; exact h5) T.clL T.n_terms (by show 5 < 1000; decide) fun H6 h6 o6 f6 => ?_
  rw [putF_add (by simp only [putF, List.map_append, List.map_cons, List.map_nil]; decide +kernel)] at h6
  have hl : H l = none := by rw [← o1 l npl.symm, ← o2 l npl.symm, ← o3 l npl.symm, ← o4 l npl.symm, ← o5 l npl.symm]; exact nl
  refine k l H6 hl ⟨h6, [], ?_, rfl, fun i r q e _ => by cases e⟩ ((f1.trans (f2.trans (f3.trans (f4.trans (f5.trans (FrX.new nl)))))).trans f6)
  rw [o6 l npl.symm, upd_same]
  rfl
def sp_pieces : Sp := fun vs H Q _ => ∃ row : Str, vs = [.str row] ∧ row.length ≤ 2000 ∧ ∀ l H', H l = none → H' l = some (.lst ((pieces row).map V.str)) → Same H H' → Q (.ref l) H'
def sp_ask (K : PySem.W.Frag) (CL : Addr) : Sp := fun vs H Q _ => ∃ (A : LAd) (L : Ln) (b : Addr) (ts : List Str) (p : Int), vs = [.ref A.a, .ref b] ∧ LnAt CL H A L ∧ SqL K H b (ts.map V.str) ∧ readAsk L ts = .ok p ∧ Q (.int p) H
def sp_bits (K : PySem.W.Frag) (CL : Addr) : Sp := fun vs H Q _ => ∃ (A : LAd) (L : Ln) (b c : Addr) (ts ns : List Str) (p : Int), vs = [.ref A.a, .ref b, .ref c] ∧ LnAt CL H A L ∧ H b = some (.lst (ts.map V.str)) ∧ TupK K c (ns.map V.str) ∧ ns.length = 6 ∧ goBits L.num ns ts ts 0 = .ok p ∧ Q (.int p) H
def sp_value (K : PySem.W.Frag) (CL : Addr) : Sp := fun vs H Q _ => ∃ (A : LAd) (L L' : Ln) (b : Addr) (ts : List Str), vs = [.ref A.a, .ref b] ∧ LnAt CL H A L ∧ SqL K H b (ts.map V.str) ∧ (∀ t ∈ ts, t.length ≤ 2000) ∧ L.terms.length ≤ 2000 ∧ readValue L ts = .ok L' ∧ ∀ H', LnAt CL H' A L' → FrX H H' [A.a, A.l] → Q .non H'
theorem tyT {K : PySem.W.Frag} {H : Hp} {a : Addr} {xs : List V} (h : TupK K a xs) : tyV K "tuple" (.ref a) H := by
 obtain ⟨o, its, n, h1, h2, h3, _⟩ := h
 exact .inr (.inl ⟨rfl, o, h1, h2, h3⟩)
theorem at0 {α : Type} {x : α} {xs : List α} : atI (x :: xs) 0 = some x := by
 show atI (x :: xs) ((0 : Nat) : Int) = _
 exact atI_nat rfl
def pNE : V → Bool
 | .str z => !decide (z = "")
 | _ => true
theorem filt : ∀ ts : List Str, ((ts.map V.str).filter pNE).map id = (ts.filter fun (p : Str) => !decide (p = "")).map V.str
 | [] => rfl
 | t :: ts => by
  have ih := filt ts
  rw [List.map_cons, List.filter_cons, List.filter_cons]
  show (if (!decide (t = "")) = true then _ else _ : List V).map id = _
  split
  ·rw [List.map_cons, List.map_cons, ih]; rfl
  ·exact ih
theorem part_len (x : Str) (c : Nat) : (partS x c).length ≤ x.length := by
 rw [← cs_len, ← cs_len, cs_part]
 exact (List.takeWhile_sublist _).length_le
theorem ok_pieces (R : Raw K mg "pieces_of" s_pieces_of) : GF P w K mg base "pieces_of" ["row"] 1 sp_pieces := by
 refine GF.mk R sc_pieces_of (by wtm_at "1") (fun vs H Q E h => ?_) (fun f cdv A outer s H vs Q E hr h => ?_)
 ·obtain ⟨p, rfl, _⟩ := h; rfl
 ·obtain ⟨row, rfl, hl, k⟩ := h
  refine ⟨_, (@pss_cons _ _ _ _ _ (@ps_set _ _ (1) _ _ _ _ sc_pieces_of.nd rfl (Or.inl rfl) (@pe_ix _ _ _ _ _ _ _ (ix_tupK (K := K) rfl) (pe_bm PySem.F.plainAttrs_str PySem.F.slot_str_partition PySem.F.type_str_partition mt_part (pv 0) (@pa_c _ _ _ _ _ pe_str pa_nil rfl)) pe_int (fun _ _ => rfl)) rfl (by first | exact .inl rfl | exact .inr rfl | assumption)) (@pss_one _ _ _ (@ps_ret _ _ _ _ (@pe_lcomp _ _ _ _ _ _ _ _ _ _ _ _ ([]) rfl (@pi_listK _ (K) _ _ _ rfl (pe_bm PySem.F.plainAttrs_str PySem.F.slot_str_split PySem.F.type_str_split mt_split (pv 1) (@pa_c _ _ _ _ _ pe_str pa_nil rfl))) ⟨rfl, rfl, by decide +kernel, by decide +kernel, rfl, by decide +kernel, trivial, rfl, trivial⟩ (fun _ _ _ _ => (@pts_one _ _ _ (@pt_cmpR _ _ _ _ _ _ _ _ op_ne (pv 0) pe_str (nomark _)))) (fun _ _ _ _ => (pv 0)) (fun _ => rfl))))), ?_⟩
  wtm_at "xx"
  refine ⟨row, ";", rfl, rfl, by decide +kernel, by omega, fun l1 a b H1 n1 h1 s1 => ?_⟩
  have e1 : headS row ";" = partS row 59 := by rw [show (";" : Str) = ⟨#[59]⟩ from by decide +kernel]; rfl
  have hp := part_len row 59
  rw [e1] at h1
  wtm_at "xx"
  refine Sx.ixT h1 at0 ?_
  wtm_at "xx"
  refine ⟨_, " ", rfl, rfl, by decide +kernel, by omega, fun l2 H2 n2 h2 s2 => ?_⟩
  have hl2 := split_len (partS row 59) " "
  have hz := sz
  refine ⟨l2, rfl, ⟨_, SqL.of h2⟩, lc_list pNE id (SqL.of h2) (by rw [List.length_map]; omega) (fun x hx Q' q => ?_) (fun x hx _ Q' q => ?_) (fun q n => ?_)⟩
  ·obtain ⟨z, _, rfl⟩ := List.mem_map.mp hx
   wtm_at "xx"
   exact q
  ·wtm_at "xx"
   exact q
  ·rw [filt]
   exact k q _ (s1.free (s2.free n)) upd_same (s1.trans (s2.trans (Same.newH n)))
theorem ask_ok {L : Ln} {ts : List Str} {p : Int} (e : readAsk L ts = .ok p) : ∃ t, ts = [t] ∧ t ∈ asksS ∧ p = (asksS.idxOf t : Nat) := by
 unfold readAsk at e
 split at e
 ·split at e
  ·rename_i t h
   cases e
   exact ⟨t, rfl, h, rfl⟩
  ·cases e
 ·cases e
theorem ok_ask (R : Raw K mg "read_ask" s_read_ask) (T : TxtN K mg CL) : GF P w K mg base "read_ask" ["line", "behind"] 1 (sp_ask K CL) := by
 refine GF.mk R sc_read_ask (by wtm_at "2") (fun vs H Q E h => ?_) (fun f cdv A outer s H vs Q E hr h => ?_)
 ·obtain ⟨A, L, b, ts, p, rfl, _⟩ := h; rfl
 ·obtain ⟨A, L, b, ts, p, rfl, hA, hb, e, k⟩ := h
  obtain ⟨t, rfl, ht, rfl⟩ := ask_ok e
  refine ⟨_, (@pss_cons _ _ _ _ _ (@ps_if _ _ _ _ _ _ _ _ (@PW.pt _ _ _ (@pw_or _ _ _ _ _ _ _ (@pt_cmpR _ _ _ _ _ _ _ _ op_ne (@pe_callBN _ _ _ _ _ _ _ _ _ (call_len_seqN (K := K) rfl) (by rfl) T.len_ bo_len (@pa_c _ _ _ _ _ (pv 1) pa_nil rfl) (by decide) (by decide) rfl) pe_int (nomark _)) (@pw_or1 _ _ _ _ (@pt_cmpR _ _ _ _ _ _ _ _ (op_notIn_seqK (K := K) rfl) (@pe_ix _ _ _ _ _ _ _ (ix_listK (K := K) rfl) (pv 1) pe_int (fun _ _ => rfl)) (pe_gtup (K := K) rfl rfl T.ASKS) (by with_unfolding_all rfl))))) (@pss_one _ _ _ ps_never) pss_nil) (@pss_one _ _ _ (@ps_ret _ _ _ _ (pe_bm PySem.F.plainAttrs_tuple PySem.F.slot_tuple_index PySem.F.type_tuple_index (mt_tidx (K := K) rfl) (pe_gtup (K := K) rfl rfl T.ASKS) (@pa_c _ _ _ _ _ (@pe_ix _ _ _ _ _ _ _ (ix_listK (K := K) rfl) (pv 1) pe_int (fun _ _ => rfl)) pa_nil rfl))))), ?_⟩
  wtm_at "xx"
  refine ⟨b, _, rfl, .inl hb, ?_⟩
  wtm_at "xx"
  refine Sx.ixS hb at0 ?_
  wtm_at "xx"
  refine Sx.topT fun a ha => xNotIn ha ?_
  wtm_at "xx"
  refine iteD (fun g => absurd ht g) (fun _ => ?_)
  wtm_at "xx"
  refine Sx.topT fun a ha => ⟨tyT ha, ?_⟩
  wtm_at "xx"
  refine Sx.ixS hb at0 ?_
  wtm_at "xx"
  exact ⟨a, asksS, t, rfl, rfl, ha, ht, k⟩
theorem bits_ok {n : Int} {ns ts : List Str} : ∀ (r : List Str) (a p : Int), goBits n ns ts r a = .ok p → (∀ t ∈ r, t ∈ ns ∧ ts.count t ≤ 1) ∧ p = a + (r.map fun t => bitsL.getD (ns.idxOf t) 0).sum := by
 intro r
 induction r with
 | nil =>
  intro a p e
  cases e
  exact ⟨fun t h => (by cases h), by simp⟩
 | cons t r ih =>
  intro a p e
  unfold goBits at e
  split at e
  ·cases e
  ·rename_i g
   obtain ⟨h1, h2⟩ := ih _ _ e
   have g' : t ∈ ns ∧ ts.count t ≤ 1 := ⟨Classical.not_not.mp fun z => g (.inl z), Nat.le_of_not_lt fun z => g (.inr z)⟩
   refine ⟨fun u hu => (List.mem_cons.mp hu).elim (fun z => by rw [z]; exact g') (h1 u), ?_⟩
   rw [h2, List.map_cons, List.sum_cons]
   omega
theorem ok_bits (R : Raw K mg "read_bits" s_read_bits) (T : TxtN K mg CL) : GF P w K mg base "read_bits" ["line", "behind", "names"] 1 (sp_bits K CL) := by
 refine GF.mk R sc_read_bits (by wtm_at "3") (fun vs H Q E h => ?_) (fun f cdv A outer s H vs Q E hr h => ?_)
 ·obtain ⟨A, L, b, c, ts, ns, p, rfl, _⟩ := h; rfl
 ·obtain ⟨A, L, b, c, ts, ns, p, rfl, hA, hb, hc, hn, e, k⟩ := h
  obtain ⟨h1, rfl⟩ := bits_ok _ _ _ e
  refine ⟨_, (@pss_cons _ _ _ _ _ (@ps_set _ _ (3) _ _ _ _ sc_read_bits.nd rfl (Or.inl rfl) pe_int rfl (by first | exact .inl rfl | exact .inr rfl | assumption)) (@pss_cons _ _ _ _ _ (@ps_for _ _ _ _ _ _ _ _ PassesOwn.never rfl (@pi_listK _ (K) _ _ _ rfl (pv 1)) (@pg_name _ _ (4) _ sc_read_bits.nd rfl (Or.inl rfl) (by first | exact .inl rfl | exact .inr rfl | assumption)) (@pss_cons _ _ _ _ _ (@ps_if _ _ _ _ _ _ _ _ (@PW.pt _ _ _ (@pw_or _ _ _ _ _ _ _ (@pt_cmpR _ _ _ _ _ _ _ _ (op_notIn_seqK (K := K) rfl) (pv 4) (pv 2) (by with_unfolding_all rfl)) (@pw_or1 _ _ _ _ (@pt_cmpR _ _ _ _ _ _ _ _ op_gt (pe_bm PySem.F.plainAttrs_list PySem.F.slot_list_count PySem.F.type_list_count mt_count (pv 1) (@pa_c _ _ _ _ _ (pv 4) pa_nil rfl)) pe_int (nomark _))))) (@pss_one _ _ _ ps_never) pss_nil) (@pss_one _ _ _ (@ps_set _ _ (3) _ _ _ _ sc_read_bits.nd rfl (Or.inl rfl) (@pe_op _ _ _ _ _ _ _ _ op_add (pv 3) (@pe_ix _ _ _ _ _ _ _ (ix_tupK (K := K) rfl) (pe_gtup (K := K) rfl rfl T.BIT_ROW) (pe_bm PySem.F.plainAttrs_tuple PySem.F.slot_tuple_index PySem.F.type_tuple_index (mt_tidx (K := K) rfl) (pv 2) (@pa_c _ _ _ _ _ (pv 4) pa_nil rfl)) (fun _ _ => rfl))) rfl (by first | exact .inl rfl | exact .inr rfl | assumption)))) (fun _ => rfl)) (@pss_one _ _ _ (@ps_ret _ _ _ _ (pv 3))))), ?_⟩
  wtm_at "xx"
  refine ⟨b, rfl, ⟨_, SqL.of hb⟩, for_list (xs := ts.map V.str) (fun i σ' H' => ∃ x, σ' = [some (.ref A.a), some (.ref b), some (.ref c), some (.int (((ts.take i).map fun t => bitsL.getD (ns.idxOf t) 0).sum)), x] ∧ H' = H) ⟨_, rfl, rfl⟩ (fun i σ' H' _ h => by obtain ⟨_, _, rfl⟩ := h; exact SqL.of hb) ?_ ?_⟩
  ·rintro i x σ' H' hx ⟨y, rfl, rfl⟩
   rw [List.getElem?_map] at hx
   cases et : ts[i]? with
   | none => rw [et] at hx; cases hx
   | some t =>
    rw [et] at hx
    cases hx
    have hm := h1 t (List.mem_of_getElem? et)
    wtm_at "xx"
    refine xNotIn hc ?_
    wtm_at "xx"
    refine iteD (fun g => absurd hm.1 g) (fun _ => ?_)
    wtm_at "xx"
    refine ⟨Sx.tyL hb, ?_⟩
    wtm_at "xx"
    refine ⟨b, ts, t, rfl, rfl, hb, ?_⟩
    wtm_at "xx"
    refine iteD (fun g => absurd g (by have := hm.2; omega)) (fun _ => ?_)
    wtm_at "xx"
    refine Sx.topT fun a ha => ?_
    wtm_at "xx"
    refine ⟨tyT hc, ?_⟩
    wtm_at "xx"
    refine ⟨c, ns, t, rfl, rfl, hc, hm.1, ?_⟩
    have hi : ns.idxOf t < 6 := by rw [← hn]; exact List.idxOf_lt_length_of_mem hm.1
    refine Sx.topIx (v := .int (bitsL.getD (ns.idxOf t) 0)) ha (atI_nat (by rw [List.getElem?_map, List.getD_eq_getElem?_getD, List.getElem?_eq_getElem (by show _ < 6; exact hi)]; rfl)) ?_
    wtm_at "xx"
    refine ⟨some (.str t), ?_, rfl⟩
    rw [List.take_add_one, et, List.map_append, List.sum_append]
    simp only [Option.toList, List.map_cons, List.map_nil, List.sum_cons, List.sum_nil, Int.add_zero]
    rfl
  ·rintro σ' H' ⟨y, rfl, rfl⟩
   wtm_at "xx"
   rw [List.length_map, List.take_length] 
   simpa using k
theorem value_ok {L L' : Ln} {ts : List Str} (e : readValue L ts = .ok L') : ∃ v tt, ts = [v] ∧ goTerms L.num 0 1 (termPieces v) L.terms = .ok tt ∧ L' = { L with terms := tt } := by
 unfold readValue at e
 split at e
 ·rename_i v
  cases g : goTerms L.num 0 1 (termPieces v) L.terms with
  | error x => rw [g] at e; cases e
  | ok tt =>
   rw [g] at e
   cases e
   exact ⟨v, tt, rfl, g, rfl⟩
 ·cases e
theorem split_short {c : Nat} : ∀ {l p : List Nat}, p ∈ splitC c l → p.length ≤ l.length := by
 intro l
 induction l with
 | nil => intro p h; simp [splitC] at h; subst h; exact Nat.le_refl _
 | cons a r ih =>
  intro p h
  by_cases e : a = c
  ·subst e
   rw [show splitC a (a :: r) = [] :: splitC a r from by simp [splitC]] at h
   rcases List.mem_cons.mp h with rfl | h
   ·exact Nat.zero_le _
   ·exact Nat.le_succ_of_le (ih h)
  ·cases g : splitC c r with
   | nil => exact absurd g (split_ne c r)
   | cons x t =>
    rw [split_skip e g] at h
    rw [g] at ih
    rcases List.mem_cons.mp h with rfl | h
    ·exact Nat.succ_le_succ (ih List.mem_cons_self)
    ·exact Nat.le_succ_of_le (ih (List.mem_cons_of_mem _ h))
theorem repl_short {c : Nat} {z : List Nat} (hz : z.length ≤ 3) : ∀ l : List Nat, (replC c z l).length ≤ 3 * l.length
 | [] => Nat.le_refl _
 | a :: r => by
  have ih := repl_short (c := c) hz r
  show ((if a = c then z else [a]) ++ replC c z r).length ≤ _
  rw [List.length_append, List.length_cons]
  have : (if a = c then z else [a]).length ≤ 3 := by split; exact hz; show 1 ≤ 3; omega
  omega
theorem terms_short {v p : Str} (hv : v.length ≤ 2000) (h : p ∈ termPieces v) : p.length ≤ 18000 := by
 have h1 : cs p ∈ (termPieces v).map cs := List.mem_map.mpr ⟨p, h, rfl⟩
 rw [termPieces_cs] at h1
 have h2 := split_short h1
 have h3 := repl_short (c := 45) (z := [32, 45, 32]) (Nat.le_refl 3) (replC 43 [32, 43, 32] (cs v))
 have h4 := repl_short (c := 43) (z := [32, 43, 32]) (Nat.le_refl 3) (cs v)
 rw [cs_len] at h2 h4
 omega
theorem app_get {α β : Type} {rs : List α} {ts : List β} {T r : α} {x q : β} {i : Nat} (n : rs.length = ts.length) (h1 : (rs ++ [T])[i]? = some r) (h2 : (ts ++ [x])[i]? = some q) : (rs[i]? = some r ∧ ts[i]? = some q) ∨ (r = T ∧ q = x) := by
 by_cases h : i < rs.length
 ·rw [List.getElem?_append_left h] at h1
  rw [List.getElem?_append_left (by omega)] at h2
  exact .inl ⟨h1, h2⟩
 ·rw [List.getElem?_append_right (by omega)] at h1
  rw [List.getElem?_append_right (by omega)] at h2
  have hi : i - rs.length = 0 := by
   cases g : i - rs.length with
   | zero => rfl
   | succ k => rw [g] at h1; cases h1
  rw [hi] at h1
  rw [show i - ts.length = 0 from by omega] at h2
  cases h1
  cases h2
  exact .inr ⟨rfl, rfl⟩
theorem LnAt.app {CL : Addr} {H H' : Hp} {A : LAd} {L : Ln} {rs : List Addr} {T : Addr} {f : Int} {p : Str} (h : LnAt CL H A L) (er : H A.l = some (.lst (rs.map V.ref))) (nr : rs.length = L.terms.length)
  (kr : ∀ (i : Nat) (r : Addr) (p : Int × Str), rs[i]? = some r → L.terms[i]? = some p → H r = some (.tup [.int p.1, .str p.2])) (hT : H T = some (.tup [.int f, .str p]))
  (h4 : H' A.l = some (.lst (rs.map V.ref ++ [.ref T]))) (fr : ∀ b o, b ≠ A.l → H b = some o → H' b = some o) : LnAt CL H' A { L with terms := L.terms ++ [(f, p)] } ∧ FrX H H' [A.a, A.l] := by
 have nl : ∀ b xs, H b = some (.tup xs) → b ≠ A.l := fun b xs e z => by rw [z, er] at e; cases e
 refine ⟨⟨fr _ _ h.ne h.o, rs ++ [T], by rw [h4, List.map_append]; rfl, by simp [nr], fun i r q e1 e2 => ?_⟩, fun b o e n => fr b o (fun z => n (by simp [z])) e, fun b xs e => fr _ _ (nl _ _ e) e⟩
 rcases app_get nr e1 e2 with ⟨a, b⟩ | ⟨rfl, rfl⟩
 ·exact fr _ _ (nl _ _ (kr i r q a b)) (kr i r q a b)
 ·exact fr _ _ (nl _ _ hT) hT
theorem ok_value (R : Raw K mg "read_value" s_read_value) (T : TxtN K mg CL) (G_is_term : GF P w K mg base "is_term" ["piece"] 3 sp_term) : GF P w K mg base "read_value" ["line", "behind"] 4 (sp_value K CL) := by
 refine GF.mk R sc_read_value (by wtm_at "2") (fun vs H Q E h => ?_) (fun f cdv A outer s H vs Q E hr h => ?_)
 ·obtain ⟨A, L, L', b, ts, rfl, _⟩ := h; rfl
 ·obtain ⟨A, L, L', b, ts, rfl, hA, hb, hz, ht, e, k⟩ := h
  obtain ⟨v, tt, rfl, e0, rfl⟩ := value_ok e
  have hv : v.length ≤ 2000 := hz v List.mem_cons_self
  have h18 : ∀ p ∈ termPieces v, p.length ≤ 18000 := fun p hp => terms_short hv hp
  refine ⟨_, (@pss_cons _ _ _ _ _ (@ps_if _ _ _ _ _ _ _ _ (@pt_cmpR _ _ _ _ _ _ _ _ op_ne (@pe_callBN _ _ _ _ _ _ _ _ _ (call_len_seqN (K := K) rfl) (by rfl) T.len_ bo_len (@pa_c _ _ _ _ _ (pv 1) pa_nil rfl) (by decide) (by decide) rfl) pe_int (nomark _)) (@pss_one _ _ _ ps_never) pss_nil) (@pss_cons _ _ _ _ _ (@ps_set _ _ (2) _ _ _ _ sc_read_value.nd rfl (Or.inl rfl) pe_int rfl (by first | exact .inl rfl | exact .inr rfl | assumption)) (@pss_one _ _ _ (@ps_for _ _ _ _ _ _ _ _ PassesOwn.never rfl (@pi_enumK _ (K) _ _ _ _ _ _ _ rfl rfl T.enumerate_ (@pa_c _ _ _ _ _ (pe_bm PySem.F.plainAttrs_str PySem.F.slot_str_split PySem.F.type_str_split mt_split (pe_oft (pet_repl (pet_repl (pet_ix (K := K) rfl (pv 1) (fun _ _ => rfl)) (by decide +kernel) (by decide +kernel)) (by decide +kernel) (by decide +kernel))) (@pa_c _ _ _ _ _ pe_str pa_nil rfl)) pa_nil rfl) rfl) (@pg_tupK _ (K) _ _ _ _ (2) rfl rfl (@pgs_cons _ _ _ _ _ (@pg_name _ _ (3) _ sc_read_value.nd rfl (Or.inl rfl) (by first | exact .inl rfl | exact .inr rfl | assumption)) (@pgs_cons _ _ _ _ _ (@pg_name _ _ (4) _ sc_read_value.nd rfl (Or.inl rfl) (by first | exact .inl rfl | exact .inr rfl | assumption)) pgs_nil rfl) rfl) rfl rfl) (@pss_one _ _ _ (@ps_if _ _ _ _ _ _ _ _ (@pt_cmpR _ _ _ _ _ _ _ _ op_eq (@pe_op _ _ _ _ _ _ _ _ op_mod (pv 3) pe_int) pe_int (nomark _)) (@pss_one _ _ _ (@ps_set _ _ (2) _ _ _ _ sc_read_value.nd rfl (Or.inl rfl) (@pe_ifExp _ _ _ _ _ _ _ _ (@pt_cmpR _ _ _ _ _ _ _ _ op_eq (pv 4) pe_str (nomark _)) pe_int (@pe_un _ _ _ _ _ _ un_neg pe_int)) rfl (by first | exact .inl rfl | exact .inr rfl | assumption))) (@pss_one _ _ _ (@ps_if _ _ _ _ _ _ _ _ (@pt_val _ _ _ (@pe_gcallN _ _ _ _ _ _ _ _ _ _ G_is_term (hr.mono (by decide)) rfl (@pa_c _ _ _ _ _ (pv 4) pa_nil rfl) (by decide) rfl) (fun _ => rfl)) (@pss_one _ _ _ (@ps_expr _ _ _ _ (pe_bm PySem.F.plainAttrs_list PySem.F.slot_list_append PySem.F.type_list_append mt_append (@pe_fldK _ (K) _ _ _ _ rfl (pv 0) rfl) (@pa_c _ _ _ _ _ (@pe_tup _ _ _ _ _ (@pa_c _ _ _ _ _ (pv 2) (@pa_c _ _ _ _ _ (pv 4) pa_nil rfl) rfl)) pa_nil rfl)) rfl)) (@pss_one _ _ _ ps_never))))) (fun _ => rfl))))), ?_⟩
  wtm_at "xx"
  refine ⟨b, _, rfl, .inl hb, ?_⟩
  wtm_at "xx"
  refine Sx.ixS hb at0 ?_
  refine ⟨v, rfl, by omega, ?_⟩
  have c4 := repl_short (c := 43) (z := [32, 43, 32]) (Nat.le_refl 3) (cs v)
  have r1 : (Txt.replace v "+" " + ").length ≤ 6000 := by
   rw [← cs_len, show ("+" : Str) = ⟨#[43]⟩ from by decide +kernel, treplace, show cs " + " = [32, 43, 32] from by decide +kernel]
   rw [cs_len] at c4
   omega
  have c3 := repl_short (c := 45) (z := [32, 45, 32]) (Nat.le_refl 3) (cs (Txt.replace v "+" " + "))
  have r2 : (Txt.replace (Txt.replace v "+" " + ") "-" " - ").length ≤ 18000 := by
   rw [← cs_len, show ("-" : Str) = ⟨#[45]⟩ from by decide +kernel, treplace, show cs " - " = [32, 45, 32] from by decide +kernel]
   rw [cs_len] at c3
   omega
  refine ⟨_, rfl, by omega, ?_⟩
  wtm_at "xx"
  refine ⟨_, " ", rfl, rfl, by decide +kernel, by omega, fun ls H1 n1 h1 s1 => ?_⟩
  wtm_at "xx"
  have hls := split_len (Txt.replace (Txt.replace v "+" " + ") "-" " - ") " "
  change H1 ls = some (.lst ((termPieces v).map V.str)) at h1
  have hl' : (termPieces v).length ≤ 18002 := by have : (termPieces v).length ≤ _ := hls; omega
  refine ⟨ls, _, rfl, SqL.of h1, for_enum (xs := (termPieces v).map V.str) (fun i σ' H' => ∃ (f : Int) (acc : List (Int × Str)) (x3 x4 : Option V), σ' = [some (.ref A.a), some (.ref b), some (.int f), x3, x4] ∧ LnAt CL H' A { L with terms := acc } ∧ FrX H H' [A.a, A.l] ∧ goTerms L.num i f ((termPieces v).drop i) acc = .ok tt ∧ acc.length ≤ 2000 + i ∧ H' ls = some (.lst ((termPieces v).map V.str)) ∧ H ls = none) ?_ ?_ ?_ ?_⟩
  ·exact ⟨1, L.terms, _, _, rfl, hA.keep s1, .same s1, e0, ht, h1, n1⟩
  ·rintro i σ' H' _ ⟨_, _, _, _, _, _, _, _, _, h, _⟩
   exact SqL.of h
  ·rintro i x T0 σ' H' hx ⟨f, acc, x3, x4, rfl, hA', fr', e', hac, hls', nls⟩ hT
   rw [List.getElem?_map] at hx
   cases et : (termPieces v)[i]? with
   | none => rw [et] at hx; cases hx
   | some p =>
    rw [et] at hx
    cases hx
    have hi : i < (termPieces v).length := (List.getElem?_eq_some_iff.mp et).1
    have ed : (termPieces v).drop i = p :: (termPieces v).drop (i + 1) := by
     rw [List.drop_eq_getElem_cons hi]
     have := (List.getElem?_eq_some_iff.mp et).2
     rw [this]
    rw [ed] at e'
    unfold goTerms at e'
    have s3 : Same H' (upd H' T0 (.tup [.int i, .str p])) := Same.newH hT
    have t3 : (upd H' T0 (.tup [.int i, .str p])) T0 = some (.tup [.int i, .str p]) := upd_same
    generalize upd H' T0 (.tup [.int i, .str p]) = G3 at s3 t3 ⊢
    refine ⟨T0, _, rfl, SqT.of t3, rfl, _, _, rfl, _, _, rfl, rfl, ?_⟩
    wtm_at "xx"
    refine iteD (fun g => ?_) (fun g => ?_)
    ·rw [if_pos (by omega)] at e'
     wtm_at "xx"
     refine iteD (fun g2 => ?_) (fun g2 => ?_)
     ·rw [if_pos g2] at e'
      wtm_at "xx"
      exact ⟨1, acc, _, _, rfl, hA'.keep s3, fr'.trans (.same s3), e', by omega, s3 _ _ hls', nls⟩
     ·rw [if_neg g2] at e'
      wtm_at "xx"
      refine ⟨1, rfl, ?_⟩
      wtm_at "xx"
      exact ⟨-1, acc, _, _, rfl, hA'.keep s3, fr'.trans (.same s3), e', by omega, s3 _ _ hls', nls⟩
    ·rw [if_neg (by omega)] at e'
     wtm_at "xx"
     refine ⟨p, rfl, by have := h18 p (List.mem_of_getElem? et); omega, fun G4 s4 => ?_⟩
     wtm_at "xx"
     refine iteB (fun g => ?_) (fun g => ?_)
     ·rw [if_pos g] at e'
      have hA4 := (hA'.keep s3).keep s4
      wtm_at "xx"
      refine Sx.atF hA4.o T.clL T.n_terms (lk_terms _ _) ?_
      obtain ⟨rs, er, nr, kr⟩ := hA4.t
      refine ⟨Sx.tyL er, ?_⟩
      wtm_at "xx"
      refine ⟨by show 2 ≤ sizeLine; decide, fun T1 nT1 => ?_⟩
      have s5 : Same G4 (upd G4 T1 (.tup [.int f, .str p])) := Same.newH nT1
      have t5 : (upd G4 T1 (.tup [.int f, .str p])) T1 = some (.tup [.int f, .str p]) := upd_same
      generalize upd G4 T1 (.tup [.int f, .str p]) = G5 at s5 t5 ⊢
      wtm_at "xx"
      refine Sx.addL (s5 _ _ er) (by rw [List.length_map, nr]; show acc.length < _; omega) fun G6 h6 f6 => ?_
      obtain ⟨hA6, fr6⟩ := (hA4.keep s5).app (s5 _ _ er) nr (fun i r q a b => s5 _ _ (kr i r q a b)) t5 h6 f6
      refine ⟨f, _, _, _, rfl, hA6, ((fr'.trans (.same s3)).trans ((FrX.same s4).trans (.same s5))).trans fr6, e', by show (acc ++ [(f, p)]).length ≤ _; rw [List.length_append, List.length_singleton]; omega, ?_, nls⟩
      have h5 := s5 _ _ (s4 _ _ (s3 _ _ hls'))
      refine f6 _ _ (fun z => ?_) h5
      have := fr'.1
      obtain ⟨rs0, er0, _⟩ := hA.t
      rw [z, er0] at nls
      cases nls
     ·rw [g, if_neg Bool.false_ne_true] at e'
      cases e'
  ·rintro σ' H' ⟨f, acc, x3, x4, rfl, hA', fr', e', hac, hls', nls⟩
   rw [List.length_map, List.drop_length] at e'
   cases e'
   exact k _ hA' fr'
end
end Sc
namespace Sc
open PySem L2 Tx Ls
section
variable {P : Program} {w : World} {K : PySem.W.Frag} {mg : Str → Option Value} {base : Heap} {CL : Addr}
def sp_word : Sp := fun vs H Q _ => ∃ k f p : Int, vs = [.int k, .int f, .int p] ∧ k.natAbs ≤ 1000 ∧ f.natAbs ≤ 1000 ∧ Q (.int (k * 128 + f * 64 + p)) H
def sp_label (CL : Addr) : Sp := fun vs H Q _ => ∃ (A : LAd) (L : Ln) (p : Str), vs = [.ref A.a, .str p] ∧ LnAt CL H A L ∧ p.length ≤ 2000 ∧ isName (oc ((cs p).take ((cs p).length - 1))) = true ∧ ∀ H', LnAt CL H' A { L with label := some (oc ((cs p).take ((cs p).length - 1))) } → FrX H H' [A.a, A.l] → Q .non H'
def sp_cell (K : PySem.W.Frag) (CL : Addr) : Sp := fun vs H Q _ => ∃ (A : LAd) (L L' : Ln) (b : Addr) (nm : Str) (ts : List Str), vs = [.ref A.a, .ref b] ∧ LnAt CL H A L ∧ L.name = some nm ∧ nm ∈ kindsS ∧ SqL K H b (ts.map V.str) ∧ (∀ t ∈ ts, t.length ≤ 2000) ∧ ts.length ≤ 3000 ∧ L.terms.length ≤ 2000 ∧ readCell L nm ts = .ok L' ∧ ∀ H', LnAt CL H' A L' → FrX H H' [A.a, A.l] → Q .non H'
def sp_deed (K : PySem.W.Frag) (CL : Addr) : Sp := fun vs H Q _ => ∃ (A : LAd) (L L' : Ln) (b : Addr) (nm : Str) (ts : List Str), vs = [.ref A.a, .str nm, .ref b] ∧ LnAt CL H A L ∧ H b = some (.lst (ts.map V.str)) ∧ (∀ t ∈ ts, t.length ≤ 2000) ∧ ts.length ≤ 3000 ∧ L.terms.length ≤ 2000 ∧ readDeed L nm ts = .ok L' ∧ ∀ H', LnAt CL H' A L' → FrX H H' [A.a, A.l] → Q .non H'
theorem sl_last {p : Str} (h : 1 ≤ p.length) : StrLaws.sliceText p none (some (-1)) = oc ((cs p).take ((cs p).length - 1)) := by
 rw [StrLaws.sliceText_neg_hi p none (by decide) (by omega), StrLaws.sliceText_to (by rw [show p.cps.toList.length = p.length from by simp [Str.length]]; omega)]
 show oc _ = oc _
 rw [List.drop_zero, cs_len]
 congr 2
 omega
theorem sl_first {p : Str} (h : 1 ≤ p.length) : StrLaws.sliceText p (some 1) none = oc ((cs p).drop 1) := by
 rw [StrLaws.sliceText_from (by rw [show p.cps.toList.length = p.length from by simp [Str.length]]; omega)]
 show oc _ = oc _
 congr 1
 exact List.take_of_length_le (by simp)
theorem ok_word (R : Raw K mg "word" s_word) : GF P w K mg base "word" ["kind", "far", "place"] 1 sp_word := by
 refine GF.mk R sc_word (by wtm_at "3") (fun vs H Q E h => ?_) (fun f cdv A outer s H vs Q E hr h => ?_)
 ·obtain ⟨k, f, p, rfl, _⟩ := h; rfl
 ·obtain ⟨a, f, p, rfl, h1, h2, k⟩ := h
  refine ⟨_, (@pss_one _ _ _ (@ps_ret _ _ _ _ (@pe_op _ _ _ _ _ _ _ _ op_add (@pe_op _ _ _ _ _ _ _ _ op_add (@pe_op _ _ _ _ _ _ _ _ op_mul (pv 0) pe_int) (@pe_op _ _ _ _ _ _ _ _ op_mul (pv 1) pe_int)) (pv 2)))), ?_⟩
  wtm_at "xx"
  exact k
theorem name_some {q : Str} (h : isName q = true) : 1 ≤ q.length := by
 unfold isName shortName at h
 simp only [Bool.and_eq_true, decide_eq_true_eq] at h
 exact h.1.1.1
theorem ok_label (R : Raw K mg "read_label" s_read_label) (T : TxtN K mg CL) (G_is_name : GF P w K mg base "is_name" ["piece"] 2 sp_name) : GF P w K mg base "read_label" ["line", "piece"] 3 (sp_label CL) := by
 refine GF.mk R sc_read_label (by wtm_at "2") (fun vs H Q E h => ?_) (fun f cdv A outer s H vs Q E hr h => ?_)
 ·obtain ⟨A, L, p, rfl, _⟩ := h; rfl
 ·obtain ⟨A, L, p, rfl, hA, hp, hn, k⟩ := h
  have h1 : 1 ≤ p.length := by
   have := name_some hn
   rw [← cs_len, cs_oc, List.length_take] at this
   rw [← cs_len]
   omega
  have hq : (oc ((cs p).take ((cs p).length - 1))).length ≤ 2000 := by
   rw [← cs_len, cs_oc, List.length_take, cs_len]
   omega
  refine ⟨_, (@pss_cons _ _ _ _ _ (@ps_fldK _ (K) _ _ _ _ _ _ _ rfl (pv 0) (@pe_slice _ _ _ _ _ _ _ _ _ _ sl_str (pv 1) po_none (@po_some _ _ _ (@pe_un _ _ _ _ _ _ un_neg pe_int))) rfl) (@pss_one _ _ _ (@ps_if _ _ _ _ _ _ _ _ (@pt_not _ _ _ _ (@pt_val _ _ _ (@pe_gcallN _ _ _ _ _ _ _ _ _ _ G_is_name (hr.mono (by decide)) rfl (@pa_c _ _ _ _ _ (@pe_fldK _ (K) _ _ _ _ rfl (pv 0) rfl) pa_nil rfl) (by decide) rfl) (fun _ => rfl))) (@pss_one _ _ _ ps_never) pss_nil))), ?_⟩
  wtm_at "xx"
  refine ⟨1, rfl, _, rfl, p, rfl, by omega, ?_⟩
  rw [sl_last h1]
  generalize oc ((cs p).take ((cs p).length - 1)) = q at hn hq k ⊢
  wtm_at "xx"
  refine xPut hA.o T.clL T.n_label (len_fldsL _ _) fun H1 h1 o1 f1 => ?_
  rw [pf_label] at h1
  have hA1 : LnAt CL H1 A { L with label := some q } := ⟨h1, hA.t.mv (fun o e => by rw [o1 _ hA.ne.symm]; exact e) f1.2⟩
  have fr1 : FrX H H1 [A.a, A.l] := f1.more fun x hx => by rw [List.mem_singleton.mp hx]; exact List.mem_cons_self
  wtm_at "xx"
  refine Sx.atF h1 T.clL T.n_label (lk_label _ _) ?_
  wtm_at "xx"
  refine ⟨q, rfl, by omega, fun H2 s2 => ?_⟩
  wtm_at "xx"
  rw [hn]
  wtm_at "xx"
  exact k _ (hA1.keep s2) (fr1.trans (.same s2))
theorem sq_fr {H H' : Hp} {a b C dx : Addr} {fs : List (Str × V)} {xs : List V} (h : SqL K H b xs) (ho : H a = some (.ins C dx fs)) (f : ∀ c, c ≠ a → H' c = H c) : SqL K H' b xs := by
 rcases h with (h | ⟨o, h⟩) | h
 ·exact .inl (.inl (by rw [f b fun z => by rw [z, ho] at h; cases h]; exact h))
 ·exact .inl (.inr ⟨o, by rw [f b fun z => by rw [z, ho] at h; cases h]; exact h⟩)
 ·exact .inr h
theorem LnAt.wr {H H1 : Hp} {A : LAd} {L L' : Ln} (hA : LnAt CL H A L) (h1 : H1 A.a = some (.ins CL A.dx (fldsL A L'))) (e : L'.terms = L.terms) (o1 : ∀ b, b ≠ A.a → H1 b = H b) (f1 : FrX H H1 [A.a]) : LnAt CL H1 A L' ∧ FrX H H1 [A.a, A.l] :=
 ⟨⟨h1, by rw [e]; exact hA.t.mv (fun o e => by rw [o1 _ hA.ne.symm]; exact e) f1.2⟩, f1.more fun x hx => by rw [List.mem_singleton.mp hx]; exact List.mem_cons_self⟩
theorem cell_far {L L' : Ln} {nm : Str} {ts : List Str} (e : readCell L nm ts = .ok L') : (∃ r : List Str, ts = ("far" : Str) :: r ∧ readPool { L with base := (kindsS.idxOf nm : Nat) * 128 + 64 } r = .ok L') ∨ (¬ ts[0]? = some ("far" : Str)) ∧ readPool { L with base := (kindsS.idxOf nm : Nat) * 128 } ts = .ok L' := by
 cases ts with
 | nil => exact .inr ⟨fun z => (by cases z), e⟩
 | cons v r =>
  simp only [readCell] at e
  by_cases g : v = "far"
  ·subst g
   rw [if_pos rfl] at e
   exact .inl ⟨r, rfl, e⟩
  ·rw [if_neg g] at e
   exact .inr ⟨fun z => g (Option.some.inj z), e⟩
theorem pool_eq {L L' : Ln} {ts : List Str} (e : readPool L ts = .ok L') : (∃ v r, ts = v :: r ∧ (cs v)[0]? = some 61 ∧ readValue { L with pooled := true } (oc ((cs v).drop 1) :: r) = .ok L') ∨ (∀ v r, ts = v :: r → ¬ (cs v)[0]? = some 61) ∧ readValue L ts = .ok L' := by
 cases ts with
 | nil => exact .inr ⟨fun v r z => (by cases z), e⟩
 | cons v r =>
  simp only [readPool] at e
  by_cases g : (cs v)[0]? = some 61
  ·rw [if_pos g] at e
   exact .inl ⟨v, r, rfl, g, e⟩
  ·rw [if_neg g] at e
   exact .inr ⟨fun a b z => by cases z; exact g, e⟩
theorem ok_cell (R : Raw K mg "read_cell_deed" s_read_cell_deed) (T : TxtN K mg CL) (G_word : GF P w K mg base "word" ["kind", "far", "place"] 1 sp_word) (G_read_value : GF P w K mg base "read_value" ["line", "behind"] 4 (sp_value K CL)) : GF P w K mg base "read_cell_deed" ["line", "behind"] 5 (sp_cell K CL) := by
 refine GF.mk R sc_read_cell_deed (by wtm_at "2") (fun vs H Q E h => ?_) (fun f cdv A outer s H vs Q E hr h => ?_)
 ·obtain ⟨A, L, L', b, nm, ts, rfl, _⟩ := h; rfl
 ·obtain ⟨A, L, L', b, nm, ts, rfl, hA, hnm, hk, hb, hz, hl, ht, e, k⟩ := h
  refine ⟨_, (@pss_cons _ _ _ _ _ (@ps_set _ _ (2) _ _ _ _ sc_read_cell_deed.nd rfl (Or.inl rfl) pe_int rfl (by first | exact .inl rfl | exact .inr rfl | assumption)) (@pss_cons _ _ _ _ _ (@ps_cut _ _ _ (@ps_if _ _ _ _ _ _ _ _ (@PW.pt _ _ _ (@pw_and _ _ _ _ _ _ _ (@pt_cmpR _ _ _ _ _ _ _ _ op_gt (@pe_callBN _ _ _ _ _ _ _ _ _ (call_len_seqN (K := K) rfl) (by rfl) T.len_ bo_len (@pa_c _ _ _ _ _ (pv 1) pa_nil rfl) (by decide) (by decide) rfl) pe_int (nomark _)) (@pw_and1 _ _ _ _ (@pt_cmpR _ _ _ _ _ _ _ _ op_eq (@pe_ix _ _ _ _ _ _ _ (ix_listK (K := K) rfl) (pv 1) pe_int (fun _ _ => rfl)) pe_str (nomark _))))) (@pss_cons _ _ _ _ _ (@ps_set _ _ (2) _ _ _ _ sc_read_cell_deed.nd rfl (Or.inl rfl) pe_int rfl (by first | exact .inl rfl | exact .inr rfl | assumption)) (@pss_one _ _ _ (@ps_set _ _ (1) _ _ _ _ sc_read_cell_deed.nd rfl (Or.inl rfl) (@pe_slice _ _ _ _ _ _ _ _ _ _ (sl_listK (K := K) rfl) (pv 1) (@po_some _ _ _ pe_int) po_none) rfl (by first | exact .inl rfl | exact .inr rfl | assumption)))) pss_nil)) (@pss_cons _ _ _ _ _ (@ps_fldK _ (K) _ _ _ _ _ _ _ rfl (pv 0) (@pe_gcallN _ _ _ _ _ _ _ _ _ _ G_word (hr.mono (by decide)) rfl (@pa_c _ _ _ _ _ (pe_bm PySem.F.plainAttrs_tuple PySem.F.slot_tuple_index PySem.F.type_tuple_index (mt_tidx (K := K) rfl) (pe_gtup (K := K) rfl rfl T.DEEDS) (@pa_c _ _ _ _ _ (@pe_fldK _ (K) _ _ _ _ rfl (pv 0) rfl) pa_nil rfl)) (@pa_c _ _ _ _ _ (pv 2) (@pa_c _ _ _ _ _ pe_int pa_nil rfl) rfl) rfl) (by decide) rfl) rfl) (@pss_cons _ _ _ _ _ (@ps_cut _ _ _ (@ps_if _ _ _ _ _ _ _ _ (@PW.pt _ _ _ (@pw_and _ _ _ _ _ _ _ (@pt_cmpR _ _ _ _ _ _ _ _ op_gt (@pe_callBN _ _ _ _ _ _ _ _ _ (call_len_seqN (K := K) rfl) (by rfl) T.len_ bo_len (@pa_c _ _ _ _ _ (pv 1) pa_nil rfl) (by decide) (by decide) rfl) pe_int (nomark _)) (@pw_and1 _ _ _ _ (@pt_val _ _ _ (pe_bm PySem.F.plainAttrs_str PySem.F.slot_str_startswith PySem.F.type_str_startswith mt_starts (@pe_ix _ _ _ _ _ _ _ (ix_listK (K := K) rfl) (pv 1) pe_int (fun _ _ => rfl)) (@pa_c _ _ _ _ _ pe_str pa_nil rfl)) (fun _ => rfl))))) (@pss_cons _ _ _ _ _ (@ps_fldK _ (K) _ _ _ _ _ _ _ rfl (pv 0) pe_bl rfl) (@pss_one _ _ _ (@ps_set _ _ (1) _ _ _ _ sc_read_cell_deed.nd rfl (Or.inl rfl) (@pe_op _ _ _ _ _ _ _ _ op_cat (@pe_lst _ _ _ _ (@pa_c _ _ _ _ _ (@pe_slice _ _ _ _ _ _ _ _ _ _ sl_str (@pe_ix _ _ _ _ _ _ _ (ix_listK (K := K) rfl) (pv 1) pe_int (fun _ _ => rfl)) (@po_some _ _ _ pe_int) po_none) pa_nil rfl)) (@pe_slice _ _ _ _ _ _ _ _ _ _ (sl_listK (K := K) rfl) (pv 1) (@po_some _ _ _ pe_int) po_none)) rfl (by first | exact .inl rfl | exact .inr rfl | assumption)))) pss_nil)) (@pss_one _ _ _ (@ps_expr _ _ _ _ (@pe_gcallN _ _ _ _ _ _ _ _ _ _ G_read_value (hr.mono (by decide)) rfl (@pa_c _ _ _ _ _ (pv 0) (@pa_c _ _ _ _ _ (pv 1) pa_nil rfl) rfl) (by decide) rfl) rfl)))))), ?_⟩
  wtm_at "xx"
  refine Sx.cut (fun σ' H' => ∃ (f : Int) (b' : Addr) (ts' : List Str), (f = 0 ∨ f = 1) ∧ σ' = [some (.ref A.a), some (.ref b'), some (.int f)] ∧ SqL K H' b' (ts'.map V.str) ∧ Same H H' ∧ (∀ t ∈ ts', t.length ≤ 2000) ∧ ts'.length ≤ 3000 ∧ readPool { L with base := (kindsS.idxOf nm : Nat) * 128 + f * 64 } ts' = .ok L') ?_ ?_
  ·wtm_at "xx"
   refine ⟨b, _, rfl, .inl hb, ?_⟩
   wtm_at "xx"
   refine iteD (fun g => ?_) (fun g => ?_)
   ·cases ts with
    | nil => exact absurd g (by decide)
    | cons v r =>
     wtm_at "xx"
     refine Sx.ixS hb at0 ?_
     wtm_at "xx"
     refine iteD (fun g2 => ?_) (fun g2 => ?_)
     ·subst g2
      wtm_at "xx"
      refine Sx.slN hb fun p H1 n1 h1 s1 => ?_
      rw [show cutV (List.map V.str (("far" : Str) :: r)) (some 1) none = r.map V.str from by rw [show (1 : Int) = ((1 : Nat) : Int) from rfl, cutFrom]; rfl] at h1
      wtm_at "xx"
      rcases cell_far e with ⟨r', er, e2⟩ | ⟨g3, _⟩
      ·cases er
       exact ⟨1, p, r, .inr rfl, rfl, SqL.of h1, s1, fun t ht => hz t (List.mem_cons_of_mem _ ht), by rw [List.length_cons] at hl; omega, e2⟩
      ·exact absurd rfl g3
     ·wtm_at "xx"
      rcases cell_far e with ⟨r', er, e2⟩ | ⟨_, e2⟩
      ·cases er
       exact absurd rfl g2
      ·exact ⟨0, b, _, .inl rfl, rfl, hb, Same.refl _, hz, hl, by simpa using e2⟩
   ·cases ts with
    | nil =>
     wtm_at "xx"
     rcases cell_far e with ⟨r', er, e2⟩ | ⟨_, e2⟩
     ·cases er
     ·exact ⟨0, b, _, .inl rfl, rfl, hb, Same.refl _, hz, hl, by simpa using e2⟩
    | cons v r => exact absurd (show (0 : Int) < ((List.map V.str (v :: r)).length : Nat) from by rw [List.length_map, List.length_cons]; omega) g
  ·rintro σ' H1 ⟨f, b', ts', hf, rfl, hb', s1, hz', hl', e'⟩
   have hA1 := hA.keep s1
   have hix : kindsS.idxOf nm < 6 := List.idxOf_lt_length_of_mem hk
   wtm_at "xx"
   refine Sx.topT fun a ha => ⟨tyT ha, ?_⟩
   wtm_at "xx"
   refine Sx.atF hA1.o T.clL T.n_name (lk_name _ _) ?_
   rw [hnm]
   wtm_at "xx"
   refine ⟨a, kindsS, nm, rfl, rfl, ha, hk, ?_⟩
   wtm_at "xx"
   refine ⟨_, _, _, rfl, by omega, by omega, ?_⟩
   rw [Int.add_zero]
   wtm_at "xx"
   refine xPut hA1.o T.clL T.n_base (len_fldsL _ _) fun H2 h2 o2 f2 => ?_
   rw [pf_base] at h2
   obtain ⟨hA2, fr2⟩ := hA1.wr h2 rfl o2 f2
   have hb2 := sq_fr hb' hA1.o o2
   clear h2 o2 f2
   generalize hL2 : ({ L with base := (kindsS.idxOf nm : Nat) * 128 + f * 64 } : Ln) = L2 at e' hA2
   have hn2 : L2.terms.length ≤ 2000 := by rw [← hL2]; exact ht
   wtm_at "xx"
   refine Sx.cut (fun σ' H' => ∃ (b2 : Addr) (ts2 : List Str) (L3 : Ln), σ' = [some (.ref A.a), some (.ref b2), some (.int f)] ∧ SqL K H' b2 (ts2.map V.str) ∧ LnAt CL H' A L3 ∧ FrX H H' [A.a, A.l] ∧ (∀ t ∈ ts2, t.length ≤ 2000) ∧ L3.terms.length ≤ 2000 ∧ readValue L3 ts2 = .ok L') ?_ ?_
   ·wtm_at "xx"
    refine ⟨b', _, rfl, .inl hb2, ?_⟩
    wtm_at "xx"
    have fr0 : FrX H H2 [A.a, A.l] := (FrX.same s1).trans fr2
    refine iteD (fun g => ?_) (fun g => ?_)
    ·cases ts' with
     | nil => exact absurd g (by decide)
     | cons v r =>
      wtm_at "xx"
      refine Sx.ixS hb2 at0 ?_
      wtm_at "xx"
      refine ⟨v, "=", rfl, rfl, ?_⟩
      rw [show ("=" : Str) = ⟨#[61]⟩ from by decide +kernel, tstart]
      wtm_at "xx"
      have hv : v.length ≤ 2000 := hz' v List.mem_cons_self
      refine iteD (fun g2 => ?_) (fun g2 => ?_)
      ·wtm_at "xx"
       refine xPut hA2.o T.clL T.n_pooled (len_fldsL _ _) fun H3 h3 o3 f3 => ?_
       rw [pf_pooled] at h3
       obtain ⟨hA3, fr3⟩ := hA2.wr h3 rfl o3 f3
       have hb3 := sq_fr hb2 hA2.o o3
       wtm_at "xx"
       refine Sx.ixS hb3 at0 ?_
       wtm_at "xx"
       refine ⟨v, rfl, by omega, ?_⟩
       have hv1 : 1 ≤ v.length := by
        rw [← cs_len]
        cases g : cs v with
        | nil => rw [g] at g2; cases g2
        | cons a b => simp
       rw [sl_first hv1]
       wtm_at "xx"
       refine Sx.newL (by show 1 ≤ sizeLine; decide) fun p1 H4 n4 h4 s4 => ?_
       wtm_at "xx"
       refine Sx.slN (s4.seq hb3) fun p2 H5 n5 h5 s5 => ?_
       rw [show cutV (List.map V.str (v :: r)) (some 1) none = r.map V.str from by rw [show (1 : Int) = ((1 : Nat) : Int) from rfl, cutFrom]; rfl] at h5
       wtm_at "xx"
       refine Sx.catN (s5 _ _ h4) h5 (by rw [List.length_map, List.length_singleton]; rw [List.length_cons] at hl'; omega) fun p3 H6 n6 h6 s6 => ?_
       wtm_at "xx"
       rcases pool_eq e' with ⟨v', r', er, _, e2⟩ | ⟨g3, _⟩
       ·cases er
        refine ⟨p3, oc ((cs v).drop 1) :: r, _, rfl, SqL.of h6, ((hA3.keep s4).keep s5).keep s6, (fr0.trans fr3).trans (.same (s4.trans (s5.trans s6))), fun t ht => ?_, hn2, e2⟩
        rcases List.mem_cons.mp ht with rfl | ht
        ·rw [← cs_len, cs_oc, List.length_drop, cs_len]; omega
        ·exact hz' t (List.mem_cons_of_mem _ ht)
       ·exact absurd g2 (g3 v r rfl)
      ·wtm_at "xx"
       rcases pool_eq e' with ⟨v', r', er, g3, e2⟩ | ⟨_, e2⟩
       ·cases er
        exact absurd g3 g2
       ·exact ⟨b', _, L2, rfl, hb2, hA2, fr0, hz', hn2, e2⟩
    ·cases ts' with
     | nil =>
      wtm_at "xx"
      rcases pool_eq e' with ⟨v', r', er, _⟩ | ⟨_, e2⟩
      ·cases er
      ·exact ⟨b', _, L2, rfl, hb2, hA2, fr0, hz', hn2, e2⟩
     | cons v r => exact absurd (show (0 : Int) < ((List.map V.str (v :: r)).length : Nat) from by rw [List.length_map, List.length_cons]; omega) g
   ·rintro σ' H3 ⟨b2, ts2, L3, rfl, hb3, hA3, fr3, hz3, ht3, e3⟩
    wtm_at "xx"
    exact ⟨A, L3, L', b2, ts2, rfl, hA3, hb3, hz3, ht3, e3, fun H' hA' fr' => k _ hA' (fr3.trans fr')⟩
theorem ok_deed (R : Raw K mg "read_deed" s_read_deed) (T : TxtN K mg CL) (G_word : GF P w K mg base "word" ["kind", "far", "place"] 1 sp_word) (G_read_value : GF P w K mg base "read_value" ["line", "behind"] 4 (sp_value K CL)) (G_read_cell_deed : GF P w K mg base "read_cell_deed" ["line", "behind"] 5 (sp_cell K CL))
  (G_read_ask : GF P w K mg base "read_ask" ["line", "behind"] 1 (sp_ask K CL)) (G_read_bits : GF P w K mg base "read_bits" ["line", "behind", "names"] 1 (sp_bits K CL)) : GF P w K mg base "read_deed" ["line", "name", "behind"] 6 (sp_deed K CL) := by
 refine GF.mk R sc_read_deed (by wtm_at "3") (fun vs H Q E h => ?_) (fun f cdv A outer s H vs Q E hr h => ?_)
 ·obtain ⟨A, L, L', b, nm, ts, rfl, _⟩ := h; rfl
 ·obtain ⟨A, L, L', b, nm, ts, rfl, hA, hb, hz, hl, ht, e, k⟩ := h
  have hba : b ≠ A.a := fun z => by rw [z, hA.o] at hb; cases hb
  refine ⟨_, (@pss_cons _ _ _ _ _ (@ps_fldK _ (K) _ _ _ _ _ _ _ rfl (pv 0) (pv 1) rfl) (@pss_one _ _ _ (@ps_if _ _ _ _ _ _ _ _ (@PW.pt _ _ _ (@pw_or _ _ _ _ _ _ _ (@pt_cmpR _ _ _ _ _ _ _ _ op_eq (pv 1) pe_str (nomark _)) (@pw_or1 _ _ _ _ (@pt_cmpR _ _ _ _ _ _ _ _ op_eq (pv 1) pe_str (nomark _))))) (@pss_one _ _ _ (@ps_expr _ _ _ _ (@pe_gcallN _ _ _ _ _ _ _ _ _ _ G_read_value (hr.mono (by decide)) rfl (@pa_c _ _ _ _ _ (pv 0) (@pa_c _ _ _ _ _ (pv 2) pa_nil rfl) rfl) (by decide) rfl) rfl)) (@pss_one _ _ _ (@ps_if _ _ _ _ _ _ _ _ (@pt_cmpR _ _ _ _ _ _ _ _ (op_in_seqK (K := K) rfl) (pv 1) (pe_gtup (K := K) rfl rfl T.DEEDS) (by with_unfolding_all rfl)) (@pss_one _ _ _ (@ps_expr _ _ _ _ (@pe_gcallN _ _ _ _ _ _ _ _ _ _ G_read_cell_deed (hr.mono (by decide)) rfl (@pa_c _ _ _ _ _ (pv 0) (@pa_c _ _ _ _ _ (pv 2) pa_nil rfl) rfl) (by decide) rfl) rfl)) (@pss_one _ _ _ (@ps_if _ _ _ _ _ _ _ _ (@pt_cmpR _ _ _ _ _ _ _ _ op_eq (pv 1) pe_str (nomark _)) (@pss_one _ _ _ (@ps_fldK _ (K) _ _ _ _ _ _ _ rfl (pv 0) (@pe_gcallN _ _ _ _ _ _ _ _ _ _ G_word (hr.mono (by decide)) rfl (@pa_c _ _ _ _ _ (@pe_gint _ _ _ _ rfl T.ASK (by decide)) (@pa_c _ _ _ _ _ pe_int (@pa_c _ _ _ _ _ (@pe_gcallN _ _ _ _ _ _ _ _ _ _ G_read_ask (hr.mono (by decide)) rfl (@pa_c _ _ _ _ _ (pv 0) (@pa_c _ _ _ _ _ (pv 2) pa_nil rfl) rfl) (by decide) rfl) pa_nil rfl) rfl) rfl) (by decide) rfl) rfl)) (@pss_one _ _ _ (@ps_if _ _ _ _ _ _ _ _ (@pt_cmpR _ _ _ _ _ _ _ _ op_eq (pv 1) pe_str (nomark _)) (@pss_one _ _ _ (@ps_fldK _ (K) _ _ _ _ _ _ _ rfl (pv 0) (@pe_gcallN _ _ _ _ _ _ _ _ _ _ G_word (hr.mono (by decide)) rfl (@pa_c _ _ _ _ _ (@pe_gint _ _ _ _ rfl T.BITS (by decide)) (@pa_c _ _ _ _ _ pe_int (@pa_c _ _ _ _ _ (@pe_gcallN _ _ _ _ _ _ _ _ _ _ G_read_bits (hr.mono (by decide)) rfl (@pa_c _ _ _ _ _ (pv 0) (@pa_c _ _ _ _ _ (pv 2) (@pa_c _ _ _ _ _ (pe_gtup (K := K) rfl rfl T.CHANGES) pa_nil rfl) rfl) rfl) (by decide) rfl) pa_nil rfl) rfl) rfl) (by decide) rfl) rfl)) (@pss_one _ _ _ (@ps_if _ _ _ _ _ _ _ _ (@pt_cmpR _ _ _ _ _ _ _ _ op_eq (pv 1) pe_str (nomark _)) (@pss_one _ _ _ (@ps_fldK _ (K) _ _ _ _ _ _ _ rfl (pv 0) (@pe_gcallN _ _ _ _ _ _ _ _ _ _ G_word (hr.mono (by decide)) rfl (@pa_c _ _ _ _ _ (@pe_gint _ _ _ _ rfl T.BITS (by decide)) (@pa_c _ _ _ _ _ pe_int (@pa_c _ _ _ _ _ (@pe_gcallN _ _ _ _ _ _ _ _ _ _ G_read_bits (hr.mono (by decide)) rfl (@pa_c _ _ _ _ _ (pv 0) (@pa_c _ _ _ _ _ (pv 2) (@pa_c _ _ _ _ _ (pe_gtup (K := K) rfl rfl T.TESTS) pa_nil rfl) rfl) rfl) (by decide) rfl) pa_nil rfl) rfl) rfl) (by decide) rfl) rfl)) (@pss_one _ _ _ ps_never)))))))))))), ?_⟩
  wtm_at "xx"
  refine xPut hA.o T.clL T.n_name (len_fldsL _ _) fun H1 h1 o1 f1 => ?_
  rw [pf_name] at h1
  obtain ⟨hA1, fr1⟩ := hA.wr h1 rfl o1 f1
  have hb1 : H1 b = some (.lst (ts.map V.str)) := by rw [o1 b hba]; exact hb
  have ht1 : ({ L with name := some nm } : Ln).terms.length ≤ 2000 := ht
  clear h1 o1 f1
  unfold readDeed at e
  dsimp only at e
  have fin : ∀ {x : Int} {G : Hp}, FrX H1 G [A.a, A.l] → LnAt CL G A { L with name := some nm } → { L with name := some nm, base := x } = L' → ∃ a C dx fs, V.ref A.a = .ref a ∧ G a = some (.ins C dx fs) ∧ Cls K C ∧ NoAttr K C "base" ∧ fs.length < 1000 ∧ Q .non (upd G a (.ins C dx (putF "base" (.int x) fs))) := by
   intro x G fg hG ex
   refine xPut hG.o T.clL T.n_base (len_fldsL _ _) fun H2 h2 o2 f2 => ?_
   rw [pf_base] at h2
   obtain ⟨hA2, fr2⟩ := hG.wr h2 rfl o2 f2
   rw [← ex] at k
   exact k _ hA2 (fr1.trans (fg.trans fr2))
  wtm_at "xx"
  refine iteD (fun g => ?_) (fun g => ?_)
  ·rw [if_pos (.inl g)] at e
   wtm_at "xx"
   exact ⟨A, _, L', b, ts, rfl, hA1, SqL.of hb1, hz, ht1, e, fun H' hA' fr' => k _ hA' (fr1.trans fr')⟩
  wtm_at "xx"
  refine iteD (fun g2 => ?_) (fun g2 => ?_)
  ·rw [if_pos (.inr g2)] at e
   wtm_at "xx"
   exact ⟨A, _, L', b, ts, rfl, hA1, SqL.of hb1, hz, ht1, e, fun H' hA' fr' => k _ hA' (fr1.trans fr')⟩
  rw [if_neg fun z => z.elim g g2] at e
  wtm_at "xx"
  refine Sx.topT fun a ha => xIn ha ?_
  wtm_at "xx"
  refine iteD (fun g3 => ?_) (fun g3 => ?_)
  ·rw [if_pos g3] at e
   wtm_at "xx"
   exact ⟨A, _, L', b, nm, ts, rfl, hA1, rfl, g3, SqL.of hb1, hz, hl, ht1, e, fun H' hA' fr' => k _ hA' (fr1.trans fr')⟩
  rw [if_neg g3] at e
  wtm_at "xx"
  refine iteD (fun g4 => ?_) (fun g4 => ?_)
  ·rw [if_pos g4] at e
   cases ea : readAsk { L with name := some nm } ts with
   | error x => rw [ea] at e; cases e
   | ok p =>
    rw [ea] at e
    have e : _ = L' := Except.ok.inj e
    wtm_at "xx"
    refine ⟨A, _, b, ts, p, rfl, hA1, SqL.of hb1, ea, ?_⟩
    wtm_at "xx"
    refine ⟨_, _, _, rfl, by decide, by decide, ?_⟩
    wtm_at "xx"
    exact fin .refl hA1 (by rw [← e]; congr 1)
  rw [if_neg g4] at e
  wtm_at "xx"
  refine iteD (fun g5 => ?_) (fun g5 => ?_)
  ·rw [if_pos g5] at e
   cases ea : goBits L.num changesS ts ts 0 with
   | error x => rw [ea] at e; cases e
   | ok p =>
    rw [ea] at e
    have e : _ = L' := Except.ok.inj e
    wtm_at "xx"
    refine Sx.topT fun a ha => ?_
    wtm_at "xx"
    refine ⟨A, _, b, a, ts, changesS, p, rfl, hA1, hb1, ha, rfl, ea, ?_⟩
    wtm_at "xx"
    refine ⟨_, _, _, rfl, by decide, by decide, ?_⟩
    wtm_at "xx"
    exact fin .refl hA1 (by rw [← e]; congr 1)
  rw [if_neg g5] at e
  wtm_at "xx"
  refine iteD (fun g6 => ?_) (fun g6 => ?_)
  ·rw [if_pos g6] at e
   cases ea : goBits L.num testsS ts ts 0 with
   | error x => rw [ea] at e; cases e
   | ok p =>
    rw [ea] at e
    have e : _ = L' := Except.ok.inj e
    wtm_at "xx"
    refine Sx.topT fun a ha => ?_
    wtm_at "xx"
    refine ⟨A, _, b, a, ts, testsS, p, rfl, hA1, hb1, ha, rfl, ea, ?_⟩
    wtm_at "xx"
    refine ⟨_, _, _, rfl, by decide, by decide, ?_⟩
    wtm_at "xx"
    exact fin .refl hA1 (by rw [← e]; congr 1)
  rw [if_neg g6] at e
  cases e
theorem make_l {H : Hp} {n : Int} {Q : Addr → Hp → Prop} (q : ∀ A H', H A.a = none → H A.l = none → LnAt CL H' A (newLn n) → Same H H' → Q A.a H') :
  ∀ x dx, H x = none → H dx = none → dx ≠ x → sp_initL CL (.ref x :: ([.int n] ++ [])) (upd (upd H dx (.own x)) x (.ins CL dx [])) (fun v H2 => v = .non ∧ Q x H2) E0 := by
 intro x dx nx ndx nex
 have s1 : Same H (upd (upd H dx (.own x)) x (.ins CL dx [])) := (Same.newH ndx).trans (Same.newH (by rw [upd_ne nex.symm]; exact nx))
 refine ⟨x, dx, n, rfl, upd_same, fun l H' hl hA fr => ⟨rfl, ?_⟩⟩
 exact q ⟨x, dx, l⟩ H' nx (s1.free hl) hA fun b o e => fr.1 b o (s1 b o e) fun z => by rw [List.mem_singleton.mp z, nx] at e; cases e
def sp_line (CL : Addr) : Sp := fun vs H Q _ => ∃ (row : Str) (n : Int) (L : Ln), vs = [.str row, .int n] ∧ row.length ≤ 2000 ∧ readLine row n = .ok L ∧ ∀ A H', H A.a = none → H A.l = none → LnAt CL H' A L → Same H H' → Q (.ref A.a) H'
theorem pieces_short {row p : Str} (h : p ∈ pieces row) : p.length ≤ row.length := by
 have h1 : cs p ∈ (pieces row).map cs := List.mem_map.mpr ⟨p, h, rfl⟩
 rw [pieces_cs] at h1
 have h2 := split_short (List.mem_filter.mp h1).1
 have h3 : ((cs row).takeWhile fun a => !decide (a = 59)).length ≤ (cs row).length := (List.takeWhile_sublist _).length_le
 rw [cs_len] at h2 h3
 omega
theorem pieces_few (row : Str) : (pieces row).length ≤ row.length + 2 := by
 unfold pieces
 have h1 := List.length_filter_le (fun (p : Str) => !decide (p = "")) (Txt.split (partS row 59) " ")
 have h2 := split_len (partS row 59) " "
 have h3 := part_len row 59
 omega
theorem line_ok {row : Str} {n : Int} {L : Ln} (e : readLine row n = .ok L) :
  (∃ p r, pieces row = p :: r ∧ (cs p)[(cs p).length - 1]? = some 58 ∧ isName (oc ((cs p).take ((cs p).length - 1))) = true ∧ readRest { newLn n with label := some (oc ((cs p).take ((cs p).length - 1))) } r = .ok L) ∨
  (∀ p r, pieces row = p :: r → ¬ (cs p)[(cs p).length - 1]? = some 58) ∧ readRest (newLn n) (pieces row) = .ok L := by
 unfold readLine at e
 cases g : pieces row with
 | nil =>
  rw [g] at e
  exact .inr ⟨fun p r z => (by cases z), e⟩
 | cons p r =>
  rw [g] at e
  dsimp only at e
  by_cases g1 : (cs p)[(cs p).length - 1]? = some 58
  ·rw [if_pos g1] at e
   by_cases g2 : isName (oc ((cs p).take ((cs p).length - 1))) = true
   ·rw [if_pos g2] at e
    exact .inl ⟨p, r, rfl, g1, g2, e⟩
   ·rw [if_neg g2] at e
    cases e
  ·rw [if_neg g1] at e
   exact .inr ⟨fun a b z => by cases z; exact g1, e⟩
theorem ok_line (R : Raw K mg "read_line" s_read_line) (T : TxtN K mg CL) (M_Line : GC P w K mg base "Line" CL ["self", "number"] 1 (sp_initL CL)) (G_pieces_of : GF P w K mg base "pieces_of" ["row"] 1 sp_pieces) (G_read_label : GF P w K mg base "read_label" ["line", "piece"] 3 (sp_label CL))
  (G_read_deed : GF P w K mg base "read_deed" ["line", "name", "behind"] 6 (sp_deed K CL)) : GF P w K mg base "read_line" ["row", "number"] 7 (sp_line CL) := by
 refine GF.mk R sc_read_line (by wtm_at "2") (fun vs H Q E h => ?_) (fun f cdv A outer s H vs Q E hr h => ?_)
 ·obtain ⟨row, n, L, rfl, _⟩ := h; rfl
 ·obtain ⟨row, n, L, rfl, hl, e, k⟩ := h
  refine ⟨_, (@pss_cons _ _ _ _ _ (@ps_set _ _ (2) _ _ _ _ sc_read_line.nd rfl (Or.inl rfl) (@pe_gmakeN _ _ _ _ _ _ _ _ _ _ _ M_Line (hr.mono (by decide)) rfl (@pa_c _ _ _ _ _ (pv 1) pa_nil rfl) (by decide) rfl) rfl (by first | exact .inl rfl | exact .inr rfl | assumption)) (@pss_cons _ _ _ _ _ (@ps_set _ _ (3) _ _ _ _ sc_read_line.nd rfl (Or.inl rfl) (@pe_gcallN _ _ _ _ _ _ _ _ _ _ G_pieces_of (hr.mono (by decide)) rfl (@pa_c _ _ _ _ _ (pv 0) pa_nil rfl) (by decide) rfl) rfl (by first | exact .inl rfl | exact .inr rfl | assumption)) (@pss_cons _ _ _ _ _ (@ps_cut _ _ _ (@ps_if _ _ _ _ _ _ _ _ (@PW.pt _ _ _ (@pw_and _ _ _ _ _ _ _ (@pt_cmpR _ _ _ _ _ _ _ _ op_gt (@pe_callBN _ _ _ _ _ _ _ _ _ (call_len_seqN (K := K) rfl) (by rfl) T.len_ bo_len (@pa_c _ _ _ _ _ (pv 3) pa_nil rfl) (by decide) (by decide) rfl) pe_int (nomark _)) (@pw_and1 _ _ _ _ (@pt_val _ _ _ (pe_bm PySem.F.plainAttrs_str PySem.F.slot_str_endswith PySem.F.type_str_endswith mt_ends (@pe_ix _ _ _ _ _ _ _ (ix_listK (K := K) rfl) (pv 3) pe_int (fun _ _ => rfl)) (@pa_c _ _ _ _ _ pe_str pa_nil rfl)) (fun _ => rfl))))) (@pss_cons _ _ _ _ _ (@ps_expr _ _ _ _ (@pe_gcallN _ _ _ _ _ _ _ _ _ _ G_read_label (hr.mono (by decide)) rfl (@pa_c _ _ _ _ _ (pv 2) (@pa_c _ _ _ _ _ (@pe_ix _ _ _ _ _ _ _ (ix_listK (K := K) rfl) (pv 3) pe_int (fun _ _ => rfl)) pa_nil rfl) rfl) (by decide) rfl) rfl) (@pss_one _ _ _ (@ps_set _ _ (3) _ _ _ _ sc_read_line.nd rfl (Or.inl rfl) (@pe_slice _ _ _ _ _ _ _ _ _ _ (sl_listK (K := K) rfl) (pv 3) (@po_some _ _ _ pe_int) po_none) rfl (by first | exact .inl rfl | exact .inr rfl | assumption)))) pss_nil)) (@pss_cons _ _ _ _ _ (@ps_cut _ _ _ (@ps_if _ _ _ _ _ _ _ _ (@pt_cmpR _ _ _ _ _ _ _ _ op_gt (@pe_callBN _ _ _ _ _ _ _ _ _ (call_len_seqN (K := K) rfl) (by rfl) T.len_ bo_len (@pa_c _ _ _ _ _ (pv 3) pa_nil rfl) (by decide) (by decide) rfl) pe_int (nomark _)) (@pss_one _ _ _ (@ps_expr _ _ _ _ (@pe_gcallN _ _ _ _ _ _ _ _ _ _ G_read_deed (hr.mono (by decide)) rfl (@pa_c _ _ _ _ _ (pv 2) (@pa_c _ _ _ _ _ (@pe_ix _ _ _ _ _ _ _ (ix_listK (K := K) rfl) (pv 3) pe_int (fun _ _ => rfl)) (@pa_c _ _ _ _ _ (@pe_slice _ _ _ _ _ _ _ _ _ _ (sl_listK (K := K) rfl) (pv 3) (@po_some _ _ _ pe_int) po_none) pa_nil rfl) rfl) rfl) (by decide) rfl) rfl)) pss_nil)) (@pss_one _ _ _ (@ps_ret _ _ _ _ (pv 2))))))), ?_⟩
  wtm_at "xx"
  refine make_l fun A H1 na nl hA1 s1 => ?_
  wtm_at "xx"
  refine ⟨row, rfl, hl, fun b H2 n2 h2 s2 => ?_⟩
  have hA2 := hA1.keep s2
  have hfew := pieces_few row
  have hshort : ∀ t ∈ pieces row, t.length ≤ 2000 := fun t ht => Nat.le_trans (pieces_short ht) hl
  have s02 := s1.trans s2
  have hbl : b ≠ A.l := fun z => by
   obtain ⟨rs, er, _⟩ := hA1.t
   rw [z, er] at n2
   cases n2
  wtm_at "xx"
  refine Sx.cut (fun σ' H' => ∃ (b' : Addr) (ts' : List Str) (L1 : Ln), σ' = [some (.str row), some (.int n), some (.ref A.a), some (.ref b')] ∧ H' b' = some (.lst (ts'.map V.str)) ∧ LnAt CL H' A L1 ∧ FrX H2 H' [A.a, A.l] ∧ readRest L1 ts' = .ok L ∧ (∀ t ∈ ts', t.length ≤ 2000) ∧ ts'.length ≤ 3000 ∧ L1.terms = []) ?_ ?_
  ·have no : (∀ p r, pieces row = p :: r → ¬ (cs p)[(cs p).length - 1]? = some 58) → ∃ (b' : Addr) (ts' : List Str) (L1 : Ln), ([some (.str row), some (.int n), some (.ref A.a), some (.ref b)] : St) = [some (.str row), some (.int n), some (.ref A.a), some (.ref b')] ∧ H2 b' = some (.lst (ts'.map V.str)) ∧ LnAt CL H2 A L1 ∧ FrX H2 H2 [A.a, A.l] ∧ readRest L1 ts' = .ok L ∧ (∀ t ∈ ts', t.length ≤ 2000) ∧ ts'.length ≤ 3000 ∧ L1.terms = [] := fun z => by
    rcases line_ok e with ⟨p, r, ep, g1, _⟩ | ⟨_, e2⟩
    ·exact absurd g1 (z p r ep)
    ·exact ⟨b, _, newLn n, rfl, h2, hA2, .refl, e2, hshort, by omega, rfl⟩
   wtm_at "xx"
   refine ⟨b, _, rfl, .inl (SqL.of h2), ?_⟩
   wtm_at "xx"
   refine iteD (fun g => ?_) (fun g => ?_)
   ·cases ep : pieces row with
    | nil => rw [ep] at g; exact absurd g (by decide)
    | cons p r =>
     rw [ep] at h2 hshort hfew
     wtm_at "xx"
     refine Sx.ixL h2 at0 ?_
     wtm_at "xx"
     refine ⟨p, ":", rfl, rfl, ?_⟩
     rw [show (":" : Str) = ⟨#[58]⟩ from by decide +kernel, tend]
     wtm_at "xx"
     refine iteD (fun g2 => ?_) (fun g2 => ?_)
     ·rcases line_ok e with ⟨p', r', ep', _, hn, e2⟩ | ⟨z, _⟩
      ·rw [ep] at ep'
       cases ep'
       wtm_at "xx"
       refine Sx.ixL h2 at0 ?_
       wtm_at "xx"
       refine ⟨A, _, p, rfl, hA2, hshort p List.mem_cons_self, hn, fun H3 hA3 fr3 => ?_⟩
       have hb3 : H3 b = some (.lst ((p :: r).map V.str)) := fr3.1 _ _ h2 (by simp [hbl]; exact fun z => by rw [z, hA2.o] at h2; cases h2)
       wtm_at "xx"
       refine Sx.slN (SqL.of hb3) fun p2 H4 n4 h4 s4 => ?_
       rw [show cutV (List.map V.str (p :: r)) (some 1) none = r.map V.str from by rw [show (1 : Int) = ((1 : Nat) : Int) from rfl, cutFrom]; rfl] at h4
       wtm_at "xx"
       exact ⟨p2, r, _, rfl, h4, hA3.keep s4, fr3.trans (.same s4), e2, fun t ht => hshort t (List.mem_cons_of_mem _ ht), by rw [List.length_cons] at hfew; omega, rfl⟩
      ·exact absurd g2 (z p r ep)
     ·wtm_at "xx"
      rw [← ep] at h2 hshort hfew
      exact no fun p' r' z => by rw [ep] at z; cases z; exact g2
   ·wtm_at "xx"
    refine no fun p r z => absurd (show (0 : Int) < ((List.map V.str (pieces row)).length : Nat) from by rw [z, List.length_map, List.length_cons]; omega) g
  ·rintro σ' H3 ⟨b', ts', L1, rfl, h3, hA3, fr3, e3, hz3, hl3, ht3⟩
   wtm_at "xx"
   refine Sx.cut (fun σ' H' => (∃ x, σ' = [some (.str row), some (.int n), some (.ref A.a), x]) ∧ LnAt CL H' A L ∧ FrX H2 H' [A.a, A.l]) ?_ ?_
   ·wtm_at "xx"
    refine ⟨b', _, rfl, .inl (SqL.of h3), ?_⟩
    wtm_at "xx"
    cases ts' with
    | nil =>
     refine iteD (fun g => absurd g (by decide)) (fun g => ?_)
     cases e3
     wtm_at "xx"
     exact ⟨⟨_, rfl⟩, hA3, fr3⟩
    | cons p r =>
     refine iteD (fun g => ?_) (fun g => absurd (show (0 : Int) < ((List.map V.str (p :: r)).length : Nat) from by rw [List.length_map, List.length_cons]; omega) g)
     wtm_at "xx"
     refine Sx.ixL h3 at0 ?_
     wtm_at "xx"
     refine Sx.slN (SqL.of h3) fun p2 H4 n4 h4 s4 => ?_
     rw [show cutV (List.map V.str (p :: r)) (some 1) none = r.map V.str from by rw [show (1 : Int) = ((1 : Nat) : Int) from rfl, cutFrom]; rfl] at h4
     wtm_at "xx"
     exact ⟨A, L1, L, p2, p, r, rfl, hA3.keep s4, h4, fun t ht => hz3 t (List.mem_cons_of_mem _ ht), by rw [List.length_cons] at hl3; omega, by rw [ht3]; exact Nat.zero_le _, e3, fun H' hA' fr' => ⟨⟨_, rfl⟩, hA', (fr3.trans (.same s4)).trans fr'⟩⟩
   ·rintro σ' H4 ⟨⟨x, rfl⟩, hA4, fr4⟩
    wtm_at "xx"
    exact k A H4 na nl hA4 fun b o e => fr4.1 b o (s02 b o e) (by
     intro z
     rcases List.mem_cons.mp z with z | z
     ·rw [z, na] at e; cases e
     ·rw [List.mem_singleton.mp z, nl] at e; cases e)
end
end Sc
namespace Xc
open PySem L2 Tx
section
variable {P : Program} {w : World} {K : PySem.W.Frag} {mg : Str → Option Value} {base : Heap} {C D fI : Addr} {fd : FuncData} {x q : Str}
theorem ok_bad (hm : mg x = some (.ref C)) (hD : mg "CoreError" = some (.ref D)) (b : XB K D) (x1 : ∀ h, K.In h → XC1 h C) (x2 : ∀ h, K.In h → XC2 h C) (xr : XR K C fI) (F : Fun K "__init__" q s_BadText_init fI fd) : GX P w K mg base x C 1 := by
 refine GX.mk hm x1 x2 xr F sc_BadText_init (by wtm_at "2") (fun f cdv A outer s H vs Q E hr h => ?_)
 obtain ⟨a, C', n, rfl, hno, ha, y1, y2, k⟩ := h
 refine ⟨_, (pss_cons (ps_expr (pe_binit (K := K) rfl rfl hD b (pv 0) (pe_joined (pj_str (pj_val (pv 1) (pj_str pj_nil)))))) (pss_one (ps_xline (K := K) rfl (pv 0) (pv 1) rfl))), ?_⟩
 wtm_at "tt"
 have e0 : (Str.empty ++ ("line " : Str)).length = 5 := by decide +kernel
 have e1 : (" is refused" : Str).length = 11 := by decide +kernel
 have hz : 1000 ≤ sizeLine := by decide
 have hl := hno.len
 unfold tBi
 refine Sx.var rfl ?_
 refine Sx.fs ?_
 refine Sx.js ⟨by rw [e0]; omega, ?_⟩
 refine Sx.jv ?_
 refine Sx.var rfl ⟨_, .int hno.log, by rw [strLen_append, e0]; omega, ?_⟩
 refine Sx.js ⟨by rw [strLen_append, strLen_append, e0, e1]; omega, ?_⟩
 refine Sx.jn ⟨by rw [strLen_append, strLen_append, e0, e1]; omega, ?_⟩
 refine ⟨a, C', rfl, ha, y2, ?_⟩
 dsimp only
 unfold sXl
 refine Sx.var rfl ?_
 refine Sx.var rfl ?_
 exact ⟨a, C', rfl, ha, y1, fun d n1 n2 => k d n1 n2⟩
end
end Xc
namespace Sc
open PySem L2 Tx Ls
def Thr (CB : Bad → Addr) (bd : Bad) (n : Int) (fr : Hp → Prop) (E : XK) : Prop := NumOk n ∧ ∀ H1 a d, fr H1 → H1 a = none → H1 d = none → d ≠ a → E (.ref a) (some a) (upd (upd H1 d (.xd [("line", .int n)])) a (excH a (CB bd) d))
section
variable {P : Program} {w : World} {K : PySem.W.Frag} {mg : Str → Option Value} {base : Heap} {CL : Addr} {CB : Bad → Addr}
def sp_askE (K : PySem.W.Frag) (CL : Addr) (CB : Bad → Addr) : Sp := fun vs H _ E => ∃ (A : LAd) (L : Ln) (b : Addr) (ts : List Str) (bd : Bad) (n : Int), vs = [.ref A.a, .ref b] ∧ LnAt CL H A L ∧ SqL K H b (ts.map V.str) ∧ readAsk L ts = .error (bd, n) ∧ Thr CB bd n (fun H1 => H1 = H) E
theorem ok_askE (R : Raw K mg "read_ask" s_read_ask) (T : TxtN K mg CL) (X_NoDeed : GX P w K mg base "NoDeed" (CB .noDeed) 1) : GE P w K mg base "read_ask" ["line", "behind"] 3 (sp_askE K CL CB) := by
 refine GE.mk R sc_read_ask (by wtm_at "2") (fun vs H Q E h => ?_) (fun f cdv A outer s H vs Q E hr h => ?_)
 ·obtain ⟨A, L, b, ts, bd, n, rfl, _⟩ := h; rfl
 ·obtain ⟨A', L, b, ts, bd, n, rfl, hA, hb, e, hno, k⟩ := h
  refine ⟨_, (@pss_cons _ _ _ _ _ (@ps_if _ _ _ _ _ _ _ _ (@PW.pt _ _ _ (@pw_or _ _ _ _ _ _ _ (@pt_cmpR _ _ _ _ _ _ _ _ op_ne (@pe_callBN _ _ _ _ _ _ _ _ _ (call_len_seqN (K := K) rfl) (by rfl) T.len_ bo_len (@pa_c _ _ _ _ _ (pv 1) pa_nil rfl) (by decide) (by decide) rfl) pe_int (nomark _)) (@pw_or1 _ _ _ _ (@pt_cmpR _ _ _ _ _ _ _ _ (op_notIn_seqK (K := K) rfl) (@pe_ix _ _ _ _ _ _ _ (ix_listK (K := K) rfl) (pv 1) pe_int (fun _ _ => rfl)) (pe_gtup (K := K) rfl rfl T.ASKS) (by with_unfolding_all rfl))))) (@pss_one _ _ _ (@ps_graise _ _ _ _ _ _ _ _ _ _ _ _ _ _ _ _ _ _ _ _ _ _ _ X_NoDeed (hr.mono (by decide)) rfl (@pe_fldK _ (K) _ _ _ _ rfl (pv 0) rfl) (by decide) rfl)) pss_nil) (@pss_one _ _ _ (@ps_ret _ _ _ _ (pe_bm PySem.F.plainAttrs_tuple PySem.F.slot_tuple_index PySem.F.type_tuple_index (mt_tidx (K := K) rfl) (pe_gtup (K := K) rfl rfl T.ASKS) (@pa_c _ _ _ _ _ (@pe_ix _ _ _ _ _ _ _ (ix_listK (K := K) rfl) (pv 1) pe_int (fun _ _ => rfl)) pa_nil rfl))))), ?_⟩
  have go : ∀ D, L.num = n → bd = .noDeed → sRaise (CB .noDeed) (tFld K (tVar 0) "number") E D (L2.start ["line", "behind"] [V.ref A'.a, V.ref b]) H := fun D en eb => by
   unfold sRaise
   wtm_at "xx"
   refine Sx.atF hA.o T.clL T.n_number (lk_number _ _) ?_
   subst eb
   exact ⟨n, by rw [en], hno, fun a d n1 n2 n3 => k H a d rfl n1 n2 n3⟩
  wtm_at "xx"
  refine ⟨b, _, rfl, .inl hb, ?_⟩
  wtm_at "xx"
  by_cases g : ts.length = 1
  ·obtain ⟨t, rfl⟩ : ∃ t, ts = [t] := List.length_eq_one_iff.mp g
   have e' : (if t ∈ asksS then Except.ok (asksS.idxOf t : Nat) else .error (.noDeed, L.num) : Sc.R Int) = .error (bd, n) := e
   by_cases ht : t ∈ asksS
   ·rw [if_pos ht] at e'; cases e'
   ·rw [if_neg ht] at e'
    cases e'
    rw [if_neg (by simp)]
    wtm_at "xx"
    refine Sx.ixS hb at0 ?_
    wtm_at "xx"
    refine Sx.topT fun a ha => xNotIn ha ?_
    wtm_at "xx"
    exact iteD (fun _ => go _ rfl rfl) (fun g => absurd ht g)
  ·rw [if_pos (by rw [List.length_map]; simp; omega), if_pos rfl]
   match ts, g, e with
   | [], _, e => cases e; exact go _ rfl rfl
   | [_], g, _ => exact absurd rfl g
   | _ :: _ :: _, _, e => cases e; exact go _ rfl rfl
theorem raise_num {D : Ends} {σ : St} {H1 : Hp} {A : LAd} {L : Ln} {bd : Bad} {n : Int} {E : XK} {fr : Hp → Prop} (T : TxtN K mg CL) (hs : σ[0]? = some (some (.ref A.a))) (hA : LnAt CL H1 A L) (en : L.num = n) (th : Thr CB bd n fr E) (hf : fr H1) : sRaise (CB bd) (tFld K (tVar 0) "number") E D σ H1 := by
 unfold sRaise
 wtm_at "x"
 refine Sx.var hs ?_
 refine Sx.atF hA.o T.clL T.n_number (lk_number _ _) ?_
 exact ⟨n, by rw [en], th.1, fun a d n1 n2 n3 => th.2 H1 a d hf n1 n2 n3⟩
def sp_labelE (CL : Addr) (CB : Bad → Addr) : Sp := fun vs H _ E => ∃ (A : LAd) (L : Ln) (p : Str), vs = [.ref A.a, .str p] ∧ LnAt CL H A L ∧ 1 ≤ p.length ∧ p.length ≤ 2000 ∧ isName (oc ((cs p).take ((cs p).length - 1))) = false ∧ Thr CB .noDeed L.num (fun H1 => FrX H H1 [A.a, A.l]) E
theorem ok_labelE (R : Raw K mg "read_label" s_read_label) (T : TxtN K mg CL) (G_is_name : GF P w K mg base "is_name" ["piece"] 2 sp_name) (X_NoDeed : GX P w K mg base "NoDeed" (CB .noDeed) 1) : GE P w K mg base "read_label" ["line", "piece"] 3 (sp_labelE CL CB) := by
 refine GE.mk R sc_read_label (by wtm_at "2") (fun vs H Q E h => ?_) (fun f cdv A outer s H vs Q E hr h => ?_)
 ·obtain ⟨A, L, p, rfl, _⟩ := h; rfl
 ·obtain ⟨A', L, p, rfl, hA, h1, hp, hn, th⟩ := h
  have hz := sz
  have hq : (oc ((cs p).take ((cs p).length - 1))).length ≤ 2000 := by
   rw [← cs_len, cs_oc, List.length_take, cs_len]
   omega
  refine ⟨_, (@pss_cons _ _ _ _ _ (@ps_fldK _ (K) _ _ _ _ _ _ _ rfl (pv 0) (@pe_slice _ _ _ _ _ _ _ _ _ _ sl_str (pv 1) po_none (@po_some _ _ _ (@pe_un _ _ _ _ _ _ un_neg pe_int))) rfl) (@pss_one _ _ _ (@ps_if _ _ _ _ _ _ _ _ (@pt_not _ _ _ _ (@pt_val _ _ _ (@pe_gcallN _ _ _ _ _ _ _ _ _ _ G_is_name (hr.mono (by decide)) rfl (@pa_c _ _ _ _ _ (@pe_fldK _ (K) _ _ _ _ rfl (pv 0) rfl) pa_nil rfl) (by decide) rfl) (fun _ => rfl))) (@pss_one _ _ _ (@ps_graise _ _ _ _ _ _ _ _ _ _ _ _ _ _ _ _ _ _ _ _ _ _ _ X_NoDeed (hr.mono (by decide)) rfl (@pe_fldK _ (K) _ _ _ _ rfl (pv 0) rfl) (by decide) rfl)) pss_nil))), ?_⟩
  wtm_at "xx"
  refine ⟨1, rfl, _, rfl, p, rfl, by omega, ?_⟩
  rw [sl_last h1]
  generalize oc ((cs p).take ((cs p).length - 1)) = q at hn hq ⊢
  wtm_at "xx"
  refine xPut hA.o T.clL T.n_label (len_fldsL _ _) fun H1 h1 o1 f1 => ?_
  rw [pf_label] at h1
  have hA1 : LnAt CL H1 A' { L with label := some q } := ⟨h1, hA.t.mv (fun o e => by rw [o1 _ hA.ne.symm]; exact e) f1.2⟩
  have fr1 : FrX H H1 [A'.a, A'.l] := f1.more fun x hx => by rw [List.mem_singleton.mp hx]; exact List.mem_cons_self
  wtm_at "xx"
  refine Sx.atF h1 T.clL T.n_label (lk_label _ _) ?_
  wtm_at "xx"
  refine ⟨q, rfl, by omega, fun H2 s2 => ?_⟩
  wtm_at "xx"
  rw [hn]
  wtm_at "xx"
  exact raise_num T rfl (hA1.keep s2) rfl th (fr1.trans (.same s2))
theorem bits_err {ln n : Int} {ns ts : List Str} {bd : Bad} : ∀ (r : List Str) (a : Int), goBits ln ns ts r a = .error (bd, n) → bd = .noDeed ∧ n = ln
 | [], _, e => by cases e
 | t :: r, a, e => by
  unfold goBits at e
  split at e
  ·cases e; exact ⟨rfl, rfl⟩
  ·exact bits_err r _ e
def sp_bitsE (K : PySem.W.Frag) (CL : Addr) (CB : Bad → Addr) : Sp := fun vs H _ E => ∃ (A : LAd) (L : Ln) (b c : Addr) (ts ns : List Str) (bd : Bad) (n : Int), vs = [.ref A.a, .ref b, .ref c] ∧ LnAt CL H A L ∧ H b = some (.lst (ts.map V.str)) ∧ TupK K c (ns.map V.str) ∧ ns.length = 6 ∧ goBits L.num ns ts ts 0 = .error (bd, n) ∧ Thr CB bd n (fun H1 => H1 = H) E
theorem ok_bitsE (R : Raw K mg "read_bits" s_read_bits) (T : TxtN K mg CL) (X_NoDeed : GX P w K mg base "NoDeed" (CB .noDeed) 1) : GE P w K mg base "read_bits" ["line", "behind", "names"] 3 (sp_bitsE K CL CB) := by
 refine GE.mk R sc_read_bits (by wtm_at "3") (fun vs H Q E h => ?_) (fun f cdv A outer s H vs Q E hr h => ?_)
 ·obtain ⟨A, L, b, c, ts, ns, bd, n, rfl, _⟩ := h; rfl
 ·obtain ⟨A', L, b, c, ts, ns, bd, n, rfl, hA, hb, hc, hn, e, th⟩ := h
  obtain ⟨rfl, rfl⟩ := bits_err _ _ e
  refine ⟨_, (@pss_cons _ _ _ _ _ (@ps_set _ _ (3) _ _ _ _ sc_read_bits.nd rfl (Or.inl rfl) pe_int rfl (by first | exact .inl rfl | exact .inr rfl | assumption)) (@pss_cons _ _ _ _ _ (@ps_for _ _ _ _ _ _ _ _ ownB rfl (@pi_listK _ (K) _ _ _ rfl (pv 1)) (@pg_name _ _ (4) _ sc_read_bits.nd rfl (Or.inl rfl) (by first | exact .inl rfl | exact .inr rfl | assumption)) (@pss_cons _ _ _ _ _ (@ps_if _ _ _ _ _ _ _ _ (@PW.pt _ _ _ (@pw_or _ _ _ _ _ _ _ (@pt_cmpR _ _ _ _ _ _ _ _ (op_notIn_seqK (K := K) rfl) (pv 4) (pv 2) (by with_unfolding_all rfl)) (@pw_or1 _ _ _ _ (@pt_cmpR _ _ _ _ _ _ _ _ op_gt (pe_bm PySem.F.plainAttrs_list PySem.F.slot_list_count PySem.F.type_list_count mt_count (pv 1) (@pa_c _ _ _ _ _ (pv 4) pa_nil rfl)) pe_int (nomark _))))) (@pss_one _ _ _ (@ps_graise _ _ _ _ _ _ _ _ _ _ _ _ _ _ _ _ _ _ _ _ _ _ _ X_NoDeed (hr.mono (by decide)) rfl (@pe_fldK _ (K) _ _ _ _ rfl (pv 0) rfl) (by decide) rfl)) pss_nil) (@pss_one _ _ _ (@ps_set _ _ (3) _ _ _ _ sc_read_bits.nd rfl (Or.inl rfl) (@pe_op _ _ _ _ _ _ _ _ op_add (pv 3) (@pe_ix _ _ _ _ _ _ _ (ix_tupK (K := K) rfl) (pe_gtup (K := K) rfl rfl T.BIT_ROW) (pe_bm PySem.F.plainAttrs_tuple PySem.F.slot_tuple_index PySem.F.type_tuple_index (mt_tidx (K := K) rfl) (pv 2) (@pa_c _ _ _ _ _ (pv 4) pa_nil rfl)) (fun _ _ => rfl))) rfl (by first | exact .inl rfl | exact .inr rfl | assumption)))) (fun _ => rfl)) (@pss_one _ _ _ (@ps_ret _ _ _ _ (pv 3))))), ?_⟩
  wtm_at "xx"
  refine ⟨b, rfl, ⟨_, SqL.of hb⟩, for_list (xs := ts.map V.str) (fun i σ' H' => ∃ a x, σ' = [some (.ref A'.a), some (.ref b), some (.ref c), some (.int a), x] ∧ H' = H ∧ goBits L.num ns ts (ts.drop i) a = .error (.noDeed, L.num)) ⟨_, _, rfl, rfl, e⟩ (fun i σ' H' _ h => by obtain ⟨_, _, _, rfl, _⟩ := h; exact SqL.of hb) ?_ ?_⟩
  ·rintro i x σ' H' hx ⟨a0, y, rfl, rfl, ei⟩
   rw [List.getElem?_map] at hx
   cases et : ts[i]? with
   | none => rw [et] at hx; cases hx
   | some t =>
    rw [et] at hx
    cases hx
    obtain ⟨hi0, et'⟩ := List.getElem?_eq_some_iff.mp et
    rw [List.drop_eq_getElem_cons hi0, et'] at ei
    unfold goBits at ei
    wtm_at "xx"
    refine xNotIn hc ?_
    wtm_at "xx"
    refine iteD (fun g => ?_) (fun g => ?_)
    ·wtm_at "xx"
     exact raise_num T rfl hA rfl th rfl
    have g := Classical.not_not.mp g
    wtm_at "xx"
    refine ⟨Sx.tyL hb, ?_⟩
    wtm_at "xx"
    refine ⟨b, ts, t, rfl, rfl, hb, ?_⟩
    wtm_at "xx"
    refine iteD (fun g => ?_) (fun g2 => ?_)
    ·exact raise_num T rfl hA rfl th rfl
    rw [if_neg (fun z => z.elim (fun z => z g) fun z => g2 (by omega))] at ei
    wtm_at "xx"
    refine Sx.topT fun a ha => ?_
    wtm_at "xx"
    refine ⟨tyT hc, ?_⟩
    wtm_at "xx"
    refine ⟨c, ns, t, rfl, rfl, hc, g, ?_⟩
    have hi : ns.idxOf t < 6 := by rw [← hn]; exact List.idxOf_lt_length_of_mem g
    refine Sx.topIx (v := .int (bitsL.getD (ns.idxOf t) 0)) ha (atI_nat (by rw [List.getElem?_map, List.getD_eq_getElem?_getD, List.getElem?_eq_getElem (by show _ < 6; exact hi)]; rfl)) ?_
    wtm_at "xx"
    exact ⟨_, some (.str t), rfl, rfl, ei⟩
  ·rintro σ' H' ⟨a0, y, rfl, rfl, ei⟩
   rw [List.length_map, List.drop_length] at ei
   cases ei
theorem terms_err {ln n : Int} {bd : Bad} : ∀ (r : List Str) (i : Nat) (f : Int) (acc : List (Int × Str)), goTerms ln i f r acc = .error (bd, n) → bd = .noDeed ∧ n = ln
 | [], _, _, _, e => by cases e
 | t :: r, i, f, acc, e => by
  unfold goTerms at e
  split at e
  ·exact terms_err r _ _ _ e
  ·split at e
   ·exact terms_err r _ _ _ e
   ·cases e; exact ⟨rfl, rfl⟩
theorem value_err {L : Ln} {v : Str} {bd : Bad} {n : Int} (e : readValue L [v] = .error (bd, n)) : bd = .noDeed ∧ n = L.num ∧ goTerms L.num 0 1 (termPieces v) L.terms = .error (.noDeed, L.num) := by
 unfold readValue at e
 cases g : goTerms L.num 0 1 (termPieces v) L.terms with
 | ok tt => simp only [g] at e; cases e
 | error x =>
  simp only [g] at e
  cases e
  obtain ⟨rfl, rfl⟩ := terms_err _ _ _ _ g
  exact ⟨rfl, rfl, rfl⟩
def sp_valueE (K : PySem.W.Frag) (CL : Addr) (CB : Bad → Addr) : Sp := fun vs H _ E => ∃ (A : LAd) (L : Ln) (b : Addr) (ts : List Str) (bd : Bad) (n : Int), vs = [.ref A.a, .ref b] ∧ LnAt CL H A L ∧ SqL K H b (ts.map V.str) ∧ (∀ t ∈ ts, t.length ≤ 2000) ∧ L.terms.length ≤ 2000 ∧ readValue L ts = .error (bd, n) ∧ Thr CB bd n (fun H1 => FrX H H1 [A.a, A.l]) E
theorem ok_valueE (R : Raw K mg "read_value" s_read_value) (T : TxtN K mg CL) (G_is_term : GF P w K mg base "is_term" ["piece"] 3 sp_term) (X_NoDeed : GX P w K mg base "NoDeed" (CB .noDeed) 1) : GE P w K mg base "read_value" ["line", "behind"] 4 (sp_valueE K CL CB) := by
 refine GE.mk R sc_read_value (by wtm_at "2") (fun vs H Q E h => ?_) (fun f cdv A outer s H vs Q E hr h => ?_)
 ·obtain ⟨A, L, b, ts, bd, n, rfl, _⟩ := h; rfl
 ·obtain ⟨A', L, b, ts, bd, n, rfl, hA, hb, hz, ht, e, th⟩ := h
  refine ⟨_, (@pss_cons _ _ _ _ _ (@ps_if _ _ _ _ _ _ _ _ (@pt_cmpR _ _ _ _ _ _ _ _ op_ne (@pe_callBN _ _ _ _ _ _ _ _ _ (call_len_seqN (K := K) rfl) (by rfl) T.len_ bo_len (@pa_c _ _ _ _ _ (pv 1) pa_nil rfl) (by decide) (by decide) rfl) pe_int (nomark _)) (@pss_one _ _ _ (@ps_graise _ _ _ _ _ _ _ _ _ _ _ _ _ _ _ _ _ _ _ _ _ _ _ X_NoDeed (hr.mono (by decide)) rfl (@pe_fldK _ (K) _ _ _ _ rfl (pv 0) rfl) (by decide) rfl)) pss_nil) (@pss_cons _ _ _ _ _ (@ps_set _ _ (2) _ _ _ _ sc_read_value.nd rfl (Or.inl rfl) pe_int rfl (by first | exact .inl rfl | exact .inr rfl | assumption)) (@pss_one _ _ _ (@ps_for _ _ _ _ _ _ _ _ ownB rfl (@pi_enumK _ (K) _ _ _ _ _ _ _ rfl rfl T.enumerate_ (@pa_c _ _ _ _ _ (pe_bm PySem.F.plainAttrs_str PySem.F.slot_str_split PySem.F.type_str_split mt_split (pe_oft (pet_repl (pet_repl (pet_ix (K := K) rfl (pv 1) (fun _ _ => rfl)) (by decide +kernel) (by decide +kernel)) (by decide +kernel) (by decide +kernel))) (@pa_c _ _ _ _ _ pe_str pa_nil rfl)) pa_nil rfl) rfl) (@pg_tupK _ (K) _ _ _ _ (2) rfl rfl (@pgs_cons _ _ _ _ _ (@pg_name _ _ (3) _ sc_read_value.nd rfl (Or.inl rfl) (by first | exact .inl rfl | exact .inr rfl | assumption)) (@pgs_cons _ _ _ _ _ (@pg_name _ _ (4) _ sc_read_value.nd rfl (Or.inl rfl) (by first | exact .inl rfl | exact .inr rfl | assumption)) pgs_nil rfl) rfl) rfl rfl) (@pss_one _ _ _ (@ps_if _ _ _ _ _ _ _ _ (@pt_cmpR _ _ _ _ _ _ _ _ op_eq (@pe_op _ _ _ _ _ _ _ _ op_mod (pv 3) pe_int) pe_int (nomark _)) (@pss_one _ _ _ (@ps_set _ _ (2) _ _ _ _ sc_read_value.nd rfl (Or.inl rfl) (@pe_ifExp _ _ _ _ _ _ _ _ (@pt_cmpR _ _ _ _ _ _ _ _ op_eq (pv 4) pe_str (nomark _)) pe_int (@pe_un _ _ _ _ _ _ un_neg pe_int)) rfl (by first | exact .inl rfl | exact .inr rfl | assumption))) (@pss_one _ _ _ (@ps_if _ _ _ _ _ _ _ _ (@pt_val _ _ _ (@pe_gcallN _ _ _ _ _ _ _ _ _ _ G_is_term (hr.mono (by decide)) rfl (@pa_c _ _ _ _ _ (pv 4) pa_nil rfl) (by decide) rfl) (fun _ => rfl)) (@pss_one _ _ _ (@ps_expr _ _ _ _ (pe_bm PySem.F.plainAttrs_list PySem.F.slot_list_append PySem.F.type_list_append mt_append (@pe_fldK _ (K) _ _ _ _ rfl (pv 0) rfl) (@pa_c _ _ _ _ _ (@pe_tup _ _ _ _ _ (@pa_c _ _ _ _ _ (pv 2) (@pa_c _ _ _ _ _ (pv 4) pa_nil rfl) rfl)) pa_nil rfl)) rfl)) (@pss_one _ _ _ (@ps_graise _ _ _ _ _ _ _ _ _ _ _ _ _ _ _ _ _ _ _ _ _ _ _ X_NoDeed (hr.mono (by decide)) rfl (@pe_fldK _ (K) _ _ _ _ rfl (pv 0) rfl) (by decide) rfl)))))) (fun _ => rfl))))), ?_⟩
  wtm_at "xx"
  refine ⟨b, _, rfl, .inl hb, ?_⟩
  wtm_at "xx"
  by_cases g0 : ts.length = 1
  rotate_left
  ·rw [if_pos (by rw [List.length_map]; simp; omega)]
   match ts, g0, e with
   | [], _, e => cases e; exact raise_num T rfl hA rfl th (.same fun _ _ q => q)
   | [_], g, _ => exact absurd rfl g
   | _ :: _ :: _, _, e => cases e; exact raise_num T rfl hA rfl th (.same fun _ _ q => q)
  obtain ⟨v, rfl⟩ : ∃ v, ts = [v] := List.length_eq_one_iff.mp g0
  obtain ⟨rfl, rfl, e0⟩ := value_err e
  rw [if_neg (by simp)]
  have hv : v.length ≤ 2000 := hz v List.mem_cons_self
  have h18 : ∀ p ∈ termPieces v, p.length ≤ 18000 := fun p hp => terms_short hv hp
  wtm_at "xx"
  refine Sx.ixS hb at0 ?_
  refine ⟨v, rfl, by omega, ?_⟩
  have c4 := repl_short (c := 43) (z := [32, 43, 32]) (Nat.le_refl 3) (cs v)
  have r1 : (Txt.replace v "+" " + ").length ≤ 6000 := by
   rw [← cs_len, show ("+" : Str) = ⟨#[43]⟩ from by decide +kernel, treplace, show cs " + " = [32, 43, 32] from by decide +kernel]
   rw [cs_len] at c4
   omega
  have c3 := repl_short (c := 45) (z := [32, 45, 32]) (Nat.le_refl 3) (cs (Txt.replace v "+" " + "))
  have r2 : (Txt.replace (Txt.replace v "+" " + ") "-" " - ").length ≤ 18000 := by
   rw [← cs_len, show ("-" : Str) = ⟨#[45]⟩ from by decide +kernel, treplace, show cs " - " = [32, 45, 32] from by decide +kernel]
   rw [cs_len] at c3
   omega
  refine ⟨_, rfl, by omega, ?_⟩
  wtm_at "xx"
  refine ⟨_, " ", rfl, rfl, by decide +kernel, by omega, fun ls H1 n1 h1 s1 => ?_⟩
  wtm_at "xx"
  have hls := split_len (Txt.replace (Txt.replace v "+" " + ") "-" " - ") " "
  change H1 ls = some (.lst ((termPieces v).map V.str)) at h1
  have hl' : (termPieces v).length ≤ 18002 := by have : (termPieces v).length ≤ _ := hls; omega
  refine ⟨ls, _, rfl, SqL.of h1, for_enum (xs := (termPieces v).map V.str) (fun i σ' H' => ∃ (f : Int) (acc : List (Int × Str)) (x3 x4 : Option V), σ' = [some (.ref A'.a), some (.ref b), some (.int f), x3, x4] ∧ LnAt CL H' A' { L with terms := acc } ∧ FrX H H' [A'.a, A'.l] ∧ goTerms L.num i f ((termPieces v).drop i) acc = .error (.noDeed, L.num) ∧ acc.length ≤ 2000 + i ∧ H' ls = some (.lst ((termPieces v).map V.str)) ∧ H ls = none) ?_ ?_ ?_ ?_⟩
  ·exact ⟨1, L.terms, _, _, rfl, hA.keep s1, .same s1, e0, ht, h1, n1⟩
  ·rintro i σ' H' _ ⟨_, _, _, _, _, _, _, _, _, h, _⟩
   exact SqL.of h
  ·rintro i x T0 σ' H' hx ⟨f, acc, x3, x4, rfl, hA', fr', e', hac, hls', nls⟩ hT
   rw [List.getElem?_map] at hx
   cases et : (termPieces v)[i]? with
   | none => rw [et] at hx; cases hx
   | some p =>
    rw [et] at hx
    cases hx
    have hi : i < (termPieces v).length := (List.getElem?_eq_some_iff.mp et).1
    have ed : (termPieces v).drop i = p :: (termPieces v).drop (i + 1) := by
     rw [List.drop_eq_getElem_cons hi]
     have := (List.getElem?_eq_some_iff.mp et).2
     rw [this]
    rw [ed] at e'
    unfold goTerms at e'
    have s3 : Same H' (upd H' T0 (.tup [.int i, .str p])) := Same.newH hT
    have t3 : (upd H' T0 (.tup [.int i, .str p])) T0 = some (.tup [.int i, .str p]) := upd_same
    generalize upd H' T0 (.tup [.int i, .str p]) = G3 at s3 t3 ⊢
    refine ⟨T0, _, rfl, SqT.of t3, rfl, _, _, rfl, _, _, rfl, rfl, ?_⟩
    wtm_at "xx"
    refine iteD (fun g => ?_) (fun g => ?_)
    ·rw [if_pos (by omega)] at e'
     wtm_at "xx"
     refine iteD (fun g2 => ?_) (fun g2 => ?_)
     ·rw [if_pos g2] at e'
      wtm_at "xx"
      exact ⟨1, acc, _, _, rfl, hA'.keep s3, fr'.trans (.same s3), e', by omega, s3 _ _ hls', nls⟩
     ·rw [if_neg g2] at e'
      wtm_at "xx"
      refine ⟨1, rfl, ?_⟩
      wtm_at "xx"
      exact ⟨-1, acc, _, _, rfl, hA'.keep s3, fr'.trans (.same s3), e', by omega, s3 _ _ hls', nls⟩
    ·rw [if_neg (by omega)] at e'
     wtm_at "xx"
     refine ⟨p, rfl, by have := h18 p (List.mem_of_getElem? et); omega, fun G4 s4 => ?_⟩
     wtm_at "xx"
     refine iteB (fun g => ?_) (fun g => ?_)
     ·rw [if_pos g] at e'
      have hA4 := (hA'.keep s3).keep s4
      wtm_at "xx"
      refine Sx.atF hA4.o T.clL T.n_terms (lk_terms _ _) ?_
      obtain ⟨rs, er, nr, kr⟩ := hA4.t
      refine ⟨Sx.tyL er, ?_⟩
      wtm_at "xx"
      refine ⟨by show 2 ≤ sizeLine; decide, fun T1 nT1 => ?_⟩
      have s5 : Same G4 (upd G4 T1 (.tup [.int f, .str p])) := Same.newH nT1
      have t5 : (upd G4 T1 (.tup [.int f, .str p])) T1 = some (.tup [.int f, .str p]) := upd_same
      generalize upd G4 T1 (.tup [.int f, .str p]) = G5 at s5 t5 ⊢
      wtm_at "xx"
      refine Sx.addL (s5 _ _ er) (by rw [List.length_map, nr]; show acc.length < _; omega) fun G6 h6 f6 => ?_
      obtain ⟨hA6, fr6⟩ := (hA4.keep s5).app (s5 _ _ er) nr (fun i r q a b => s5 _ _ (kr i r q a b)) t5 h6 f6
      refine ⟨f, _, _, _, rfl, hA6, ((fr'.trans (.same s3)).trans ((FrX.same s4).trans (.same s5))).trans fr6, e', by show (acc ++ [(f, p)]).length ≤ _; rw [List.length_append, List.length_singleton]; omega, ?_, nls⟩
      have h5 := s5 _ _ (s4 _ _ (s3 _ _ hls'))
      refine f6 _ _ (fun z => ?_) h5
      have := fr'.1
      obtain ⟨rs0, er0, _⟩ := hA.t
      rw [z, er0] at nls
      cases nls
     ·exact raise_num T rfl ((hA'.keep s3).keep s4) rfl th ((fr'.trans (.same s3)).trans (.same s4))
  ·rintro σ' H' ⟨f, acc, x3, x4, rfl, hA', fr', e', hac, hls', nls⟩
   rw [List.length_map, List.drop_length] at e'
   cases e'
theorem Thr.mono {CB : Bad → Addr} {bd : Bad} {n : Int} {fr fr' : Hp → Prop} {E : XK} (h : Thr CB bd n fr E) (i : ∀ H, fr' H → fr H) : Thr CB bd n fr' E := ⟨h.1, fun H1 a d f => h.2 H1 a d (i H1 f)⟩
theorem cell_farE {L : Ln} {z0 : Sc.R Ln} {nm : Str} {ts : List Str} (e : readCell L nm ts = z0) : (∃ r : List Str, ts = ("far" : Str) :: r ∧ readPool { L with base := (kindsS.idxOf nm : Nat) * 128 + 64 } r = z0) ∨ (¬ ts[0]? = some ("far" : Str)) ∧ readPool { L with base := (kindsS.idxOf nm : Nat) * 128 } ts = z0 := by
 cases ts with
 | nil => exact .inr ⟨fun z => (by cases z), e⟩
 | cons v r =>
  simp only [readCell] at e
  by_cases g : v = "far"
  ·subst g
   rw [if_pos rfl] at e
   exact .inl ⟨r, rfl, e⟩
  ·rw [if_neg g] at e
   exact .inr ⟨fun z => g (Option.some.inj z), e⟩
theorem pool_eqE {L : Ln} {z0 : Sc.R Ln} {ts : List Str} (e : readPool L ts = z0) : (∃ v r, ts = v :: r ∧ (cs v)[0]? = some 61 ∧ readValue { L with pooled := true } (oc ((cs v).drop 1) :: r) = z0) ∨ (∀ v r, ts = v :: r → ¬ (cs v)[0]? = some 61) ∧ readValue L ts = z0 := by
 cases ts with
 | nil => exact .inr ⟨fun v r z => (by cases z), e⟩
 | cons v r =>
  simp only [readPool] at e
  by_cases g : (cs v)[0]? = some 61
  ·rw [if_pos g] at e
   exact .inl ⟨v, r, rfl, g, e⟩
  ·rw [if_neg g] at e
   exact .inr ⟨fun a b z => by cases z; exact g, e⟩
def sp_cellE (K : PySem.W.Frag) (CL : Addr) (CB : Bad → Addr) : Sp := fun vs H _ E => ∃ (A : LAd) (L : Ln) (b : Addr) (nm : Str) (ts : List Str) (bd : Bad) (n : Int), vs = [.ref A.a, .ref b] ∧ LnAt CL H A L ∧ L.name = some nm ∧ nm ∈ kindsS ∧ SqL K H b (ts.map V.str) ∧ (∀ t ∈ ts, t.length ≤ 2000) ∧ ts.length ≤ 3000 ∧ L.terms.length ≤ 2000 ∧ readCell L nm ts = .error (bd, n) ∧ Thr CB bd n (fun H1 => FrX H H1 [A.a, A.l]) E
theorem ok_cellE (R : Raw K mg "read_cell_deed" s_read_cell_deed) (T : TxtN K mg CL) (G_word : GF P w K mg base "word" ["kind", "far", "place"] 1 sp_word) (G_read_value : GF P w K mg base "read_value" ["line", "behind"] 4 (sp_value K CL)) (E_read_value : GE P w K mg base "read_value" ["line", "behind"] 4 (sp_valueE K CL CB)) : GE P w K mg base "read_cell_deed" ["line", "behind"] 5 (sp_cellE K CL CB) := by
 refine GE.mk R sc_read_cell_deed (by wtm_at "2") (fun vs H Q E h => ?_) (fun f cdv A outer s H vs Q E hr h => ?_)
 ·obtain ⟨A, L, b, nm, ts, bd, n, rfl, _⟩ := h; rfl
 ·obtain ⟨A', L, b, nm, ts, bd, n, rfl, hA, hnm, hk, hb, hz, hl, ht, e, th⟩ := h
  refine ⟨_, (@pss_cons _ _ _ _ _ (@ps_set _ _ (2) _ _ _ _ sc_read_cell_deed.nd rfl (Or.inl rfl) pe_int rfl (by first | exact .inl rfl | exact .inr rfl | assumption)) (@pss_cons _ _ _ _ _ (@ps_cut _ _ _ (@ps_if _ _ _ _ _ _ _ _ (@PW.pt _ _ _ (@pw_and _ _ _ _ _ _ _ (@pt_cmpR _ _ _ _ _ _ _ _ op_gt (@pe_callBN _ _ _ _ _ _ _ _ _ (call_len_seqN (K := K) rfl) (by rfl) T.len_ bo_len (@pa_c _ _ _ _ _ (pv 1) pa_nil rfl) (by decide) (by decide) rfl) pe_int (nomark _)) (@pw_and1 _ _ _ _ (@pt_cmpR _ _ _ _ _ _ _ _ op_eq (@pe_ix _ _ _ _ _ _ _ (ix_listK (K := K) rfl) (pv 1) pe_int (fun _ _ => rfl)) pe_str (nomark _))))) (@pss_cons _ _ _ _ _ (@ps_set _ _ (2) _ _ _ _ sc_read_cell_deed.nd rfl (Or.inl rfl) pe_int rfl (by first | exact .inl rfl | exact .inr rfl | assumption)) (@pss_one _ _ _ (@ps_set _ _ (1) _ _ _ _ sc_read_cell_deed.nd rfl (Or.inl rfl) (@pe_slice _ _ _ _ _ _ _ _ _ _ (sl_listK (K := K) rfl) (pv 1) (@po_some _ _ _ pe_int) po_none) rfl (by first | exact .inl rfl | exact .inr rfl | assumption)))) pss_nil)) (@pss_cons _ _ _ _ _ (@ps_fldK _ (K) _ _ _ _ _ _ _ rfl (pv 0) (@pe_gcallN _ _ _ _ _ _ _ _ _ _ G_word (hr.mono (by decide)) rfl (@pa_c _ _ _ _ _ (pe_bm PySem.F.plainAttrs_tuple PySem.F.slot_tuple_index PySem.F.type_tuple_index (mt_tidx (K := K) rfl) (pe_gtup (K := K) rfl rfl T.DEEDS) (@pa_c _ _ _ _ _ (@pe_fldK _ (K) _ _ _ _ rfl (pv 0) rfl) pa_nil rfl)) (@pa_c _ _ _ _ _ (pv 2) (@pa_c _ _ _ _ _ pe_int pa_nil rfl) rfl) rfl) (by decide) rfl) rfl) (@pss_cons _ _ _ _ _ (@ps_cut _ _ _ (@ps_if _ _ _ _ _ _ _ _ (@PW.pt _ _ _ (@pw_and _ _ _ _ _ _ _ (@pt_cmpR _ _ _ _ _ _ _ _ op_gt (@pe_callBN _ _ _ _ _ _ _ _ _ (call_len_seqN (K := K) rfl) (by rfl) T.len_ bo_len (@pa_c _ _ _ _ _ (pv 1) pa_nil rfl) (by decide) (by decide) rfl) pe_int (nomark _)) (@pw_and1 _ _ _ _ (@pt_val _ _ _ (pe_bm PySem.F.plainAttrs_str PySem.F.slot_str_startswith PySem.F.type_str_startswith mt_starts (@pe_ix _ _ _ _ _ _ _ (ix_listK (K := K) rfl) (pv 1) pe_int (fun _ _ => rfl)) (@pa_c _ _ _ _ _ pe_str pa_nil rfl)) (fun _ => rfl))))) (@pss_cons _ _ _ _ _ (@ps_fldK _ (K) _ _ _ _ _ _ _ rfl (pv 0) pe_bl rfl) (@pss_one _ _ _ (@ps_set _ _ (1) _ _ _ _ sc_read_cell_deed.nd rfl (Or.inl rfl) (@pe_op _ _ _ _ _ _ _ _ op_cat (@pe_lst _ _ _ _ (@pa_c _ _ _ _ _ (@pe_slice _ _ _ _ _ _ _ _ _ _ sl_str (@pe_ix _ _ _ _ _ _ _ (ix_listK (K := K) rfl) (pv 1) pe_int (fun _ _ => rfl)) (@po_some _ _ _ pe_int) po_none) pa_nil rfl)) (@pe_slice _ _ _ _ _ _ _ _ _ _ (sl_listK (K := K) rfl) (pv 1) (@po_some _ _ _ pe_int) po_none)) rfl (by first | exact .inl rfl | exact .inr rfl | assumption)))) pss_nil)) (@pss_one _ _ _ (@ps_expr _ _ _ _ (@pe_bothN _ _ _ _ _ _ _ _ _ _ _ _ _ _ _ _ _ _ _ _ _ _ _ _ _ _ _ G_read_value E_read_value (hr.mono (by decide)) (hr.mono (by decide)) rfl (@pa_c _ _ _ _ _ (pv 0) (@pa_c _ _ _ _ _ (pv 1) pa_nil rfl) rfl) (by decide) rfl) rfl)))))), ?_⟩
  wtm_at "xx"
  refine Sx.cut (fun σ' H' => ∃ (f : Int) (b' : Addr) (ts' : List Str), (f = 0 ∨ f = 1) ∧ σ' = [some (.ref A'.a), some (.ref b'), some (.int f)] ∧ SqL K H' b' (ts'.map V.str) ∧ Same H H' ∧ (∀ t ∈ ts', t.length ≤ 2000) ∧ ts'.length ≤ 3000 ∧ readPool { L with base := (kindsS.idxOf nm : Nat) * 128 + f * 64 } ts' = .error (bd, n)) ?_ ?_
  ·wtm_at "xx"
   refine ⟨b, _, rfl, .inl hb, ?_⟩
   wtm_at "xx"
   refine iteD (fun g => ?_) (fun g => ?_)
   ·cases ts with
    | nil => exact absurd g (by decide)
    | cons v r =>
     wtm_at "xx"
     refine Sx.ixS hb at0 ?_
     wtm_at "xx"
     refine iteD (fun g2 => ?_) (fun g2 => ?_)
     ·subst g2
      wtm_at "xx"
      refine Sx.slN hb fun p H1 n1 h1 s1 => ?_
      rw [show cutV (List.map V.str (("far" : Str) :: r)) (some 1) none = r.map V.str from by rw [show (1 : Int) = ((1 : Nat) : Int) from rfl, cutFrom]; rfl] at h1
      wtm_at "xx"
      rcases cell_farE e with ⟨r', er, e2⟩ | ⟨g3, _⟩
      ·cases er
       exact ⟨1, p, r, .inr rfl, rfl, SqL.of h1, s1, fun t ht => hz t (List.mem_cons_of_mem _ ht), by rw [List.length_cons] at hl; omega, e2⟩
      ·exact absurd rfl g3
     ·wtm_at "xx"
      rcases cell_farE e with ⟨r', er, e2⟩ | ⟨_, e2⟩
      ·cases er
       exact absurd rfl g2
      ·exact ⟨0, b, _, .inl rfl, rfl, hb, Same.refl _, hz, hl, by simpa using e2⟩
   ·cases ts with
    | nil =>
     wtm_at "xx"
     rcases cell_farE e with ⟨r', er, e2⟩ | ⟨_, e2⟩
     ·cases er
     ·exact ⟨0, b, _, .inl rfl, rfl, hb, Same.refl _, hz, hl, by simpa using e2⟩
    | cons v r => exact absurd (show (0 : Int) < ((List.map V.str (v :: r)).length : Nat) from by rw [List.length_map, List.length_cons]; omega) g
  ·rintro σ' H1 ⟨f, b', ts', hf, rfl, hb', s1, hz', hl', e'⟩
   have hA1 := hA.keep s1
   have hix : kindsS.idxOf nm < 6 := List.idxOf_lt_length_of_mem hk
   wtm_at "xx"
   refine Sx.topT fun a ha => ⟨tyT ha, ?_⟩
   wtm_at "xx"
   refine Sx.atF hA1.o T.clL T.n_name (lk_name _ _) ?_
   rw [hnm]
   wtm_at "xx"
   refine ⟨a, kindsS, nm, rfl, rfl, ha, hk, ?_⟩
   wtm_at "xx"
   refine ⟨_, _, _, rfl, by omega, by omega, ?_⟩
   rw [Int.add_zero]
   wtm_at "xx"
   refine xPut hA1.o T.clL T.n_base (len_fldsL _ _) fun H2 h2 o2 f2 => ?_
   rw [pf_base] at h2
   obtain ⟨hA2, fr2⟩ := hA1.wr h2 rfl o2 f2
   have hb2 := sq_fr hb' hA1.o o2
   clear h2 o2 f2
   generalize hL2 : ({ L with base := (kindsS.idxOf nm : Nat) * 128 + f * 64 } : Ln) = L2 at e' hA2
   have hn2 : L2.terms.length ≤ 2000 := by rw [← hL2]; exact ht
   wtm_at "xx"
   refine Sx.cut (fun σ' H' => ∃ (b2 : Addr) (ts2 : List Str) (L3 : Ln), σ' = [some (.ref A'.a), some (.ref b2), some (.int f)] ∧ SqL K H' b2 (ts2.map V.str) ∧ LnAt CL H' A' L3 ∧ FrX H H' [A'.a, A'.l] ∧ (∀ t ∈ ts2, t.length ≤ 2000) ∧ L3.terms.length ≤ 2000 ∧ readValue L3 ts2 = .error (bd, n)) ?_ ?_
   ·wtm_at "xx"
    refine ⟨b', _, rfl, .inl hb2, ?_⟩
    wtm_at "xx"
    have fr0 : FrX H H2 [A'.a, A'.l] := (FrX.same s1).trans fr2
    refine iteD (fun g => ?_) (fun g => ?_)
    ·cases ts' with
     | nil => exact absurd g (by decide)
     | cons v r =>
      wtm_at "xx"
      refine Sx.ixS hb2 at0 ?_
      wtm_at "xx"
      refine ⟨v, "=", rfl, rfl, ?_⟩
      rw [show ("=" : Str) = ⟨#[61]⟩ from by decide +kernel, tstart]
      wtm_at "xx"
      have hv : v.length ≤ 2000 := hz' v List.mem_cons_self
      refine iteD (fun g2 => ?_) (fun g2 => ?_)
      ·wtm_at "xx"
       refine xPut hA2.o T.clL T.n_pooled (len_fldsL _ _) fun H3 h3 o3 f3 => ?_
       rw [pf_pooled] at h3
       obtain ⟨hA3, fr3⟩ := hA2.wr h3 rfl o3 f3
       have hb3 := sq_fr hb2 hA2.o o3
       wtm_at "xx"
       refine Sx.ixS hb3 at0 ?_
       wtm_at "xx"
       refine ⟨v, rfl, by omega, ?_⟩
       have hv1 : 1 ≤ v.length := by
        rw [← cs_len]
        cases g : cs v with
        | nil => rw [g] at g2; cases g2
        | cons a b => simp
       rw [sl_first hv1]
       wtm_at "xx"
       refine Sx.newL (by show 1 ≤ sizeLine; decide) fun p1 H4 n4 h4 s4 => ?_
       wtm_at "xx"
       refine Sx.slN (s4.seq hb3) fun p2 H5 n5 h5 s5 => ?_
       rw [show cutV (List.map V.str (v :: r)) (some 1) none = r.map V.str from by rw [show (1 : Int) = ((1 : Nat) : Int) from rfl, cutFrom]; rfl] at h5
       wtm_at "xx"
       refine Sx.catN (s5 _ _ h4) h5 (by rw [List.length_map, List.length_singleton]; rw [List.length_cons] at hl'; omega) fun p3 H6 n6 h6 s6 => ?_
       wtm_at "xx"
       rcases pool_eqE e' with ⟨v', r', er, _, e2⟩ | ⟨g3, _⟩
       ·cases er
        refine ⟨p3, oc ((cs v).drop 1) :: r, _, rfl, SqL.of h6, ((hA3.keep s4).keep s5).keep s6, (fr0.trans fr3).trans (.same (s4.trans (s5.trans s6))), fun t ht => ?_, hn2, e2⟩
        rcases List.mem_cons.mp ht with rfl | ht
        ·rw [← cs_len, cs_oc, List.length_drop, cs_len]; omega
        ·exact hz' t (List.mem_cons_of_mem _ ht)
       ·exact absurd g2 (g3 v r rfl)
      ·wtm_at "xx"
       rcases pool_eqE e' with ⟨v', r', er, g3, e2⟩ | ⟨_, e2⟩
       ·cases er
        exact absurd g3 g2
       ·exact ⟨b', _, L2, rfl, hb2, hA2, fr0, hz', hn2, e2⟩
    ·cases ts' with
     | nil =>
      wtm_at "xx"
      rcases pool_eqE e' with ⟨v', r', er, _⟩ | ⟨_, e2⟩
      ·cases er
      ·exact ⟨b', _, L2, rfl, hb2, hA2, fr0, hz', hn2, e2⟩
     | cons v r => exact absurd (show (0 : Int) < ((List.map V.str (v :: r)).length : Nat) from by rw [List.length_map, List.length_cons]; omega) g
   ·rintro σ' H3 ⟨b2, ts2, L3, rfl, hb3, hA3, fr3, hz3, ht3, e3⟩
    wtm_at "xx"
    unfold tBoth
    wtm_at "xx"
    exact .inr ⟨A', L3, b2, ts2, bd, n, rfl, hA3, hb3, hz3, ht3, e3, th.mono fun H' fr' => fr3.trans fr'⟩
def sp_deedE (K : PySem.W.Frag) (CL : Addr) (CB : Bad → Addr) : Sp := fun vs H _ E => ∃ (A : LAd) (L : Ln) (b : Addr) (nm : Str) (ts : List Str) (bd : Bad) (n : Int), vs = [.ref A.a, .str nm, .ref b] ∧ LnAt CL H A L ∧ H b = some (.lst (ts.map V.str)) ∧ (∀ t ∈ ts, t.length ≤ 2000) ∧ ts.length ≤ 3000 ∧ L.terms.length ≤ 2000 ∧ readDeed L nm ts = .error (bd, n) ∧ Thr CB bd n (fun H1 => FrX H H1 [A.a, A.l]) E
theorem ok_deedE (R : Raw K mg "read_deed" s_read_deed) (T : TxtN K mg CL) (X_NoDeed : GX P w K mg base "NoDeed" (CB .noDeed) 1) (G_word : GF P w K mg base "word" ["kind", "far", "place"] 1 sp_word) (G_read_value : GF P w K mg base "read_value" ["line", "behind"] 4 (sp_value K CL)) (G_read_cell_deed : GF P w K mg base "read_cell_deed" ["line", "behind"] 5 (sp_cell K CL))
  (G_read_ask : GF P w K mg base "read_ask" ["line", "behind"] 1 (sp_ask K CL)) (G_read_bits : GF P w K mg base "read_bits" ["line", "behind", "names"] 1 (sp_bits K CL)) (E_read_value : GE P w K mg base "read_value" ["line", "behind"] 4 (sp_valueE K CL CB)) (E_read_cell_deed : GE P w K mg base "read_cell_deed" ["line", "behind"] 5 (sp_cellE K CL CB))
  (E_read_ask : GE P w K mg base "read_ask" ["line", "behind"] 3 (sp_askE K CL CB)) (E_read_bits : GE P w K mg base "read_bits" ["line", "behind", "names"] 3 (sp_bitsE K CL CB)) : GE P w K mg base "read_deed" ["line", "name", "behind"] 6 (sp_deedE K CL CB) := by
 refine GE.mk R sc_read_deed (by wtm_at "3") (fun vs H Q E h => ?_) (fun f cdv A outer s H vs Q E hr h => ?_)
 ·obtain ⟨A, L, b, nm, ts, bd, n, rfl, _⟩ := h; rfl
 ·obtain ⟨A', L, b, nm, ts, bd, n, rfl, hA, hb, hz, hl, ht, e, th⟩ := h
  have hba : b ≠ A'.a := fun z => by rw [z, hA.o] at hb; cases hb
  refine ⟨_, (@pss_cons _ _ _ _ _ (@ps_fldK _ (K) _ _ _ _ _ _ _ rfl (pv 0) (pv 1) rfl) (@pss_one _ _ _ (@ps_if _ _ _ _ _ _ _ _ (@PW.pt _ _ _ (@pw_or _ _ _ _ _ _ _ (@pt_cmpR _ _ _ _ _ _ _ _ op_eq (pv 1) pe_str (nomark _)) (@pw_or1 _ _ _ _ (@pt_cmpR _ _ _ _ _ _ _ _ op_eq (pv 1) pe_str (nomark _))))) (@pss_one _ _ _ (@ps_expr _ _ _ _ (@pe_bothN _ _ _ _ _ _ _ _ _ _ _ _ _ _ _ _ _ _ _ _ _ _ _ _ _ _ _ G_read_value E_read_value (hr.mono (by decide)) (hr.mono (by decide)) rfl (@pa_c _ _ _ _ _ (pv 0) (@pa_c _ _ _ _ _ (pv 2) pa_nil rfl) rfl) (by decide) rfl) rfl)) (@pss_one _ _ _ (@ps_if _ _ _ _ _ _ _ _ (@pt_cmpR _ _ _ _ _ _ _ _ (op_in_seqK (K := K) rfl) (pv 1) (pe_gtup (K := K) rfl rfl T.DEEDS) (by with_unfolding_all rfl)) (@pss_one _ _ _ (@ps_expr _ _ _ _ (@pe_bothN _ _ _ _ _ _ _ _ _ _ _ _ _ _ _ _ _ _ _ _ _ _ _ _ _ _ _ G_read_cell_deed E_read_cell_deed (hr.mono (by decide)) (hr.mono (by decide)) rfl (@pa_c _ _ _ _ _ (pv 0) (@pa_c _ _ _ _ _ (pv 2) pa_nil rfl) rfl) (by decide) rfl) rfl)) (@pss_one _ _ _ (@ps_if _ _ _ _ _ _ _ _ (@pt_cmpR _ _ _ _ _ _ _ _ op_eq (pv 1) pe_str (nomark _)) (@pss_one _ _ _ (@ps_fldK _ (K) _ _ _ _ _ _ _ rfl (pv 0) (@pe_gcallN _ _ _ _ _ _ _ _ _ _ G_word (hr.mono (by decide)) rfl (@pa_c _ _ _ _ _ (@pe_gint _ _ _ _ rfl T.ASK (by decide)) (@pa_c _ _ _ _ _ pe_int (@pa_c _ _ _ _ _ (@pe_bothN _ _ _ _ _ _ _ _ _ _ _ _ _ _ _ _ _ _ _ _ _ _ _ _ _ _ _ G_read_ask E_read_ask (hr.mono (by decide)) (hr.mono (by decide)) rfl (@pa_c _ _ _ _ _ (pv 0) (@pa_c _ _ _ _ _ (pv 2) pa_nil rfl) rfl) (by decide) rfl) pa_nil rfl) rfl) rfl) (by decide) rfl) rfl)) (@pss_one _ _ _ (@ps_if _ _ _ _ _ _ _ _ (@pt_cmpR _ _ _ _ _ _ _ _ op_eq (pv 1) pe_str (nomark _)) (@pss_one _ _ _ (@ps_fldK _ (K) _ _ _ _ _ _ _ rfl (pv 0) (@pe_gcallN _ _ _ _ _ _ _ _ _ _ G_word (hr.mono (by decide)) rfl (@pa_c _ _ _ _ _ (@pe_gint _ _ _ _ rfl T.BITS (by decide)) (@pa_c _ _ _ _ _ pe_int (@pa_c _ _ _ _ _ (@pe_bothN _ _ _ _ _ _ _ _ _ _ _ _ _ _ _ _ _ _ _ _ _ _ _ _ _ _ _ G_read_bits E_read_bits (hr.mono (by decide)) (hr.mono (by decide)) rfl (@pa_c _ _ _ _ _ (pv 0) (@pa_c _ _ _ _ _ (pv 2) (@pa_c _ _ _ _ _ (pe_gtup (K := K) rfl rfl T.CHANGES) pa_nil rfl) rfl) rfl) (by decide) rfl) pa_nil rfl) rfl) rfl) (by decide) rfl) rfl)) (@pss_one _ _ _ (@ps_if _ _ _ _ _ _ _ _ (@pt_cmpR _ _ _ _ _ _ _ _ op_eq (pv 1) pe_str (nomark _)) (@pss_one _ _ _ (@ps_fldK _ (K) _ _ _ _ _ _ _ rfl (pv 0) (@pe_gcallN _ _ _ _ _ _ _ _ _ _ G_word (hr.mono (by decide)) rfl (@pa_c _ _ _ _ _ (@pe_gint _ _ _ _ rfl T.BITS (by decide)) (@pa_c _ _ _ _ _ pe_int (@pa_c _ _ _ _ _ (@pe_bothN _ _ _ _ _ _ _ _ _ _ _ _ _ _ _ _ _ _ _ _ _ _ _ _ _ _ _ G_read_bits E_read_bits (hr.mono (by decide)) (hr.mono (by decide)) rfl (@pa_c _ _ _ _ _ (pv 0) (@pa_c _ _ _ _ _ (pv 2) (@pa_c _ _ _ _ _ (pe_gtup (K := K) rfl rfl T.TESTS) pa_nil rfl) rfl) rfl) (by decide) rfl) pa_nil rfl) rfl) rfl) (by decide) rfl) rfl)) (@pss_one _ _ _ (@ps_graise _ _ _ _ _ _ _ _ _ _ _ _ _ _ _ _ _ _ _ _ _ _ _ X_NoDeed (hr.mono (by decide)) rfl (@pe_fldK _ (K) _ _ _ _ rfl (pv 0) rfl) (by decide) rfl))))))))))))), ?_⟩
  wtm_at "xx"
  refine xPut hA.o T.clL T.n_name (len_fldsL _ _) fun H1 h1 o1 f1 => ?_
  rw [pf_name] at h1
  obtain ⟨hA1, fr1⟩ := hA.wr h1 rfl o1 f1
  have hb1 : H1 b = some (.lst (ts.map V.str)) := by rw [o1 b hba]; exact hb
  have ht1 : ({ L with name := some nm } : Ln).terms.length ≤ 2000 := ht
  clear h1 o1 f1
  unfold readDeed at e
  dsimp only at e
  have th1 : Thr CB bd n (fun H2 => FrX H1 H2 [A'.a, A'.l]) E := th.mono fun _ f => fr1.trans f
  have th2 : Thr CB bd n (fun H2 => H2 = H1) E := th.mono fun _ f => by rw [f]; exact fr1
  wtm_at "xx"
  refine iteD (fun g => ?_) (fun g => ?_)
  ·rw [if_pos (.inl g)] at e
   wtm_at "xx"
   unfold tBoth
   wtm_at "xx"
   exact .inr ⟨A', _, b, ts, bd, n, rfl, hA1, SqL.of hb1, hz, ht1, e, th1⟩
  wtm_at "xx"
  refine iteD (fun g2 => ?_) (fun g2 => ?_)
  ·rw [if_pos (.inr g2)] at e
   wtm_at "xx"
   unfold tBoth
   wtm_at "xx"
   exact .inr ⟨A', _, b, ts, bd, n, rfl, hA1, SqL.of hb1, hz, ht1, e, th1⟩
  rw [if_neg fun z => z.elim g g2] at e
  wtm_at "xx"
  refine Sx.topT fun a ha => xIn ha ?_
  wtm_at "xx"
  refine iteD (fun g3 => ?_) (fun g3 => ?_)
  ·rw [if_pos g3] at e
   wtm_at "xx"
   unfold tBoth
   wtm_at "xx"
   exact .inr ⟨A', _, b, nm, ts, bd, n, rfl, hA1, rfl, g3, SqL.of hb1, hz, hl, ht1, e, th1⟩
  rw [if_neg g3] at e
  wtm_at "xx"
  refine iteD (fun g4 => ?_) (fun g4 => ?_)
  ·rw [if_pos g4] at e
   cases ea : readAsk { L with name := some nm } ts with
   | ok p => rw [ea] at e; cases e
   | error x =>
    rw [ea] at e
    cases e
    wtm_at "xx"
    unfold tBoth
    wtm_at "xx"
    exact .inr ⟨A', _, b, ts, bd, n, rfl, hA1, SqL.of hb1, ea, th2⟩
  rw [if_neg g4] at e
  wtm_at "xx"
  refine iteD (fun g5 => ?_) (fun g5 => ?_)
  ·rw [if_pos g5] at e
   cases ea : goBits L.num changesS ts ts 0 with
   | ok p => rw [ea] at e; cases e
   | error x =>
    rw [ea] at e
    cases e
    wtm_at "xx"
    unfold tBoth
    wtm_at "xx"
    refine Sx.topT fun a ha => ?_
    wtm_at "xx"
    exact .inr ⟨A', _, b, a, ts, changesS, bd, n, rfl, hA1, hb1, ha, rfl, ea, th2⟩
  rw [if_neg g5] at e
  wtm_at "xx"
  refine iteD (fun g6 => ?_) (fun g6 => ?_)
  ·rw [if_pos g6] at e
   cases ea : goBits L.num testsS ts ts 0 with
   | ok p => rw [ea] at e; cases e
   | error x =>
    rw [ea] at e
    cases e
    wtm_at "xx"
    unfold tBoth
    wtm_at "xx"
    refine Sx.topT fun a ha => ?_
    wtm_at "xx"
    exact .inr ⟨A', _, b, a, ts, testsS, bd, n, rfl, hA1, hb1, ha, rfl, ea, th2⟩
  rw [if_neg g6] at e
  cases e
  wtm_at "xx"
  exact raise_num T rfl hA1 rfl th fr1
end
end Sc
namespace Sc
open PySem L2 Tx Ls
structure SAd where
 s : Addr
 dx : Addr
 dl : Addr
 dm : Addr
 dp : Addr
def footS (A : SAd) : List Addr := [A.s, A.dl, A.dm, A.dp]
def labK (l : List (Str × Int)) : List (Key × V) := l.map fun p => (.inr p.1, .int p.2)
def intK (l : List (Int × Int)) : List (Key × V) := l.map fun p => (.inl p.1, .int p.2)
theorem lab_val (x : Str) : ∀ l : List (Str × Int), valV (labK l) (.inr x) = (l.lookup x).map V.int
 | [] => rfl
 | (y, v) :: r => by
  have ih := lab_val x r
  show valV ((Sum.inr y, V.int v) :: labK r) (.inr x) = _
  by_cases e : y = x
  ·subst e
   rw [valV_pos rfl, List.lookup_cons, show (y == y) = true from beq_self_eq_true y]
   rfl
  ·rw [valV_neg (fun z => e (Sum.inr.inj z)), List.lookup_cons, show (x == y) = false from beq_eq_false_iff_ne.mpr (fun z => e z.symm)]
   exact ih
theorem int_val (x : Int) : ∀ l : List (Int × Int), valV (intK l) (.inl x) = (l.lookup x).map V.int
 | [] => rfl
 | (y, v) :: r => by
  have ih := int_val x r
  show valV ((Sum.inl y, V.int v) :: intK r) (.inl x) = _
  by_cases e : y = x
  ·subst e
   rw [valV_pos rfl, List.lookup_cons, show (y == y) = true from beq_self_eq_true y]
   rfl
  ·rw [valV_neg (fun z => e (Sum.inl.inj z)), List.lookup_cons, show (x == y) = false from beq_eq_false_iff_ne.mpr (fun z => e z.symm)]
   exact ih
theorem put_new {kvs : List (Key × V)} {k : Key} {v : V} (h : valV kvs k = none) : putK kvs k v = kvs ++ [(k, v)] := by
 unfold putK
 rw [valV_any, h]
 rfl
def fldsS (A : SAd) (S : Sh) : List (Str × V) := [("labels", .ref A.dl), ("made", .ref A.dm), ("pool", .ref A.dp), ("here", .int S.here)]
theorem len_fldsS (A : SAd) (S : Sh) : (fldsS A S).length < 1000 := by show 4 < 1000; decide
theorem lk_labels (A : SAd) (S : Sh) : (fldsS A S).lookup ("labels" : Str) = some (.ref A.dl) := by
 unfold fldsS; exact look_hit
theorem lk_made (A : SAd) (S : Sh) : (fldsS A S).lookup ("made" : Str) = some (.ref A.dm) := by
 unfold fldsS; wtm_at "l"
theorem lk_pool (A : SAd) (S : Sh) : (fldsS A S).lookup ("pool" : Str) = some (.ref A.dp) := by
 unfold fldsS; wtm_at "l"
theorem lk_here (A : SAd) (S : Sh) : (fldsS A S).lookup ("here" : Str) = some (.int S.here) := by
 unfold fldsS; wtm_at "l"
theorem pf_here (A : SAd) (S : Sh) (x : Int) : putF "here" (.int x) (fldsS A S) = fldsS A { S with here := x } := by
 unfold fldsS; wtm_at "p"
structure ShAt (CS : Addr) (H : Hp) (A : SAd) (S : Sh) : Prop where
 o : H A.s = some (.ins CS A.dx (fldsS A S))
 l : H A.dl = some (.dK (labK S.labels))
 m : H A.dm = some (.dK (intK S.made))
 p : H A.dp = some (.dK (intK S.pool))
 nd : (footS A).Nodup
structure TxtT (K : PySem.W.Frag) (mg : Str → Option Value) (CL CS : Addr) : Prop extends TxtN K mg CL where
 clS : Cls K CS
 n_labels : NoAttr K CS "labels"
 n_made : NoAttr K CS "made"
 n_pool : NoAttr K CS "pool"
 n_here : NoAttr K CS "here"
 PLACES : IntG mg "PLACES" 64
 WORDS : IntG mg "WORDS" 1024
 int_ : mg "int" = none
 range_ : mg "range" = none
section
variable {CS CL : Addr} {H H' : Hp} {A : SAd} {B : LAd} {S S' : Sh} {L : Ln}
theorem ShAt.nds (h : ShAt CS H A S) : (¬ A.s = A.dl ∧ ¬ A.s = A.dm ∧ ¬ A.s = A.dp) ∧ (¬ A.dl = A.dm ∧ ¬ A.dl = A.dp) ∧ ¬ A.dm = A.dp := by
 have n := h.nd
 unfold footS at n
 simp only [List.nodup_cons, List.mem_cons, List.not_mem_nil, not_or, or_false, not_false_eq_true, and_true, List.nodup_nil] at n
 exact ⟨n.1, n.2.1, n.2.2⟩
theorem ShAt.keep (h : ShAt CS H A S) (s : Same H H') : ShAt CS H' A S := ⟨s _ _ h.o, s _ _ h.l, s _ _ h.m, s _ _ h.p, h.nd⟩
theorem ShAt.kind (h : ShAt CS H A S) {x : Addr} (hx : x ∈ footS A) : ∀ xs, H x ≠ some (.tup xs) ∧ H x ≠ some (.lst xs) := by
 intro xs
 unfold footS at hx
 simp only [List.mem_cons, List.not_mem_nil, or_false] at hx
 rcases hx with rfl | rfl | rfl | rfl
 ·rw [h.o]; exact ⟨(nomatch ·), (nomatch ·)⟩
 ·rw [h.l]; exact ⟨(nomatch ·), (nomatch ·)⟩
 ·rw [h.m]; exact ⟨(nomatch ·), (nomatch ·)⟩
 ·rw [h.p]; exact ⟨(nomatch ·), (nomatch ·)⟩
theorem ShAt.frU (h : ShAt CS H A S) {x : Addr} {o : HO} (hx : x ∈ footS A) : FrX H (upd H x o) (footS A) := .at_ hx fun xs => (h.kind hx xs).1
def Apart (A : SAd) (B : LAd) : Prop := B.a ∉ footS A ∧ B.l ∉ footS A
theorem LnAt.frS {A : SAd} (h : LnAt CL H B L) (f : FrX H H' (footS A)) (a : Apart A B) : LnAt CL H' B L := h.fr f a.1 a.2
theorem ShAt.setL (h : ShAt CS H A S) {l : List (Str × Int)} : ShAt CS (upd H A.dl (.dK (labK l))) A { S with labels := l } :=
 ⟨by rw [upd_ne h.nds.1.1]; exact h.o, upd_same, by rw [upd_ne (Ne.symm h.nds.2.1.1)]; exact h.m, by rw [upd_ne (Ne.symm h.nds.2.1.2)]; exact h.p, h.nd⟩
theorem ShAt.setM (h : ShAt CS H A S) {l : List (Int × Int)} : ShAt CS (upd H A.dm (.dK (intK l))) A { S with made := l } :=
 ⟨by rw [upd_ne h.nds.1.2.1]; exact h.o, by rw [upd_ne h.nds.2.1.1]; exact h.l, upd_same, by rw [upd_ne (Ne.symm h.nds.2.2)]; exact h.p, h.nd⟩
theorem ShAt.setP (h : ShAt CS H A S) {l : List (Int × Int)} : ShAt CS (upd H A.dp (.dK (intK l))) A { S with pool := l } :=
 ⟨by rw [upd_ne h.nds.1.2.2]; exact h.o, by rw [upd_ne h.nds.2.1.2]; exact h.l, by rw [upd_ne h.nds.2.2]; exact h.m, upd_same, h.nd⟩
theorem ShAt.setH (h : ShAt CS H A S) {i : Int} : ShAt CS (upd H A.s (.ins CS A.dx (fldsS A { S with here := i }))) A { S with here := i } :=
 ⟨upd_same, by rw [upd_ne (Ne.symm h.nds.1.1)]; exact h.l, by rw [upd_ne (Ne.symm h.nds.1.2.1)]; exact h.m, by rw [upd_ne (Ne.symm h.nds.1.2.2)]; exact h.p, h.nd⟩
end
def WfL (L : Ln) : Prop := ∀ p ∈ L.terms, (p.1 = 1 ∨ p.1 = -1) ∧ isTerm p.2 = true
section
variable {P : Program} {w : World} {K : PySem.W.Frag} {mg : Str → Option Value} {base : Heap} {CL CS : Addr}
def sp_makes (CL : Addr) : Sp := fun vs H Q _ => ∃ (B : LAd) (L : Ln), vs = [.ref B.a] ∧ LnAt CL H B L ∧ Q (.bl (makes L)) H
def sp_tell (CL CS : Addr) : Sp := fun vs H Q _ => ∃ (A : SAd) (B : LAd) (S S' : Sh) (L : Ln), vs = [.ref A.s, .ref B.a] ∧ ShAt CS H A S ∧ LnAt CL H B L ∧ S.labels.length ≤ 100000 ∧ tellLabel S L = .ok S' ∧ ∀ H', ShAt CS H' A S' → FrX H H' (footS A) → Q .non H'
def sp_tval (CL CS : Addr) : Sp := fun vs H Q _ => ∃ (A : SAd) (B : LAd) (S : Sh) (L : Ln) (t : Str) (v : Int), vs = [.ref A.s, .ref B.a, .str t] ∧ ShAt CS H A S ∧ LnAt CL H B L ∧ isTerm t = true ∧ termVal S L.num t = .ok v ∧ Q (.int v) H
def sp_bound (CL CS : Addr) : Sp := fun vs H Q _ => ∃ (A : SAd) (B : LAd) (S : Sh) (L : Ln) (b v : Int), vs = [.ref A.s, .ref B.a, .int b] ∧ ShAt CS H A S ∧ LnAt CL H B L ∧ WfL L ∧ boundVal S L b = .ok v ∧ Q (.int v) H
def sp_mcell (CL CS : Addr) : Sp := fun vs H Q _ => ∃ (A : SAd) (B : LAd) (S S' : Sh) (L : Ln) (i c : Int), vs = [.ref A.s, .ref B.a, .int i, .int c] ∧ ShAt CS H A S ∧ LnAt CL H B L ∧ S.made.length ≤ 100000 ∧ makeCell S L.num i c = .ok S' ∧ ∀ H', ShAt CS H' A S' → FrX H H' (footS A) → Q .non H'
def sp_move (CL CS : Addr) : Sp := fun vs H Q _ => ∃ (A : SAd) (B : LAd) (S S' : Sh) (L : Ln), vs = [.ref A.s, .ref B.a] ∧ ShAt CS H A S ∧ LnAt CL H B L ∧ WfL L ∧ moveHere S L = .ok S' ∧ ∀ H', ShAt CS H' A S' → FrX H H' (footS A) → Q .non H'
theorem ok_makes (R : Raw K mg "makes_cell" s_makes_cell) (T : TxtT K mg CL CS) : GF P w K mg base "makes_cell" ["line"] 1 (sp_makes CL) := by
 refine GF.mk R sc_makes_cell (by wtm_at "1") (fun vs H Q E h => ?_) (fun f cdv A outer s H vs Q E hr h => ?_)
 ·obtain ⟨B, L, rfl, _⟩ := h; rfl
 ·obtain ⟨B, L, rfl, hB, k⟩ := h
  refine ⟨_, (@pss_one _ _ _ (@ps_ret _ _ _ _ (@pe_and _ _ _ _ _ _ _ (@pe_cmpR _ _ _ _ _ _ _ _ op_notN (@pe_fldK _ (K) _ _ _ _ rfl (pv 0) rfl) pe_non (nomark _)) (@pe_one _ _ _ _ _ (@pe_cmpR _ _ _ _ _ _ _ _ op_ne (@pe_fldK _ (K) _ _ _ _ rfl (pv 0) rfl) pe_str (nomark _)))))), ?_⟩
  wtm_at "xx"
  refine Sx.atF hB.o T.clL T.n_name (lk_name _ _) ?_
  unfold makes at k
  cases en : L.name with
  | none =>
   rw [en] at k
   wtm_at "xx"
   exact k
  | some x =>
   rw [en] at k
   wtm_at "xx"
   refine iteN (fun _ => ?_) (fun g => by cases g)
   wtm_at "xx"
   refine Sx.atF hB.o T.clL T.n_name (lk_name _ _) ?_
   rw [en]
   show rNe (.str x) (.str "place") H _
   wtm_at "xx"
   exact k
theorem ok_tell (R : Raw K mg "tell_label" s_tell_label) (T : TxtT K mg CL CS) : GF P w K mg base "tell_label" ["sheet", "line"] 1 (sp_tell CL CS) := by
 refine GF.mk R sc_tell_label (by wtm_at "2") (fun vs H Q E h => ?_) (fun f cdv A outer s H vs Q E hr h => ?_)
 ·obtain ⟨A, B, S, S', L, rfl, _⟩ := h; rfl
 ·obtain ⟨A, B, S, S', L, rfl, hA, hB, hz, e, k⟩ := h
  refine ⟨_, (@pss_one _ _ _ (@ps_if _ _ _ _ _ _ _ _ (@pt_cmpR _ _ _ _ _ _ _ _ op_notN (@pe_fldK _ (K) _ _ _ _ rfl (pv 1) rfl) pe_non (nomark _)) (@pss_cons _ _ _ _ _ (@ps_if _ _ _ _ _ _ _ _ (@pt_cmpR _ _ _ _ _ _ _ _ (op_inD (hu1 hr)) (@pe_fldK _ (K) _ _ _ _ rfl (pv 1) rfl) (@pe_fldK _ (K) _ _ _ _ rfl (pv 0) rfl) (by with_unfolding_all rfl)) (@pss_one _ _ _ ps_never) pss_nil) (@pss_one _ _ _ (@ps_dput _ _ _ _ _ _ _ _ _ (hu1 hr) (@pe_fldK _ (K) _ _ _ _ rfl (pv 0) rfl) (@pe_fldK _ (K) _ _ _ _ rfl (pv 1) rfl) (@pe_fldK _ (K) _ _ _ _ rfl (pv 0) rfl) rfl))) pss_nil)), ?_⟩
  wtm_at "xx"
  refine Sx.atF hB.o T.clL T.n_label (lk_label _ _) ?_
  unfold tellLabel at e
  cases en : L.label with
  | none =>
   rw [en] at e
   cases e
   wtm_at "xx"
   exact k _ hA .refl
  | some x =>
   rw [en] at e
   dsimp only at e
   wtm_at "xx"
   refine iteN (fun _ => ?_) (fun g => by cases g)
   cases el : S.labels.lookup x with
   | some i => rw [el] at e; cases e
   | none =>
    rw [el] at e
    cases e
    have hv : valV (labK S.labels) (.inr x) = none := by rw [lab_val, el]; rfl
    wtm_at "xx"
    refine Sx.atF hB.o T.clL T.n_label (lk_label _ _) ?_
    rw [en]
    wtm_at "xx"
    refine Sx.atF hA.o T.clS T.n_labels (lk_labels _ _) ?_
    refine ⟨A.dl, none, rfl, by rw [← hv]; exact DGet.k (k := .inr x) hA.l, ?_⟩
    wtm_at "xx"
    refine iteF ?_
    wtm_at "xx"
    refine Sx.atF hA.o T.clS T.n_here (lk_here _ _) ?_
    wtm_at "xx"
    refine Sx.atF hA.o T.clS T.n_labels (lk_labels _ _) ?_
    wtm_at "xx"
    refine Sx.atF hB.o T.clL T.n_label (lk_label _ _) ?_
    rw [en]
    have hzz := sz
    refine ⟨A.dl, _, rfl, DPut.k (k := .inr x) hA.l (by unfold labK; rw [List.length_map]; show _ < sizeLine; rw [sizeLine_eq]; omega), ?_⟩
    rw [put_new hv, show labK S.labels ++ [((.inr x : Key), V.int S.here)] = labK (S.labels ++ [(x, S.here)]) from by unfold labK; rw [List.map_append]; rfl]
    exact k _ hA.setL (hA.frU (by simp [footS]))
theorem fig_iff (c : Nat) : isFig c = true ↔ 48 ≤ c ∧ c ≤ 57 := by
 unfold isFig
 rw [decide_eq_true_eq, show cs figures = [48, 49, 50, 51, 52, 53, 54, 55, 56, 57] from by decide +kernel]
 simp only [List.mem_cons, List.not_mem_nil, or_false]
 omega
theorem let_not_fig {c : Nat} (h : isLet c = true) : isFig c = false := by
 cases g : isFig c with
 | false => rfl
 | true =>
  have := (fig_iff c).mp g
  unfold isLet at h
  rw [decide_eq_true_eq, show cs letters = (List.range 26).map (97 + ·) from by decide +kernel] at h
  obtain ⟨i, _, rfl⟩ := List.mem_map.mp h
  omega
theorem digs {l : List Nat} (h : ∀ c ∈ l, 48 ≤ c ∧ c ≤ 57) : ((NumText.digitsVal l : Nat) : Int) = figVal l := by
 unfold NumText.digitsVal figVal
 have go : ∀ (l : List Nat) (a : Nat), (∀ c ∈ l, 48 ≤ c ∧ c ≤ 57) → ((l.foldl (fun acc c => acc * 10 + (c - 48)) a : Nat) : Int) = l.foldl (fun (v : Int) (c : Nat) => v * 10 + ((c : Int) - 48)) (a : Int) := by
  intro l
  induction l with
  | nil => intro a _; rfl
  | cons c r ih =>
   intro a h
   rw [List.foldl_cons, List.foldl_cons, ih _ fun x hx => h x (List.mem_cons_of_mem _ hx)]
   have hc := h c List.mem_cons_self
   congr 1
   omega
 exact go l 0 h
theorem ok_tval (R : Raw K mg "term_value" s_term_value) (T : TxtT K mg CL CS) : GF P w K mg base "term_value" ["sheet", "line", "term"] 1 (sp_tval CL CS) := by
 refine GF.mk R sc_term_value (by wtm_at "3") (fun vs H Q E h => ?_) (fun f cdv A outer s H vs Q E hr h => ?_)
 ·obtain ⟨A, B, S, L, t, v, rfl, _⟩ := h; rfl
 ·obtain ⟨A, B, S, L, t, v, rfl, hA, hB, ht, e, k⟩ := h
  refine ⟨_, (@pss_cons _ _ _ _ _ (@ps_if _ _ _ _ _ _ _ _ (@pt_cmpR _ _ _ _ _ _ _ _ op_eq (pv 2) pe_str (nomark _)) (@pss_one _ _ _ (@ps_ret _ _ _ _ (@pe_fldK _ (K) _ _ _ _ rfl (pv 0) rfl))) pss_nil) (@pss_cons _ _ _ _ _ (@ps_if _ _ _ _ _ _ _ _ (@pt_cmpR _ _ _ _ _ _ _ _ op_inS (@pe_ix _ _ _ _ _ _ _ ix_str (pv 2) pe_int (fun _ _ => rfl)) (@pe_gstr _ _ _ _ rfl T.FIGURES (by decide)) (by with_unfolding_all rfl)) (@pss_one _ _ _ (@ps_ret _ _ _ _ (@pe_callTyN _ _ _ _ _ _ _ _ _ call_intS (by rfl) T.int_ bo_int (@pa_c _ _ _ _ _ (pv 2) pa_nil rfl) (by decide) (by decide) rfl))) pss_nil) (@pss_cons _ _ _ _ _ (@ps_if _ _ _ _ _ _ _ _ (@pt_cmpR _ _ _ _ _ _ _ _ (op_notInD (hu1 hr)) (pv 2) (@pe_fldK _ (K) _ _ _ _ rfl (pv 0) rfl) (by with_unfolding_all rfl)) (@pss_one _ _ _ ps_never) pss_nil) (@pss_one _ _ _ (@ps_ret _ _ _ _ (@pe_dget _ _ _ _ _ _ (hu1 hr) (@pe_fldK _ (K) _ _ _ _ rfl (pv 0) rfl) (pv 2) (fun _ _ => rfl))))))), ?_⟩
  unfold termVal at e
  wtm_at "xx"
  refine iteD (fun g => ?_) (fun g => ?_)
  ·rw [if_pos g] at e
   cases e
   wtm_at "xx"
   refine Sx.atF hA.o T.clS T.n_here (lk_here _ _) ?_
   exact k
  rw [if_neg g] at e
  unfold isTerm at ht
  rw [decide_eq_false g, Bool.false_or, Bool.or_eq_true] at ht
  have hc : ∃ c r, cs t = c :: r ∧ t.length ≤ 8 ∧ (isFig c = true → ∀ x ∈ cs t, isFig x = true) := by
   rcases ht with ht | ht
   ·unfold isName shortName at ht
    simp only [Bool.and_eq_true, decide_eq_true_eq] at ht
    obtain ⟨⟨⟨h1, h2⟩, h3, h4⟩, _⟩ := ht
    cases g : cs t with
    | nil => rw [g] at h3; cases h3
    | cons c r =>
     rw [g] at h3
     exact ⟨c, r, rfl, h2, fun z => by rw [let_not_fig h3] at z; cases z⟩
   ·unfold isFigs at ht
    simp only [Bool.and_eq_true, decide_eq_true_eq, List.all_eq_true] at ht
    cases g : cs t with
    | nil => have := cs_len t; rw [g] at this; have : t.length = 0 := this.symm; omega
    | cons c r => rw [g] at ht; exact ⟨c, r, rfl, by omega, fun _ => ht.2⟩
  obtain ⟨c, r, ec, hl, hf⟩ := hc
  have hz := sz
  wtm_at "xx"
  refine ⟨t, 0, c, rfl, rfl, by omega, by show atI (cs t) 0 = _; rw [ec]; exact at0, ?_⟩
  wtm_at "xx"
  refine xSign ?_
  wtm_at "xx"
  refine iteD (fun g2 => ?_) (fun g2 => ?_)
  ·have hc1 : isFig c = true := decide_eq_true g2
   rw [ec] at e
   rw [if_pos (show (c :: r).head?.any isFig = true from hc1), ← ec] at e
   cases e
   have hd : ∀ x ∈ cs t, 48 ≤ x ∧ x ≤ 57 := fun x hx => (fig_iff x).mp (hf hc1 x hx)
   wtm_at "xx"
   refine ⟨t, rfl, hd, by show cs t ≠ []; rw [ec]; exact List.cons_ne_nil _ _, by omega, ?_⟩
   rw [show NumText.digitsVal t.cps.toList = NumText.digitsVal (cs t) from rfl, digs hd]
   exact k
  ·have hc1 : isFig c = false := decide_eq_false g2
   rw [ec] at e
   rw [if_neg (by show ¬ isFig c = true; rw [hc1]; exact Bool.false_ne_true)] at e
   cases el : S.labels.lookup t with
   | none => rw [el] at e; cases e
   | some i =>
    rw [el] at e
    cases e
    have hv : valV (labK S.labels) (.inr t) = some (.int v) := by rw [lab_val, el]; rfl
    wtm_at "xx"
    refine Sx.atF hA.o T.clS T.n_labels (lk_labels _ _) ?_
    refine ⟨A.dl, some (.int v), rfl, by rw [← hv]; exact DGet.k (k := .inr t) hA.l, ?_⟩
    wtm_at "xx"
    refine Sx.iteNT ?_
    wtm_at "xx"
    refine Sx.atF hA.o T.clS T.n_labels (lk_labels _ _) ?_
    wtm_at "xx"
    exact ⟨A.dl, .int v, rfl, by rw [← hv]; exact DGet.k (k := .inr t) hA.l, k⟩
theorem ok_mcell (R : Raw K mg "make_cell" s_make_cell) (T : TxtT K mg CL CS) : GF P w K mg base "make_cell" ["sheet", "line", "place", "made_word"] 1 (sp_mcell CL CS) := by
 refine GF.mk R sc_make_cell (fun _ _ _ _ _ _ us hl => match us, hl with | [_, _, _, _], _ => rfl) (fun vs H Q E h => ?_) (fun f cdv A outer s H vs Q E hr h => ?_)
 ·obtain ⟨A, B, S, S', L, i, c, rfl, _⟩ := h; rfl
 ·obtain ⟨A, B, S, S', L, i, c, rfl, hA, hB, hz, e, k⟩ := h
  refine ⟨_, (@pss_cons _ _ _ _ _ (@ps_if _ _ _ _ _ _ _ _ (@PW.pt _ _ _ (@pw_or _ _ _ _ _ _ _ (@pt_cmpR _ _ _ _ _ _ _ _ op_lt (pv 2) pe_int (nomark _)) (@pw_or1 _ _ _ _ (@pt_cmpR _ _ _ _ _ _ _ _ (op_inD (hu1 hr)) (pv 2) (@pe_fldK _ (K) _ _ _ _ rfl (pv 0) rfl) (by with_unfolding_all rfl))))) (@pss_one _ _ _ ps_never) pss_nil) (@pss_one _ _ _ (@ps_dput _ _ _ _ _ _ _ _ _ (hu1 hr) (@pe_fldK _ (K) _ _ _ _ rfl (pv 0) rfl) (pv 2) (pv 3) rfl))), ?_⟩
  unfold makeCell at e
  wtm_at "xx"
  refine iteD (fun g => ?_) (fun g => ?_)
  ·rw [if_pos g] at e
   cases e
  rw [if_neg g] at e
  cases el : S.made.lookup i with
  | some x => rw [el] at e; cases e
  | none =>
   rw [el] at e
   cases e
   have hv : valV (intK S.made) (.inl i) = none := by rw [int_val, el]; rfl
   wtm_at "xx"
   refine Sx.atF hA.o T.clS T.n_made (lk_made _ _) ?_
   refine ⟨A.dm, none, rfl, by rw [← hv]; exact DGet.k (k := .inl i) hA.m, ?_⟩
   wtm_at "xx"
   refine iteF ?_
   wtm_at "xx"
   refine Sx.atF hA.o T.clS T.n_made (lk_made _ _) ?_
   wtm_at "xx"
   refine ⟨A.dm, _, rfl, DPut.k (k := .inl i) hA.m (by unfold intK; rw [List.length_map]; show _ < sizeLine; rw [sizeLine_eq]; omega), ?_⟩
   rw [put_new hv, show intK S.made ++ [((.inl i : Key), V.int c)] = intK (S.made ++ [(i, c)]) from by unfold intK; rw [List.map_append]; rfl]
   exact k _ hA.setM (hA.frU (by simp [footS]))
end
end Sc
namespace Sc
open PySem L2 Tx Ls
section
variable {P : Program} {w : World} {K : PySem.W.Frag} {mg : Str → Option Value} {base : Heap} {CL CS : Addr}
def sp_pool (CL CS : Addr) : Sp := fun vs H Q _ => ∃ (A : SAd) (B : LAd) (S S' : Sh) (L : Ln) (p : Int), vs = [.ref A.s, .ref B.a] ∧ ShAt CS H A S ∧ LnAt CL H B L ∧ Apart A B ∧ WfL L ∧ S.made.length ≤ 100000 ∧ S.pool.length ≤ 100000 ∧ poolPlace S L = .ok (S', p) ∧ ∀ H', ShAt CS H' A S' → FrX H H' (footS A) → Q (.int p) H'
def sp_wof (CL CS : Addr) : Sp := fun vs H Q _ => ∃ (A : SAd) (B : LAd) (S S' : Sh) (L : Ln) (p : Int), vs = [.ref A.s, .ref B.a] ∧ ShAt CS H A S ∧ LnAt CL H B L ∧ Apart A B ∧ WfL L ∧ S.made.length ≤ 100000 ∧ S.pool.length ≤ 100000 ∧ wordOf S L = .ok (S', p) ∧ ∀ H', ShAt CS H' A S' → FrX H H' (footS A) → Q (.int p) H'
theorem bound_ok {S : Sh} {L : Ln} {b v : Int} (e : boundVal S L b = .ok v) : sumTerms S L.num L.terms 0 = .ok v ∧ 0 ≤ v ∧ v < b := by
 unfold boundVal at e
 cases g : sumTerms S L.num L.terms 0 with
 | error x => rw [g] at e; cases e
 | ok u =>
  rw [g] at e
  dsimp only at e
  split at e
  ·rename_i h
   cases e
   exact ⟨rfl, h.1, h.2⟩
  ·cases e
theorem ok_bound (R : Raw K mg "bounded_value" s_bounded_value) (T : TxtT K mg CL CS) (G_term_value : GF P w K mg base "term_value" ["sheet", "line", "term"] 1 (sp_tval CL CS)) : GF P w K mg base "bounded_value" ["sheet", "line", "bound"] 2 (sp_bound CL CS) := by
 refine GF.mk R sc_bounded_value (by wtm_at "3") (fun vs H Q E h => ?_) (fun f cdv A outer s H vs Q E hr h => ?_)
 ·obtain ⟨A, B, S, L, b, v, rfl, _⟩ := h; rfl
 ·obtain ⟨A, B, S, L, b, v, rfl, hA, hB, hw, e, k⟩ := h
  obtain ⟨e1, h0, h1⟩ := bound_ok e
  obtain ⟨rs, er, nr, kr⟩ := hB.t
  refine ⟨_, (@pss_cons _ _ _ _ _ (@ps_set _ _ (3) _ _ _ _ sc_bounded_value.nd rfl (Or.inl rfl) pe_int rfl (by first | exact .inl rfl | exact .inr rfl | assumption)) (@pss_cons _ _ _ _ _ (@ps_for _ _ _ _ _ _ _ _ PassesOwn.never rfl (@pi_listK _ (K) _ _ _ rfl (@pe_fldK _ (K) _ _ _ _ rfl (pv 1) rfl)) (@pg_tupK _ (K) _ _ _ _ (2) rfl rfl (@pgs_cons _ _ _ _ _ (@pg_name _ _ (4) _ sc_bounded_value.nd rfl (Or.inl rfl) (by first | exact .inl rfl | exact .inr rfl | assumption)) (@pgs_cons _ _ _ _ _ (@pg_name _ _ (5) _ sc_bounded_value.nd rfl (Or.inl rfl) (by first | exact .inl rfl | exact .inr rfl | assumption)) pgs_nil rfl) rfl) rfl rfl) (@pss_one _ _ _ (@ps_set _ _ (3) _ _ _ _ sc_bounded_value.nd rfl (Or.inl rfl) (@pe_op _ _ _ _ _ _ _ _ op_add (pv 3) (@pe_op _ _ _ _ _ _ _ _ op_mul (pv 4) (@pe_gcallN _ _ _ _ _ _ _ _ _ _ G_term_value (hr.mono (by decide)) rfl (@pa_c _ _ _ _ _ (pv 0) (@pa_c _ _ _ _ _ (pv 1) (@pa_c _ _ _ _ _ (pv 5) pa_nil rfl) rfl) rfl) (by decide) rfl))) rfl (by first | exact .inl rfl | exact .inr rfl | assumption))) (fun _ => rfl)) (@pss_cons _ _ _ _ _ (@ps_if _ _ _ _ _ _ _ _ (@pt_not _ _ _ _ (@pt_chain _ _ _ _ _ _ _ _ _ _ _ _ op_le op_lt pe_int (pv 3) (pv 2) (by with_unfolding_all rfl))) (@pss_one _ _ _ ps_never) pss_nil) (@pss_one _ _ _ (@ps_ret _ _ _ _ (pv 3)))))), ?_⟩
  wtm_at "xx"
  refine Sx.atF hB.o T.clL T.n_terms (lk_terms _ _) ?_
  refine ⟨B.l, rfl, ⟨_, SqL.of er⟩, for_list (xs := rs.map V.ref) (fun i σ' H' => ∃ (x : Int) (x4 x5 : Option V), σ' = [some (.ref A.s), some (.ref B.a), some (.int b), some (.int x), x4, x5] ∧ H' = H ∧ sumTerms S L.num (L.terms.drop i) x = .ok v) ⟨0, _, _, rfl, rfl, e1⟩ (fun i σ' H' _ h => by obtain ⟨_, _, _, _, rfl, _⟩ := h; exact SqL.of er) ?_ ?_⟩
  ·rintro i x σ' H' hx ⟨a, x4, x5, rfl, rfl, e2⟩
   rw [List.getElem?_map] at hx
   cases ex : rs[i]? with
   | none => rw [ex] at hx; cases hx
   | some r =>
    rw [ex] at hx
    cases hx
    have hi : i < L.terms.length := by rw [← nr]; exact (List.getElem?_eq_some_iff.mp ex).1
    have et : L.terms[i]? = some L.terms[i] := List.getElem?_eq_getElem hi
    have hr' := kr i r _ ex et
    have hwf := hw _ (List.getElem_mem hi)
    rw [List.drop_eq_getElem_cons hi] at e2
    generalize L.terms[i] = q at hr' hwf e2
    obtain ⟨f, t⟩ := q
    unfold sumTerms at e2
    cases g : termVal S L.num t with
    | error z => rw [g] at e2; cases e2
    | ok u =>
     rw [g] at e2
     refine ⟨r, _, rfl, SqT.of hr', rfl, _, _, rfl, _, _, rfl, rfl, ?_⟩
     wtm_at "xx"
     refine ⟨A, B, S, L, t, u, rfl, hA, hB, hwf.2, g, ?_⟩
     have hf : (-(2 ^ 64) < f ∧ f < 2 ^ 64) := by rcases hwf.1 with z | z <;> (have z : f = _ := z; rw [z]; decide)
     refine ⟨f, u, rfl, rfl, .inl hf, ?_⟩
     wtm_at "xx"
     exact ⟨_, _, _, rfl, rfl, e2⟩
  ·rintro σ' H' ⟨a, x4, x5, rfl, rfl, e2⟩
   rw [List.length_map, nr, List.drop_length] at e2
   cases e2
   wtm_at "xx"
   refine iteD (fun _ => ?_) (fun g => absurd h0 g)
   wtm_at "xx"
   refine iteN (fun g => absurd h1 g) (fun _ => ?_)
   wtm_at "xx"
   exact k
theorem ok_move (R : Raw K mg "move_here" s_move_here) (T : TxtT K mg CL CS) (G_bounded_value : GF P w K mg base "bounded_value" ["sheet", "line", "bound"] 2 (sp_bound CL CS)) (G_makes_cell : GF P w K mg base "makes_cell" ["line"] 1 (sp_makes CL)) : GF P w K mg base "move_here" ["sheet", "line"] 3 (sp_move CL CS) := by
 refine GF.mk R sc_move_here (by wtm_at "2") (fun vs H Q E h => ?_) (fun f cdv A outer s H vs Q E hr h => ?_)
 ·obtain ⟨A, B, S, S', L, rfl, _⟩ := h; rfl
 ·obtain ⟨A, B, S, S', L, rfl, hA, hB, hw, e, k⟩ := h
  refine ⟨_, (@pss_one _ _ _ (@ps_if _ _ _ _ _ _ _ _ (@pt_cmpR _ _ _ _ _ _ _ _ op_eq (@pe_fldK _ (K) _ _ _ _ rfl (pv 1) rfl) pe_str (nomark _)) (@pss_one _ _ _ (@ps_fldK _ (K) _ _ _ _ _ _ _ rfl (pv 0) (@pe_gcallN _ _ _ _ _ _ _ _ _ _ G_bounded_value (hr.mono (by decide)) rfl (@pa_c _ _ _ _ _ (pv 0) (@pa_c _ _ _ _ _ (pv 1) (@pa_c _ _ _ _ _ (@pe_gint _ _ _ _ rfl T.PLACES (by decide)) pa_nil rfl) rfl) rfl) (by decide) rfl) rfl)) (@pss_one _ _ _ (@ps_if _ _ _ _ _ _ _ _ (@pt_val _ _ _ (@pe_gcallN _ _ _ _ _ _ _ _ _ _ G_makes_cell (hr.mono (by decide)) rfl (@pa_c _ _ _ _ _ (pv 1) pa_nil rfl) (by decide) rfl) (fun _ => rfl)) (@pss_cons _ _ _ _ _ (@ps_if _ _ _ _ _ _ _ _ (@pt_cmpR _ _ _ _ _ _ _ _ op_ge (@pe_fldK _ (K) _ _ _ _ rfl (pv 0) rfl) (@pe_gint _ _ _ _ rfl T.PLACES (by decide)) (nomark _)) (@pss_one _ _ _ ps_never) pss_nil) (@pss_one _ _ _ (@ps_fldK _ (K) _ _ _ _ _ _ _ rfl (pv 0) (@pe_op _ _ _ _ _ _ _ _ op_add (@pe_fldK _ (K) _ _ _ _ rfl (pv 0) rfl) pe_int) rfl))) pss_nil)))), ?_⟩
  unfold moveHere at e
  wtm_at "xx"
  refine Sx.atF hB.o T.clL T.n_name (lk_name _ _) ?_
  have rest : ¬ L.name = some ("place" : Str) → tIfS (tB (tCall (sp_makes CL) [] E0 (tCons (tVar 1) tNil)))
      (tSeq
       (tIfS
        (tTest
         (tOp (rI0 fun i j => V.bl (decide (j ≤ i))) (tFld K (tVar 0) "here") (tC (V.int 64))))
        tNever tNext)
       (sFld K (tVar 0)
        (tOp (rI0 fun i j => V.int (i + j)) (tFld K (tVar 0) "here") (tC (V.int 1)))
        "here"))
      tNext { nx := fun x H' => Q V.non H', rt := Q }
      (L2.start ["sheet", "line"] [V.ref A.s, V.ref B.a]) H := by
   intro g
   rw [if_neg g] at e
   wtm_at "xx"
   refine ⟨B, L, rfl, hB, ?_⟩
   wtm_at "xx"
   refine iteB (fun g => ?_) (fun g => ?_)
   ·rw [if_pos g] at e
    split at e
    ·cases e
    ·rename_i h64
     cases e
     wtm_at "xx"
     refine Sx.atF hA.o T.clS T.n_here (lk_here _ _) ?_
     wtm_at "xx"
     refine iteD (fun z => absurd z h64) (fun _ => ?_)
     wtm_at "xx"
     refine Sx.atF hA.o T.clS T.n_here (lk_here _ _) ?_
     wtm_at "xx"
     refine ⟨A.s, CS, A.dx, _, rfl, hA.o, T.clS, T.n_here, len_fldsS _ _, ?_⟩
     rw [pf_here]
     exact k _ hA.setH (hA.frU (by simp [footS]))
   ·rw [g, if_neg Bool.false_ne_true] at e
    cases e
    wtm_at "xx"
    exact k _ hA .refl
  cases en : L.name with
  | none =>
   refine ⟨rfl, ?_⟩
   wtm_at "xx"
   refine iteD (fun g => by cases g) (fun _ => ?_)
   exact rest (by rw [en]; exact fun z => by cases z)
  | some x =>
   refine Sx.cst ?_
   show rEq (.str x) (.str "place") H _
   wtm_at "xx"
   refine iteD (fun g => ?_) (fun g => ?_)
   ·subst g
    rw [if_pos en] at e
    cases eb : boundVal S L 64 with
    | error z => rw [eb] at e; cases e
    | ok v =>
     rw [eb] at e
     cases e
     wtm_at "xx"
     refine ⟨A, B, S, L, 64, v, rfl, hA, hB, hw, eb, ?_⟩
     wtm_at "xx"
     refine ⟨A.s, CS, A.dx, _, rfl, hA.o, T.clS, T.n_here, len_fldsS _ _, ?_⟩
     rw [pf_here]
     exact k _ hA.setH (hA.frU (by simp [footS]))
   ·exact rest (by rw [en]; exact fun z => g (Option.some.inj z))
theorem ok_pool (R : Raw K mg "pool_place" s_pool_place) (T : TxtT K mg CL CS) (G_bounded_value : GF P w K mg base "bounded_value" ["sheet", "line", "bound"] 2 (sp_bound CL CS)) (G_make_cell : GF P w K mg base "make_cell" ["sheet", "line", "place", "made_word"] 1 (sp_mcell CL CS)) : GF P w K mg base "pool_place" ["sheet", "line"] 3 (sp_pool CL CS) := by
 refine GF.mk R sc_pool_place (by wtm_at "2") (fun vs H Q E h => ?_) (fun f cdv A outer s H vs Q E hr h => ?_)
 ·obtain ⟨A, B, S, S', L, p, rfl, _⟩ := h; rfl
 ·obtain ⟨A, B, S, S', L, p, rfl, hA, hB, hab, hw, hm, hp, e, k⟩ := h
  refine ⟨_, (@pss_cons _ _ _ _ _ (@ps_set _ _ (2) _ _ _ _ sc_pool_place.nd rfl (Or.inl rfl) (@pe_gcallN _ _ _ _ _ _ _ _ _ _ G_bounded_value (hr.mono (by decide)) rfl (@pa_c _ _ _ _ _ (pv 0) (@pa_c _ _ _ _ _ (pv 1) (@pa_c _ _ _ _ _ (@pe_gint _ _ _ _ rfl T.WORDS (by decide)) pa_nil rfl) rfl) rfl) (by decide) rfl) rfl (by first | exact .inl rfl | exact .inr rfl | assumption)) (@pss_cons _ _ _ _ _ (@ps_cut _ _ _ (@ps_if _ _ _ _ _ _ _ _ (@pt_cmpR _ _ _ _ _ _ _ _ (op_notInD (hu1 hr)) (pv 2) (@pe_fldK _ (K) _ _ _ _ rfl (pv 0) rfl) (by with_unfolding_all rfl)) (@pss_cons _ _ _ _ _ (@ps_set _ _ (3) _ _ _ _ sc_pool_place.nd rfl (Or.inl rfl) (@pe_op _ _ _ _ _ _ _ _ op_sub (@pe_op _ _ _ _ _ _ _ _ op_sub (@pe_gint _ _ _ _ rfl T.PLACES (by decide)) pe_int) (@pe_callBN _ _ _ _ _ _ _ _ _ call_lenDK (by rfl) T.len_ bo_len (@pa_c _ _ _ _ _ (@pe_fldK _ (K) _ _ _ _ rfl (pv 0) rfl) pa_nil rfl) (by decide) (by decide) rfl)) rfl (by first | exact .inl rfl | exact .inr rfl | assumption)) (@pss_cons _ _ _ _ _ (@ps_expr _ _ _ _ (@pe_gcallN _ _ _ _ _ _ _ _ _ _ G_make_cell (hr.mono (by decide)) rfl (@pa_c _ _ _ _ _ (pv 0) (@pa_c _ _ _ _ _ (pv 1) (@pa_c _ _ _ _ _ (pv 3) (@pa_c _ _ _ _ _ (pv 2) pa_nil rfl) rfl) rfl) rfl) (by decide) rfl) rfl) (@pss_one _ _ _ (@ps_dput _ _ _ _ _ _ _ _ _ (hu1 hr) (@pe_fldK _ (K) _ _ _ _ rfl (pv 0) rfl) (pv 2) (pv 3) rfl)))) pss_nil)) (@pss_one _ _ _ (@ps_ret _ _ _ _ (@pe_dget _ _ _ _ _ _ (hu1 hr) (@pe_fldK _ (K) _ _ _ _ rfl (pv 0) rfl) (pv 2) (fun _ _ => rfl)))))), ?_⟩
  unfold poolPlace at e
  cases eb : boundVal S L 1024 with
  | error z => rw [eb] at e; cases e
  | ok v =>
   rw [eb] at e
   dsimp only at e
   wtm_at "xx"
   refine ⟨A, B, S, L, 1024, v, rfl, hA, hB, hw, eb, ?_⟩
   wtm_at "xx"
   refine Sx.cut (fun σ' H' => (∃ x, σ' = [some (.ref A.s), some (.ref B.a), some (.int v), x]) ∧ ShAt CS H' A S' ∧ FrX H H' (footS A) ∧ S'.pool.lookup v = some p) ?_ ?_
   ·wtm_at "xx"
    refine Sx.atF hA.o T.clS T.n_pool (lk_pool _ _) ?_
    cases el : S.pool.lookup v with
    | some q =>
     rw [el] at e
     have hv : valV (intK S.pool) (.inl v) = some (.int q) := by rw [int_val, el]; rfl
     cases e
     refine ⟨A.dp, some (.int p), rfl, by rw [← hv]; exact DGet.k (k := .inl v) hA.p, ?_⟩
     wtm_at "xx"
     refine Sx.iteNT ?_
     wtm_at "xx"
     exact ⟨⟨_, rfl⟩, hA, .refl, el⟩
    | none =>
     rw [el] at e
     dsimp only at e
     have hv : valV (intK S.pool) (.inl v) = none := by rw [int_val, el]; rfl
     refine ⟨A.dp, none, rfl, by rw [← hv]; exact DGet.k (k := .inl v) hA.p, ?_⟩
     wtm_at "xx"
     refine Sx.iteNF ?_
     wtm_at "xx"
     refine Sx.atF hA.o T.clS T.n_pool (lk_pool _ _) ?_
     wtm_at "xx"
     refine ⟨A.dp, _, rfl, hA.p, ?_⟩
     rw [show ((intK S.pool).length : Nat) = S.pool.length from by unfold intK; rw [List.length_map]]
     wtm_at "xx"
     cases ec : makeCell S L.num (63 - (S.pool.length : Int)) v with
     | error z => rw [ec] at e; cases e
     | ok S1 =>
      rw [ec] at e
      cases e
      have e63 : (64 : Int) - 1 - (S.pool.length : Int) = 63 - (S.pool.length : Int) := by omega
      rw [e63]
      refine ⟨A, B, S, S1, L, _, v, rfl, hA, hB, hm, ec, fun H1 hA1 fr1 => ?_⟩
      have hsp : S1.pool = S.pool := by
       unfold makeCell at ec
       split at ec
       ·cases ec
       ·split at ec
        ·cases ec
        ·cases ec; rfl
      wtm_at "xx"
      refine Sx.atF hA1.o T.clS T.n_pool (lk_pool _ _) ?_
      wtm_at "xx"
      have hv1 : valV (intK S1.pool) (.inl v) = none := by rw [hsp]; exact hv
      refine ⟨A.dp, _, rfl, DPut.k (k := .inl v) hA1.p (by unfold intK; rw [List.length_map, hsp]; show _ < sizeLine; rw [sizeLine_eq]; omega), ?_⟩
      rw [put_new hv1, show intK S1.pool ++ [((.inl v : Key), V.int (63 - (S.pool.length : Int)))] = intK (S1.pool ++ [(v, 63 - (S.pool.length : Int))]) from by unfold intK; rw [List.map_append]; rfl]
      refine ⟨⟨_, rfl⟩, hA1.setP, fr1.trans (hA1.frU (by simp [footS])), ?_⟩
      show (S1.pool ++ [(v, 63 - (S.pool.length : Int))]).lookup v = _
      rw [hsp, List.lookup_append, el]
      simp [List.lookup_cons]
   ·rintro σ' H1 ⟨⟨x, rfl⟩, hA1, fr1, hl⟩
    wtm_at "xx"
    refine Sx.atF hA1.o T.clS T.n_pool (lk_pool _ _) ?_
    wtm_at "xx"
    have hv : valV (intK S'.pool) (.inl v) = some (.int p) := by rw [int_val, hl]; rfl
    exact ⟨A.dp, .int p, rfl, by rw [← hv]; exact DGet.k (k := .inl v) hA1.p, k _ hA1 fr1⟩
theorem ok_wof (R : Raw K mg "word_of" s_word_of) (T : TxtT K mg CL CS) (G_bounded_value : GF P w K mg base "bounded_value" ["sheet", "line", "bound"] 2 (sp_bound CL CS)) (G_pool_place : GF P w K mg base "pool_place" ["sheet", "line"] 3 (sp_pool CL CS)) : GF P w K mg base "word_of" ["sheet", "line"] 4 (sp_wof CL CS) := by
 refine GF.mk R sc_word_of (by wtm_at "2") (fun vs H Q E h => ?_) (fun f cdv A outer s H vs Q E hr h => ?_)
 ·obtain ⟨A, B, S, S', L, p, rfl, _⟩ := h; rfl
 ·obtain ⟨A, B, S, S', L, p, rfl, hA, hB, hab, hw, hm, hp, e, k⟩ := h
  refine ⟨_, (@pss_cons _ _ _ _ _ (@ps_if _ _ _ _ _ _ _ _ (@pt_val _ _ _ (@pe_fldK _ (K) _ _ _ _ rfl (pv 1) rfl) (fun _ => rfl)) (@pss_one _ _ _ (@ps_ret _ _ _ _ (@pe_op _ _ _ _ _ _ _ _ op_add (@pe_fldK _ (K) _ _ _ _ rfl (pv 1) rfl) (@pe_gcallN _ _ _ _ _ _ _ _ _ _ G_pool_place (hr.mono (by decide)) rfl (@pa_c _ _ _ _ _ (pv 0) (@pa_c _ _ _ _ _ (pv 1) pa_nil rfl) rfl) (by decide) rfl)))) pss_nil) (@pss_cons _ _ _ _ _ (@ps_if _ _ _ _ _ _ _ _ (@pt_cmpR _ _ _ _ _ _ _ _ op_eq (@pe_fldK _ (K) _ _ _ _ rfl (pv 1) rfl) pe_str (nomark _)) (@pss_one _ _ _ (@ps_ret _ _ _ _ (@pe_op _ _ _ _ _ _ _ _ op_add (@pe_fldK _ (K) _ _ _ _ rfl (pv 1) rfl) (@pe_gcallN _ _ _ _ _ _ _ _ _ _ G_bounded_value (hr.mono (by decide)) rfl (@pa_c _ _ _ _ _ (pv 0) (@pa_c _ _ _ _ _ (pv 1) (@pa_c _ _ _ _ _ (@pe_gint _ _ _ _ rfl T.WORDS (by decide)) pa_nil rfl) rfl) rfl) (by decide) rfl)))) pss_nil) (@pss_one _ _ _ (@ps_ret _ _ _ _ (@pe_op _ _ _ _ _ _ _ _ op_add (@pe_fldK _ (K) _ _ _ _ rfl (pv 1) rfl) (@pe_gcallN _ _ _ _ _ _ _ _ _ _ G_bounded_value (hr.mono (by decide)) rfl (@pa_c _ _ _ _ _ (pv 0) (@pa_c _ _ _ _ _ (pv 1) (@pa_c _ _ _ _ _ (@pe_gint _ _ _ _ rfl T.PLACES (by decide)) pa_nil rfl) rfl) rfl) (by decide) rfl)))))), ?_⟩
  unfold wordOf at e
  wtm_at "xx"
  refine Sx.atF hB.o T.clL T.n_pooled (lk_pooled _ _) ?_
  refine ⟨_, rfl, ?_⟩
  refine iteB (fun g => ?_) (fun g => ?_)
  ·rw [if_pos g] at e
   cases ep : poolPlace S L with
   | error z => rw [ep] at e; cases e
   | ok q =>
    obtain ⟨S1, q⟩ := q
    rw [ep] at e
    cases e
    wtm_at "xx"
    refine Sx.atF hB.o T.clL T.n_base (lk_base _ _) ?_
    wtm_at "xx"
    refine ⟨A, B, S, _, L, q, rfl, hA, hB, hab, hw, hm, hp, ep, fun H1 hA1 fr1 => ?_⟩
    wtm_at "xx"
    exact k _ hA1 fr1
  ·rw [g, if_neg Bool.false_ne_true] at e
   wtm_at "xx"
   refine Sx.atF hB.o T.clL T.n_name (lk_name _ _) ?_
   have rest : ¬ L.name = some ("word" : Str) → tRet
               (tOp (rI0 fun i j => V.int (i + j)) (tFld K (tVar 1) "base")
                (tCall (sp_bound CL CS) [] E0
                 (tCons (tVar 0) (tCons (tVar 1) (tCons (tC (V.int 64)) tNil)))))
              { nx := fun x H' => Q V.non H', rt := Q } (L2.start ["sheet", "line"] [V.ref A.s, V.ref B.a]) H := by
    intro g2
    rw [if_neg g2] at e
    cases eb : boundVal S L 64 with
    | error z => rw [eb] at e; cases e
    | ok v =>
     rw [eb] at e
     cases e
     wtm_at "xx"
     refine Sx.atF hB.o T.clL T.n_base (lk_base _ _) ?_
     wtm_at "xx"
     refine ⟨A, B, S, L, 64, v, rfl, hA, hB, hw, eb, ?_⟩
     wtm_at "xx"
     exact k _ hA .refl
   refine Sx.cst ?_
   cases en : L.name with
   | none =>
    refine ⟨rfl, ?_⟩
    wtm_at "xx"
    refine iteD (fun g => by cases g) (fun _ => ?_)
    exact rest (by rw [en]; exact fun z => by cases z)
   | some x =>
    show rEq (.str x) (.str "word") H _
    wtm_at "xx"
    refine iteD (fun g => ?_) (fun g => ?_)
    ·subst g
     rw [if_pos en] at e
     cases eb : boundVal S L 1024 with
     | error z => rw [eb] at e; cases e
     | ok v =>
      rw [eb] at e
      cases e
      wtm_at "xx"
      refine Sx.atF hB.o T.clL T.n_base (lk_base _ _) ?_
      wtm_at "xx"
      refine ⟨A, B, S, L, 1024, v, rfl, hA, hB, hw, eb, ?_⟩
      wtm_at "xx"
      exact k _ hA .refl
    ·exact rest (by rw [en]; exact fun z => g (Option.some.inj z))
end
end Sc
namespace Sc
open PySem L2 Tx Ls
def WfT (ts : List (Int × Str)) : Prop := ∀ p ∈ ts, (p.1 = 1 ∨ p.1 = -1) ∧ isTerm p.2 = true
theorem terms_wf {n : Int} {tt : List (Int × Str)} : ∀ (ps : List Str) (i : Nat) (f : Int) (acc : List (Int × Str)), WfT acc → (f = 1 ∨ f = -1) → goTerms n i f ps acc = .ok tt → WfT tt := by
 intro ps
 induction ps with
 | nil => intro i f acc h _ e; cases e; exact h
 | cons p r ih =>
  intro i f acc h hf e
  unfold goTerms at e
  split at e
  ·exact ih _ _ _ h (by split <;> simp) e
  ·split at e
   ·rename_i g
    refine ih _ _ _ (fun q hq => ?_) hf e
    rcases List.mem_append.mp hq with z | z
    ·exact h q z
    ·rw [List.mem_singleton.mp z]; exact ⟨hf, g⟩
   ·cases e
theorem value_wf {L L' : Ln} {ts : List Str} (h : WfL L) (e : readValue L ts = .ok L') : WfL L' := by
 obtain ⟨v, tt, _, e1, rfl⟩ := value_ok e
 exact terms_wf _ _ _ _ h (.inl rfl) e1
theorem pool_wf {L L' : Ln} {ts : List Str} (h : WfL L) (e : readPool L ts = .ok L') : WfL L' := by
 rcases pool_eq e with ⟨v, r, _, _, e2⟩ | ⟨_, e2⟩
 ·exact value_wf (L := { L with pooled := true }) h e2
 ·exact value_wf h e2
theorem cell_wf {L L' : Ln} {nm : Str} {ts : List Str} (h : WfL L) (e : readCell L nm ts = .ok L') : WfL L' := by
 rcases cell_far e with ⟨r, _, e2⟩ | ⟨_, e2⟩
 ·exact pool_wf (L := { L with base := (kindsS.idxOf nm : Nat) * 128 + 64 }) h e2
 ·exact pool_wf (L := { L with base := (kindsS.idxOf nm : Nat) * 128 }) h e2
theorem deed_wf {L L' : Ln} {nm : Str} {ts : List Str} (h : WfL L) (e : readDeed L nm ts = .ok L') : WfL L' := by
 unfold readDeed at e
 dsimp only at e
 split at e
 ·exact value_wf (L := { L with name := some nm }) h e
 split at e
 ·exact cell_wf (L := { L with name := some nm }) h e
 split at e
 ·split at e
  ·cases e; exact h
  ·cases e
 split at e
 ·split at e
  ·cases e; exact h
  ·cases e
 split at e
 ·split at e
  ·cases e; exact h
  ·cases e
 ·cases e
theorem rest_wf {L L' : Ln} {ts : List Str} (h : WfL L) (e : readRest L ts = .ok L') : WfL L' := by
 cases ts with
 | nil => cases e; exact h
 | cons p r => exact deed_wf h e
theorem line_wf {row : Str} {n : Int} {L : Ln} (e : readLine row n = .ok L) : WfL L := by
 have h0 : ∀ p ∈ ([] : List (Int × Str)), (p.1 = 1 ∨ p.1 = -1) ∧ isTerm p.2 = true := fun p hp => by cases hp
 rcases line_ok e with ⟨p, r, _, _, _, e2⟩ | ⟨_, e2⟩
 ·exact rest_wf (L := { newLn n with label := _ }) h0 e2
 ·exact rest_wf (L := newLn n) h0 e2
structure LinesAt (CL : Addr) (H : Hp) (A : SAd) (l : Addr) (Bs : List LAd) (Ls : List Ln) : Prop where
 li : H l = some (.lst (Bs.map fun B => V.ref B.a))
 n : Bs.length = Ls.length
 at_ : ∀ (i : Nat) B L, Bs[i]? = some B → Ls[i]? = some L → LnAt CL H B L ∧ WfL L
 ap : ∀ B ∈ Bs, Apart A B ∧ B.l ≠ l
theorem LinesAt.fr {CL CS : Addr} {H H' : Hp} {A : SAd} {S : Sh} {l : Addr} {Bs : List LAd} {Ls : List Ln} (h : LinesAt CL H A l Bs Ls) (hA : ShAt CS H A S) (f : FrX H H' (footS A)) : LinesAt CL H' A l Bs Ls :=
 ⟨f.1 _ _ h.li fun z => (hA.kind z _).2 h.li, h.n, fun i B L e1 e2 => ⟨(h.at_ i B L e1 e2).1.frS f (h.ap B (List.mem_of_getElem? e1)).1, (h.at_ i B L e1 e2).2⟩, h.ap⟩
theorem LinesAt.keep {CL : Addr} {H H' : Hp} {A : SAd} {l : Addr} {Bs : List LAd} {Ls : List Ln} (h : LinesAt CL H A l Bs Ls) (s : Same H H') : LinesAt CL H' A l Bs Ls :=
 ⟨s _ _ h.li, h.n, fun i B L e1 e2 => ⟨(h.at_ i B L e1 e2).1.keep s, (h.at_ i B L e1 e2).2⟩, h.ap⟩
section
variable {P : Program} {w : World} {K : PySem.W.Frag} {mg : Str → Option Value} {base : Heap} {CL CS : Addr}
def sp_initS (CS : Addr) : Sp := fun vs H Q _ => ∃ (p dx : Addr), vs = [.ref p] ∧ H p = some (.ins CS dx []) ∧ ∀ A H', A.s = p → (∀ x ∈ footS A, x = p ∨ H x = none) → ShAt CS H' A ⟨[], [], [], 0⟩ → FrX H H' [p] → Q .non H'
def sp_first (CL CS : Addr) : Sp := fun vs H Q _ => ∃ (A : SAd) (S S' : Sh) (text : Str) (Ls : List Ln), vs = [.ref A.s, .str text] ∧ ShAt CS H A S ∧ S.labels.length = 0 ∧ text.length ≤ 1000000 ∧ (Txt.split text "\n").length ≤ 20000 ∧ (∀ r ∈ Txt.split text "\n", r.length ≤ 2000) ∧ goFirst (Txt.split text "\n") 1 S [] = .ok (S', Ls) ∧
 ∀ l Bs H', LinesAt CL H' A l Bs Ls → Ls.length ≤ 20000 → ShAt CS H' A S' → FrX H H' (footS A) → Q (.ref l) H'
theorem first_len : ∀ (rows : List Str) (n : Int) (S : Sh) (Ls : List Ln) (S' : Sh) (Ls' : List Ln), goFirst rows n S Ls = .ok (S', Ls') → Ls'.length = Ls.length + rows.length := by
 intro rows
 induction rows with
 | nil => intro n S Ls S' Ls' e; cases e; rfl
 | cons r t ih =>
  intro n S Ls S' Ls' e
  unfold goFirst at e
  split at e
  ·cases e
  ·split at e
   ·cases e
   ·split at e
    ·cases e
    ·have := ih _ _ _ _ _ e
     rw [this, List.length_append, List.length_singleton, List.length_cons]
     omega
theorem ok_initS {q : Str} (R : RawC K mg "Sheet" q CS s_Sheet_init) (T : TxtT K mg CL CS) : GC P w K mg base "Sheet" CS ["self"] 1 (sp_initS CS) := by
 refine GC.mk R sc_Sheet_init (by wtm_at "1") (fun vs H Q E h => ?_) (fun f cdv A outer s H vs Q E hr h => ?_)
 ·obtain ⟨p, dx, rfl, _⟩ := h; rfl
 ·obtain ⟨p, dx, rfl, hp, k⟩ := h
  refine ⟨_, (@pss_cons _ _ _ _ _ (@ps_fldK _ (K) _ _ _ _ _ _ _ rfl (pv 0) pe_dnewK rfl) (@pss_cons _ _ _ _ _ (@ps_fldK _ (K) _ _ _ _ _ _ _ rfl (pv 0) pe_dnewK rfl) (@pss_cons _ _ _ _ _ (@ps_fldK _ (K) _ _ _ _ _ _ _ rfl (pv 0) pe_dnewK rfl) (@pss_one _ _ _ (@ps_fldK _ (K) _ _ _ _ _ _ _ rfl (pv 0) pe_int rfl))))), ?_⟩
  wtm_at "xx"
  refine fun a1 n1 => ?_
  wtm_at "xx"
  have e1 : p ≠ a1 := ne_of_none hp n1
  refine xPut (by rw [upd_ne e1]; exact hp) T.clS T.n_labels (by show 0 < 1000; decide) fun H1 h1 o1 f1 => ?_
  have d1 : H1 a1 = some (.dK []) := by rw [o1 _ e1.symm, upd_same]
  have g1 : FrX H H1 [p] := (FrX.new n1).trans f1
  clear o1 f1
  wtm_at "xx"
  refine fun a2 n2 => ?_
  wtm_at "xx"
  have e2 : p ≠ a2 := ne_of_none h1 n2
  have e12 : a1 ≠ a2 := ne_of_none d1 n2
  refine xPut (by rw [upd_ne e2]; exact h1) T.clS T.n_made (by show 1 < 1000; decide) fun H2 h2 o2 f2 => ?_
  rw [putF_add (by simp only [putF, List.map_cons, List.map_nil]; decide +kernel)] at h2
  have d21 : H2 a1 = some (.dK []) := by rw [o2 _ e1.symm, upd_ne e12]; exact d1
  have d22 : H2 a2 = some (.dK []) := by rw [o2 _ e2.symm, upd_same]
  have g2 : FrX H H2 [p] := g1.trans ((FrX.new n2).trans f2)
  have m2 : H a2 = none := by
   cases z : H a2 with
   | none => rfl
   | some u => have := g1.1 _ _ z (by simp [e2.symm]); rw [n2] at this; cases this
  clear o2 f2
  wtm_at "xx"
  refine fun a3 n3 => ?_
  wtm_at "xx"
  have e3 : p ≠ a3 := ne_of_none h2 n3
  have e13 : a1 ≠ a3 := ne_of_none d21 n3
  have e23 : a2 ≠ a3 := ne_of_none d22 n3
  refine xPut (by rw [upd_ne e3]; exact h2) T.clS T.n_pool (by show 2 < 1000; decide) fun H3 h3 o3 f3 => ?_
  rw [putF_add (by simp only [putF, List.map_append, List.map_cons, List.map_nil]; decide +kernel)] at h3
  have d31 : H3 a1 = some (.dK []) := by rw [o3 _ e1.symm, upd_ne e13]; exact d21
  have d32 : H3 a2 = some (.dK []) := by rw [o3 _ e2.symm, upd_ne e23]; exact d22
  have d33 : H3 a3 = some (.dK []) := by rw [o3 _ e3.symm, upd_same]
  have g3 : FrX H H3 [p] := g2.trans ((FrX.new n3).trans f3)
  have m3 : H a3 = none := by
   cases z : H a3 with
   | none => rfl
   | some u => have := g2.1 _ _ z (by simp [e3.symm]); rw [n3] at this; cases this
  clear o3 f3
  wtm_at "xx"
  refine xPut h3 T.clS T.n_here (by show 3 < 1000; decide) fun H4 h4 o4 f4 => ?_
  rw [putF_add (by simp only [putF, List.map_append, List.map_cons, List.map_nil]; decide +kernel)] at h4
  refine k ⟨p, dx, a1, a2, a3⟩ H4 rfl (fun x hx => ?_) ⟨h4, by rw [o4 _ e1.symm]; exact d31, by rw [o4 _ e2.symm]; exact d32, by rw [o4 _ e3.symm]; exact d33, ?_⟩ (g3.trans f4)
  ·unfold footS at hx
   simp only [List.mem_cons, List.not_mem_nil, or_false] at hx
   rcases hx with rfl | rfl | rfl | rfl
   ·exact .inl rfl
   ·exact .inr n1
   ·exact .inr m2
   ·exact .inr m3
  ·unfold footS
   simp [e1, e2, e3, e12, e13, e23]
theorem ok_first (R : Raw K mg "go_over_first" s_go_over_first) (T : TxtT K mg CL CS) (G_read_line : GF P w K mg base "read_line" ["row", "number"] 7 (sp_line CL)) (G_tell_label : GF P w K mg base "tell_label" ["sheet", "line"] 1 (sp_tell CL CS)) (G_move_here : GF P w K mg base "move_here" ["sheet", "line"] 3 (sp_move CL CS)) : GF P w K mg base "go_over_first" ["sheet", "text"] 8 (sp_first CL CS) := by
 refine GF.mk R sc_go_over_first (by wtm_at "2") (fun vs H Q E h => ?_) (fun f cdv A outer s H vs Q E hr h => ?_)
 ·obtain ⟨A, S, S', text, Ls, rfl, _⟩ := h; rfl
 ·obtain ⟨A, S, S', text, Ls, rfl, hA, h0, htl, hfew, hrow, e, k⟩ := h
  refine ⟨_, (@pss_cons _ _ _ _ _ (@ps_set _ _ (2) _ _ _ _ sc_go_over_first.nd rfl (Or.inl rfl) (@pe_lst _ _ _ _ pa_nil) rfl (by first | exact .inl rfl | exact .inr rfl | assumption)) (@pss_cons _ _ _ _ _ (@ps_for _ _ _ _ _ _ _ _ PassesOwn.never rfl (pi_cntK (K := K) rfl rfl T.enumerate_ (@pa_c _ _ _ _ _ (pe_bm PySem.F.plainAttrs_str PySem.F.slot_str_split PySem.F.type_str_split mt_split (pv 1) (@pa_c _ _ _ _ _ pe_str pa_nil rfl)) pa_nil rfl)) (@pg_tupK _ (K) _ _ _ _ (2) rfl rfl (@pgs_cons _ _ _ _ _ (@pg_name _ _ (3) _ sc_go_over_first.nd rfl (Or.inl rfl) (by first | exact .inl rfl | exact .inr rfl | assumption)) (@pgs_cons _ _ _ _ _ (@pg_name _ _ (4) _ sc_go_over_first.nd rfl (Or.inl rfl) (by first | exact .inl rfl | exact .inr rfl | assumption)) pgs_nil rfl) rfl) rfl rfl) (@pss_cons _ _ _ _ _ (@ps_set _ _ (5) _ _ _ _ sc_go_over_first.nd rfl (Or.inl rfl) (@pe_gcallN _ _ _ _ _ _ _ _ _ _ G_read_line (hr.mono (by decide)) rfl (@pa_c _ _ _ _ _ (pv 4) (@pa_c _ _ _ _ _ (pv 3) pa_nil rfl) rfl) (by decide) rfl) rfl (by first | exact .inl rfl | exact .inr rfl | assumption)) (@pss_cons _ _ _ _ _ (@ps_expr _ _ _ _ (@pe_gcallN _ _ _ _ _ _ _ _ _ _ G_tell_label (hr.mono (by decide)) rfl (@pa_c _ _ _ _ _ (pv 0) (@pa_c _ _ _ _ _ (pv 5) pa_nil rfl) rfl) (by decide) rfl) rfl) (@pss_cons _ _ _ _ _ (@ps_expr _ _ _ _ (@pe_gcallN _ _ _ _ _ _ _ _ _ _ G_move_here (hr.mono (by decide)) rfl (@pa_c _ _ _ _ _ (pv 0) (@pa_c _ _ _ _ _ (pv 5) pa_nil rfl) rfl) (by decide) rfl) rfl) (@pss_one _ _ _ (@ps_expr _ _ _ _ (pe_bm PySem.F.plainAttrs_list PySem.F.slot_list_append PySem.F.type_list_append mt_append (pv 2) (@pa_c _ _ _ _ _ (pv 5) pa_nil rfl)) rfl))))) (fun _ => rfl)) (@pss_one _ _ _ (@ps_ret _ _ _ _ (pv 2))))), ?_⟩
  wtm_at "xx"
  refine Sx.newL (by show 0 ≤ sizeLine; decide) fun l H1 n1 h1 s1 => ?_
  wtm_at "xx"
  refine ⟨text, "\n", rfl, rfl, by decide +kernel, htl, fun ls H2 n2 h2 s2 => ?_⟩
  have hne : ls ≠ l := fun z => by rw [z, h1] at n2; cases n2
  have hLs := first_len _ _ _ _ _ _ e
  rw [List.length_nil, Nat.zero_add] at hLs
  generalize Txt.split text "\n" = rows at *
  wtm_at "xx"
  refine ⟨ls, _, rfl, SqL.of h2, for_cnt (n := 1) (xs := rows.map V.str) (fun i σ' H' => ∃ (S1 : Sh) (Ls1 : List Ln) (Bs : List LAd) (x3 x4 x5 : Option V), σ' = [some (.ref A.s), some (.str text), some (.ref l), x3, x4, x5] ∧ H' ls = some (.lst (rows.map V.str)) ∧ ShAt CS H' A S1 ∧ FrX H H' (footS A) ∧ LinesAt CL H' A l Bs Ls1 ∧ goFirst (rows.drop i) (1 + i) S1 Ls1 = .ok (S', Ls) ∧ S1.labels.length ≤ i ∧ Ls1.length = i) ?_ ?_ ?_ ?_⟩
  ·exact ⟨S, [], [], _, _, _, rfl, h2, (hA.keep s1).keep s2, .same (s1.trans s2), ⟨s2 _ _ h1, rfl, fun i B L e1 => (by cases e1), fun B hB => (by cases hB)⟩, e, by omega, rfl⟩
  ·rintro i σ' H' _ ⟨_, _, _, _, _, _, _, h, _⟩
   exact SqL.of h
  ·rintro i x T0 σ' H' hx ⟨S1, Ls1, Bs, x3, x4, x5, rfl, hls, hA1, fr1, hL1, e1, hs1, hn1⟩ hT
   rw [List.getElem?_map] at hx
   cases er : rows[i]? with
   | none => rw [er] at hx; cases hx
   | some row =>
    rw [er] at hx
    cases hx
    have hi : i < rows.length := (List.getElem?_eq_some_iff.mp er).1
    rw [List.drop_eq_getElem_cons hi, (List.getElem?_eq_some_iff.mp er).2] at e1
    unfold goFirst at e1
    cases el : readLine row (1 + i) with
    | error z => rw [el] at e1; cases e1
    | ok L =>
     rw [el] at e1
     dsimp only at e1
     cases et : tellLabel S1 L with
     | error z => rw [et] at e1; cases e1
     | ok S2 =>
      rw [et] at e1
      dsimp only at e1
      cases em : moveHere S2 L with
      | error z => rw [em] at e1; cases e1
      | ok S3 =>
       rw [em] at e1
       dsimp only at e1
       have s3 : Same H' (upd H' T0 (.tup [.int (1 + i), .str row])) := Same.newH hT
       have t3 : (upd H' T0 (.tup [.int (1 + i), .str row])) T0 = some (.tup [.int (1 + i), .str row]) := upd_same
       generalize upd H' T0 (.tup [.int (1 + i), .str row]) = G3 at s3 t3 ⊢
       refine ⟨T0, _, rfl, SqT.of t3, rfl, _, _, rfl, _, _, rfl, rfl, ?_⟩
       wtm_at "xx"
       refine ⟨row, _, L, rfl, hrow row (List.mem_of_getElem? er), el, fun B G4 na nl hB s4 => ?_⟩
       have s34 := s3.trans s4
       have hA4 := hA1.keep s34
       have hL4 := hL1.keep s34
       have apB : Apart A B := by
        have hA3 := hA1.keep s3
        refine ⟨fun z => ?_, fun z => ?_⟩
        ·unfold footS at z
         simp only [List.mem_cons, List.not_mem_nil, or_false] at z
         rcases z with z | z | z | z <;> rw [z] at na
         ·rw [hA3.o] at na; cases na
         ·rw [hA3.l] at na; cases na
         ·rw [hA3.m] at na; cases na
         ·rw [hA3.p] at na; cases na
        ·unfold footS at z
         simp only [List.mem_cons, List.not_mem_nil, or_false] at z
         rcases z with z | z | z | z <;> rw [z] at nl
         ·rw [hA3.o] at nl; cases nl
         ·rw [hA3.l] at nl; cases nl
         ·rw [hA3.m] at nl; cases nl
         ·rw [hA3.p] at nl; cases nl
       have hBl : B.l ≠ l := fun z => by rw [z, (hL1.keep s3).li] at nl; cases nl
       wtm_at "xx"
       refine ⟨A, B, S1, S2, L, rfl, hA4, hB, by omega, et, fun G5 hA5 fr5 => ?_⟩
       wtm_at "xx"
       refine ⟨A, B, S2, S3, L, rfl, hA5, hB.frS fr5 apB, line_wf el, em, fun G6 hA6 fr6 => ?_⟩
       have hL6 := (hL4.fr hA4 fr5).fr hA5 fr6
       have hB6 := (hB.frS fr5 apB).frS fr6 apB
       wtm_at "xx"
       refine ⟨Sx.tyL hL6.li, ?_⟩
       wtm_at "xx"
       refine Sx.addL hL6.li (by rw [List.length_map, hL6.n]; omega) fun G7 h7 f7 => ?_
       have lA : l ∉ footS A := fun z => (hA6.kind z _).2 hL6.li
       have fx : ∀ {C : LAd} {M : Ln}, LnAt CL G6 C M → C.l ≠ l → LnAt CL G7 C M := fun {C M} h n => by
        refine ⟨f7 _ _ (fun z => ?_) h.o, h.t.mv (fun o e => f7 _ _ n e) fun b xs e => f7 _ _ (fun z => ?_) e⟩
        ·have := h.o; rw [z, hL6.li] at this; cases this
        ·rw [z, hL6.li] at e; cases e
       refine ⟨S3, Ls1 ++ [L], Bs ++ [B], _, _, _, rfl, ?_, ?_, ?_, ⟨?_, ?_, ?_, ?_⟩, ?_, ?_, ?_⟩
       ·refine f7 _ _ hne (fr6.1 _ _ (fr5.1 _ _ (s34 _ _ hls) fun z => ?_) fun z => ?_)
        ·exact (hA4.kind z _).2 (s34 _ _ hls)
        ·exact (hA4.kind z _).2 (s34 _ _ hls)
       ·exact ⟨f7 _ _ (fun z => lA (by rw [← z]; simp [footS])) hA6.o, f7 _ _ (fun z => lA (by rw [← z]; simp [footS])) hA6.l, f7 _ _ (fun z => lA (by rw [← z]; simp [footS])) hA6.m, f7 _ _ (fun z => lA (by rw [← z]; simp [footS])) hA6.p, hA6.nd⟩
       ·have fr := ((fr1.trans (.same s34)).trans fr5).trans fr6
        refine ⟨fun b o e n => f7 _ _ (fun z => ?_) (fr.1 b o e n), fun b xs e => f7 _ _ (fun z => ?_) (fr.2 b xs e)⟩
        ·rw [z, n1] at e; cases e
        ·rw [z, n1] at e; cases e
       ·rw [h7, List.map_append]; rfl
       ·rw [List.length_append, List.length_append, hL6.n]; rfl
       ·intro j C M e1 e2
        rcases app_get hL6.n e1 e2 with ⟨a, b⟩ | ⟨rfl, rfl⟩
        ·obtain ⟨h, hw⟩ := hL6.at_ j C M a b
         exact ⟨fx h (hL6.ap C (List.mem_of_getElem? a)).2, hw⟩
        ·exact ⟨fx hB6 hBl, line_wf el⟩
       ·intro C hC
        rcases List.mem_append.mp hC with z | z
        ·exact hL6.ap C z
        ·rw [List.mem_singleton.mp z]; exact ⟨apB, hBl⟩
       ·rw [show (1 : Int) + ((i + 1 : Nat) : Int) = 1 + (i : Int) + 1 from by omega]
        exact e1
       ·have : S3.labels.length ≤ S1.labels.length + 1 := by
         have a1 : S2.labels.length ≤ S1.labels.length + 1 := by
          unfold tellLabel at et
          split at et
          ·cases et; omega
          ·split at et
           ·cases et
           ·cases et; simp
         have a2 : S3.labels = S2.labels := by
          unfold moveHere at em
          split at em
          ·split at em
           ·cases em; rfl
           ·cases em
          ·split at em
           ·split at em
            ·cases em
            ·cases em; rfl
           ·cases em; rfl
         rw [a2]; exact a1
        omega
       ·rw [List.length_append, hn1]; rfl
  ·rintro σ' H' ⟨S1, Ls1, Bs, x3, x4, x5, rfl, hls, hA1, fr1, hL1, e1, hs1, hn1⟩
   rw [List.length_map, List.drop_length] at e1
   cases e1
   wtm_at "xx"
   exact k l Bs _ hL1 (by omega) hA1 fr1
end
end Sc
namespace L2
open PySem PySem.Spec PyProof.Rows
theorem pe_gmake0 {X : Cx} {x : Str} {C : Addr} {k : Nat} {sp : Sp} {p pos : Pos} {ps : List Str} (G : GC X.prog X.w X.K X.mg X.base x C ps k sp) (hr : Room (k + 1) X.A) (hg : Gl X x) (hdb : (x == ("__debug__" : Str)) = false := by decide) : PE X (.Call (.Name x p) [] [] pos) (tMake C sp [] E0 tNil) := by
 obtain ⟨hm, f, fd, M, hb, F⟩ := G
 exact pe_make0 M F hr hg hm hb .nil pass0 hdb
end L2
namespace Sc
open PySem L2 Tx Ls
theorem make_len {S S' : Sh} {n i c : Int} (e : makeCell S n i c = .ok S') : S'.made.length = S.made.length + 1 ∧ S'.pool = S.pool ∧ S'.labels = S.labels ∧ S'.here = S.here := by
 unfold makeCell at e
 split at e
 ·cases e
 ·split at e
  ·cases e
  ·cases e; simp
theorem pool_len {S S' : Sh} {L : Ln} {p : Int} (e : poolPlace S L = .ok (S', p)) : S'.made.length ≤ S.made.length + 1 ∧ S'.pool.length ≤ S.pool.length + 1 := by
 unfold poolPlace at e
 split at e
 ·cases e
 ·split at e
  ·cases e; omega
  ·split at e
   ·cases e
   ·rename_i S1 h
    have := make_len h
    cases e
    simp [this.2.1]
    omega
theorem word_len {S S' : Sh} {L : Ln} {p : Int} (e : wordOf S L = .ok (S', p)) : S'.made.length ≤ S.made.length + 1 ∧ S'.pool.length ≤ S.pool.length + 1 := by
 unfold wordOf at e
 split at e
 ·split at e
  ·cases e
  ·rename_i S1 q h
   have := pool_len h
   cases e
   exact this
 ·split at e
  ·cases e
  ·cases e; omega
theorem again_len {S S' : Sh} {L : Ln} (e : againOne S L = .ok S') : S'.made.length ≤ S.made.length + 2 ∧ S'.pool.length ≤ S.pool.length + 1 := by
 unfold againOne at e
 split at e
 ·split at e
  ·cases e
  ·rename_i S1 v h
   have h1 := word_len h
   have h2 := make_len e
   rw [h2.2.1]
   omega
 ·cases e; omega
theorem move_len {S S' : Sh} {L : Ln} (e : moveHere S L = .ok S') : S'.made = S.made ∧ S'.pool = S.pool := by
 unfold moveHere at e
 split at e
 ·split at e
  ·cases e; exact ⟨rfl, rfl⟩
  ·cases e
 ·split at e
  ·split at e
   ·cases e
   ·cases e; exact ⟨rfl, rfl⟩
  ·cases e; exact ⟨rfl, rfl⟩
section
variable {P : Program} {w : World} {K : PySem.W.Frag} {mg : Str → Option Value} {base : Heap} {CL CS : Addr}
def sp_again (CL CS : Addr) : Sp := fun vs H Q _ => ∃ (A : SAd) (S S' : Sh) (l : Addr) (Bs : List LAd) (Ls : List Ln), vs = [.ref A.s, .ref l] ∧ ShAt CS H A S ∧ LinesAt CL H A l Bs Ls ∧ Ls.length ≤ 20000 ∧ S.made.length = 0 ∧ S.pool.length = 0 ∧ goAgain Ls S = .ok S' ∧ ∀ H', ShAt CS H' A S' → FrX H H' (footS A) → Q .non H'
def sp_asm (CL CS : Addr) : Sp := fun vs H Q _ => ∃ (text : Str) (c : List Int), vs = [.str text] ∧ text.length ≤ 1000000 ∧ (Txt.split text "\n").length ≤ 20000 ∧ (∀ r ∈ Txt.split text "\n", r.length ≤ 2000) ∧ assembledR text = .ok c ∧ ∀ l H', H l = none → H' l = some (.lst (c.map V.int)) → Same H H' → Q (.ref l) H'
theorem ok_again (R : Raw K mg "go_over_again" s_go_over_again) (T : TxtT K mg CL CS) (G_makes_cell : GF P w K mg base "makes_cell" ["line"] 1 (sp_makes CL)) (G_make_cell : GF P w K mg base "make_cell" ["sheet", "line", "place", "made_word"] 1 (sp_mcell CL CS)) (G_word_of : GF P w K mg base "word_of" ["sheet", "line"] 4 (sp_wof CL CS)) (G_move_here : GF P w K mg base "move_here" ["sheet", "line"] 3 (sp_move CL CS)) : GF P w K mg base "go_over_again" ["sheet", "lines"] 5 (sp_again CL CS) := by
 refine GF.mk R sc_go_over_again (by wtm_at "2") (fun vs H Q E h => ?_) (fun f cdv A outer s H vs Q E hr h => ?_)
 ·obtain ⟨A, S, S', l, Bs, Ls, rfl, _⟩ := h; rfl
 ·obtain ⟨A, S, S', l, Bs, Ls, rfl, hA, hL, hn, hm0, hp0, e, k⟩ := h
  refine ⟨_, (@pss_one _ _ _ (@ps_for _ _ _ _ _ _ _ _ PassesOwn.never rfl (@pi_listK _ (K) _ _ _ rfl (pv 1)) (@pg_name _ _ (2) _ sc_go_over_again.nd rfl (Or.inl rfl) (by first | exact .inl rfl | exact .inr rfl | assumption)) (@pss_cons _ _ _ _ _ (@ps_cut _ _ _ (@ps_if _ _ _ _ _ _ _ _ (@pt_val _ _ _ (@pe_gcallN _ _ _ _ _ _ _ _ _ _ G_makes_cell (hr.mono (by decide)) rfl (@pa_c _ _ _ _ _ (pv 2) pa_nil rfl) (by decide) rfl) (fun _ => rfl)) (@pss_one _ _ _ (@ps_expr _ _ _ _ (@pe_gcallN _ _ _ _ _ _ _ _ _ _ G_make_cell (hr.mono (by decide)) rfl (@pa_c _ _ _ _ _ (pv 0) (@pa_c _ _ _ _ _ (pv 2) (@pa_c _ _ _ _ _ (@pe_fldK _ (K) _ _ _ _ rfl (pv 0) rfl) (@pa_c _ _ _ _ _ (@pe_gcallN _ _ _ _ _ _ _ _ _ _ G_word_of (hr.mono (by decide)) rfl (@pa_c _ _ _ _ _ (pv 0) (@pa_c _ _ _ _ _ (pv 2) pa_nil rfl) rfl) (by decide) rfl) pa_nil rfl) rfl) rfl) rfl) (by decide) rfl) rfl)) pss_nil)) (@pss_one _ _ _ (@ps_expr _ _ _ _ (@pe_gcallN _ _ _ _ _ _ _ _ _ _ G_move_here (hr.mono (by decide)) rfl (@pa_c _ _ _ _ _ (pv 0) (@pa_c _ _ _ _ _ (pv 2) pa_nil rfl) rfl) (by decide) rfl) rfl))) (fun _ => rfl))), ?_⟩
  wtm_at "xx"
  refine ⟨l, rfl, ⟨_, SqL.of hL.li⟩, for_list (xs := Bs.map fun B => V.ref B.a) (fun i σ' H' => ∃ (S1 : Sh) (x : Option V), σ' = [some (.ref A.s), some (.ref l), x] ∧ ShAt CS H' A S1 ∧ FrX H H' (footS A) ∧ LinesAt CL H' A l Bs Ls ∧ goAgain (Ls.drop i) S1 = .ok S' ∧ S1.made.length ≤ 2 * i ∧ S1.pool.length ≤ i) ⟨S, _, rfl, hA, .refl, hL, e, by omega, by omega⟩ (fun i σ' H' _ h => by obtain ⟨_, _, _, _, _, h, _⟩ := h; exact SqL.of h.li) ?_ ?_⟩
  ·rintro i x σ' H' hx ⟨S1, x2, rfl, hA1, fr1, hL1, e1, hm1, hp1⟩
   rw [List.getElem?_map] at hx
   cases eB : Bs[i]? with
   | none => rw [eB] at hx; cases hx
   | some B =>
    rw [eB] at hx
    cases hx
    have hi : i < Ls.length := by rw [← hL.n]; exact (List.getElem?_eq_some_iff.mp eB).1
    have eL : Ls[i]? = some Ls[i] := List.getElem?_eq_getElem hi
    obtain ⟨hB, hw⟩ := hL1.at_ i B _ eB eL
    have apB := (hL1.ap B (List.mem_of_getElem? eB)).1
    rw [List.drop_eq_getElem_cons hi] at e1
    generalize Ls[i] = L at hB hw e1
    unfold goAgain at e1
    cases ea : againOne S1 L with
    | error z => rw [ea] at e1; cases e1
    | ok S2 =>
     rw [ea] at e1
     dsimp only at e1
     cases em : moveHere S2 L with
     | error z => rw [em] at e1; cases e1
     | ok S3 =>
      rw [em] at e1
      dsimp only at e1
      have l2 := again_len ea
      have l3 := move_len em
      wtm_at "xx"
      refine Sx.cut (fun σ' G => σ' = [some (.ref A.s), some (.ref l), some (.ref B.a)] ∧ ShAt CS G A S2 ∧ FrX H' G (footS A)) ?_ ?_
      ·wtm_at "xx"
       refine ⟨B, L, rfl, hB, ?_⟩
       wtm_at "xx"
       unfold againOne at ea
       refine iteB (fun g => ?_) (fun g => ?_)
       ·rw [if_pos g] at ea
        cases ew : wordOf S1 L with
        | error z => rw [ew] at ea; cases ea
        | ok q =>
         obtain ⟨S1', v⟩ := q
         rw [ew] at ea
         dsimp only at ea
         have l1 := word_len ew
         wtm_at "xx"
         refine Sx.atF hA1.o T.clS T.n_here (lk_here _ _) ?_
         wtm_at "xx"
         refine ⟨A, B, S1, S1', L, v, rfl, hA1, hB, apB, hw, by omega, by omega, ew, fun G1 hG1 f1 => ?_⟩
         wtm_at "xx"
         refine ⟨A, B, S1', S2, L, _, v, rfl, hG1, hB.frS f1 apB, by omega, ea, fun G2 hG2 f2 => ?_⟩
         exact ⟨rfl, hG2, f1.trans f2⟩
       ·rw [g, if_neg Bool.false_ne_true] at ea
        cases ea
        wtm_at "xx"
        exact ⟨rfl, hA1, .refl⟩
      ·rintro σ' G ⟨rfl, hG, fG⟩
       wtm_at "xx"
       refine ⟨A, B, S2, S3, L, rfl, hG, hB.frS fG apB, hw, em, fun G2 hG2 f2 => ?_⟩
       exact ⟨S3, _, rfl, hG2, fr1.trans (fG.trans f2), (hL1.fr hA1 fG).fr hG f2, e1, by rw [l3.1]; omega, by rw [l3.2]; omega⟩
  ·rintro σ' H' ⟨S1, x2, rfl, hA1, fr1, hL1, e1, hm1, hp1⟩
   rw [List.length_map, hL.n, List.drop_length] at e1
   cases e1
   exact k _ hA1 fr1
theorem make_s {H : Hp} {Q : Addr → Hp → Prop} (q : ∀ A H', (∀ x ∈ footS A, H x = none) → ShAt CS H' A ⟨[], [], [], 0⟩ → Same H H' → Q A.s H') :
  ∀ x dx, H x = none → H dx = none → dx ≠ x → sp_initS CS (.ref x :: ([] ++ [])) (upd (upd H dx (.own x)) x (.ins CS dx [])) (fun v H2 => v = .non ∧ Q x H2) E0 := by
 intro x dx nx ndx nex
 have s1 : Same H (upd (upd H dx (.own x)) x (.ins CS dx [])) := (Same.newH ndx).trans (Same.newH (by rw [upd_ne nex.symm]; exact nx))
 refine ⟨x, dx, rfl, upd_same, fun A H' ea hf hA fr => ⟨rfl, ?_⟩⟩
 have := q A H' (fun y hy => (hf y hy).elim (fun e => by rw [e]; exact nx) fun e => s1.free e) hA fun b o e => fr.1 b o (s1 b o e) fun z => by rw [List.mem_singleton.mp z, nx] at e; cases e
 rw [ea] at this
 exact this
theorem first_keep : ∀ (rows : List Str) (n : Int) (S : Sh) (Ls : List Ln) (S' : Sh) (Ls' : List Ln), goFirst rows n S Ls = .ok (S', Ls') → S'.made = S.made ∧ S'.pool = S.pool := by
 intro rows
 induction rows with
 | nil => intro n S Ls S' Ls' e; cases e; exact ⟨rfl, rfl⟩
 | cons r t ih =>
  intro n S Ls S' Ls' e
  unfold goFirst at e
  split at e
  ·cases e
  ·split at e
   ·cases e
   ·rename_i S1 et
    split at e
    ·cases e
    ·rename_i S2 em
     have h1 := ih _ _ _ _ _ e
     have h2 := move_len em
     have h3 : S1.made = S.made ∧ S1.pool = S.pool := by
      unfold tellLabel at et
      split at et
      ·cases et; exact ⟨rfl, rfl⟩
      ·split at et
       ·cases et
       ·cases et; exact ⟨rfl, rfl⟩
     exact ⟨h1.1.trans (h2.1.trans h3.1), h1.2.trans (h2.2.trans h3.2)⟩
theorem ok_asm (R : Raw K mg "assembled" s_assembled) (T : TxtT K mg CL CS) (M_Sheet : GC P w K mg base "Sheet" CS ["self"] 1 (sp_initS CS)) (G_go_over_first : GF P w K mg base "go_over_first" ["sheet", "text"] 8 (sp_first CL CS)) (G_go_over_again : GF P w K mg base "go_over_again" ["sheet", "lines"] 5 (sp_again CL CS)) : GF P w K mg base "assembled" ["text"] 9 (sp_asm CL CS) := by
 refine GF.mk R sc_assembled (by wtm_at "1") (fun vs H Q E h => ?_) (fun f cdv A outer s H vs Q E hr h => ?_)
 ·obtain ⟨text, c, rfl, _⟩ := h; rfl
 ·obtain ⟨text, c, rfl, htl, hfew, hrow, e, k⟩ := h
  refine ⟨_, (@pss_cons _ _ _ _ _ (@ps_set _ _ (1) _ _ _ _ sc_assembled.nd rfl (Or.inr rfl) (pe_gmake0 M_Sheet (hr.mono (by decide)) rfl) rfl (by first | exact .inl rfl | exact .inr rfl | assumption)) (@pss_cons _ _ _ _ _ (@ps_set _ _ (2) _ _ _ _ sc_assembled.nd rfl (Or.inl rfl) (@pe_gcallN _ _ _ _ _ _ _ _ _ _ G_go_over_first (hr.mono (by decide)) rfl (@pa_c _ _ _ _ _ (pv 1) (@pa_c _ _ _ _ _ (pv 0) pa_nil rfl) rfl) (by decide) rfl) rfl (by first | exact .inl rfl | exact .inr rfl | assumption)) (@pss_cons _ _ _ _ _ (@ps_fldK _ (K) _ _ _ _ _ _ _ rfl (pv 1) pe_int rfl) (@pss_cons _ _ _ _ _ (@ps_expr _ _ _ _ (@pe_gcallN _ _ _ _ _ _ _ _ _ _ G_go_over_again (hr.mono (by decide)) rfl (@pa_c _ _ _ _ _ (pv 1) (@pa_c _ _ _ _ _ (pv 2) pa_nil rfl) rfl) (by decide) rfl) rfl) (@pss_one _ _ _ (@ps_ret _ _ _ _ (@pe_lcomp _ _ _ _ _ _ _ _ _ _ _ _ ([("sheet" , 1)]) rfl (@pi_range1 _ _ _ _ _ _ rfl T.range_ (@pa_c _ _ _ _ _ (@pe_gint _ _ _ _ rfl T.PLACES (by decide)) pa_nil rfl) rfl) ⟨rfl, rfl, by decide +kernel, by decide +kernel, rfl, by decide +kernel, ⟨rfl, trivial⟩ , rfl, ⟨⟨rfl, .inl rfl, .inl rfl, _, rfl, rfl⟩ , trivial⟩⟩ (fun _ _ _ _ => pts_nil) (fun _ _ _ _ => (pe_dget2 (hu1 hr) (@pe_fldK _ (K) _ _ _ _ rfl (pv 1) rfl) (pv 0) pe_int ⟨rfl, rfl, rfl, rfl⟩)) (fun _ => rfl)))))))), ?_⟩
  unfold assembledR at e
  cases e1 : goFirst (Txt.split text "\n") 1 ⟨[], [], [], 0⟩ [] with
  | error z => rw [e1] at e; cases e
  | ok q =>
   obtain ⟨S1, Ls⟩ := q
   rw [e1] at e
   dsimp only at e
   cases e2 : goAgain Ls { S1 with here := 0 } with
   | error z => rw [e2] at e; cases e
   | ok S2 =>
    rw [e2] at e
    cases e
    have hk := first_keep _ _ _ _ _ _ e1
    wtm_at "xx"
    refine make_s fun A H1 nA hA1 s1 => ?_
    wtm_at "xx"
    refine ⟨A, _, S1, text, Ls, rfl, hA1, rfl, htl, hfew, hrow, e1, fun l Bs H2 hL2 hn2 hA2 fr2 => ?_⟩
    wtm_at "xx"
    refine ⟨A.s, CS, A.dx, _, rfl, hA2.o, T.clS, T.n_here, len_fldsS _ _, ?_⟩
    rw [pf_here]
    have hA3 := hA2.setH (i := 0)
    have fr3 : FrX H2 (upd H2 A.s (.ins CS A.dx (fldsS A { S1 with here := 0 }))) (footS A) := hA2.frU (by simp [footS])
    have hL3 := hL2.fr hA2 fr3
    generalize upd H2 A.s (.ins CS A.dx (fldsS A { S1 with here := 0 })) = H3 at hA3 fr3 hL3 ⊢
    wtm_at "xx"
    refine ⟨A, _, S2, l, Bs, Ls, rfl, hA3, hL3, hn2, by show S1.made.length = 0; rw [hk.1]; rfl, by show S1.pool.length = 0; rw [hk.2]; rfl, e2, fun H4 hA4 fr4 => ?_⟩
    wtm_at "xx"
    refine ⟨64, rfl, by decide, by decide, lc_range (fun i => .int ((S2.made.lookup (i : Int)).getD 0)) (by decide) (fun i hi Q' q => ?_) (fun q n => ?_)⟩
    ·wtm_at "xx"
     refine Sx.atF hA4.o T.clS T.n_made (lk_made _ _) ?_
     refine ⟨A.dm, rfl, .inl ⟨_, .of hA4.m⟩, ?_⟩
     wtm_at "xx"
     refine ⟨(S2.made.lookup (i : Int)).map V.int, ?_, ?_⟩
     ·rw [← int_val]
      have := DGet.k (k := .inl ((0 : Int) + i)) hA4.m
      rw [Int.zero_add] at this ⊢
      exact this
     ·cases g : S2.made.lookup (i : Int) with
      | none => rw [g] at q; exact q
      | some v => rw [g] at q; exact q
    ·have sm : Same H H4 := fun b o e => fr4.1 b o (fr3.1 b o (fr2.1 b o (s1 b o e) fun z => by rw [nA b z] at e; cases e) fun z => by rw [nA b z] at e; cases e) fun z => by rw [nA b z] at e; cases e
     refine k q _ (sm.free n) ?_ (sm.trans (Same.newH n))
     rw [upd_same, List.map_map]
     rfl
end
end Sc
namespace Sc
open PySem L2 Tx Ls
theorem line_any {row : Str} {n : Int} {z0 : Sc.R Ln} (e : readLine row n = z0) :
  (∃ p r, pieces row = p :: r ∧ (cs p)[(cs p).length - 1]? = some 58 ∧ ((isName (oc ((cs p).take ((cs p).length - 1))) = true ∧ readRest { newLn n with label := some (oc ((cs p).take ((cs p).length - 1))) } r = z0) ∨ (isName (oc ((cs p).take ((cs p).length - 1))) = false ∧ z0 = .error (.noDeed, n)))) ∨
  (∀ p r, pieces row = p :: r → ¬ (cs p)[(cs p).length - 1]? = some 58) ∧ readRest (newLn n) (pieces row) = z0 := by
 unfold readLine at e
 cases g : pieces row with
 | nil =>
  rw [g] at e
  exact .inr ⟨fun p r z => (by cases z), e⟩
 | cons p r =>
  rw [g] at e
  dsimp only at e
  by_cases g1 : (cs p)[(cs p).length - 1]? = some 58
  ·rw [if_pos g1] at e
   by_cases g2 : isName (oc ((cs p).take ((cs p).length - 1))) = true
   ·rw [if_pos g2] at e
    exact .inl ⟨p, r, rfl, g1, .inl ⟨g2, e⟩⟩
   ·rw [if_neg g2] at e
    exact .inl ⟨p, r, rfl, g1, .inr ⟨by simpa using g2, e.symm⟩⟩
  ·rw [if_neg g1] at e
   exact .inr ⟨fun a b z => by cases z; exact g1, e⟩
section
variable {P : Program} {w : World} {K : PySem.W.Frag} {mg : Str → Option Value} {base : Heap} {CL CS : Addr} {CB : Bad → Addr}
def sp_lineE (CB : Bad → Addr) : Sp := fun vs H _ E => ∃ (row : Str) (n : Int) (bd : Bad) (m : Int), vs = [.str row, .int n] ∧ row.length ≤ 2000 ∧ readLine row n = .error (bd, m) ∧ Thr CB bd m (fun H1 => Same H H1) E
theorem ok_lineE (R : Raw K mg "read_line" s_read_line) (T : TxtN K mg CL) (M_Line : GC P w K mg base "Line" CL ["self", "number"] 1 (sp_initL CL)) (G_pieces_of : GF P w K mg base "pieces_of" ["row"] 1 sp_pieces) (G_read_label : GF P w K mg base "read_label" ["line", "piece"] 3 (sp_label CL))
  (G_read_deed : GF P w K mg base "read_deed" ["line", "name", "behind"] 6 (sp_deed K CL)) (E_read_label : GE P w K mg base "read_label" ["line", "piece"] 3 (sp_labelE CL CB)) (E_read_deed : GE P w K mg base "read_deed" ["line", "name", "behind"] 6 (sp_deedE K CL CB)) : GE P w K mg base "read_line" ["row", "number"] 7 (sp_lineE CB) := by
 refine GE.mk R sc_read_line (by wtm_at "2") (fun vs H Q E h => ?_) (fun f cdv A outer s H vs Q E hr h => ?_)
 ·obtain ⟨row, n, bd, m, rfl, _⟩ := h; rfl
 ·obtain ⟨row, n, bd, m, rfl, hl, e, th⟩ := h
  refine ⟨_, (@pss_cons _ _ _ _ _ (@ps_set _ _ (2) _ _ _ _ sc_read_line.nd rfl (Or.inl rfl) (@pe_gmakeN _ _ _ _ _ _ _ _ _ _ _ M_Line (hr.mono (by decide)) rfl (@pa_c _ _ _ _ _ (pv 1) pa_nil rfl) (by decide) rfl) rfl (by first | exact .inl rfl | exact .inr rfl | assumption)) (@pss_cons _ _ _ _ _ (@ps_set _ _ (3) _ _ _ _ sc_read_line.nd rfl (Or.inl rfl) (@pe_gcallN _ _ _ _ _ _ _ _ _ _ G_pieces_of (hr.mono (by decide)) rfl (@pa_c _ _ _ _ _ (pv 0) pa_nil rfl) (by decide) rfl) rfl (by first | exact .inl rfl | exact .inr rfl | assumption)) (@pss_cons _ _ _ _ _ (@ps_cut _ _ _ (@ps_if _ _ _ _ _ _ _ _ (@PW.pt _ _ _ (@pw_and _ _ _ _ _ _ _ (@pt_cmpR _ _ _ _ _ _ _ _ op_gt (@pe_callBN _ _ _ _ _ _ _ _ _ (call_len_seqN (K := K) rfl) (by rfl) T.len_ bo_len (@pa_c _ _ _ _ _ (pv 3) pa_nil rfl) (by decide) (by decide) rfl) pe_int (nomark _)) (@pw_and1 _ _ _ _ (@pt_val _ _ _ (pe_bm PySem.F.plainAttrs_str PySem.F.slot_str_endswith PySem.F.type_str_endswith mt_ends (@pe_ix _ _ _ _ _ _ _ (ix_listK (K := K) rfl) (pv 3) pe_int (fun _ _ => rfl)) (@pa_c _ _ _ _ _ pe_str pa_nil rfl)) (fun _ => rfl))))) (@pss_cons _ _ _ _ _ (@ps_expr _ _ _ _ (@pe_bothN _ _ _ _ _ _ _ _ _ _ _ _ _ _ _ _ _ _ _ _ _ _ _ _ _ _ _ G_read_label E_read_label (hr.mono (by decide)) (hr.mono (by decide)) rfl (@pa_c _ _ _ _ _ (pv 2) (@pa_c _ _ _ _ _ (@pe_ix _ _ _ _ _ _ _ (ix_listK (K := K) rfl) (pv 3) pe_int (fun _ _ => rfl)) pa_nil rfl) rfl) (by decide) rfl) rfl) (@pss_one _ _ _ (@ps_set _ _ (3) _ _ _ _ sc_read_line.nd rfl (Or.inl rfl) (@pe_slice _ _ _ _ _ _ _ _ _ _ (sl_listK (K := K) rfl) (pv 3) (@po_some _ _ _ pe_int) po_none) rfl (by first | exact .inl rfl | exact .inr rfl | assumption)))) pss_nil)) (@pss_cons _ _ _ _ _ (@ps_cut _ _ _ (@ps_if _ _ _ _ _ _ _ _ (@pt_cmpR _ _ _ _ _ _ _ _ op_gt (@pe_callBN _ _ _ _ _ _ _ _ _ (call_len_seqN (K := K) rfl) (by rfl) T.len_ bo_len (@pa_c _ _ _ _ _ (pv 3) pa_nil rfl) (by decide) (by decide) rfl) pe_int (nomark _)) (@pss_one _ _ _ (@ps_expr _ _ _ _ (@pe_bothN _ _ _ _ _ _ _ _ _ _ _ _ _ _ _ _ _ _ _ _ _ _ _ _ _ _ _ G_read_deed E_read_deed (hr.mono (by decide)) (hr.mono (by decide)) rfl (@pa_c _ _ _ _ _ (pv 2) (@pa_c _ _ _ _ _ (@pe_ix _ _ _ _ _ _ _ (ix_listK (K := K) rfl) (pv 3) pe_int (fun _ _ => rfl)) (@pa_c _ _ _ _ _ (@pe_slice _ _ _ _ _ _ _ _ _ _ (sl_listK (K := K) rfl) (pv 3) (@po_some _ _ _ pe_int) po_none) pa_nil rfl) rfl) rfl) (by decide) rfl) rfl)) pss_nil)) (@pss_one _ _ _ (@ps_ret _ _ _ _ (pv 2))))))), ?_⟩
  wtm_at "xx"
  refine make_l fun A H1 na nl hA1 s1 => ?_
  wtm_at "xx"
  refine ⟨row, rfl, hl, fun b H2 n2 h2 s2 => ?_⟩
  have hA2 := hA1.keep s2
  have hfew := pieces_few row
  have hshort : ∀ t ∈ pieces row, t.length ≤ 2000 := fun t ht => Nat.le_trans (pieces_short ht) hl
  have s02 := s1.trans s2
  have hbl : b ≠ A.l := fun z => by
   obtain ⟨rs, er, _⟩ := hA1.t
   rw [z, er] at n2
   cases n2
  have th2 : Thr CB bd m (fun H3 => FrX H2 H3 [A.a, A.l]) E := th.mono fun H3 fr b o e => fr.1 b o (s02 b o e) (by
   intro z
   rcases List.mem_cons.mp z with z | z
   ·rw [z, na] at e; cases e
   ·rw [List.mem_singleton.mp z, nl] at e; cases e)
  wtm_at "xx"
  refine Sx.cut (fun σ' H' => ∃ (b' : Addr) (ts' : List Str) (L1 : Ln), σ' = [some (.str row), some (.int n), some (.ref A.a), some (.ref b')] ∧ H' b' = some (.lst (ts'.map V.str)) ∧ LnAt CL H' A L1 ∧ FrX H2 H' [A.a, A.l] ∧ readRest L1 ts' = .error (bd, m) ∧ (∀ t ∈ ts', t.length ≤ 2000) ∧ ts'.length ≤ 3000 ∧ L1.terms = []) ?_ ?_
  ·have no : (∀ p r, pieces row = p :: r → ¬ (cs p)[(cs p).length - 1]? = some 58) → ∃ (b' : Addr) (ts' : List Str) (L1 : Ln), ([some (.str row), some (.int n), some (.ref A.a), some (.ref b)] : St) = [some (.str row), some (.int n), some (.ref A.a), some (.ref b')] ∧ H2 b' = some (.lst (ts'.map V.str)) ∧ LnAt CL H2 A L1 ∧ FrX H2 H2 [A.a, A.l] ∧ readRest L1 ts' = .error (bd, m) ∧ (∀ t ∈ ts', t.length ≤ 2000) ∧ ts'.length ≤ 3000 ∧ L1.terms = [] := fun z => by
    rcases line_any e with ⟨p, r, ep, g1, _⟩ | ⟨_, e2⟩
    ·exact absurd g1 (z p r ep)
    ·exact ⟨b, _, newLn n, rfl, h2, hA2, .refl, e2, hshort, by omega, rfl⟩
   wtm_at "xx"
   refine ⟨b, _, rfl, .inl (SqL.of h2), ?_⟩
   wtm_at "xx"
   refine iteD (fun g => ?_) (fun g => ?_)
   ·cases ep : pieces row with
    | nil => rw [ep] at g; exact absurd g (by decide)
    | cons p r =>
     rw [ep] at h2 hshort hfew
     wtm_at "xx"
     refine Sx.ixL h2 at0 ?_
     wtm_at "xx"
     refine ⟨p, ":", rfl, rfl, ?_⟩
     rw [show (":" : Str) = ⟨#[58]⟩ from by decide +kernel, tend]
     wtm_at "xx"
     refine iteD (fun g2 => ?_) (fun g2 => ?_)
     ·rcases line_any e with ⟨p', r', ep', _, hn⟩ | ⟨z, _⟩
      ·rw [ep] at ep'
       cases ep'
       wtm_at "xx"
       unfold tBoth
       wtm_at "xx"
       refine Sx.ixL h2 at0 ?_
       wtm_at "xx"
       have h1 : 1 ≤ p.length := by
        rw [← cs_len]
        cases g : cs p with
        | nil => rw [g] at g2; cases g2
        | cons a b => simp
       rcases hn with ⟨hn, e2⟩ | ⟨hn, e2⟩
       ·refine .inl ⟨A, _, p, rfl, hA2, hshort p List.mem_cons_self, hn, fun H3 hA3 fr3 => ?_⟩
        have hb3 : H3 b = some (.lst ((p :: r).map V.str)) := fr3.1 _ _ h2 (by simp [hbl]; exact fun z => by rw [z, hA2.o] at h2; cases h2)
        wtm_at "xx"
        refine Sx.slN (SqL.of hb3) fun p2 H4 n4 h4 s4 => ?_
        rw [show cutV (List.map V.str (p :: r)) (some 1) none = r.map V.str from by rw [show (1 : Int) = ((1 : Nat) : Int) from rfl, cutFrom]; rfl] at h4
        wtm_at "xx"
        exact ⟨p2, r, _, rfl, h4, hA3.keep s4, fr3.trans (.same s4), e2, fun t ht => hshort t (List.mem_cons_of_mem _ ht), by rw [List.length_cons] at hfew; omega, rfl⟩
       ·cases e2
        exact .inr ⟨A, _, p, rfl, hA2, h1, hshort p List.mem_cons_self, hn, th2⟩
      ·exact absurd g2 (z p r ep)
     ·wtm_at "xx"
      rw [← ep] at h2 hshort hfew
      exact no fun p' r' z => by rw [ep] at z; cases z; exact g2
   ·wtm_at "xx"
    refine no fun p r z => absurd (show (0 : Int) < ((List.map V.str (pieces row)).length : Nat) from by rw [z, List.length_map, List.length_cons]; omega) g
  ·rintro σ' H3 ⟨b', ts', L1, rfl, h3, hA3, fr3, e3, hz3, hl3, ht3⟩
   wtm_at "xx"
   refine Sx.cut (fun σ' H' => False) ?_ (fun _ _ z => z.elim)
   wtm_at "xx"
   refine ⟨b', _, rfl, .inl (SqL.of h3), ?_⟩
   wtm_at "xx"
   cases ts' with
   | nil => cases e3
   | cons p r =>
    refine iteD (fun g => ?_) (fun g => absurd (show (0 : Int) < ((List.map V.str (p :: r)).length : Nat) from by rw [List.length_map, List.length_cons]; omega) g)
    wtm_at "xx"
    unfold tBoth
    wtm_at "xx"
    refine Sx.ixL h3 at0 ?_
    wtm_at "xx"
    refine Sx.slN (SqL.of h3) fun p2 H4 n4 h4 s4 => ?_
    rw [show cutV (List.map V.str (p :: r)) (some 1) none = r.map V.str from by rw [show (1 : Int) = ((1 : Nat) : Int) from rfl, cutFrom]; rfl] at h4
    wtm_at "xx"
    exact .inr ⟨A, L1, p2, p, r, bd, m, rfl, hA3.keep s4, h4, fun t ht => hz3 t (List.mem_cons_of_mem _ ht), by rw [List.length_cons] at hl3; omega, by rw [ht3]; exact Nat.zero_le _, e3, th2.mono fun H' fr' => (fr3.trans (.same s4)).trans fr'⟩
theorem raise_at {D : Ends} {σ : St} {H1 : Hp} {A : LAd} {L : Ln} {bd : Bad} {n : Int} {E : XK} {fr : Hp → Prop} {i : Nat} (T : TxtN K mg CL) (hs : σ[i]? = some (some (.ref A.a))) (hA : LnAt CL H1 A L) (en : L.num = n) (th : Thr CB bd n fr E) (hf : fr H1) : sRaise (CB bd) (tFld K (tVar i) "number") E D σ H1 := by
 unfold sRaise
 wtm_at "x"
 refine Sx.var hs ?_
 refine Sx.atF hA.o T.clL T.n_number (lk_number _ _) ?_
 exact ⟨n, by rw [en], th.1, fun a d n1 n2 n3 => th.2 H1 a d hf n1 n2 n3⟩
def sp_tellE (CL CS : Addr) (CB : Bad → Addr) : Sp := fun vs H _ E => ∃ (A : SAd) (B : LAd) (S : Sh) (L : Ln) (bd : Bad) (n : Int), vs = [.ref A.s, .ref B.a] ∧ ShAt CS H A S ∧ LnAt CL H B L ∧ tellLabel S L = .error (bd, n) ∧ Thr CB bd n (fun H1 => H1 = H) E
theorem ok_tellE (R : Raw K mg "tell_label" s_tell_label) (T : TxtT K mg CL CS) (X_Twice : GX P w K mg base "Twice" (CB .twice) 1) : GE P w K mg base "tell_label" ["sheet", "line"] 3 (sp_tellE CL CS CB) := by
 refine GE.mk R sc_tell_label (by wtm_at "2") (fun vs H Q E h => ?_) (fun f cdv A outer s H vs Q E hr h => ?_)
 ·obtain ⟨A, B, S, L, bd, n, rfl, _⟩ := h; rfl
 ·obtain ⟨A, B, S, L, bd, n, rfl, hA, hB, e, th⟩ := h
  refine ⟨_, (@pss_one _ _ _ (@ps_if _ _ _ _ _ _ _ _ (@pt_cmpR _ _ _ _ _ _ _ _ op_notN (@pe_fldK _ (K) _ _ _ _ rfl (pv 1) rfl) pe_non (nomark _)) (@pss_cons _ _ _ _ _ (@ps_if _ _ _ _ _ _ _ _ (@pt_cmpR _ _ _ _ _ _ _ _ (op_inD (hu1 hr)) (@pe_fldK _ (K) _ _ _ _ rfl (pv 1) rfl) (@pe_fldK _ (K) _ _ _ _ rfl (pv 0) rfl) (by with_unfolding_all rfl)) (@pss_one _ _ _ (@ps_graise _ _ _ _ _ _ _ _ _ _ _ _ _ _ _ _ _ _ _ _ _ _ _ X_Twice (hr.mono (by decide)) rfl (@pe_fldK _ (K) _ _ _ _ rfl (pv 1) rfl) (by decide) rfl)) pss_nil) (@pss_one _ _ _ (@ps_dput _ _ _ _ _ _ _ _ _ (hu1 hr) (@pe_fldK _ (K) _ _ _ _ rfl (pv 0) rfl) (@pe_fldK _ (K) _ _ _ _ rfl (pv 1) rfl) (@pe_fldK _ (K) _ _ _ _ rfl (pv 0) rfl) rfl))) pss_nil)), ?_⟩
  wtm_at "xx"
  refine Sx.atF hB.o T.clL T.n_label (lk_label _ _) ?_
  unfold tellLabel at e
  cases en : L.label with
  | none =>
   rw [en] at e
   cases e
  | some x =>
   rw [en] at e
   dsimp only at e
   wtm_at "xx"
   refine iteN (fun _ => ?_) (fun g => by cases g)
   cases el : S.labels.lookup x with
   | none => rw [el] at e; cases e
   | some i =>
    rw [el] at e
    cases e
    have hv : valV (labK S.labels) (.inr x) = some (.int i) := by rw [lab_val, el]; rfl
    wtm_at "xx"
    refine Sx.atF hB.o T.clL T.n_label (lk_label _ _) ?_
    rw [en]
    wtm_at "xx"
    refine Sx.atF hA.o T.clS T.n_labels (lk_labels _ _) ?_
    refine ⟨A.dl, some (.int i), rfl, by rw [← hv]; exact DGet.k (k := .inr x) hA.l, ?_⟩
    wtm_at "xx"
    refine iteB (fun _ => ?_) (fun g => by cases g)
    exact raise_at T.toTxtN rfl hB rfl th rfl
def sp_tvalE (CL CS : Addr) (CB : Bad → Addr) : Sp := fun vs H _ E => ∃ (A : SAd) (B : LAd) (S : Sh) (L : Ln) (t : Str) (bd : Bad) (n : Int), vs = [.ref A.s, .ref B.a, .str t] ∧ ShAt CS H A S ∧ LnAt CL H B L ∧ isTerm t = true ∧ termVal S L.num t = .error (bd, n) ∧ Thr CB bd n (fun H1 => H1 = H) E
theorem ok_tvalE (R : Raw K mg "term_value" s_term_value) (T : TxtT K mg CL CS) (X_NoName : GX P w K mg base "NoName" (CB .noName) 1) : GE P w K mg base "term_value" ["sheet", "line", "term"] 3 (sp_tvalE CL CS CB) := by
 refine GE.mk R sc_term_value (by wtm_at "3") (fun vs H Q E h => ?_) (fun f cdv A outer s H vs Q E hr h => ?_)
 ·obtain ⟨A, B, S, L, t, bd, n, rfl, _⟩ := h; rfl
 ·obtain ⟨A, B, S, L, t, bd, n, rfl, hA, hB, ht, e, th⟩ := h
  refine ⟨_, (@pss_cons _ _ _ _ _ (@ps_if _ _ _ _ _ _ _ _ (@pt_cmpR _ _ _ _ _ _ _ _ op_eq (pv 2) pe_str (nomark _)) (@pss_one _ _ _ (@ps_ret _ _ _ _ (@pe_fldK _ (K) _ _ _ _ rfl (pv 0) rfl))) pss_nil) (@pss_cons _ _ _ _ _ (@ps_if _ _ _ _ _ _ _ _ (@pt_cmpR _ _ _ _ _ _ _ _ op_inS (@pe_ix _ _ _ _ _ _ _ ix_str (pv 2) pe_int (fun _ _ => rfl)) (@pe_gstr _ _ _ _ rfl T.FIGURES (by decide)) (by with_unfolding_all rfl)) (@pss_one _ _ _ (@ps_ret _ _ _ _ (@pe_callTyN _ _ _ _ _ _ _ _ _ call_intS (by rfl) T.int_ bo_int (@pa_c _ _ _ _ _ (pv 2) pa_nil rfl) (by decide) (by decide) rfl))) pss_nil) (@pss_cons _ _ _ _ _ (@ps_if _ _ _ _ _ _ _ _ (@pt_cmpR _ _ _ _ _ _ _ _ (op_notInD (hu1 hr)) (pv 2) (@pe_fldK _ (K) _ _ _ _ rfl (pv 0) rfl) (by with_unfolding_all rfl)) (@pss_one _ _ _ (@ps_graise _ _ _ _ _ _ _ _ _ _ _ _ _ _ _ _ _ _ _ _ _ _ _ X_NoName (hr.mono (by decide)) rfl (@pe_fldK _ (K) _ _ _ _ rfl (pv 1) rfl) (by decide) rfl)) pss_nil) (@pss_one _ _ _ (@ps_ret _ _ _ _ (@pe_dget _ _ _ _ _ _ (hu1 hr) (@pe_fldK _ (K) _ _ _ _ rfl (pv 0) rfl) (pv 2) (fun _ _ => rfl))))))), ?_⟩
  unfold termVal at e
  wtm_at "xx"
  refine iteD (fun g => ?_) (fun g => ?_)
  ·rw [if_pos g] at e
   cases e
  rw [if_neg g] at e
  unfold isTerm at ht
  rw [decide_eq_false g, Bool.false_or, Bool.or_eq_true] at ht
  have hc : ∃ c r, cs t = c :: r ∧ t.length ≤ 8 := by
   rcases ht with ht | ht
   ·unfold isName shortName at ht
    simp only [Bool.and_eq_true, decide_eq_true_eq] at ht
    obtain ⟨⟨⟨h1, h2⟩, h3, h4⟩, _⟩ := ht
    cases g : cs t with
    | nil => rw [g] at h3; cases h3
    | cons c r => exact ⟨c, r, rfl, h2⟩
   ·unfold isFigs at ht
    simp only [Bool.and_eq_true, decide_eq_true_eq, List.all_eq_true] at ht
    cases g : cs t with
    | nil => have := cs_len t; rw [g] at this; have : t.length = 0 := this.symm; omega
    | cons c r => exact ⟨c, r, rfl, by omega⟩
  obtain ⟨c, r, ec, hl⟩ := hc
  have hz := sz
  wtm_at "xx"
  refine ⟨t, 0, c, rfl, rfl, by omega, by show atI (cs t) 0 = _; rw [ec]; exact at0, ?_⟩
  wtm_at "xx"
  refine xSign ?_
  wtm_at "xx"
  refine iteD (fun g2 => ?_) (fun g2 => ?_)
  ·have hc1 : isFig c = true := decide_eq_true g2
   rw [ec] at e
   rw [if_pos (show (c :: r).head?.any isFig = true from hc1)] at e
   cases e
  ·have hc1 : isFig c = false := decide_eq_false g2
   rw [ec] at e
   rw [if_neg (by show ¬ isFig c = true; rw [hc1]; exact Bool.false_ne_true)] at e
   cases el : S.labels.lookup t with
   | some i => rw [el] at e; cases e
   | none =>
    rw [el] at e
    cases e
    have hv : valV (labK S.labels) (.inr t) = none := by rw [lab_val, el]; rfl
    wtm_at "xx"
    refine Sx.atF hA.o T.clS T.n_labels (lk_labels _ _) ?_
    refine ⟨A.dl, none, rfl, by rw [← hv]; exact DGet.k (k := .inr t) hA.l, ?_⟩
    wtm_at "xx"
    refine Sx.iteNF ?_
    exact raise_at T.toTxtN rfl hB rfl th rfl
def sp_mcellE (CL CS : Addr) (CB : Bad → Addr) : Sp := fun vs H _ E => ∃ (A : SAd) (B : LAd) (S : Sh) (L : Ln) (i c : Int) (bd : Bad) (n : Int), vs = [.ref A.s, .ref B.a, .int i, .int c] ∧ ShAt CS H A S ∧ LnAt CL H B L ∧ makeCell S L.num i c = .error (bd, n) ∧ Thr CB bd n (fun H1 => H1 = H) E
theorem ok_mcellE (R : Raw K mg "make_cell" s_make_cell) (T : TxtT K mg CL CS) (X_Taken : GX P w K mg base "Taken" (CB .taken) 1) : GE P w K mg base "make_cell" ["sheet", "line", "place", "made_word"] 3 (sp_mcellE CL CS CB) := by
 refine GE.mk R sc_make_cell (fun _ _ _ _ _ _ us hl => match us, hl with | [_, _, _, _], _ => rfl) (fun vs H Q E h => ?_) (fun f cdv A outer s H vs Q E hr h => ?_)
 ·obtain ⟨A, B, S, L, i, c, bd, n, rfl, _⟩ := h; rfl
 ·obtain ⟨A, B, S, L, i, c, bd, n, rfl, hA, hB, e, th⟩ := h
  refine ⟨_, (@pss_cons _ _ _ _ _ (@ps_if _ _ _ _ _ _ _ _ (@PW.pt _ _ _ (@pw_or _ _ _ _ _ _ _ (@pt_cmpR _ _ _ _ _ _ _ _ op_lt (pv 2) pe_int (nomark _)) (@pw_or1 _ _ _ _ (@pt_cmpR _ _ _ _ _ _ _ _ (op_inD (hu1 hr)) (pv 2) (@pe_fldK _ (K) _ _ _ _ rfl (pv 0) rfl) (by with_unfolding_all rfl))))) (@pss_one _ _ _ (@ps_graise _ _ _ _ _ _ _ _ _ _ _ _ _ _ _ _ _ _ _ _ _ _ _ X_Taken (hr.mono (by decide)) rfl (@pe_fldK _ (K) _ _ _ _ rfl (pv 1) rfl) (by decide) rfl)) pss_nil) (@pss_one _ _ _ (@ps_dput _ _ _ _ _ _ _ _ _ (hu1 hr) (@pe_fldK _ (K) _ _ _ _ rfl (pv 0) rfl) (pv 2) (pv 3) rfl))), ?_⟩
  unfold makeCell at e
  wtm_at "xx"
  refine iteD (fun g => ?_) (fun g => ?_)
  ·rw [if_pos g] at e
   cases e
   wtm_at "xx"
   exact raise_at T.toTxtN rfl hB rfl th rfl
  rw [if_neg g] at e
  cases el : S.made.lookup i with
  | none => rw [el] at e; cases e
  | some x =>
   rw [el] at e
   cases e
   have hv : valV (intK S.made) (.inl i) = some (.int x) := by rw [int_val, el]; rfl
   wtm_at "xx"
   refine Sx.atF hA.o T.clS T.n_made (lk_made _ _) ?_
   refine ⟨A.dm, some (.int x), rfl, by rw [← hv]; exact DGet.k (k := .inl i) hA.m, ?_⟩
   wtm_at "xx"
   refine iteB (fun _ => ?_) (fun g => by cases g)
   exact raise_at T.toTxtN rfl hB rfl th rfl
end
end Sc
namespace Sc
open PySem L2 Tx Ls
theorem eqName {o : Option Str} {x : Str} {H : Hp} {Q : VK} (q : Q (.bl (decide (o = some x))) H) : rEq (vO o) (.str x) H Q := by
 cases o with
 | none =>
  refine ⟨rfl, ?_⟩
  rw [show decide (vO none = V.str x) = false from decide_eq_false fun z => by cases z]
  rw [show decide ((none : Option Str) = some x) = false from decide_eq_false fun z => by cases z] at q
  exact q
 | some y =>
  refine Sx.eqS ?_
  rw [show decide (some y = some x) = decide (y = x) from by simp] at q
  exact q
theorem bound_err {S : Sh} {L : Ln} {b n : Int} {bd : Bad} (e : boundVal S L b = .error (bd, n)) : sumTerms S L.num L.terms 0 = .error (bd, n) ∨ ∃ v, sumTerms S L.num L.terms 0 = .ok v ∧ (0 ≤ v → ¬ v < b) ∧ bd = .bounds ∧ n = L.num := by
 unfold boundVal at e
 cases g : sumTerms S L.num L.terms 0 with
 | error x => rw [g] at e; cases e; exact .inl rfl
 | ok u =>
  rw [g] at e
  dsimp only at e
  split at e
  ·cases e
  ·rename_i h
   cases e
   exact .inr ⟨u, rfl, fun h0 h1 => h ⟨h0, h1⟩, rfl, rfl⟩
section
variable {P : Program} {w : World} {K : PySem.W.Frag} {mg : Str → Option Value} {base : Heap} {CL CS : Addr} {CB : Bad → Addr}
def sp_boundE (CL CS : Addr) (CB : Bad → Addr) : Sp := fun vs H _ E => ∃ (A : SAd) (B : LAd) (S : Sh) (L : Ln) (b : Int) (bd : Bad) (n : Int), vs = [.ref A.s, .ref B.a, .int b] ∧ ShAt CS H A S ∧ LnAt CL H B L ∧ WfL L ∧ boundVal S L b = .error (bd, n) ∧ Thr CB bd n (fun H1 => H1 = H) E
theorem ok_boundE (R : Raw K mg "bounded_value" s_bounded_value) (T : TxtT K mg CL CS) (X_OutOfBounds : GX P w K mg base "OutOfBounds" (CB .bounds) 1) (G_term_value : GF P w K mg base "term_value" ["sheet", "line", "term"] 1 (sp_tval CL CS)) (E_term_value : GE P w K mg base "term_value" ["sheet", "line", "term"] 3 (sp_tvalE CL CS CB)) : GE P w K mg base "bounded_value" ["sheet", "line", "bound"] 4 (sp_boundE CL CS CB) := by
 refine GE.mk R sc_bounded_value (by wtm_at "3") (fun vs H Q E h => ?_) (fun f cdv A outer s H vs Q E hr h => ?_)
 ·obtain ⟨A, B, S, L, b, bd, n, rfl, _⟩ := h; rfl
 ·obtain ⟨A, B, S, L, b, bd, n, rfl, hA, hB, hw, e, th⟩ := h
  have eb := bound_err e
  obtain ⟨rs, er, nr, kr⟩ := hB.t
  refine ⟨_, (@pss_cons _ _ _ _ _ (@ps_set _ _ (3) _ _ _ _ sc_bounded_value.nd rfl (Or.inl rfl) pe_int rfl (by first | exact .inl rfl | exact .inr rfl | assumption)) (@pss_cons _ _ _ _ _ (@ps_for _ _ _ _ _ _ _ _ ownB rfl (@pi_listK _ (K) _ _ _ rfl (@pe_fldK _ (K) _ _ _ _ rfl (pv 1) rfl)) (@pg_tupK _ (K) _ _ _ _ (2) rfl rfl (@pgs_cons _ _ _ _ _ (@pg_name _ _ (4) _ sc_bounded_value.nd rfl (Or.inl rfl) (by first | exact .inl rfl | exact .inr rfl | assumption)) (@pgs_cons _ _ _ _ _ (@pg_name _ _ (5) _ sc_bounded_value.nd rfl (Or.inl rfl) (by first | exact .inl rfl | exact .inr rfl | assumption)) pgs_nil rfl) rfl) rfl rfl) (@pss_one _ _ _ (@ps_set _ _ (3) _ _ _ _ sc_bounded_value.nd rfl (Or.inl rfl) (@pe_op _ _ _ _ _ _ _ _ op_add (pv 3) (@pe_op _ _ _ _ _ _ _ _ op_mul (pv 4) (@pe_bothN _ _ _ _ _ _ _ _ _ _ _ _ _ _ _ _ _ _ _ _ _ _ _ _ _ _ _ G_term_value E_term_value (hr.mono (by decide)) (hr.mono (by decide)) rfl (@pa_c _ _ _ _ _ (pv 0) (@pa_c _ _ _ _ _ (pv 1) (@pa_c _ _ _ _ _ (pv 5) pa_nil rfl) rfl) rfl) (by decide) rfl))) rfl (by first | exact .inl rfl | exact .inr rfl | assumption))) (fun _ => rfl)) (@pss_cons _ _ _ _ _ (@ps_if _ _ _ _ _ _ _ _ (@pt_not _ _ _ _ (@pt_chain _ _ _ _ _ _ _ _ _ _ _ _ op_le op_lt pe_int (pv 3) (pv 2) (by with_unfolding_all rfl))) (@pss_one _ _ _ (@ps_graise _ _ _ _ _ _ _ _ _ _ _ _ _ _ _ _ _ _ _ _ _ _ _ X_OutOfBounds (hr.mono (by decide)) rfl (@pe_fldK _ (K) _ _ _ _ rfl (pv 1) rfl) (by decide) rfl)) pss_nil) (@pss_one _ _ _ (@ps_ret _ _ _ _ (pv 3)))))), ?_⟩
  wtm_at "xx"
  refine Sx.atF hB.o T.clL T.n_terms (lk_terms _ _) ?_
  refine ⟨B.l, rfl, ⟨_, SqL.of er⟩, for_list (xs := rs.map V.ref) (fun i σ' H' => ∃ (x : Int) (x4 x5 : Option V), σ' = [some (.ref A.s), some (.ref B.a), some (.int b), some (.int x), x4, x5] ∧ H' = H ∧ sumTerms S L.num (L.terms.drop i) x = sumTerms S L.num L.terms 0) ⟨0, _, _, rfl, rfl, rfl⟩ (fun i σ' H' _ h => by obtain ⟨_, _, _, _, rfl, _⟩ := h; exact SqL.of er) ?_ ?_⟩
  ·rintro i x σ' H' hx ⟨a, x4, x5, rfl, rfl, e2⟩
   rw [List.getElem?_map] at hx
   cases ex : rs[i]? with
   | none => rw [ex] at hx; cases hx
   | some r =>
    rw [ex] at hx
    cases hx
    have hi : i < L.terms.length := by rw [← nr]; exact (List.getElem?_eq_some_iff.mp ex).1
    have et : L.terms[i]? = some L.terms[i] := List.getElem?_eq_getElem hi
    have hr' := kr i r _ ex et
    have hwf := hw _ (List.getElem_mem hi)
    rw [List.drop_eq_getElem_cons hi] at e2
    generalize L.terms[i] = q at hr' hwf e2
    obtain ⟨f, t⟩ := q
    generalize hZ : sumTerms S L.num L.terms 0 = Z at eb e2 ⊢
    unfold sumTerms at e2
    cases g : termVal S L.num t with
    | error z =>
     rw [g] at e2
     have ez : z = (bd, n) := by
      rcases eb with eb | ⟨v, eb, _⟩
      ·rw [eb] at e2; cases e2; rfl
      ·rw [eb] at e2; cases e2
     subst ez
     refine ⟨r, _, rfl, SqT.of hr', rfl, _, _, rfl, _, _, rfl, rfl, ?_⟩
     wtm_at "xx"
     unfold tBoth
     wtm_at "xx"
     exact .inr ⟨A, B, S, L, t, bd, n, rfl, hA, hB, hwf.2, g, th⟩
    | ok u =>
     rw [g] at e2
     refine ⟨r, _, rfl, SqT.of hr', rfl, _, _, rfl, _, _, rfl, rfl, ?_⟩
     wtm_at "xx"
     unfold tBoth
     wtm_at "xx"
     refine .inl ⟨A, B, S, L, t, u, rfl, hA, hB, hwf.2, g, ?_⟩
     have hf : (-(2 ^ 64) < f ∧ f < 2 ^ 64) := by rcases hwf.1 with z | z <;> (have z : f = _ := z; rw [z]; decide)
     refine ⟨f, u, rfl, rfl, .inl hf, ?_⟩
     wtm_at "xx"
     exact ⟨_, _, _, rfl, rfl, e2⟩
  ·rintro σ' H' ⟨a, x4, x5, rfl, rfl, e2⟩
   rw [List.length_map, nr, List.drop_length] at e2
   rcases eb with eb | ⟨v, eb, hn, rfl, rfl⟩
   ·rw [eb] at e2; cases e2
   ·rw [eb] at e2
    cases e2
    wtm_at "xx"
    refine iteD (fun h0 => ?_) (fun h0 => ?_)
    ·wtm_at "xx"
     refine iteN (fun _ => ?_) (fun g => absurd g (hn h0))
     exact raise_at T.toTxtN rfl hB rfl th rfl
    ·wtm_at "xx"
     exact raise_at T.toTxtN rfl hB rfl th rfl
def sp_moveE (CL CS : Addr) (CB : Bad → Addr) : Sp := fun vs H _ E => ∃ (A : SAd) (B : LAd) (S : Sh) (L : Ln) (bd : Bad) (n : Int), vs = [.ref A.s, .ref B.a] ∧ ShAt CS H A S ∧ LnAt CL H B L ∧ WfL L ∧ moveHere S L = .error (bd, n) ∧ Thr CB bd n (fun H1 => H1 = H) E
theorem ok_moveE (R : Raw K mg "move_here" s_move_here) (T : TxtT K mg CL CS) (X_OutOfBounds : GX P w K mg base "OutOfBounds" (CB .bounds) 1) (G_bounded_value : GF P w K mg base "bounded_value" ["sheet", "line", "bound"] 2 (sp_bound CL CS)) (E_bounded_value : GE P w K mg base "bounded_value" ["sheet", "line", "bound"] 4 (sp_boundE CL CS CB)) (G_makes_cell : GF P w K mg base "makes_cell" ["line"] 1 (sp_makes CL)) : GE P w K mg base "move_here" ["sheet", "line"] 5 (sp_moveE CL CS CB) := by
 refine GE.mk R sc_move_here (by wtm_at "2") (fun vs H Q E h => ?_) (fun f cdv A outer s H vs Q E hr h => ?_)
 ·obtain ⟨A, B, S, L, bd, n, rfl, _⟩ := h; rfl
 ·obtain ⟨A, B, S, L, bd, n, rfl, hA, hB, hw, e, th⟩ := h
  refine ⟨_, (@pss_one _ _ _ (@ps_if _ _ _ _ _ _ _ _ (@pt_cmpR _ _ _ _ _ _ _ _ op_eq (@pe_fldK _ (K) _ _ _ _ rfl (pv 1) rfl) pe_str (nomark _)) (@pss_one _ _ _ (@ps_fldK _ (K) _ _ _ _ _ _ _ rfl (pv 0) (@pe_bothN _ _ _ _ _ _ _ _ _ _ _ _ _ _ _ _ _ _ _ _ _ _ _ _ _ _ _ G_bounded_value E_bounded_value (hr.mono (by decide)) (hr.mono (by decide)) rfl (@pa_c _ _ _ _ _ (pv 0) (@pa_c _ _ _ _ _ (pv 1) (@pa_c _ _ _ _ _ (@pe_gint _ _ _ _ rfl T.PLACES (by decide)) pa_nil rfl) rfl) rfl) (by decide) rfl) rfl)) (@pss_one _ _ _ (@ps_if _ _ _ _ _ _ _ _ (@pt_val _ _ _ (@pe_gcallN _ _ _ _ _ _ _ _ _ _ G_makes_cell (hr.mono (by decide)) rfl (@pa_c _ _ _ _ _ (pv 1) pa_nil rfl) (by decide) rfl) (fun _ => rfl)) (@pss_cons _ _ _ _ _ (@ps_if _ _ _ _ _ _ _ _ (@pt_cmpR _ _ _ _ _ _ _ _ op_ge (@pe_fldK _ (K) _ _ _ _ rfl (pv 0) rfl) (@pe_gint _ _ _ _ rfl T.PLACES (by decide)) (nomark _)) (@pss_one _ _ _ (@ps_graise _ _ _ _ _ _ _ _ _ _ _ _ _ _ _ _ _ _ _ _ _ _ _ X_OutOfBounds (hr.mono (by decide)) rfl (@pe_fldK _ (K) _ _ _ _ rfl (pv 1) rfl) (by decide) rfl)) pss_nil) (@pss_one _ _ _ (@ps_fldK _ (K) _ _ _ _ _ _ _ rfl (pv 0) (@pe_op _ _ _ _ _ _ _ _ op_add (@pe_fldK _ (K) _ _ _ _ rfl (pv 0) rfl) pe_int) rfl))) pss_nil)))), ?_⟩
  unfold moveHere at e
  wtm_at "xx"
  refine Sx.atF hB.o T.clL T.n_name (lk_name _ _) ?_
  refine Sx.cst ?_
  refine eqName ?_
  wtm_at "xx"
  refine iteD (fun g => ?_) (fun g => ?_)
  ·rw [if_pos g] at e
   cases eb : boundVal S L 64 with
   | ok v => rw [eb] at e; cases e
   | error z =>
    rw [eb] at e
    cases e
    wtm_at "xx"
    unfold tBoth
    wtm_at "xx"
    exact .inr ⟨A, B, S, L, 64, bd, n, rfl, hA, hB, hw, eb, th⟩
  ·rw [if_neg g] at e
   wtm_at "xx"
   refine ⟨B, L, rfl, hB, ?_⟩
   wtm_at "xx"
   refine iteB (fun g => ?_) (fun g => ?_)
   ·rw [if_pos g] at e
    split at e
    ·rename_i h64
     cases e
     wtm_at "xx"
     refine Sx.atF hA.o T.clS T.n_here (lk_here _ _) ?_
     wtm_at "xx"
     refine iteD (fun _ => ?_) (fun z => absurd h64 z)
     exact raise_at T.toTxtN rfl hB rfl th rfl
    ·cases e
   ·rw [g, if_neg Bool.false_ne_true] at e
    cases e
def sp_poolE (CL CS : Addr) (CB : Bad → Addr) : Sp := fun vs H _ E => ∃ (A : SAd) (B : LAd) (S : Sh) (L : Ln) (bd : Bad) (n : Int), vs = [.ref A.s, .ref B.a] ∧ ShAt CS H A S ∧ LnAt CL H B L ∧ WfL L ∧ poolPlace S L = .error (bd, n) ∧ Thr CB bd n (fun H1 => H1 = H) E
theorem ok_poolE (R : Raw K mg "pool_place" s_pool_place) (T : TxtT K mg CL CS) (G_bounded_value : GF P w K mg base "bounded_value" ["sheet", "line", "bound"] 2 (sp_bound CL CS)) (E_bounded_value : GE P w K mg base "bounded_value" ["sheet", "line", "bound"] 4 (sp_boundE CL CS CB)) (G_make_cell : GF P w K mg base "make_cell" ["sheet", "line", "place", "made_word"] 1 (sp_mcell CL CS)) (E_make_cell : GE P w K mg base "make_cell" ["sheet", "line", "place", "made_word"] 3 (sp_mcellE CL CS CB)) : GE P w K mg base "pool_place" ["sheet", "line"] 5 (sp_poolE CL CS CB) := by
 refine GE.mk R sc_pool_place (by wtm_at "2") (fun vs H Q E h => ?_) (fun f cdv A outer s H vs Q E hr h => ?_)
 ·obtain ⟨A, B, S, L, bd, n, rfl, _⟩ := h; rfl
 ·obtain ⟨A, B, S, L, bd, n, rfl, hA, hB, hw, e, th⟩ := h
  refine ⟨_, (@pss_cons _ _ _ _ _ (@ps_set _ _ (2) _ _ _ _ sc_pool_place.nd rfl (Or.inl rfl) (@pe_bothN _ _ _ _ _ _ _ _ _ _ _ _ _ _ _ _ _ _ _ _ _ _ _ _ _ _ _ G_bounded_value E_bounded_value (hr.mono (by decide)) (hr.mono (by decide)) rfl (@pa_c _ _ _ _ _ (pv 0) (@pa_c _ _ _ _ _ (pv 1) (@pa_c _ _ _ _ _ (@pe_gint _ _ _ _ rfl T.WORDS (by decide)) pa_nil rfl) rfl) rfl) (by decide) rfl) rfl (by first | exact .inl rfl | exact .inr rfl | assumption)) (@pss_cons _ _ _ _ _ (@ps_cut _ _ _ (@ps_if _ _ _ _ _ _ _ _ (@pt_cmpR _ _ _ _ _ _ _ _ (op_notInD (hu1 hr)) (pv 2) (@pe_fldK _ (K) _ _ _ _ rfl (pv 0) rfl) (by with_unfolding_all rfl)) (@pss_cons _ _ _ _ _ (@ps_set _ _ (3) _ _ _ _ sc_pool_place.nd rfl (Or.inl rfl) (@pe_op _ _ _ _ _ _ _ _ op_sub (@pe_op _ _ _ _ _ _ _ _ op_sub (@pe_gint _ _ _ _ rfl T.PLACES (by decide)) pe_int) (@pe_callBN _ _ _ _ _ _ _ _ _ call_lenDK (by rfl) T.len_ bo_len (@pa_c _ _ _ _ _ (@pe_fldK _ (K) _ _ _ _ rfl (pv 0) rfl) pa_nil rfl) (by decide) (by decide) rfl)) rfl (by first | exact .inl rfl | exact .inr rfl | assumption)) (@pss_cons _ _ _ _ _ (@ps_expr _ _ _ _ (@pe_bothN _ _ _ _ _ _ _ _ _ _ _ _ _ _ _ _ _ _ _ _ _ _ _ _ _ _ _ G_make_cell E_make_cell (hr.mono (by decide)) (hr.mono (by decide)) rfl (@pa_c _ _ _ _ _ (pv 0) (@pa_c _ _ _ _ _ (pv 1) (@pa_c _ _ _ _ _ (pv 3) (@pa_c _ _ _ _ _ (pv 2) pa_nil rfl) rfl) rfl) rfl) (by decide) rfl) rfl) (@pss_one _ _ _ (@ps_dput _ _ _ _ _ _ _ _ _ (hu1 hr) (@pe_fldK _ (K) _ _ _ _ rfl (pv 0) rfl) (pv 2) (pv 3) rfl)))) pss_nil)) (@pss_one _ _ _ (@ps_ret _ _ _ _ (@pe_dget _ _ _ _ _ _ (hu1 hr) (@pe_fldK _ (K) _ _ _ _ rfl (pv 0) rfl) (pv 2) (fun _ _ => rfl)))))), ?_⟩
  unfold poolPlace at e
  cases eb : boundVal S L 1024 with
  | error z =>
   rw [eb] at e
   cases e
   wtm_at "xx"
   unfold tBoth
   wtm_at "xx"
   exact .inr ⟨A, B, S, L, 1024, bd, n, rfl, hA, hB, hw, eb, th⟩
  | ok v =>
   rw [eb] at e
   dsimp only at e
   wtm_at "xx"
   unfold tBoth
   wtm_at "xx"
   refine .inl ⟨A, B, S, L, 1024, v, rfl, hA, hB, hw, eb, ?_⟩
   wtm_at "xx"
   refine Sx.cut (fun σ' H' => False) ?_ (fun _ _ z => z.elim)
   wtm_at "xx"
   refine Sx.atF hA.o T.clS T.n_pool (lk_pool _ _) ?_
   cases el : S.pool.lookup v with
   | some q => rw [el] at e; cases e
   | none =>
    rw [el] at e
    dsimp only at e
    have hv : valV (intK S.pool) (.inl v) = none := by rw [int_val, el]; rfl
    refine ⟨A.dp, none, rfl, by rw [← hv]; exact DGet.k (k := .inl v) hA.p, ?_⟩
    wtm_at "xx"
    refine Sx.iteNF ?_
    wtm_at "xx"
    refine Sx.atF hA.o T.clS T.n_pool (lk_pool _ _) ?_
    wtm_at "xx"
    refine ⟨A.dp, _, rfl, hA.p, ?_⟩
    rw [show ((intK S.pool).length : Nat) = S.pool.length from by unfold intK; rw [List.length_map]]
    wtm_at "xx"
    cases ec : makeCell S L.num (63 - (S.pool.length : Int)) v with
    | ok S1 => rw [ec] at e; cases e
    | error z =>
     rw [ec] at e
     cases e
     have e63 : (64 : Int) - 1 - (S.pool.length : Int) = 63 - (S.pool.length : Int) := by omega
     rw [e63]
     exact .inr ⟨A, B, S, L, _, v, bd, n, rfl, hA, hB, ec, th⟩
def sp_wofE (CL CS : Addr) (CB : Bad → Addr) : Sp := fun vs H _ E => ∃ (A : SAd) (B : LAd) (S : Sh) (L : Ln) (bd : Bad) (n : Int), vs = [.ref A.s, .ref B.a] ∧ ShAt CS H A S ∧ LnAt CL H B L ∧ WfL L ∧ wordOf S L = .error (bd, n) ∧ Thr CB bd n (fun H1 => H1 = H) E
theorem ok_wofE (R : Raw K mg "word_of" s_word_of) (T : TxtT K mg CL CS) (G_bounded_value : GF P w K mg base "bounded_value" ["sheet", "line", "bound"] 2 (sp_bound CL CS)) (E_bounded_value : GE P w K mg base "bounded_value" ["sheet", "line", "bound"] 4 (sp_boundE CL CS CB)) (G_pool_place : GF P w K mg base "pool_place" ["sheet", "line"] 3 (sp_pool CL CS)) (E_pool_place : GE P w K mg base "pool_place" ["sheet", "line"] 5 (sp_poolE CL CS CB)) : GE P w K mg base "word_of" ["sheet", "line"] 6 (sp_wofE CL CS CB) := by
 refine GE.mk R sc_word_of (by wtm_at "2") (fun vs H Q E h => ?_) (fun f cdv A outer s H vs Q E hr h => ?_)
 ·obtain ⟨A, B, S, L, bd, n, rfl, _⟩ := h; rfl
 ·obtain ⟨A, B, S, L, bd, n, rfl, hA, hB, hw, e, th⟩ := h
  refine ⟨_, (@pss_cons _ _ _ _ _ (@ps_if _ _ _ _ _ _ _ _ (@pt_val _ _ _ (@pe_fldK _ (K) _ _ _ _ rfl (pv 1) rfl) (fun _ => rfl)) (@pss_one _ _ _ (@ps_ret _ _ _ _ (@pe_op _ _ _ _ _ _ _ _ op_add (@pe_fldK _ (K) _ _ _ _ rfl (pv 1) rfl) (@pe_bothN _ _ _ _ _ _ _ _ _ _ _ _ _ _ _ _ _ _ _ _ _ _ _ _ _ _ _ G_pool_place E_pool_place (hr.mono (by decide)) (hr.mono (by decide)) rfl (@pa_c _ _ _ _ _ (pv 0) (@pa_c _ _ _ _ _ (pv 1) pa_nil rfl) rfl) (by decide) rfl)))) pss_nil) (@pss_cons _ _ _ _ _ (@ps_if _ _ _ _ _ _ _ _ (@pt_cmpR _ _ _ _ _ _ _ _ op_eq (@pe_fldK _ (K) _ _ _ _ rfl (pv 1) rfl) pe_str (nomark _)) (@pss_one _ _ _ (@ps_ret _ _ _ _ (@pe_op _ _ _ _ _ _ _ _ op_add (@pe_fldK _ (K) _ _ _ _ rfl (pv 1) rfl) (@pe_bothN _ _ _ _ _ _ _ _ _ _ _ _ _ _ _ _ _ _ _ _ _ _ _ _ _ _ _ G_bounded_value E_bounded_value (hr.mono (by decide)) (hr.mono (by decide)) rfl (@pa_c _ _ _ _ _ (pv 0) (@pa_c _ _ _ _ _ (pv 1) (@pa_c _ _ _ _ _ (@pe_gint _ _ _ _ rfl T.WORDS (by decide)) pa_nil rfl) rfl) rfl) (by decide) rfl)))) pss_nil) (@pss_one _ _ _ (@ps_ret _ _ _ _ (@pe_op _ _ _ _ _ _ _ _ op_add (@pe_fldK _ (K) _ _ _ _ rfl (pv 1) rfl) (@pe_bothN _ _ _ _ _ _ _ _ _ _ _ _ _ _ _ _ _ _ _ _ _ _ _ _ _ _ _ G_bounded_value E_bounded_value (hr.mono (by decide)) (hr.mono (by decide)) rfl (@pa_c _ _ _ _ _ (pv 0) (@pa_c _ _ _ _ _ (pv 1) (@pa_c _ _ _ _ _ (@pe_gint _ _ _ _ rfl T.PLACES (by decide)) pa_nil rfl) rfl) rfl) (by decide) rfl)))))), ?_⟩
  unfold wordOf at e
  wtm_at "xx"
  refine Sx.atF hB.o T.clL T.n_pooled (lk_pooled _ _) ?_
  refine ⟨_, rfl, ?_⟩
  refine iteB (fun g => ?_) (fun g => ?_)
  ·rw [if_pos g] at e
   cases ep : poolPlace S L with
   | ok q => obtain ⟨S1, q⟩ := q; rw [ep] at e; cases e
   | error z =>
    rw [ep] at e
    cases e
    wtm_at "xx"
    refine Sx.atF hB.o T.clL T.n_base (lk_base _ _) ?_
    wtm_at "xx"
    unfold tBoth
    wtm_at "xx"
    exact .inr ⟨A, B, S, L, bd, n, rfl, hA, hB, hw, ep, th⟩
  ·rw [g, if_neg Bool.false_ne_true] at e
   wtm_at "xx"
   refine Sx.atF hB.o T.clL T.n_name (lk_name _ _) ?_
   refine Sx.cst ?_
   refine eqName ?_
   wtm_at "xx"
   refine iteD (fun g => ?_) (fun g => ?_)
   ·rw [if_pos g] at e
    cases eb : boundVal S L 1024 with
    | ok v => rw [eb] at e; cases e
    | error z =>
     rw [eb] at e
     cases e
     wtm_at "xx"
     refine Sx.atF hB.o T.clL T.n_base (lk_base _ _) ?_
     wtm_at "xx"
     unfold tBoth
     wtm_at "xx"
     exact .inr ⟨A, B, S, L, 1024, bd, n, rfl, hA, hB, hw, eb, th⟩
   ·rw [if_neg g] at e
    cases eb : boundVal S L 64 with
    | ok v => rw [eb] at e; cases e
    | error z =>
     rw [eb] at e
     cases e
     wtm_at "xx"
     refine Sx.atF hB.o T.clL T.n_base (lk_base _ _) ?_
     wtm_at "xx"
     unfold tBoth
     wtm_at "xx"
     exact .inr ⟨A, B, S, L, 64, bd, n, rfl, hA, hB, hw, eb, th⟩
end
end Sc
namespace Sc
open PySem L2 Tx Ls
section
variable {P : Program} {w : World} {K : PySem.W.Frag} {mg : Str → Option Value} {base : Heap} {CL CS : Addr} {CB : Bad → Addr}
def sp_firstE (CL CS : Addr) (CB : Bad → Addr) : Sp := fun vs H _ E => ∃ (A : SAd) (S : Sh) (text : Str) (bd : Bad) (n : Int), vs = [.ref A.s, .str text] ∧ ShAt CS H A S ∧ S.labels.length = 0 ∧ text.length ≤ 1000000 ∧ (Txt.split text "\n").length ≤ 20000 ∧ (∀ r ∈ Txt.split text "\n", r.length ≤ 2000) ∧ goFirst (Txt.split text "\n") 1 S [] = .error (bd, n) ∧ Thr CB bd n (fun H1 => FrX H H1 (footS A)) E
theorem ok_firstE (R : Raw K mg "go_over_first" s_go_over_first) (T : TxtT K mg CL CS) (E_read_line : GE P w K mg base "read_line" ["row", "number"] 7 (sp_lineE CB)) (E_tell_label : GE P w K mg base "tell_label" ["sheet", "line"] 3 (sp_tellE CL CS CB)) (E_move_here : GE P w K mg base "move_here" ["sheet", "line"] 5 (sp_moveE CL CS CB))
  (G_read_line : GF P w K mg base "read_line" ["row", "number"] 7 (sp_line CL)) (G_tell_label : GF P w K mg base "tell_label" ["sheet", "line"] 1 (sp_tell CL CS)) (G_move_here : GF P w K mg base "move_here" ["sheet", "line"] 3 (sp_move CL CS)) : GE P w K mg base "go_over_first" ["sheet", "text"] 8 (sp_firstE CL CS CB) := by
 refine GE.mk R sc_go_over_first (by wtm_at "2") (fun vs H Q E h => ?_) (fun f cdv A outer s H vs Q E hr h => ?_)
 ·obtain ⟨A, S, text, bd, n, rfl, _⟩ := h; rfl
 ·obtain ⟨A, S, text, bd, n, rfl, hA, h0, htl, hfew, hrow, e, th⟩ := h
  refine ⟨_, (@pss_cons _ _ _ _ _ (@ps_set _ _ (2) _ _ _ _ sc_go_over_first.nd rfl (Or.inl rfl) (@pe_lst _ _ _ _ pa_nil) rfl (by first | exact .inl rfl | exact .inr rfl | assumption)) (@pss_cons _ _ _ _ _ (@ps_for _ _ _ _ _ _ _ _ ownB rfl (pi_cntK (K := K) rfl rfl T.enumerate_ (@pa_c _ _ _ _ _ (pe_bm PySem.F.plainAttrs_str PySem.F.slot_str_split PySem.F.type_str_split mt_split (pv 1) (@pa_c _ _ _ _ _ pe_str pa_nil rfl)) pa_nil rfl)) (@pg_tupK _ (K) _ _ _ _ (2) rfl rfl (@pgs_cons _ _ _ _ _ (@pg_name _ _ (3) _ sc_go_over_first.nd rfl (Or.inl rfl) (by first | exact .inl rfl | exact .inr rfl | assumption)) (@pgs_cons _ _ _ _ _ (@pg_name _ _ (4) _ sc_go_over_first.nd rfl (Or.inl rfl) (by first | exact .inl rfl | exact .inr rfl | assumption)) pgs_nil rfl) rfl) rfl rfl) (@pss_cons _ _ _ _ _ (@ps_set _ _ (5) _ _ _ _ sc_go_over_first.nd rfl (Or.inl rfl) (@pe_bothN _ _ _ _ _ _ _ _ _ _ _ _ _ _ _ _ _ _ _ _ _ _ _ _ _ _ _ G_read_line E_read_line (hr.mono (by decide)) (hr.mono (by decide)) rfl (@pa_c _ _ _ _ _ (pv 4) (@pa_c _ _ _ _ _ (pv 3) pa_nil rfl) rfl) (by decide) rfl) rfl (by first | exact .inl rfl | exact .inr rfl | assumption)) (@pss_cons _ _ _ _ _ (@ps_expr _ _ _ _ (@pe_bothN _ _ _ _ _ _ _ _ _ _ _ _ _ _ _ _ _ _ _ _ _ _ _ _ _ _ _ G_tell_label E_tell_label (hr.mono (by decide)) (hr.mono (by decide)) rfl (@pa_c _ _ _ _ _ (pv 0) (@pa_c _ _ _ _ _ (pv 5) pa_nil rfl) rfl) (by decide) rfl) rfl) (@pss_cons _ _ _ _ _ (@ps_expr _ _ _ _ (@pe_bothN _ _ _ _ _ _ _ _ _ _ _ _ _ _ _ _ _ _ _ _ _ _ _ _ _ _ _ G_move_here E_move_here (hr.mono (by decide)) (hr.mono (by decide)) rfl (@pa_c _ _ _ _ _ (pv 0) (@pa_c _ _ _ _ _ (pv 5) pa_nil rfl) rfl) (by decide) rfl) rfl) (@pss_one _ _ _ (@ps_expr _ _ _ _ (pe_bm PySem.F.plainAttrs_list PySem.F.slot_list_append PySem.F.type_list_append mt_append (pv 2) (@pa_c _ _ _ _ _ (pv 5) pa_nil rfl)) rfl))))) (fun _ => rfl)) (@pss_one _ _ _ (@ps_ret _ _ _ _ (pv 2))))), ?_⟩
  wtm_at "xx"
  refine Sx.newL (by show 0 ≤ sizeLine; decide) fun l H1 n1 h1 s1 => ?_
  wtm_at "xx"
  refine ⟨text, "\n", rfl, rfl, by decide +kernel, htl, fun ls H2 n2 h2 s2 => ?_⟩
  have hne : ls ≠ l := fun z => by rw [z, h1] at n2; cases n2
  generalize Txt.split text "\n" = rows at *
  wtm_at "xx"
  refine ⟨ls, _, rfl, SqL.of h2, for_cnt (n := 1) (xs := rows.map V.str) (fun i σ' H' => ∃ (S1 : Sh) (Ls1 : List Ln) (Bs : List LAd) (x3 x4 x5 : Option V), σ' = [some (.ref A.s), some (.str text), some (.ref l), x3, x4, x5] ∧ H' ls = some (.lst (rows.map V.str)) ∧ ShAt CS H' A S1 ∧ FrX H H' (footS A) ∧ LinesAt CL H' A l Bs Ls1 ∧ goFirst (rows.drop i) (1 + i) S1 Ls1 = .error (bd, n) ∧ S1.labels.length ≤ i ∧ Ls1.length = i) ?_ ?_ ?_ ?_⟩
  ·exact ⟨S, [], [], _, _, _, rfl, h2, (hA.keep s1).keep s2, .same (s1.trans s2), ⟨s2 _ _ h1, rfl, fun i B L e1 => (by cases e1), fun B hB => (by cases hB)⟩, e, by omega, rfl⟩
  ·rintro i σ' H' _ ⟨_, _, _, _, _, _, _, h, _⟩
   exact SqL.of h
  ·rintro i x T0 σ' H' hx ⟨S1, Ls1, Bs, x3, x4, x5, rfl, hls, hA1, fr1, hL1, e1, hs1, hn1⟩ hT
   rw [List.getElem?_map] at hx
   cases er : rows[i]? with
   | none => rw [er] at hx; cases hx
   | some row =>
    rw [er] at hx
    cases hx
    have hi : i < rows.length := (List.getElem?_eq_some_iff.mp er).1
    rw [List.drop_eq_getElem_cons hi, (List.getElem?_eq_some_iff.mp er).2] at e1
    unfold goFirst at e1
    have s3 : Same H' (upd H' T0 (.tup [.int (1 + i), .str row])) := Same.newH hT
    have t3 : (upd H' T0 (.tup [.int (1 + i), .str row])) T0 = some (.tup [.int (1 + i), .str row]) := upd_same
    generalize upd H' T0 (.tup [.int (1 + i), .str row]) = G3 at s3 t3 ⊢
    refine ⟨T0, _, rfl, SqT.of t3, rfl, _, _, rfl, _, _, rfl, rfl, ?_⟩
    wtm_at "xx"
    unfold tBoth
    wtm_at "xx"
    cases el : readLine row (1 + i) with
    | error z =>
     rw [el] at e1
     cases e1
     exact .inr ⟨row, _, bd, n, rfl, hrow row (List.mem_of_getElem? er), el, th.mono fun G s => (fr1.trans (.same s3)).trans (.same s)⟩
    | ok L =>
     rw [el] at e1
     dsimp only at e1
     refine .inl ⟨row, _, L, rfl, hrow row (List.mem_of_getElem? er), el, fun B G4 na nl hB s4 => ?_⟩
     have s34 := s3.trans s4
     have hA4 := hA1.keep s34
     have hL4 := hL1.keep s34
     have apB : Apart A B := by
      have hA3 := hA1.keep s3
      refine ⟨fun z => ?_, fun z => ?_⟩
      ·unfold footS at z
       simp only [List.mem_cons, List.not_mem_nil, or_false] at z
       rcases z with z | z | z | z <;> rw [z] at na
       ·rw [hA3.o] at na; cases na
       ·rw [hA3.l] at na; cases na
       ·rw [hA3.m] at na; cases na
       ·rw [hA3.p] at na; cases na
      ·unfold footS at z
       simp only [List.mem_cons, List.not_mem_nil, or_false] at z
       rcases z with z | z | z | z <;> rw [z] at nl
       ·rw [hA3.o] at nl; cases nl
       ·rw [hA3.l] at nl; cases nl
       ·rw [hA3.m] at nl; cases nl
       ·rw [hA3.p] at nl; cases nl
     have hBl : B.l ≠ l := fun z => by rw [z, (hL1.keep s3).li] at nl; cases nl
     wtm_at "xx"
     have frA : FrX H G4 (footS A) := fr1.trans (.same s34)
     cases et : tellLabel S1 L with
     | error z =>
      rw [et] at e1
      cases e1
      exact .inr ⟨A, B, S1, L, bd, n, rfl, hA4, hB, et, th.mono fun G s => by rw [s]; exact frA⟩
     | ok S2 =>
     rw [et] at e1
     dsimp only at e1
     refine .inl ⟨A, B, S1, S2, L, rfl, hA4, hB, by omega, et, fun G5 hA5 fr5 => ?_⟩
     wtm_at "xx"
     cases em : moveHere S2 L with
     | error z =>
      rw [em] at e1
      cases e1
      exact .inr ⟨A, B, S2, L, bd, n, rfl, hA5, hB.frS fr5 apB, line_wf el, em, th.mono fun G s => by rw [s]; exact frA.trans fr5⟩
     | ok S3 =>
     rw [em] at e1
     dsimp only at e1
     refine .inl ⟨A, B, S2, S3, L, rfl, hA5, hB.frS fr5 apB, line_wf el, em, fun G6 hA6 fr6 => ?_⟩
     have hL6 := (hL4.fr hA4 fr5).fr hA5 fr6
     have hB6 := (hB.frS fr5 apB).frS fr6 apB
     wtm_at "xx"
     refine ⟨Sx.tyL hL6.li, ?_⟩
     wtm_at "xx"
     refine Sx.addL hL6.li (by rw [List.length_map, hL6.n]; omega) fun G7 h7 f7 => ?_
     have lA : l ∉ footS A := fun z => (hA6.kind z _).2 hL6.li
     have fx : ∀ {C : LAd} {M : Ln}, LnAt CL G6 C M → C.l ≠ l → LnAt CL G7 C M := fun {C M} h n => by
      refine ⟨f7 _ _ (fun z => ?_) h.o, h.t.mv (fun o e => f7 _ _ n e) fun b xs e => f7 _ _ (fun z => ?_) e⟩
      ·have := h.o; rw [z, hL6.li] at this; cases this
      ·rw [z, hL6.li] at e; cases e
     refine ⟨S3, Ls1 ++ [L], Bs ++ [B], _, _, _, rfl, ?_, ?_, ?_, ⟨?_, ?_, ?_, ?_⟩, ?_, ?_, ?_⟩
     ·refine f7 _ _ hne (fr6.1 _ _ (fr5.1 _ _ (s34 _ _ hls) fun z => ?_) fun z => ?_)
      ·exact (hA4.kind z _).2 (s34 _ _ hls)
      ·exact (hA4.kind z _).2 (s34 _ _ hls)
     ·exact ⟨f7 _ _ (fun z => lA (by rw [← z]; simp [footS])) hA6.o, f7 _ _ (fun z => lA (by rw [← z]; simp [footS])) hA6.l, f7 _ _ (fun z => lA (by rw [← z]; simp [footS])) hA6.m, f7 _ _ (fun z => lA (by rw [← z]; simp [footS])) hA6.p, hA6.nd⟩
     ·have fr := ((fr1.trans (.same s34)).trans fr5).trans fr6
      refine ⟨fun b o e n => f7 _ _ (fun z => ?_) (fr.1 b o e n), fun b xs e => f7 _ _ (fun z => ?_) (fr.2 b xs e)⟩
      ·rw [z, n1] at e; cases e
      ·rw [z, n1] at e; cases e
     ·rw [h7, List.map_append]; rfl
     ·rw [List.length_append, List.length_append, hL6.n]; rfl
     ·intro j C M e1 e2
      rcases app_get hL6.n e1 e2 with ⟨a, b⟩ | ⟨rfl, rfl⟩
      ·obtain ⟨h, hw⟩ := hL6.at_ j C M a b
       exact ⟨fx h (hL6.ap C (List.mem_of_getElem? a)).2, hw⟩
      ·exact ⟨fx hB6 hBl, line_wf el⟩
     ·intro C hC
      rcases List.mem_append.mp hC with z | z
      ·exact hL6.ap C z
      ·rw [List.mem_singleton.mp z]; exact ⟨apB, hBl⟩
     ·rw [show (1 : Int) + ((i + 1 : Nat) : Int) = 1 + (i : Int) + 1 from by omega]
      exact e1
     ·have : S3.labels.length ≤ S1.labels.length + 1 := by
       have a1 : S2.labels.length ≤ S1.labels.length + 1 := by
        unfold tellLabel at et
        split at et
        ·cases et; omega
        ·split at et
         ·cases et
         ·cases et; simp
       have a2 : S3.labels = S2.labels := by
        unfold moveHere at em
        split at em
        ·split at em
         ·cases em; rfl
         ·cases em
        ·split at em
         ·split at em
          ·cases em
          ·cases em; rfl
         ·cases em; rfl
       rw [a2]; exact a1
      omega
     ·rw [List.length_append, hn1]; rfl
  ·rintro σ' H' ⟨S1, Ls1, Bs, x3, x4, x5, rfl, hls, hA1, fr1, hL1, e1, hs1, hn1⟩
   rw [List.length_map, List.drop_length] at e1
   cases e1
def sp_againE (CL CS : Addr) (CB : Bad → Addr) : Sp := fun vs H _ E => ∃ (A : SAd) (S : Sh) (l : Addr) (Bs : List LAd) (Ls : List Ln) (bd : Bad) (n : Int), vs = [.ref A.s, .ref l] ∧ ShAt CS H A S ∧ LinesAt CL H A l Bs Ls ∧ Ls.length ≤ 20000 ∧ S.made.length = 0 ∧ S.pool.length = 0 ∧ goAgain Ls S = .error (bd, n) ∧ Thr CB bd n (fun H1 => FrX H H1 (footS A)) E
theorem ok_againE (R : Raw K mg "go_over_again" s_go_over_again) (T : TxtT K mg CL CS) (E_make_cell : GE P w K mg base "make_cell" ["sheet", "line", "place", "made_word"] 3 (sp_mcellE CL CS CB)) (E_word_of : GE P w K mg base "word_of" ["sheet", "line"] 6 (sp_wofE CL CS CB)) (E_move_here : GE P w K mg base "move_here" ["sheet", "line"] 5 (sp_moveE CL CS CB))
  (G_makes_cell : GF P w K mg base "makes_cell" ["line"] 1 (sp_makes CL)) (G_make_cell : GF P w K mg base "make_cell" ["sheet", "line", "place", "made_word"] 1 (sp_mcell CL CS)) (G_word_of : GF P w K mg base "word_of" ["sheet", "line"] 4 (sp_wof CL CS)) (G_move_here : GF P w K mg base "move_here" ["sheet", "line"] 3 (sp_move CL CS)) : GE P w K mg base "go_over_again" ["sheet", "lines"] 7 (sp_againE CL CS CB) := by
 refine GE.mk R sc_go_over_again (by wtm_at "2") (fun vs H Q E h => ?_) (fun f cdv A outer s H vs Q E hr h => ?_)
 ·obtain ⟨A, S, l, Bs, Ls, bd, n, rfl, _⟩ := h; rfl
 ·obtain ⟨A, S, l, Bs, Ls, bd, n, rfl, hA, hL, hn, hm0, hp0, e, th⟩ := h
  refine ⟨_, (@pss_one _ _ _ (@ps_for _ _ _ _ _ _ _ _ ownB rfl (@pi_listK _ (K) _ _ _ rfl (pv 1)) (@pg_name _ _ (2) _ sc_go_over_again.nd rfl (Or.inl rfl) (by first | exact .inl rfl | exact .inr rfl | assumption)) (@pss_cons _ _ _ _ _ (@ps_cut _ _ _ (@ps_if _ _ _ _ _ _ _ _ (@pt_val _ _ _ (@pe_gcallN _ _ _ _ _ _ _ _ _ _ G_makes_cell (hr.mono (by decide)) rfl (@pa_c _ _ _ _ _ (pv 2) pa_nil rfl) (by decide) rfl) (fun _ => rfl)) (@pss_one _ _ _ (@ps_expr _ _ _ _ (@pe_bothN _ _ _ _ _ _ _ _ _ _ _ _ _ _ _ _ _ _ _ _ _ _ _ _ _ _ _ G_make_cell E_make_cell (hr.mono (by decide)) (hr.mono (by decide)) rfl (@pa_c _ _ _ _ _ (pv 0) (@pa_c _ _ _ _ _ (pv 2) (@pa_c _ _ _ _ _ (@pe_fldK _ (K) _ _ _ _ rfl (pv 0) rfl) (@pa_c _ _ _ _ _ (@pe_bothN _ _ _ _ _ _ _ _ _ _ _ _ _ _ _ _ _ _ _ _ _ _ _ _ _ _ _ G_word_of E_word_of (hr.mono (by decide)) (hr.mono (by decide)) rfl (@pa_c _ _ _ _ _ (pv 0) (@pa_c _ _ _ _ _ (pv 2) pa_nil rfl) rfl) (by decide) rfl) pa_nil rfl) rfl) rfl) rfl) (by decide) rfl) rfl)) pss_nil)) (@pss_one _ _ _ (@ps_expr _ _ _ _ (@pe_bothN _ _ _ _ _ _ _ _ _ _ _ _ _ _ _ _ _ _ _ _ _ _ _ _ _ _ _ G_move_here E_move_here (hr.mono (by decide)) (hr.mono (by decide)) rfl (@pa_c _ _ _ _ _ (pv 0) (@pa_c _ _ _ _ _ (pv 2) pa_nil rfl) rfl) (by decide) rfl) rfl))) (fun _ => rfl))), ?_⟩
  wtm_at "xx"
  refine ⟨l, rfl, ⟨_, SqL.of hL.li⟩, for_list (xs := Bs.map fun B => V.ref B.a) (fun i σ' H' => ∃ (S1 : Sh) (x : Option V), σ' = [some (.ref A.s), some (.ref l), x] ∧ ShAt CS H' A S1 ∧ FrX H H' (footS A) ∧ LinesAt CL H' A l Bs Ls ∧ goAgain (Ls.drop i) S1 = .error (bd, n) ∧ S1.made.length ≤ 2 * i ∧ S1.pool.length ≤ i) ⟨S, _, rfl, hA, .refl, hL, e, by omega, by omega⟩ (fun i σ' H' _ h => by obtain ⟨_, _, _, _, _, h, _⟩ := h; exact SqL.of h.li) ?_ ?_⟩
  ·rintro i x σ' H' hx ⟨S1, x2, rfl, hA1, fr1, hL1, e1, hm1, hp1⟩
   rw [List.getElem?_map] at hx
   cases eB : Bs[i]? with
   | none => rw [eB] at hx; cases hx
   | some B =>
    rw [eB] at hx
    cases hx
    have hi : i < Ls.length := by rw [← hL.n]; exact (List.getElem?_eq_some_iff.mp eB).1
    have eL : Ls[i]? = some Ls[i] := List.getElem?_eq_getElem hi
    obtain ⟨hB, hw⟩ := hL1.at_ i B _ eB eL
    have apB := (hL1.ap B (List.mem_of_getElem? eB)).1
    rw [List.drop_eq_getElem_cons hi] at e1
    generalize Ls[i] = L at hB hw e1
    unfold goAgain at e1
    wtm_at "xx"
    refine Sx.cut (fun σ' G => ∃ S2, σ' = [some (.ref A.s), some (.ref l), some (.ref B.a)] ∧ ShAt CS G A S2 ∧ FrX H' G (footS A) ∧ againOne S1 L = .ok S2) ?_ ?_
    ·wtm_at "xx"
     refine ⟨B, L, rfl, hB, ?_⟩
     wtm_at "xx"
     refine iteB (fun g => ?_) (fun g => ?_)
     ·wtm_at "xx"
      unfold tBoth
      wtm_at "xx"
      refine Sx.atF hA1.o T.clS T.n_here (lk_here _ _) ?_
      wtm_at "xx"
      cases ew : wordOf S1 L with
      | error z =>
       have ea : againOne S1 L = .error z := by unfold againOne; rw [if_pos g, ew]
       rw [ea] at e1
       cases e1
       exact .inr ⟨A, B, S1, L, bd, n, rfl, hA1, hB, hw, ew, th.mono fun G s => by rw [s]; exact fr1⟩
      | ok q =>
       obtain ⟨S1', v⟩ := q
       have l1 := word_len ew
       have ea : againOne S1 L = makeCell S1' L.num S1.here v := by unfold againOne; rw [if_pos g, ew]
       refine .inl ⟨A, B, S1, S1', L, v, rfl, hA1, hB, apB, hw, by omega, by omega, ew, fun G1 hG1 f1 => ?_⟩
       wtm_at "xx"
       cases em : makeCell S1' L.num S1.here v with
       | error z =>
        rw [ea, em] at e1
        cases e1
        exact .inr ⟨A, B, S1', L, _, v, bd, n, rfl, hG1, hB.frS f1 apB, em, th.mono fun G s => by rw [s]; exact fr1.trans f1⟩
       | ok S2 =>
        refine .inl ⟨A, B, S1', S2, L, _, v, rfl, hG1, hB.frS f1 apB, by omega, em, fun G2 hG2 f2 => ?_⟩
        exact ⟨S2, rfl, hG2, f1.trans f2, ea.trans em⟩
     ·wtm_at "xx"
      exact ⟨S1, rfl, hA1, .refl, by unfold againOne; rw [g, if_neg Bool.false_ne_true]⟩
    ·rintro σ' G ⟨S2, rfl, hG, fG, ea⟩
     rw [ea] at e1
     dsimp only at e1
     have l2 := again_len ea
     wtm_at "xx"
     unfold tBoth
     wtm_at "xx"
     cases em : moveHere S2 L with
     | error z =>
      rw [em] at e1
      cases e1
      exact .inr ⟨A, B, S2, L, bd, n, rfl, hG, hB.frS fG apB, hw, em, th.mono fun G2 s => by rw [s]; exact fr1.trans fG⟩
     | ok S3 =>
      rw [em] at e1
      dsimp only at e1
      have l3 := move_len em
      refine .inl ⟨A, B, S2, S3, L, rfl, hG, hB.frS fG apB, hw, em, fun G2 hG2 f2 => ?_⟩
      exact ⟨S3, _, rfl, hG2, fr1.trans (fG.trans f2), (hL1.fr hA1 fG).fr hG f2, e1, by rw [l3.1]; omega, by rw [l3.2]; omega⟩
  ·rintro σ' H' ⟨S1, x2, rfl, hA1, fr1, hL1, e1, hm1, hp1⟩
   rw [List.length_map, hL.n, List.drop_length] at e1
   cases e1
def sp_asmE (CB : Bad → Addr) : Sp := fun vs H _ E => ∃ (text : Str) (bd : Bad) (n : Int), vs = [.str text] ∧ text.length ≤ 1000000 ∧ (Txt.split text "\n").length ≤ 20000 ∧ (∀ r ∈ Txt.split text "\n", r.length ≤ 2000) ∧ assembledR text = .error (bd, n) ∧ Thr CB bd n (fun H1 => Same H H1) E
theorem ok_asmE (R : Raw K mg "assembled" s_assembled) (T : TxtT K mg CL CS) (M_Sheet : GC P w K mg base "Sheet" CS ["self"] 1 (sp_initS CS)) (G_go_over_first : GF P w K mg base "go_over_first" ["sheet", "text"] 8 (sp_first CL CS)) (G_go_over_again : GF P w K mg base "go_over_again" ["sheet", "lines"] 5 (sp_again CL CS)) (E_go_over_first : GE P w K mg base "go_over_first" ["sheet", "text"] 8 (sp_firstE CL CS CB)) (E_go_over_again : GE P w K mg base "go_over_again" ["sheet", "lines"] 7 (sp_againE CL CS CB)) : GE P w K mg base "assembled" ["text"] 9 (sp_asmE CB) := by
 refine GE.mk R sc_assembled (by wtm_at "1") (fun vs H Q E h => ?_) (fun f cdv A outer s H vs Q E hr h => ?_)
 ·obtain ⟨text, bd, n, rfl, _⟩ := h; rfl
 ·obtain ⟨text, bd, n, rfl, htl, hfew, hrow, e, th⟩ := h
  refine ⟨_, (@pss_cons _ _ _ _ _ (@ps_set _ _ (1) _ _ _ _ sc_assembled.nd rfl (Or.inr rfl) (pe_gmake0 M_Sheet (hr.mono (by decide)) rfl) rfl (by first | exact .inl rfl | exact .inr rfl | assumption)) (@pss_cons _ _ _ _ _ (@ps_set _ _ (2) _ _ _ _ sc_assembled.nd rfl (Or.inl rfl) (@pe_bothN _ _ _ _ _ _ _ _ _ _ _ _ _ _ _ _ _ _ _ _ _ _ _ _ _ _ _ G_go_over_first E_go_over_first (hr.mono (by decide)) (hr.mono (by decide)) rfl (@pa_c _ _ _ _ _ (pv 1) (@pa_c _ _ _ _ _ (pv 0) pa_nil rfl) rfl) (by decide) rfl) rfl (by first | exact .inl rfl | exact .inr rfl | assumption)) (@pss_cons _ _ _ _ _ (@ps_fldK _ (K) _ _ _ _ _ _ _ rfl (pv 1) pe_int rfl) (@pss_cons _ _ _ _ _ (@ps_expr _ _ _ _ (@pe_bothN _ _ _ _ _ _ _ _ _ _ _ _ _ _ _ _ _ _ _ _ _ _ _ _ _ _ _ G_go_over_again E_go_over_again (hr.mono (by decide)) (hr.mono (by decide)) rfl (@pa_c _ _ _ _ _ (pv 1) (@pa_c _ _ _ _ _ (pv 2) pa_nil rfl) rfl) (by decide) rfl) rfl) (@pss_one _ _ _ (@ps_ret _ _ _ _ (@pe_lcomp _ _ _ _ _ _ _ _ _ _ _ _ ([("sheet" , 1)]) rfl (@pi_range1 _ _ _ _ _ _ rfl T.range_ (@pa_c _ _ _ _ _ (@pe_gint _ _ _ _ rfl T.PLACES (by decide)) pa_nil rfl) rfl) ⟨rfl, rfl, by decide +kernel, by decide +kernel, rfl, by decide +kernel, ⟨rfl, trivial⟩ , rfl, ⟨⟨rfl, .inl rfl, .inl rfl, _, rfl, rfl⟩ , trivial⟩⟩ (fun _ _ _ _ => pts_nil) (fun _ _ _ _ => (pe_dget2 (hu1 hr) (@pe_fldK _ (K) _ _ _ _ rfl (pv 1) rfl) (pv 0) pe_int ⟨rfl, rfl, rfl, rfl⟩)) (fun _ => rfl)))))))), ?_⟩
  unfold assembledR at e
  wtm_at "xx"
  refine make_s fun A H1 nA hA1 s1 => ?_
  have fin : ∀ {H4 : Hp}, FrX H1 H4 (footS A) → Same H H4 := fun fr b o e => fr.1 b o (s1 b o e) fun z => by rw [nA b z] at e; cases e
  wtm_at "xx"
  unfold tBoth
  wtm_at "xx"
  cases e1 : goFirst (Txt.split text "\n") 1 ⟨[], [], [], 0⟩ [] with
  | error z =>
   rw [e1] at e
   cases e
   exact .inr ⟨A, _, text, bd, n, rfl, hA1, rfl, htl, hfew, hrow, e1, th.mono fun G f => fin f⟩
  | ok q =>
   obtain ⟨S1, Ls⟩ := q
   rw [e1] at e
   dsimp only at e
   cases e2 : goAgain Ls { S1 with here := 0 } with
   | ok S2 => rw [e2] at e; cases e
   | error z =>
    rw [e2] at e
    cases e
    have hk := first_keep _ _ _ _ _ _ e1
    refine .inl ⟨A, _, S1, text, Ls, rfl, hA1, rfl, htl, hfew, hrow, e1, fun l Bs H2 hL2 hn2 hA2 fr2 => ?_⟩
    wtm_at "xx"
    refine ⟨A.s, CS, A.dx, _, rfl, hA2.o, T.clS, T.n_here, len_fldsS _ _, ?_⟩
    rw [pf_here]
    have hA3 := hA2.setH (i := 0)
    have fr3 : FrX H2 (upd H2 A.s (.ins CS A.dx (fldsS A { S1 with here := 0 }))) (footS A) := hA2.frU (by simp [footS])
    have hL3 := hL2.fr hA2 fr3
    generalize upd H2 A.s (.ins CS A.dx (fldsS A { S1 with here := 0 })) = H3 at hA3 fr3 hL3 ⊢
    wtm_at "xx"
    exact .inr ⟨A, _, l, Bs, Ls, bd, n, rfl, hA3, hL3, hn2, by show S1.made.length = 0; rw [hk.1]; rfl, by show S1.pool.length = 0; rw [hk.2]; rfl, e2, th.mono fun G f => fin ((fr2.trans fr3).trans f)⟩
end
end Sc
namespace Sc
open PySem L2 Tx Ls
theorem text_fit {m : Nat} {ls : List Str} (h : ls.length * (m + 1) ≤ 19000) (hm : m ≤ 200) (h2 : ∀ l ∈ ls, l.length ≤ m) : (Str.join "\n" ls).length ≤ 1000000 ∧ (Txt.split (Str.join "\n" ls) "\n").length ≤ 20000 ∧ ∀ r ∈ Txt.split (Str.join "\n" ls) "\n", r.length ≤ 2000 := by
 have hl : (Str.join "\n" ls).length ≤ 19000 := by
  have := Ls.join_len "\n" ls m h2
  rw [l_nl] at this
  omega
 refine ⟨by omega, ?_⟩
 by_cases g : ls = []
 ·subst g
  have h0 : (Str.join "\n" ([] : List Str)).length = 0 := rfl
  refine ⟨by have := split_len (Str.join "\n" ([] : List Str)) "\n"; omega, fun r hr => ?_⟩
  have h1 : cs r ∈ (Txt.split (Str.join "\n" ([] : List Str)) "\n").map cs := List.mem_map.mpr ⟨r, hr, rfl⟩
  rw [nl_eq, tsplit] at h1
  have := split_short h1
  rw [cs_len, cs_len] at this
  have h4 : (Str.join ⟨#[10]⟩ ([] : List Str)).length = 0 := rfl
  omega
 ·have hs : (Txt.split (Str.join "\n" ls) "\n").map cs = (ls.map cs).flatMap (splitC 10) := by
   rw [nl_eq, tsplit, cs_join, show cs ⟨#[10]⟩ = [10] from rfl, split_flat 10 _ (by simpa using g)]
  refine ⟨?_, fun r hr => ?_⟩
  ·have := split_len (Str.join "\n" ls) "\n"
   omega
  ·have h1 : cs r ∈ (Txt.split (Str.join "\n" ls) "\n").map cs := List.mem_map.mpr ⟨r, hr, rfl⟩
   rw [hs, List.mem_flatMap] at h1
   obtain ⟨c, hc, hr⟩ := h1
   obtain ⟨l, hl', rfl⟩ := List.mem_map.mp hc
   have := split_short hr
   rw [cs_len, cs_len] at this
   have := h2 l hl'
   omega
end Sc
namespace Sc
open PySem L2 Tx Ls
variable {LB : List (Str × Int)}
end Sc
namespace Sc
open PySem L2 Tx Ls
theorem numOk {n : Int} (h0 : 0 ≤ n) (h1 : n < 10000) : NumOk n := by
 refine ⟨?_, ?_⟩
 ·by_cases z : n.natAbs = 0
  ·rw [z]; decide
  ·exact Nat.lt_of_lt_of_le ((Nat.log2_lt z).mpr (show n.natAbs < 2 ^ 14 by omega)) (by decide)
 ·have := num_len' h0 h1
  exact Nat.le_trans this (by decide)
structure GoodRow (r : Str) : Prop where
 pl : ∃ c, Plain r c
 nl : 10 ∉ cs r
 len : r.length ≤ 60
theorem good_line {n : Int} (h0 : 0 ≤ n) (h1 : n < 1024) : GoodRow (lineS n) := ⟨⟨n, plain_line h0 h1⟩, free_words h0 h1, line_len h0 h1⟩
theorem first_good {rest : List Str} : ∀ (pre : List Str) (n : Int) (S : Sh) (acc : List Ln), (∀ r ∈ pre, GoodRow r) → S.here + (pre.length : Nat) ≤ 64 → ∃ acc', acc'.length = acc.length + pre.length ∧ goFirst (pre ++ rest) n S acc = goFirst rest (n + (pre.length : Nat)) { S with here := S.here + (pre.length : Nat) } acc'
 | [], n, S, acc, _, _ => ⟨acc, rfl, by simp⟩
 | r :: t, n, S, acc, h, hz => by
  obtain ⟨c, hp⟩ := (h r List.mem_cons_self).pl
  obtain ⟨L, e, en, el, em, ep, _⟩ := hp n
  rw [List.length_cons] at hz
  have e1 : tellLabel S L = .ok S := by unfold tellLabel; rw [el]
  have e2 : moveHere S L = .ok { S with here := S.here + 1 } := by
   unfold moveHere
   rw [if_neg ep, if_pos em, if_neg (by omega)]
  obtain ⟨acc', hl, ih⟩ := first_good t (n + 1) { S with here := S.here + 1 } (acc ++ [L]) (fun x hx => h x (List.mem_cons_of_mem _ hx)) (by show S.here + 1 + _ ≤ 64; omega)
  refine ⟨acc', by rw [hl, List.length_append, List.length_singleton, List.length_cons]; omega, ?_⟩
  rw [List.cons_append]
  conv => lhs; unfold goFirst
  rw [e]
  dsimp only
  rw [e1]
  dsimp only
  rw [e2]
  dsimp only
  rw [ih, List.length_cons]
  have a1 : n + 1 + (t.length : Nat) = n + ((t.length + 1 : Nat) : Int) := by omega
  have a2 : S.here + 1 + (t.length : Nat) = S.here + ((t.length + 1 : Nat) : Int) := by omega
  rw [a1, a2]
theorem first_bad {pre post : List Str} {bad : Str} {bd : Bad} (h : ∀ r ∈ pre, GoodRow r) (hz : pre.length ≤ 64) (hb : ∀ n acc, goFirst (bad :: post) n ⟨[], [], [], (pre.length : Nat)⟩ acc = .error (bd, n)) (hf : ∀ r ∈ bad :: post, 10 ∉ cs r) :
  assembledR (Str.join "\n" (pre ++ bad :: post)) = .error (bd, (pre.length : Nat) + 1) := by
 unfold assembledR
 rw [split_rows (by simp) (fun r hr => (List.mem_append.mp hr).elim (fun z => (h r z).nl) (hf r))]
 obtain ⟨acc', _, e⟩ := first_good (rest := bad :: post) pre 1 ⟨[], [], [], 0⟩ [] h (by show 0 + _ ≤ 64; omega)
 rw [e]
 have a2 : (0 : Int) + (pre.length : Nat) = (pre.length : Nat) := by omega
 dsimp only
 rw [a2, hb, Int.add_comm]
end Sc
namespace Ll
open PySem L2 Tx Lw Ls
def sp_strs (ts : List Str) : Sp := fun vs H Q _ => vs = [] ∧ ∀ l H', H l = none → H' l = some (.lst (ts.map V.str)) → Same H H' → Q (.ref l) H'
def sp_named (K : PySem.W.Frag) : Sp := fun vs H Q _ => ∃ (a : Addr) (ts : List Str) (p : Int), vs = [.ref a, .int p] ∧ SqL K H a (ts.map V.str) ∧ ts.length = 6 ∧ ∀ l H', H l = none → H' l = some (.lst ((pick ts p).map V.str)) → Same H H' → Q (.ref l) H'
def sp_line : Sp := fun vs H Q _ => ∃ n : Int, vs = [.int n] ∧ 0 ≤ n ∧ n < 1024 ∧ ∀ H', Same H H' → Q (.str (lineS n)) H'
section
variable {P : Program} {w : World} {K : PySem.W.Frag} {mg : Str → Option Value} {base : Heap}
theorem ok_kinds (R : Raw K mg "_law_kinds" s_law_kinds) : GF P w K mg base "_law_kinds" [] 1 (sp_strs kindsS) := by
 refine GF.mk R sc_law_kinds (fun _ _ _ _ _ _ us hl => match us, hl with | [], _ => rfl) (fun vs H Q E h => ?_) (fun f cdv A outer s H vs Q E hr h => ?_)
 ·obtain ⟨rfl, _⟩ := h; rfl
 ·obtain ⟨rfl, k⟩ := h
  refine ⟨_, (@pss_one _ _ _ (@ps_ret _ _ _ _ (@pe_lst _ _ _ _ (@pa_c _ _ _ _ _ pe_str (@pa_c _ _ _ _ _ pe_str (@pa_c _ _ _ _ _ pe_str (@pa_c _ _ _ _ _ pe_str (@pa_c _ _ _ _ _ pe_str (@pa_c _ _ _ _ _ pe_str pa_nil rfl) rfl) rfl) rfl) rfl) rfl)))), ?_⟩
  wtm_at "ss"
  exact ⟨by show 6 ≤ sizeLine; decide, fun l hl => k l _ hl upd_same (Same.newH hl)⟩
theorem ok_asks (R : Raw K mg "_law_asks" s_law_asks) : GF P w K mg base "_law_asks" [] 1 (sp_strs asksS) := by
 refine GF.mk R sc_law_asks (fun _ _ _ _ _ _ us hl => match us, hl with | [], _ => rfl) (fun vs H Q E h => ?_) (fun f cdv A outer s H vs Q E hr h => ?_)
 ·obtain ⟨rfl, _⟩ := h; rfl
 ·obtain ⟨rfl, k⟩ := h
  refine ⟨_, (@pss_one _ _ _ (@ps_ret _ _ _ _ (@pe_lst _ _ _ _ (@pa_c _ _ _ _ _ pe_str (@pa_c _ _ _ _ _ pe_str (@pa_c _ _ _ _ _ pe_str (@pa_c _ _ _ _ _ pe_str (@pa_c _ _ _ _ _ pe_str (@pa_c _ _ _ _ _ pe_str (@pa_c _ _ _ _ _ pe_str (@pa_c _ _ _ _ _ pe_str (@pa_c _ _ _ _ _ pe_str pa_nil rfl) rfl) rfl) rfl) rfl) rfl) rfl) rfl) rfl)))), ?_⟩
  wtm_at "ss"
  exact ⟨by show 9 ≤ sizeLine; decide, fun l hl => k l _ hl upd_same (Same.newH hl)⟩
theorem ok_changes (R : Raw K mg "_law_changes" s_law_changes) : GF P w K mg base "_law_changes" [] 1 (sp_strs changesS) := by
 refine GF.mk R sc_law_changes (fun _ _ _ _ _ _ us hl => match us, hl with | [], _ => rfl) (fun vs H Q E h => ?_) (fun f cdv A outer s H vs Q E hr h => ?_)
 ·obtain ⟨rfl, _⟩ := h; rfl
 ·obtain ⟨rfl, k⟩ := h
  refine ⟨_, (@pss_one _ _ _ (@ps_ret _ _ _ _ (@pe_lst _ _ _ _ (@pa_c _ _ _ _ _ pe_str (@pa_c _ _ _ _ _ pe_str (@pa_c _ _ _ _ _ pe_str (@pa_c _ _ _ _ _ pe_str (@pa_c _ _ _ _ _ pe_str (@pa_c _ _ _ _ _ pe_str pa_nil rfl) rfl) rfl) rfl) rfl) rfl)))), ?_⟩
  wtm_at "ss"
  exact ⟨by show 6 ≤ sizeLine; decide, fun l hl => k l _ hl upd_same (Same.newH hl)⟩
theorem ok_tests (R : Raw K mg "_law_tests" s_law_tests) : GF P w K mg base "_law_tests" [] 1 (sp_strs testsS) := by
 refine GF.mk R sc_law_tests (fun _ _ _ _ _ _ us hl => match us, hl with | [], _ => rfl) (fun vs H Q E h => ?_) (fun f cdv A outer s H vs Q E hr h => ?_)
 ·obtain ⟨rfl, _⟩ := h; rfl
 ·obtain ⟨rfl, k⟩ := h
  refine ⟨_, (@pss_one _ _ _ (@ps_ret _ _ _ _ (@pe_lst _ _ _ _ (@pa_c _ _ _ _ _ pe_str (@pa_c _ _ _ _ _ pe_str (@pa_c _ _ _ _ _ pe_str (@pa_c _ _ _ _ _ pe_str (@pa_c _ _ _ _ _ pe_str (@pa_c _ _ _ _ _ pe_str pa_nil rfl) rfl) rfl) rfl) rfl) rfl)))), ?_⟩
  wtm_at "ss"
  exact ⟨by show 6 ≤ sizeLine; decide, fun l hl => k l _ hl upd_same (Same.newH hl)⟩
theorem ok_named (R : Raw K mg "_law_named" s_law_named) (T : TxtL K mg) : GF P w K mg base "_law_named" ["_law_names", "_law_place"] 1 (sp_named K) := by
 refine GF.mk R sc_law_named (by wtm_at "2") (fun vs H Q E h => ?_) (fun f cdv A outer s H vs Q E hr h => ?_)
 ·obtain ⟨a, ts, p, rfl, _⟩ := h; rfl
 ·obtain ⟨a, ts, p, rfl, hS, hl, k⟩ := h
  refine ⟨_, (@pss_one _ _ _ (@ps_ret _ _ _ _ (@pe_lcompN _ (["_law_k" , "_law_name"]) _ _ _ _ _ _ _ _ _ _ _ ([("_law_place" , 1)]) rfl (@pi_enumK _ (K) _ _ _ _ _ _ _ rfl rfl T.enumerate_ (@pa_c _ _ _ _ _ (pv 0) pa_nil rfl) rfl) ⟨rfl, rfl, by decide +kernel, by decide +kernel, by decide +kernel, ⟨rfl, trivial⟩ , rfl, ⟨⟨rfl, .inl rfl, .inl rfl, _, rfl, rfl⟩ , trivial⟩⟩ (fun _ _ _ _ => (@pg_tupK _ (K) _ _ _ _ (2) rfl rfl (@pgs_cons _ _ _ _ _ (@pg_name _ _ (0) _ (show List.Nodup (["_law_k" , "_law_name" , "_law_place"] : List Str) from by decide +kernel) rfl (Or.inl rfl) (by first | exact .inl rfl | exact .inr rfl | assumption)) (@pgs_cons _ _ _ _ _ (@pg_name _ _ (1) _ (show List.Nodup (["_law_k" , "_law_name" , "_law_place"] : List Str) from by decide +kernel) rfl (Or.inl rfl) (by first | exact .inl rfl | exact .inr rfl | assumption)) pgs_nil rfl) rfl) rfl rfl)) (fun _ _ _ _ => (@pts_one _ _ _ (@pt_cmpR _ _ _ _ _ _ _ _ op_eq (@pe_op _ _ _ _ _ _ _ _ op_mod (@pe_op _ _ _ _ _ _ _ _ op_fdiv (pv 2) (@pe_ix _ _ _ _ _ _ _ (ix_tupK (K := K) rfl) (@pe_tup _ _ _ _ _ (@pa_ints _ _ ([32, 16, 8, 4, 2, 1]) rfl)) (pv 0) (fun _ _ => rfl))) pe_int) pe_int (nomark _)))) (fun _ _ _ _ => (pv 1)) (fun _ => rfl)))), ?_⟩
  wtm_at "tt"
  have bin : ∀ i, i < 6 → 0 < bitsL.getD i 0 := by decide
  refine ⟨a, _, rfl, hS, lc_pairsF (n := 6) (fun i acc H' => acc = (pickN ts p i).map V.str ∧ Same H H') (fun i => .int (i : Int)) (fun i => .str (ts.getD i Str.empty)) (by decide) ?_ ?_ ?_ ⟨rfl, Same.refl _⟩ ?_ ?_ ?_⟩
  ·rintro i acc H0 v H1 ⟨T0, x, e1, e2, e3, e4⟩ hi hI
   have f1 : (ts.map V.str)[i]? = some (.str (ts.getD i Str.empty)) := by rw [List.getElem?_map, List.getD_eq_getElem?_getD, List.getElem?_eq_getElem (by omega)]; rfl
   have f2 := e3 _ (hI.2.seq hS)
   rw [f1] at f2
   cases f2
   exact ⟨T0, e1, e2, e4⟩
  ·intro i acc H0 hi hI
   exact ⟨_, _, hI.2.seq hS, by rw [List.getElem?_map, List.getElem?_eq_getElem (by omega)]; rfl⟩
  ·intro acc H0 hI
   exact ⟨_, hI.2.seq hS, by rw [List.length_map]; omega⟩
  ·rintro i acc H0 ⟨e, _⟩
   rw [e, List.length_map]
   exact pick_len ts p i
  ·rintro i acc H0 hi ⟨e, sm⟩ H1 s2 QT kt kf
   wtm_at "tt"
   refine Sx.newT (by show 6 ≤ sizeLine; decide) fun t3 G3 n3 h3 s3 => ?_
   wtm_at "tt"
   refine Sx.ixT (v := .int (bitsL.getD i 0)) h3 ?_ ?_
   ·exact atI_nat (xs := [V.int 32, .int 16, .int 8, .int 4, .int 2, .int 1]) (by
     have q : ∀ i, i < 6 → [V.int 32, .int 16, .int 8, .int 4, .int 2, .int 1][i]? = some (.int (bitsL.getD i 0)) := by decide
     exact q i hi)
   ·have bi := bin i hi
    have s4 := sm.trans (s2.trans s3)
    generalize hb : bitsL.getD i 0 = b at bi
    have hb2 : b < 100 := by
     have q : ∀ i, i < 6 → bitsL.getD i 0 < 100 := by decide
     rw [← hb]; exact q i hi
    wtm_at "tt"
    by_cases g : p / b % 2 = 1
    ·rw [decide_eq_true g]
     refine kt _ fun Q' q' => ?_
     wtm_at "tt"
     refine q' _ _ ⟨?_, s4⟩
     rw [e, pickN_get, hb, if_pos g, List.map_append]
     rfl
    ·rw [decide_eq_false g]
     refine kf _ ⟨?_, s4⟩
     rw [e, pickN_get, hb, if_neg g]
  ·rintro acc H0 ⟨e, sm⟩ l2 n2
   subst e
   exact k l2 _ (sm.free n2) upd_same (sm.trans (Same.newH n2))
theorem ok_line (R : Raw K mg "_law_line" s_law_line) (T : TxtL K mg) (G_law_kinds : GF P w K mg base "_law_kinds" [] 1 (sp_strs kindsS)) (G_law_asks : GF P w K mg base "_law_asks" [] 1 (sp_strs asksS)) (G_law_changes : GF P w K mg base "_law_changes" [] 1 (sp_strs changesS)) (G_law_tests : GF P w K mg base "_law_tests" [] 1 (sp_strs testsS))
  (G_law_named : GF P w K mg base "_law_named" ["_law_names", "_law_place"] 1 (sp_named K)) : GF P w K mg base "_law_line" ["_law_number"] 2 sp_line := by
 refine GF.mk R sc_law_line (by wtm_at "1") (fun vs H Q E h => ?_) (fun f cdv A outer s H vs Q E hr h => ?_)
 ·obtain ⟨n, rfl, _⟩ := h; rfl
 ·obtain ⟨n, rfl, h0, h1, k⟩ := h
  refine ⟨_, (@pss_cons _ _ _ _ _ (@ps_set _ _ (1) _ _ _ _ sc_law_line.nd rfl (Or.inl rfl) (@pe_op _ _ _ _ _ _ _ _ op_fdiv (pv 0) pe_int) rfl (by first | exact .inl rfl | exact .inr rfl | assumption)) (@pss_cons _ _ _ _ _ (@ps_set _ _ (2) _ _ _ _ sc_law_line.nd rfl (Or.inl rfl) (@pe_op _ _ _ _ _ _ _ _ op_mod (pv 0) pe_int) rfl (by first | exact .inl rfl | exact .inr rfl | assumption)) (@pss_cons _ _ _ _ _ (@ps_set _ _ (3) _ _ _ _ sc_law_line.nd rfl (Or.inl rfl) (@pe_op _ _ _ _ _ _ _ _ op_mod (@pe_op _ _ _ _ _ _ _ _ op_fdiv (pv 0) pe_int) pe_int) rfl (by first | exact .inl rfl | exact .inr rfl | assumption)) (@pss_cons _ _ _ _ _ (@ps_if _ _ _ _ _ _ _ _ (@pt_cmpR _ _ _ _ _ _ _ _ op_lt (pv 1) pe_int (nomark _)) (@pss_one _ _ _ (@ps_ret _ _ _ _ (@pe_op _ _ _ _ _ _ _ _ op_add_str (@pe_op _ _ _ _ _ _ _ _ op_add_str (@pe_ix _ _ _ _ _ _ _ (ix_listK (K := K) rfl) (pe_gcall0 G_law_kinds (hr.mono (by decide)) rfl) (pv 1) (fun _ _ => rfl)) (@pe_ix _ _ _ _ _ _ _ (ix_listK (K := K) rfl) (@pe_lst _ _ _ _ (@pa_c _ _ _ _ _ pe_str (@pa_c _ _ _ _ _ pe_str pa_nil rfl) rfl)) (pv 3) (fun _ _ => rfl))) (@pe_callTyN _ _ _ _ _ _ _ _ _ call_str_int (by rfl) T.str_ bo_str (@pa_c _ _ _ _ _ (pv 2) pa_nil rfl) (by decide) (by decide) rfl)))) pss_nil) (@pss_cons _ _ _ _ _ (@ps_if _ _ _ _ _ _ _ _ (@PW.pt _ _ _ (@pw_and _ _ _ _ _ _ _ (@pt_cmpR _ _ _ _ _ _ _ _ op_eq (pv 1) pe_int (nomark _)) (@pw_and1 _ _ _ _ (@pt_cmpR _ _ _ _ _ _ _ _ op_eq (pv 3) pe_int (nomark _))))) (@pss_one _ _ _ (@ps_ret _ _ _ _ (pe_bm PySem.F.plainAttrs_str PySem.F.slot_str_join PySem.F.type_str_join (mt_join (K := K) rfl) pe_str (@pa_c _ _ _ _ _ (@pe_op _ _ _ _ _ _ _ _ op_cat (@pe_lst _ _ _ _ (@pa_c _ _ _ _ _ pe_str pa_nil rfl)) (@pe_gcallN _ _ _ _ _ _ _ _ _ _ G_law_named (hr.mono (by decide)) rfl (@pa_c _ _ _ _ _ (pe_gcall0 G_law_changes (hr.mono (by decide)) rfl) (@pa_c _ _ _ _ _ (pv 2) pa_nil rfl) rfl) (by decide) rfl)) pa_nil rfl)))) pss_nil) (@pss_cons _ _ _ _ _ (@ps_if _ _ _ _ _ _ _ _ (@pt_cmpR _ _ _ _ _ _ _ _ op_eq (pv 1) pe_int (nomark _)) (@pss_one _ _ _ (@ps_ret _ _ _ _ (pe_bm PySem.F.plainAttrs_str PySem.F.slot_str_join PySem.F.type_str_join (mt_join (K := K) rfl) pe_str (@pa_c _ _ _ _ _ (@pe_op _ _ _ _ _ _ _ _ op_cat (@pe_lst _ _ _ _ (@pa_c _ _ _ _ _ pe_str pa_nil rfl)) (@pe_gcallN _ _ _ _ _ _ _ _ _ _ G_law_named (hr.mono (by decide)) rfl (@pa_c _ _ _ _ _ (pe_gcall0 G_law_tests (hr.mono (by decide)) rfl) (@pa_c _ _ _ _ _ (pv 2) pa_nil rfl) rfl) (by decide) rfl)) pa_nil rfl)))) pss_nil) (@pss_cons _ _ _ _ _ (@ps_if _ _ _ _ _ _ _ _ (@PW.pt _ _ _ (@pw_and _ _ _ _ _ _ _ (@pt_cmpR _ _ _ _ _ _ _ _ op_eq (pv 3) pe_int (nomark _)) (@pw_and1 _ _ _ _ (@pt_cmpR _ _ _ _ _ _ _ _ op_lt (pv 2) pe_int (nomark _))))) (@pss_one _ _ _ (@ps_ret _ _ _ _ (@pe_op _ _ _ _ _ _ _ _ op_add_str pe_str (@pe_ix _ _ _ _ _ _ _ (ix_listK (K := K) rfl) (pe_gcall0 G_law_asks (hr.mono (by decide)) rfl) (pv 2) (fun _ _ => rfl))))) pss_nil) (@pss_one _ _ _ (@ps_ret _ _ _ _ (@pe_op _ _ _ _ _ _ _ _ op_add_str pe_str (@pe_callTyN _ _ _ _ _ _ _ _ _ call_str_int (by rfl) T.str_ bo_str (@pa_c _ _ _ _ _ (pv 0) pa_nil rfl) (by decide) (by decide) rfl))))))))))), ?_⟩
  wtm_at "tt"
  refine iteD (fun g => ?_) (fun g => ?_)
  ·wtm_at "tt"
   refine ⟨rfl, fun l1 G1 n1 hl1 s1 => ?_⟩
   wtm_at "tt"
   have hi : (n / 128).toNat < kindsS.length := by show _ < 6; omega
   refine Sx.ixL (v := .str (kindsS.getD (n / 128).toNat Str.empty)) hl1 ?_ ?_
   ·obtain ⟨m, hm⟩ := Int.eq_ofNat_of_zero_le (show 0 ≤ n / 128 by omega)
    rw [hm] at hi ⊢
    rw [Int.toNat_natCast] at hi ⊢
    rw [List.getD_eq_getElem?_getD, List.getElem?_eq_getElem hi]
    exact atI_nat (by rw [List.getElem?_map, List.getElem?_eq_getElem hi]; rfl)
   ·wtm_at "tt"
    refine Sx.newL (by show 2 ≤ sizeLine; decide) fun l2 G2 n2 hl2 s2 => ?_
    wtm_at "tt"
    refine Sx.ixL (v := .str (Str.ofString (if n / 64 % 2 = 1 then " far " else " "))) hl2 ?_ ?_
    ·have hx : n / 64 % 2 = 0 ∨ n / 64 % 2 = 1 := by omega
     rcases hx with g | g <;> rw [g] <;> rfl
    ·wtm_at "tt"
     have hkl := getD_in kinds_len (by decide) (n / 128).toNat
     have hfl : (Str.ofString (if n / 64 % 2 = 1 then " far " else " ")).length ≤ 5 := by split <;> decide +kernel
     have hnl := num_len' (show 0 ≤ n % 64 by omega) (show n % 64 < 10000 by omega)
     refine ⟨_, _, rfl, rfl, by rw [sizeLine_eq]; omega, ?_⟩
     wtm_at "tt"
     refine ⟨_, rfl, log_ok (by omega) (by omega), ?_⟩
     have hnl' : (Str.ofString (toString (n % 64))).length ≤ 4 := hnl
     refine ⟨_, _, rfl, rfl, by rw [sizeLine_eq]; rw [strLen_append]; omega, ?_⟩
     have e : lineS n = kindsS.getD (n / 128).toNat Str.empty ++ (if n / 64 % 2 = 1 then " far " else " ") ++ numS (n % 64) := by
      unfold lineS
      rw [if_pos g]
     have k2 := k _ (s1.trans s2)
     rw [e] at k2
     exact k2
  ·have bits : ∀ (nm : Str) (ts : List Str) (Gx G2 : Hp) (l1 l2 : Addr), Same H Gx → Same Gx G2 → G2 l1 = some (.lst [V.str nm]) → G2 l2 = some (.lst ((pick ts (n % 64)).map V.str)) → nm.length ≤ 6 → (∀ t ∈ ts, t.length ≤ 6) → ts.length = 6 →
     lineS n = Str.join " " (nm :: pick ts (n % 64)) → rCat (.ref l1) (.ref l2) G2 fun x H1 => rJoin K (.str " ") [x] H1 Q := by
    intro nm ts Gx G2 l1 l2 s1 s2 h1 h2 hn ht hl e
    have pl := pick_len ts (n % 64) 6
    refine Sx.catN h1 h2 (by rw [List.length_map, List.length_singleton]; have : (pick ts (n % 64)).length ≤ 6 := pl; omega) fun l3 G3 n3 h3 s3 => ?_
    refine Sx.joinL (ts := nm :: pick ts (n % 64)) h3 ?_ (by rw [← e]; exact k _ (s1.trans (s2.trans s3)))
    refine joinOk 6 (fun t h => ?_) ?_
    ·rcases List.mem_cons.mp h with rfl | h
     ·exact hn
     ·exact pick_in ht 6 (by omega) t h
    ·have : (pick ts (n % 64)).length ≤ 6 := pl
     rw [List.length_cons, l_bl, sizeLine_eq]
     omega
   have last : ∀ Gx, Same H Gx → ¬ n / 128 = 7 → (Gx = Gx) → True := fun _ _ _ _ => trivial
   wtm_at "tt"
   refine iteD (fun g7 => ?_) (fun g7 => ?_)
   ·wtm_at "tt"
    refine iteD (fun g0 => ?_) (fun g0 => ?_)
    ·wtm_at "tt"
     refine Sx.newL (by show 1 ≤ sizeLine; decide) fun l1 G1 n1 hl1 s1 => ?_
     wtm_at "tt"
     refine ⟨rfl, fun l2 G2 n2 hl2 s2 => ?_⟩
     wtm_at "tt"
     refine ⟨l2, changesS, n % 64, rfl, SqL.of hl2, rfl, fun l3 G3 n3 hl3 s3 => ?_⟩
     wtm_at "tt"
     exact bits "change" changesS G1 G3 l1 l3 s1 (s2.trans s3) ((s2.trans s3) _ _ hl1) hl3 (by decide +kernel) changes_len rfl (by unfold lineS; rw [if_neg g, if_pos ⟨g7, g0⟩])
    ·wtm_at "tt"
     refine iteD (fun _ => ?_) (fun z => absurd g7 z)
     wtm_at "tt"
     refine Sx.newL (by show 1 ≤ sizeLine; decide) fun l1 G1 n1 hl1 s1 => ?_
     wtm_at "tt"
     refine ⟨rfl, fun l2 G2 n2 hl2 s2 => ?_⟩
     wtm_at "tt"
     refine ⟨l2, testsS, n % 64, rfl, SqL.of hl2, rfl, fun l3 G3 n3 hl3 s3 => ?_⟩
     wtm_at "tt"
     exact bits "test" testsS G1 G3 l1 l3 s1 (s2.trans s3) ((s2.trans s3) _ _ hl1) hl3 (by decide +kernel) tests_len rfl (by unfold lineS; rw [if_neg g, if_neg fun z => g0 z.2, if_pos g7])
   ·wtm_at "tt"
    refine iteD (fun z => absurd z g7) (fun _ => ?_)
    have word : ¬ (n / 64 % 2 = 0 ∧ n % 64 < 9) → lineS n = "word " ++ numS n := fun b => by
     unfold lineS
     rw [if_neg g, if_neg fun z => g7 z.1, if_neg g7, if_neg b]
    have hnl := num_len' h0 (show n < 10000 by omega)
    have hnl' : (Str.ofString (toString n)).length ≤ 4 := hnl
    wtm_at "tt"
    refine iteD (fun g0 => ?_) (fun g0 => ?_)
    ·wtm_at "tt"
     refine iteD (fun g9 => ?_) (fun g9 => ?_)
     ·wtm_at "tt"
      refine ⟨rfl, fun l1 G1 n1 hl1 s1 => ?_⟩
      wtm_at "tt"
      have hi : (n % 64).toNat < asksS.length := by show _ < 9; omega
      refine Sx.ixL (v := .str (asksS.getD (n % 64).toNat Str.empty)) hl1 ?_ ?_
      ·obtain ⟨m, hm⟩ := Int.eq_ofNat_of_zero_le (show 0 ≤ n % 64 by omega)
       rw [hm] at hi ⊢
       rw [Int.toNat_natCast] at hi ⊢
       rw [List.getD_eq_getElem?_getD, List.getElem?_eq_getElem hi]
       exact atI_nat (by rw [List.getElem?_map, List.getElem?_eq_getElem hi]; rfl)
      ·have hal := getD_in asks_len (by decide) (n % 64).toNat
       refine ⟨_, _, rfl, rfl, by rw [sizeLine_eq]; rw [l_ask]; omega, ?_⟩
       have e : lineS n = "ask " ++ asksS.getD (n % 64).toNat Str.empty := by
        unfold lineS
        rw [if_neg g, if_neg fun z => g7 z.1, if_neg g7, if_pos ⟨g0, g9⟩]
       rw [← e]
       exact k _ s1
     ·wtm_at "tt"
      refine ⟨_, rfl, log_ok (by omega) (by omega), ?_⟩
      refine ⟨_, _, rfl, rfl, by rw [sizeLine_eq]; rw [l_word]; omega, ?_⟩
      have k2 := k _ (Same.refl _)
      rw [word fun z => g9 z.2] at k2
      exact k2
    ·wtm_at "tt"
     refine ⟨_, rfl, log_ok (by omega) (by omega), ?_⟩
     refine ⟨_, _, rfl, rfl, by rw [sizeLine_eq]; rw [l_word]; omega, ?_⟩
     have k2 := k _ (Same.refl _)
     rw [word fun z => g0 z.1] at k2
     exact k2
end
end Ll
namespace Lx
open PySem L2 Tx Lw Ls Sc
def nmX : Bad → Str
 | .noDeed => "NoDeed"
 | .twice => "Twice"
 | .noName => "NoName"
 | .bounds => "OutOfBounds"
 | .taken => "Taken"
def nmB : Bad → Str
 | .noDeed => "deed"
 | .twice => "twice"
 | .noName => "name"
 | .bounds => "bounds"
 | .taken => "taken"
structure TxtE (K : PySem.W.Frag) (mg : Str → Option Value) (CB : Bad → Addr) (CT CE : Addr) : Prop where
 m : ∀ b, mg (nmX b) = some (.ref (CB b))
 ex : ∀ b c, PySem.W.exmOne K (.ref (CB b)) (.ref (CB c)) = some (decide (b = c))
 ga : ∀ b, XG K (CB b) "line"
 mt : mg "BadText" = some (.ref CT)
 et : ∀ b, PySem.W.exmOne K (.ref (CB b)) (.ref CT) = some true
 mc : mg "CoreError" = some (.ref CE)
 ec : ∀ b, PySem.W.kitCls K (.ref (CB b)) (.ref CE) = some true ∧ (Value.ref (CB b) == Value.ref CE) = false
 ev : ∀ b, PySem.W.kitCls K (.ref (CB b)) (.type "ValueError") = some true
 v_ : mg "ValueError" = none
def cb (a1 a2 a3 a4 a5 : Addr) : Bad → Addr
 | .noDeed => a1
 | .twice => a2
 | .noName => a3
 | .bounds => a4
 | .taken => a5
def allB : List Bad := [.noDeed, .twice, .noName, .bounds, .taken]
theorem inB (b : Bad) : b ∈ allB := by cases b <;> decide
def xOne (K : PySem.W.Frag) (C CT CE fI : Addr) : Bool := (PySem.W.findIn K (.ref C) "__getattribute__" == some (some (.builtin "BaseException.__getattribute__"))) && ((PySem.W.findIn K (.ref C) "__getattr__" == some none) && ((PySem.W.mroIn K C (.type "BaseException") == some true) && (PySem.W.hasDictIn K C && ((PySem.W.findIn K (.ref C) "line" == some none) && (xIn K C fI &&
 ((PySem.W.exmOne K (.ref C) (.ref CT) == some true) && ((PySem.W.kitCls K (.ref C) (.ref CE) == some true) && ((PySem.W.kitCls K (.ref C) (.type "ValueError") == some true) && !(Value.ref C == Value.ref CE)))))))))
def xAll (K : PySem.W.Frag) (CB : Bad → Addr) (CT CE fI : Addr) : Bool := allB.all fun b => xOne K (CB b) CT CE fI && allB.all fun c => PySem.W.exmOne K (.ref (CB b)) (.ref (CB c)) == some (decide (b = c))
theorem mk_x {K : PySem.W.Frag} {mg : Str → Option Value} {h : Heap} {a1 a2 a3 a4 a5 CT CE fI : Addr} (X : K.In h) (G : h.Ns mainGlobals mg) (m1 : PySem.W.nsIn K mainGlobals "NoDeed" = some (some (.ref a1))) (m2 : PySem.W.nsIn K mainGlobals "Twice" = some (some (.ref a2))) (m3 : PySem.W.nsIn K mainGlobals "NoName" = some (some (.ref a3)))
  (m4 : PySem.W.nsIn K mainGlobals "OutOfBounds" = some (some (.ref a4))) (m5 : PySem.W.nsIn K mainGlobals "Taken" = some (some (.ref a5))) (mt : PySem.W.nsIn K mainGlobals "BadText" = some (some (.ref CT))) (mc : PySem.W.nsIn K mainGlobals "CoreError" = some (some (.ref CE))) (mv : PySem.W.nsIn K mainGlobals "ValueError" = some none)
  (_ : PySem.W.findIn K (.ref CT) "__init__" = some (some (.ref fI))) (ok : xAll K (cb a1 a2 a3 a4 a5) CT CE fI = true) : TxtE K mg (cb a1 a2 a3 a4 a5) CT CE ∧ ∀ b, xIn K (cb a1 a2 a3 a4 a5 b) fI = true := by
 unfold xAll at ok
 rw [List.all_eq_true] at ok
 have go : ∀ b, xOne K (cb a1 a2 a3 a4 a5 b) CT CE fI = true ∧ ∀ c, PySem.W.exmOne K (.ref (cb a1 a2 a3 a4 a5 b)) (.ref (cb a1 a2 a3 a4 a5 c)) = some (decide (b = c)) := fun b => by
  have := ok b (inB b)
  rw [Bool.and_eq_true, List.all_eq_true] at this
  exact ⟨this.1, fun c => beq_iff_eq.mp (this.2 c (inB c))⟩
 have one : ∀ b, PySem.W.findIn K (.ref (cb a1 a2 a3 a4 a5 b)) "__getattribute__" = some (some (.builtin "BaseException.__getattribute__")) ∧ PySem.W.findIn K (.ref (cb a1 a2 a3 a4 a5 b)) "__getattr__" = some none ∧ PySem.W.mroIn K (cb a1 a2 a3 a4 a5 b) (.type "BaseException") = some true ∧ PySem.W.hasDictIn K (cb a1 a2 a3 a4 a5 b) = true ∧ PySem.W.findIn K (.ref (cb a1 a2 a3 a4 a5 b)) "line" = some none ∧ xIn K (cb a1 a2 a3 a4 a5 b) fI = true ∧
   PySem.W.exmOne K (.ref (cb a1 a2 a3 a4 a5 b)) (.ref CT) = some true ∧ PySem.W.kitCls K (.ref (cb a1 a2 a3 a4 a5 b)) (.ref CE) = some true ∧ PySem.W.kitCls K (.ref (cb a1 a2 a3 a4 a5 b)) (.type "ValueError") = some true ∧ (Value.ref (cb a1 a2 a3 a4 a5 b) == Value.ref CE) = false := fun b => by
  have := (go b).1
  unfold xOne at this
  simp only [Bool.and_eq_true, beq_iff_eq, Bool.not_eq_true'] at this
  exact this
 refine ⟨⟨fun b => ?_, fun b c => (go b).2 c, fun b => ⟨(one b).1, (one b).2.1, (one b).2.2.1, (one b).2.2.2.1, (one b).2.2.2.2.1⟩, PySem.W.mg_of X G mt, fun b => (one b).2.2.2.2.2.2.1, PySem.W.mg_of X G mc, fun b => ⟨(one b).2.2.2.2.2.2.2.1, (one b).2.2.2.2.2.2.2.2.2⟩, fun b => (one b).2.2.2.2.2.2.2.2.1, PySem.W.mg_none_of X G mv⟩, fun b => (one b).2.2.2.2.2.1⟩
 cases b
 ·exact PySem.W.mg_of X G m1
 ·exact PySem.W.mg_of X G m2
 ·exact PySem.W.mg_of X G m3
 ·exact PySem.W.mg_of X G m4
 ·exact PySem.W.mg_of X G m5
def Ref (text : Str) (bd : Bad) (n : Int) : Prop := text.length ≤ 1000000 ∧ (Txt.split text "\n").length ≤ 20000 ∧ (∀ r ∈ Txt.split text "\n", r.length ≤ 2000) ∧ assembledR text = .error (bd, n) ∧ NumOk n
section
variable {P : Program} {w : World} {K : PySem.W.Frag} {mg : Str → Option Value} {base : Heap} {CB : Bad → Addr} {CT CE : Addr}
def sp_said : Sp := fun vs H Q _ => ∃ (text : Str) (bd : Bad) (n : Int), vs = [.str text] ∧ Ref text bd n ∧ ∀ t H', H t = none → H' t = some (.tup [.str (nmB bd), .int n]) → Same H H' → Q (.ref t) H'
def sp_base : Sp := fun vs H Q _ => ∃ (text : Str) (bd : Bad) (n : Int), vs = [.str text] ∧ Ref text bd n ∧ ∀ t H', H t = none → H' t = some (.tup [.bl true, .int n]) → Same H H' → Q (.ref t) H'
theorem same_x {H H1 : Hp} {a d : Addr} {o o' : HO} (s : Same H H1) (n1 : H1 a = none) (n2 : H1 d = none) (n3 : d ≠ a) : Same H (upd (upd H1 d o) a o') := (s.trans (Same.newH n2)).trans (Same.newH (by rw [upd_ne n3.symm]; exact n1))
theorem th_hit {Ci C a : Addr} {i : Nat} {ts : TS} {th : Addr → Addr → TS} {D : Ends} {σ : St} {H : Hp} (e : PySem.W.exmOne K (.ref C) (.ref Ci) = some true) (h : ts { nx := fun σ' H' => D.nx (σ'.set i none) H', rt := fun _ _ => False } (σ.set i (some (.ref a))) H) : thOn K Ci i ts th C a D σ H := ⟨true, e, by rw [if_pos rfl]; exact h⟩
theorem th_miss {Ci C a : Addr} {i : Nat} {ts : TS} {th : Addr → Addr → TS} {D : Ends} {σ : St} {H : Hp} (e : PySem.W.exmOne K (.ref C) (.ref Ci) = some false) (h : th C a D σ H) : thOn K Ci i ts th C a D σ H := ⟨false, e, by rw [if_neg Bool.false_ne_true]; exact h⟩
theorem ok_said (R : Raw K mg "_law_said" s_law_said) (TE : TxtE K mg CB CT CE) (E_assembled : GE P w K mg base "assembled" ["text"] 9 (sp_asmE CB)) : GF P w K mg base "_law_said" ["_law_text"] 10 sp_said := by
 refine GF.mk R sc_law_said (by wtm_at "1") (fun vs H Q E h => ?_) (fun f cdv A outer s H vs Q E hr h => ?_)
 ·obtain ⟨text, bd, n, rfl, _⟩ := h; rfl
 ·obtain ⟨text, bd, n, rfl, ⟨h1, h2, h3, e, hno⟩, k⟩ := h
  refine ⟨_, (@pss_cons _ _ _ _ _ (@ps_set _ _ (1) _ _ _ _ sc_law_said.nd rfl (Or.inl rfl) (@pe_tup _ _ _ _ _ (@pa_c _ _ _ _ _ pe_str (@pa_c _ _ _ _ _ pe_int pa_nil rfl) rfl)) rfl (by first | exact .inl rfl | exact .inr rfl | assumption)) (@pss_cons _ _ _ _ _ (ps_try E_assembled (hr.mono (by decide)) rfl rfl rfl (@pa_c _ _ _ _ _ (pv 0) pa_nil rfl) (ph_cons (K := K) (i := 2) rfl rfl (TE.m .noDeed) sc_law_said.nd rfl rfl (fun _ => (@pss_one _ _ _ (@ps_set _ _ (1) _ _ _ _ sc_law_said.nd rfl (Or.inl rfl) (@pe_tup _ _ _ _ _ (@pa_c _ _ _ _ _ pe_str (@pa_c _ _ _ _ _ (pe_xfld (K := K) rfl (pv 2) rfl) pa_nil rfl) rfl)) rfl (by first | exact .inl rfl | exact .inr rfl | assumption)))) (ph_cons (K := K) (i := 2) rfl rfl (TE.m .twice) sc_law_said.nd rfl rfl (fun _ => (@pss_one _ _ _ (@ps_set _ _ (1) _ _ _ _ sc_law_said.nd rfl (Or.inl rfl) (@pe_tup _ _ _ _ _ (@pa_c _ _ _ _ _ pe_str (@pa_c _ _ _ _ _ (pe_xfld (K := K) rfl (pv 2) rfl) pa_nil rfl) rfl)) rfl (by first | exact .inl rfl | exact .inr rfl | assumption)))) (ph_cons (K := K) (i := 2) rfl rfl (TE.m .noName) sc_law_said.nd rfl rfl (fun _ => (@pss_one _ _ _ (@ps_set _ _ (1) _ _ _ _ sc_law_said.nd rfl (Or.inl rfl) (@pe_tup _ _ _ _ _ (@pa_c _ _ _ _ _ pe_str (@pa_c _ _ _ _ _ (pe_xfld (K := K) rfl (pv 2) rfl) pa_nil rfl) rfl)) rfl (by first | exact .inl rfl | exact .inr rfl | assumption)))) (ph_cons (K := K) (i := 2) rfl rfl (TE.m .bounds) sc_law_said.nd rfl rfl (fun _ => (@pss_one _ _ _ (@ps_set _ _ (1) _ _ _ _ sc_law_said.nd rfl (Or.inl rfl) (@pe_tup _ _ _ _ _ (@pa_c _ _ _ _ _ pe_str (@pa_c _ _ _ _ _ (pe_xfld (K := K) rfl (pv 2) rfl) pa_nil rfl) rfl)) rfl (by first | exact .inl rfl | exact .inr rfl | assumption)))) (ph_cons (K := K) (i := 2) rfl rfl (TE.m .taken) sc_law_said.nd rfl rfl (fun _ => (@pss_one _ _ _ (@ps_set _ _ (1) _ _ _ _ sc_law_said.nd rfl (Or.inl rfl) (@pe_tup _ _ _ _ _ (@pa_c _ _ _ _ _ pe_str (@pa_c _ _ _ _ _ (pe_xfld (K := K) rfl (pv 2) rfl) pa_nil rfl) rfl)) rfl (by first | exact .inl rfl | exact .inr rfl | assumption)))) ph_nil)))))) (@pss_one _ _ _ (@ps_ret _ _ _ _ (pv 1))))), ?_⟩
  wtm_at "xx"
  refine ⟨by show 2 ≤ sizeLine; decide, fun t0 nt0 => ?_⟩
  wtm_at "xx"
  generalize hH : upd H t0 (.tup [.str "none", .int 0]) = H0
  have s0 : Same H H0 := by rw [← hH]; exact Same.newH nt0
  unfold sTry
  wtm_at "xx"
  refine ⟨text, bd, n, rfl, h1, h2, h3, e, hno, fun H1 a d s1 n1 n2 n3 => ⟨a, CB bd, d, rfl, upd_same, ?_⟩⟩
  have s2 : Same H (upd (upd H1 d (.xd [("line", .int n)])) a (excH a (CB bd) d)) := same_x (s0.trans s1) n1 n2 n3
  have ea : (upd (upd H1 d (.xd [("line", .int n)])) a (excH a (CB bd) d)) a = some (excH a (CB bd) d) := upd_same
  have ed : (upd (upd H1 d (.xd [("line", .int n)])) a (excH a (CB bd) d)) d = some (.xd [("line", .int n)]) := by rw [upd_ne n3, upd_same]
  generalize upd (upd H1 d (.xd [("line", .int n)])) a (excH a (CB bd) d) = H2 at s2 ea ed ⊢
  have fin : ∀ t1, H2 t1 = none → Q (.ref t1) (upd H2 t1 (.tup [.str (nmB bd), .int n])) := fun t1 n1 => k t1 _ (s2.free n1) upd_same (s2.trans (Same.newH n1))
  have hit := TE.ex bd bd
  rw [decide_eq_true rfl] at hit
  have miss : ∀ c, bd ≠ c → PySem.W.exmOne K (.ref (CB bd)) (.ref (CB c)) = some false := fun c z => by rw [TE.ex bd c, decide_eq_false z]
  have two : 2 ≤ sizeLine := by decide
  cases bd with
  | noDeed => exact th_hit hit ⟨.ref a, rfl, a, _, d, _, .int n, rfl, ea, ed, TE.ga _, look_hit, two, fun t1 n1 => ⟨.ref t1, rfl, fin t1 n1⟩⟩
  | twice => exact th_miss (miss _ (by decide)) (th_hit hit ⟨.ref a, rfl, a, _, d, _, .int n, rfl, ea, ed, TE.ga _, look_hit, two, fun t1 n1 => ⟨.ref t1, rfl, fin t1 n1⟩⟩)
  | noName => exact th_miss (miss _ (by decide)) (th_miss (miss _ (by decide)) (th_hit hit ⟨.ref a, rfl, a, _, d, _, .int n, rfl, ea, ed, TE.ga _, look_hit, two, fun t1 n1 => ⟨.ref t1, rfl, fin t1 n1⟩⟩))
  | bounds => exact th_miss (miss _ (by decide)) (th_miss (miss _ (by decide)) (th_miss (miss _ (by decide)) (th_hit hit ⟨.ref a, rfl, a, _, d, _, .int n, rfl, ea, ed, TE.ga _, look_hit, two, fun t1 n1 => ⟨.ref t1, rfl, fin t1 n1⟩⟩)))
  | taken => exact th_miss (miss _ (by decide)) (th_miss (miss _ (by decide)) (th_miss (miss _ (by decide)) (th_miss (miss _ (by decide)) (th_hit hit ⟨.ref a, rfl, a, _, d, _, .int n, rfl, ea, ed, TE.ga _, look_hit, two, fun t1 n1 => ⟨.ref t1, rfl, fin t1 n1⟩⟩))))
theorem ok_base (R : Raw K mg "_law_by_base" s_law_by_base) (T : TxtL K mg) (TE : TxtE K mg CB CT CE) (E_assembled : GE P w K mg base "assembled" ["text"] 9 (sp_asmE CB)) : GF P w K mg base "_law_by_base" ["_law_text"] 10 sp_base := by
 refine GF.mk R sc_law_by_base (by wtm_at "1") (fun vs H Q E h => ?_) (fun f cdv A outer s H vs Q E hr h => ?_)
 ·obtain ⟨text, bd, n, rfl, _⟩ := h; rfl
 ·obtain ⟨text, bd, n, rfl, ⟨h1, h2, h3, e, hno⟩, k⟩ := h
  refine ⟨_, (@pss_cons _ _ _ _ _ (@ps_set _ _ (1) _ _ _ _ sc_law_by_base.nd rfl (Or.inl rfl) (@pe_tup _ _ _ _ _ (@pa_c _ _ _ _ _ pe_bl (@pa_c _ _ _ _ _ pe_int pa_nil rfl) rfl)) rfl (by first | exact .inl rfl | exact .inr rfl | assumption)) (@pss_cons _ _ _ _ _ (ps_try E_assembled (hr.mono (by decide)) rfl rfl rfl (@pa_c _ _ _ _ _ (pv 0) pa_nil rfl) (ph_cons (K := K) (i := 2) rfl rfl TE.mt sc_law_by_base.nd rfl rfl (fun _ => (@pss_one _ _ _ (@ps_set _ _ (1) _ _ _ _ sc_law_by_base.nd rfl (Or.inl rfl) (@pe_tup _ _ _ _ _ (@pa_c _ _ _ _ _ (@pe_and _ _ _ _ _ _ _ (@pe_callBN _ _ _ _ _ _ _ _ _ (call_isX (K := K) rfl) (by rfl) T.isinstance_ bo_isinstance (@pa_c _ _ _ _ _ (pv 2) (@pa_c _ _ _ _ _ (@pe_glob _ _ (.ref CE) _ _ rfl TE.mc rfl (by decide)) pa_nil rfl) rfl) (by decide) (by decide) rfl) (@pe_one _ _ _ _ _ (@pe_callBN _ _ _ _ _ _ _ _ _ (call_isX (K := K) rfl) (by rfl) T.isinstance_ bo_isinstance (@pa_c _ _ _ _ _ (pv 2) (@pa_c _ _ _ _ _ (@pe_bltn _ _ (.ty "ValueError") _ _ rfl TE.v_ bo_ValueError rfl (by decide) (by decide)) pa_nil rfl) rfl) (by decide) (by decide) rfl))) (@pa_c _ _ _ _ _ (pe_xfld (K := K) rfl (pv 2) rfl) pa_nil rfl) rfl)) rfl (by first | exact .inl rfl | exact .inr rfl | assumption)))) ph_nil)) (@pss_one _ _ _ (@ps_ret _ _ _ _ (pv 1))))), ?_⟩
  wtm_at "xx"
  refine ⟨by show 2 ≤ sizeLine; decide, fun t0 nt0 => ?_⟩
  wtm_at "xx"
  generalize hH : upd H t0 (.tup [.bl false, .int 0]) = H0
  have s0 : Same H H0 := by rw [← hH]; exact Same.newH nt0
  unfold sTry
  wtm_at "xx"
  refine ⟨text, bd, n, rfl, h1, h2, h3, e, hno, fun H1 a d s1 n1 n2 n3 => ⟨a, CB bd, d, rfl, upd_same, ?_⟩⟩
  have s2 : Same H (upd (upd H1 d (.xd [("line", .int n)])) a (excH a (CB bd) d)) := same_x (s0.trans s1) n1 n2 n3
  have ea : (upd (upd H1 d (.xd [("line", .int n)])) a (excH a (CB bd) d)) a = some (excH a (CB bd) d) := upd_same
  have ed : (upd (upd H1 d (.xd [("line", .int n)])) a (excH a (CB bd) d)) d = some (.xd [("line", .int n)]) := by rw [upd_ne n3, upd_same]
  generalize upd (upd H1 d (.xd [("line", .int n)])) a (excH a (CB bd) d) = H2 at s2 ea ed ⊢
  have fin : ∀ t1, H2 t1 = none → Q (.ref t1) (upd H2 t1 (.tup [.bl true, .int n])) := fun t1 n1 => k t1 _ (s2.free n1) upd_same (s2.trans (Same.newH n1))
  have two : 2 ≤ sizeLine := by decide
  refine th_hit (TE.et bd) ?_
  wtm_at "xx"
  refine ⟨a, _, d, _, _, .ref CE, rfl, ea, ed, .inl ⟨CE, rfl, rfl⟩, (TE.ec bd).1, (TE.ec bd).2, ?_⟩
  refine ⟨true, rfl, ?_⟩
  rw [if_pos rfl]
  wtm_at "xx"
  refine ⟨a, _, d, _, _, .type "ValueError", rfl, ea, ed, .inr ⟨_, rfl, rfl⟩, TE.ev bd, rfl, ?_⟩
  exact ⟨.ref a, rfl, a, _, d, _, .int n, rfl, ea, ed, TE.ga _, look_hit, two, fun t1 n1 => ⟨.ref t1, rfl, fin t1 n1⟩⟩
theorem eq_si {H : Hp} {Q : VK} {t t' : Addr} {bd : Bad} {n : Int} (h : H t = some (.tup [.str (nmB bd), .int n])) (h' : H t' = some (.tup [.str (nmB bd), .int n])) (q : Q (.bl true) H) : rEqD K (.ref t) (.ref t') H Q := by
 have hs : PyData.canLay0 (.str (nmB bd)) = true := by cases bd <;> decide +kernel
 have hS : PySem.SeqAt.shaped (.tuple [.str (nmB bd), .int n]) = true := by
  unfold PySem.SeqAt.shaped
  rw [Bool.and_eq_true]
  exact ⟨by show (PyData.canLay0 (.str (nmB bd)) && (true && true)) = true; rw [hs]; rfl, rfl⟩
 exact ⟨.tuple [.str (nmB bd), .int n], .tuple [.str (nmB bd), .int n], .tup (SqT.of h) (.cons (.str _) (.cons (.int n) .nil)), .tup (SqT.of h') (.cons (.str _) (.cons (.int n) .nil)), hS, hS, rfl, by rw [PyProof.Rows.same_refl]; exact q⟩
theorem eq_bi {H : Hp} {Q : VK} {t t' : Addr} {x : Bool} {n : Int} (h : H t = some (.tup [.bl x, .int n])) (h' : H t' = some (.tup [.bl x, .int n])) (q : Q (.bl true) H) : rEqD K (.ref t) (.ref t') H Q :=
 ⟨.tuple [.bool x, .int n], .tuple [.bool x, .int n], .tup (SqT.of h) (.cons (.bl x) (.cons (.int n) .nil)), .tup (SqT.of h') (.cons (.bl x) (.cons (.int n) .nil)), rfl, rfl, rfl, by rw [PyProof.Rows.same_refl]; exact q⟩
def sp_ref : Sp := fun vs H Q _ => ∃ (text : Str) (bd : Bad) (n : Int) (t : Addr), vs = [.str text, .ref t] ∧ Ref text bd n ∧ H t = some (.tup [.str (nmB bd), .int n]) ∧ ∀ H', Same H H' → Q (.bl true) H'
theorem ok_refused (R : Raw K mg "_law_refused" s_law_refused) (T : TxtL K mg) (G_law_said : GF P w K mg base "_law_said" ["_law_text"] 10 sp_said) (G_law_by_base : GF P w K mg base "_law_by_base" ["_law_text"] 10 sp_base) : GF P w K mg base "_law_refused" ["_law_text", "_law_due"] 11 sp_ref := by
 refine GF.mk R sc_law_refused (by wtm_at "2") (fun vs H Q E h => ?_) (fun f cdv A outer s H vs Q E hr h => ?_)
 ·obtain ⟨text, bd, n, t, rfl, _⟩ := h; rfl
 ·obtain ⟨text, bd, n, t, rfl, hR, ht, k⟩ := h
  refine ⟨_, (@pss_cons _ _ _ _ _ (@ps_set _ _ (2) _ _ _ _ sc_law_refused.nd rfl (Or.inl rfl) (@pe_gcallN _ _ _ _ _ _ _ _ _ _ G_law_said (hr.mono (by decide)) rfl (@pa_c _ _ _ _ _ (pv 0) pa_nil rfl) (by decide) rfl) rfl (by first | exact .inl rfl | exact .inr rfl | assumption)) (@pss_cons _ _ _ _ _ (@ps_if _ _ _ _ _ _ _ _ (@PW.pt _ _ _ (@pw_or _ _ _ _ _ _ _ (@pt_not _ _ _ _ (@pt_val _ _ _ (@pe_callBN _ _ _ _ _ _ _ _ _ (call_isinstN (K := K) rfl) (by rfl) T.isinstance_ bo_isinstance (@pa_c _ _ _ _ _ (@pe_ix _ _ _ _ _ _ _ (ix_tupK (K := K) rfl) (pv 2) pe_int (fun _ _ => rfl)) (@pa_c _ _ _ _ _ (@pe_bltn _ _ (.ty "int") _ _ rfl T.int_ bo_int rfl (by decide) (by decide)) pa_nil rfl) rfl) (by decide) (by decide) rfl) (fun _ => rfl))) (@pw_or1 _ _ _ _ (@pt_val _ _ _ (@pe_callBN _ _ _ _ _ _ _ _ _ (call_isinstN (K := K) rfl) (by rfl) T.isinstance_ bo_isinstance (@pa_c _ _ _ _ _ (@pe_ix _ _ _ _ _ _ _ (ix_tupK (K := K) rfl) (pv 2) pe_int (fun _ _ => rfl)) (@pa_c _ _ _ _ _ (@pe_bltn _ _ (.ty "bool") _ _ rfl T.bool_ bo_bool rfl (by decide) (by decide)) pa_nil rfl) rfl) (by decide) (by decide) rfl) (fun _ => rfl))))) (@pss_one _ _ _ (@ps_ret _ _ _ _ pe_bl)) pss_nil) (@pss_one _ _ _ (@ps_ret _ _ _ _ (@pe_and _ _ _ _ _ _ _ (@pe_cmpR _ _ _ _ _ _ _ _ (op_eqDK (K := K) rfl (hu64 hr)) (pv 2) (pv 1) (nomark _)) (@pe_one _ _ _ _ _ (@pe_cmpR _ _ _ _ _ _ _ _ (op_eqDK (K := K) rfl (hu64 hr)) (@pe_gcallN _ _ _ _ _ _ _ _ _ _ G_law_by_base (hr.mono (by decide)) rfl (@pa_c _ _ _ _ _ (pv 0) pa_nil rfl) (by decide) rfl) (@pe_tup _ _ _ _ _ (@pa_c _ _ _ _ _ pe_bl (@pa_c _ _ _ _ _ (@pe_ix _ _ _ _ _ _ _ (ix_tupK (K := K) rfl) (pv 1) pe_int (fun _ _ => rfl)) pa_nil rfl) rfl)) (nomark _)))))))), ?_⟩
  wtm_at "xx"
  refine ⟨text, bd, n, rfl, hR, fun t1 H1 n1 h1 s1 => ?_⟩
  wtm_at "xx"
  have ix1 : ∀ {H' : Hp} {Q' : VK}, Same H1 H' → Q' (.int n) H' → rIxT K (.ref t1) (.int 1) H' Q' := fun s' q => ⟨t1, _, ((1 : Nat) : Int), .int n, rfl, rfl, SqT.of (s' _ _ h1), atI_nat rfl, q⟩
  refine ix1 (Same.refl _) ?_
  wtm_at "xx"
  refine Sx.isT (.int n) T.kii ?_
  wtm_at "xx"
  refine ix1 (Same.refl _) ?_
  wtm_at "xx"
  refine Sx.isT (.int n) T.kib ?_
  refine ⟨false, rfl, ?_⟩
  rw [if_neg Bool.false_ne_true]
  wtm_at "xx"
  refine eq_si h1 (s1 _ _ ht) ?_
  wtm_at "xx"
  refine ⟨text, bd, n, rfl, hR, fun t2 H2 n2 h2 s2 => ?_⟩
  wtm_at "xx"
  refine ⟨t, _, ((1 : Nat) : Int), .int n, rfl, rfl, SqT.of (s2 _ _ (s1 _ _ ht)), atI_nat rfl, ?_⟩
  wtm_at "xx"
  refine ⟨by show 2 ≤ sizeLine; decide, fun t3 n3 => ?_⟩
  wtm_at "xx"
  have s3 : Same H2 (upd H2 t3 (.tup [.bl true, .int n])) := Same.newH n3
  exact eq_bi (s3 _ _ h2) upd_same (k _ ((s1.trans s2).trans s3))
end
end Lx
namespace K34
open PySem L2 Tx Lw Ls Sc Lx
def sp_law (K : PySem.W.Frag) : Sp := fun vs H Q _ => ∃ (a : Addr) (ns : List Int), vs = [.ref a] ∧ SqL K H a (ns.map V.int) ∧ ∀ H', Q (.bl true) H'
def m1 : List Str := ["add", "add far", "add 5 6", "Add 5", "ask", "ask hears", "ask hear say", "change zero zero"]
def m2 : List Str := ["test flat flat", "change minus", "test turn", "word", "word 1 2", "place", "place 1 2"]
def m3 : List Str := ["add 5+", "add +5", "add 5++6", "add 12345", "add =", "add = 5", "x :", "X: add 5"]
def m4 : List Str := ["9a: add 1", "add: add 5", "toolongna: add 1", "add toolongna", "jump 5", "far 5", "=5"]
def m5 : List Str := ["a: b: add 1", "add hear", "add far far 5", "add -1", "word =5", "place =5", ": add 1"]
def m6 : List Str := ["word here+", "add 1 far", "ask 1", "add 5 :", "add word", "here: add 1", "add 1:"]
def menuS : List Str := m1 ++ m2 ++ m3 ++ m4 ++ m5 ++ m6
def signS : Str := "!#$&'()*,./<>?\x40[]^_`{|}~ABCDEFGHIJKLMNOPQRSTUVWXYZ\t"
def baseS : List Str := ["add 5", "x", "ask say", "word 7"]
theorem menu_len : menuS.length = 44 := by decide +kernel
theorem sign_len : signS.length = 51 := by decide +kernel
structure BadRow (t : Str) : Prop where
 bad : ∀ n, readLine t n = .error (.noDeed, n)
 nl : 10 ∉ cs t
 len : t.length ≤ 40
theorem menu_all (n : Int) : (menuS.map fun t => readLine t n) = menuS.map fun _ => (.error (.noDeed, n) : Sc.R Ln) := by kernel_rfl
theorem menu_bad {t : Str} (h : t ∈ menuS) : BadRow t :=
 ⟨fun n => List.map_inj_left.mp (menu_all n) t h, (show ∀ t ∈ menuS, 10 ∉ cs t by decide +kernel) t h, (show ∀ t ∈ menuS, t.length ≤ 40 by decide +kernel) t h⟩
theorem sign_all (n : Int) : ((cs signS).map fun c => baseS.map fun b => readLine (b ++ oc [c]) n) = (cs signS).map fun _ => baseS.map fun _ => (.error (.noDeed, n) : Sc.R Ln) := by kernel_rfl
theorem sign_bad {b : Str} {c : Nat} (hb : b ∈ baseS) (hc : c ∈ cs signS) : BadRow (b ++ oc [c]) :=
 ⟨fun n => List.map_inj_left.mp (List.map_inj_left.mp (sign_all n) c hc) b hb, (show ∀ c ∈ cs signS, ∀ b ∈ baseS, 10 ∉ cs (b ++ oc [c]) by decide +kernel) c hc b hb, (show ∀ c ∈ cs signS, ∀ b ∈ baseS, (b ++ oc [c]).length ≤ 40 by decide +kernel) c hc b hb⟩
def Mixed (rows : List Str) (k : Nat) : Prop := ∃ pre bad post, rows = pre ++ bad :: post ∧ pre.length = k ∧ (∀ r ∈ pre, GoodRow r) ∧ BadRow bad ∧ ∀ r ∈ post, 10 ∉ cs r ∧ r.length ≤ 60
theorem mix_first {good : List Str} {bad : Str} {k : Nat} (h : ∀ r ∈ good, GoodRow r) (hb : BadRow bad) (hk : k ≤ good.length) : Mixed (good.take k ++ bad :: good.drop k) k :=
 ⟨good.take k, bad, good.drop k, rfl, by rw [List.length_take]; omega, fun r hr => h r (List.mem_of_mem_take hr), hb, fun r hr => ⟨(h r (List.mem_of_mem_drop hr)).nl, (h r (List.mem_of_mem_drop hr)).len⟩⟩
theorem mix_more {rows : List Str} {bad : Str} {k o : Nat} (h : Mixed rows k) (hb : BadRow bad) (ho : o ≤ rows.length) : Mixed (rows.take o ++ bad :: rows.drop o) (if o ≤ k then o else k) := by
 obtain ⟨pre, b1, post, rfl, rfl, hp, h1, hq⟩ := h
 have hall : ∀ r ∈ pre ++ b1 :: post, 10 ∉ cs r ∧ r.length ≤ 60 := fun r hr => by
  rcases List.mem_append.mp hr with z | z
  ·exact ⟨(hp r z).nl, (hp r z).len⟩
  ·rcases List.mem_cons.mp z with rfl | z
   ·exact ⟨h1.nl, Nat.le_trans h1.len (by decide)⟩
   ·exact hq r z
 by_cases g : o ≤ pre.length
 ·rw [if_pos g]
  refine ⟨(pre ++ b1 :: post).take o, bad, (pre ++ b1 :: post).drop o, rfl, by rw [List.length_take]; omega, fun r hr => ?_, hb, fun r hr => hall r (List.mem_of_mem_drop hr)⟩
  rw [List.take_append_of_le_length g] at hr
  exact hp r (List.mem_of_mem_take hr)
 ·rw [if_neg g]
  obtain ⟨d, rfl⟩ : ∃ d, o = pre.length + (d + 1) := ⟨o - pre.length - 1, by omega⟩
  refine ⟨pre, b1, post.take d ++ bad :: post.drop d, ?_, rfl, hp, h1, fun r hr => ?_⟩
  ·rw [List.take_length_add_append, List.drop_length_add_append, List.take_succ_cons, List.drop_succ_cons]
   simp
  ·rcases List.mem_append.mp hr with z | z
   ·exact hq r (List.mem_of_mem_take z)
   ·rcases List.mem_cons.mp z with rfl | z
    ·exact ⟨hb.nl, Nat.le_trans hb.len (by decide)⟩
    ·exact hq r (List.mem_of_mem_drop z)
theorem mix_ref {rows : List Str} {k : Nat} (h : Mixed rows k) (hl : rows.length ≤ 50) : Ref (Str.join "\n" rows) .noDeed ((k : Nat) + 1) := by
 obtain ⟨pre, b1, post, rfl, rfl, hp, h1, hq⟩ := h
 have h60 : ∀ r ∈ pre ++ b1 :: post, r.length ≤ 60 := fun r hr => by
  rcases List.mem_append.mp hr with z | z
  ·exact (hp r z).len
  ·rcases List.mem_cons.mp z with rfl | z
   ·exact Nat.le_trans h1.len (by decide)
   ·exact (hq r z).2
 obtain ⟨f1, f2, f3⟩ := text_fit (m := 60) (by omega) (by decide) h60
 have hpl : pre.length ≤ 50 := by rw [List.length_append] at hl; omega
 refine ⟨f1, f2, f3, first_bad hp (by omega) (fun n acc => ?_) (fun r hr => ?_), numOk (by omega) (by omega)⟩
 ·unfold goFirst
  rw [h1.bad]
 ·rcases List.mem_cons.mp hr with rfl | z
  ·exact h1.nl
  ·exact (hq r z).1
section
variable {P : Program} {w : World} {K : PySem.W.Frag} {mg : Str → Option Value} {base : Heap}
def sp_bad : Sp := fun vs H Q _ => ∃ c : Int, vs = [.int c] ∧ ∀ t H', BadRow t → Same H H' → Q (.str t) H'
theorem ok_menu (R : Raw K mg "_law_menu" s_law_menu) (T : TxtL K mg) : GF P w K mg base "_law_menu" ["_law_cell_here"] 1 sp_bad := by
 refine GF.mk R sc_law_menu (by wtm_at "1") (fun vs H Q E h => ?_) (fun f cdv A outer s H vs Q E hr h => ?_)
 ·obtain ⟨c, rfl, _⟩ := h; rfl
 ·obtain ⟨c, rfl, k⟩ := h
  have hz := sz
  refine ⟨_, (@pss_cons _ _ _ _ _ (@ps_set _ _ (1) _ _ _ _ sc_law_menu.nd rfl (Or.inl rfl) (@pe_lst _ _ _ _ (@pa_c _ _ _ _ _ pe_str (@pa_c _ _ _ _ _ pe_str (@pa_c _ _ _ _ _ pe_str (@pa_c _ _ _ _ _ pe_str (@pa_c _ _ _ _ _ pe_str (@pa_c _ _ _ _ _ pe_str (@pa_c _ _ _ _ _ pe_str (@pa_c _ _ _ _ _ pe_str pa_nil rfl) rfl) rfl) rfl) rfl) rfl) rfl) rfl)) rfl (by first | exact .inl rfl | exact .inr rfl | assumption)) (@pss_cons _ _ _ _ _ (@ps_set _ _ (1) _ _ _ _ sc_law_menu.nd rfl (Or.inl rfl) (@pe_op _ _ _ _ _ _ _ _ op_cat (pv 1) (@pe_lst _ _ _ _ (@pa_c _ _ _ _ _ pe_str (@pa_c _ _ _ _ _ pe_str (@pa_c _ _ _ _ _ pe_str (@pa_c _ _ _ _ _ pe_str (@pa_c _ _ _ _ _ pe_str (@pa_c _ _ _ _ _ pe_str (@pa_c _ _ _ _ _ pe_str pa_nil rfl) rfl) rfl) rfl) rfl) rfl) rfl))) rfl (by first | exact .inl rfl | exact .inr rfl | assumption)) (@pss_cons _ _ _ _ _ (@ps_set _ _ (1) _ _ _ _ sc_law_menu.nd rfl (Or.inl rfl) (@pe_op _ _ _ _ _ _ _ _ op_cat (pv 1) (@pe_lst _ _ _ _ (@pa_c _ _ _ _ _ pe_str (@pa_c _ _ _ _ _ pe_str (@pa_c _ _ _ _ _ pe_str (@pa_c _ _ _ _ _ pe_str (@pa_c _ _ _ _ _ pe_str (@pa_c _ _ _ _ _ pe_str (@pa_c _ _ _ _ _ pe_str (@pa_c _ _ _ _ _ pe_str pa_nil rfl) rfl) rfl) rfl) rfl) rfl) rfl) rfl))) rfl (by first | exact .inl rfl | exact .inr rfl | assumption)) (@pss_cons _ _ _ _ _ (@ps_set _ _ (1) _ _ _ _ sc_law_menu.nd rfl (Or.inl rfl) (@pe_op _ _ _ _ _ _ _ _ op_cat (pv 1) (@pe_lst _ _ _ _ (@pa_c _ _ _ _ _ pe_str (@pa_c _ _ _ _ _ pe_str (@pa_c _ _ _ _ _ pe_str (@pa_c _ _ _ _ _ pe_str (@pa_c _ _ _ _ _ pe_str (@pa_c _ _ _ _ _ pe_str (@pa_c _ _ _ _ _ pe_str pa_nil rfl) rfl) rfl) rfl) rfl) rfl) rfl))) rfl (by first | exact .inl rfl | exact .inr rfl | assumption)) (@pss_cons _ _ _ _ _ (@ps_set _ _ (1) _ _ _ _ sc_law_menu.nd rfl (Or.inl rfl) (@pe_op _ _ _ _ _ _ _ _ op_cat (pv 1) (@pe_lst _ _ _ _ (@pa_c _ _ _ _ _ pe_str (@pa_c _ _ _ _ _ pe_str (@pa_c _ _ _ _ _ pe_str (@pa_c _ _ _ _ _ pe_str (@pa_c _ _ _ _ _ pe_str (@pa_c _ _ _ _ _ pe_str (@pa_c _ _ _ _ _ pe_str pa_nil rfl) rfl) rfl) rfl) rfl) rfl) rfl))) rfl (by first | exact .inl rfl | exact .inr rfl | assumption)) (@pss_cons _ _ _ _ _ (@ps_set _ _ (1) _ _ _ _ sc_law_menu.nd rfl (Or.inl rfl) (@pe_op _ _ _ _ _ _ _ _ op_cat (pv 1) (@pe_lst _ _ _ _ (@pa_c _ _ _ _ _ pe_str (@pa_c _ _ _ _ _ pe_str (@pa_c _ _ _ _ _ pe_str (@pa_c _ _ _ _ _ pe_str (@pa_c _ _ _ _ _ pe_str (@pa_c _ _ _ _ _ pe_str (@pa_c _ _ _ _ _ pe_str pa_nil rfl) rfl) rfl) rfl) rfl) rfl) rfl))) rfl (by first | exact .inl rfl | exact .inr rfl | assumption)) (@pss_one _ _ _ (@ps_ret _ _ _ _ (@pe_ix _ _ _ _ _ _ _ (ix_listK (K := K) rfl) (pv 1) (@pe_op _ _ _ _ _ _ _ _ op_mod (pv 0) (@pe_callBN _ _ _ _ _ _ _ _ _ (call_len_seqN (K := K) rfl) (by rfl) T.len_ bo_len (@pa_c _ _ _ _ _ (pv 1) pa_nil rfl) (by decide) (by decide) rfl)) (fun _ _ => rfl)))))))))), ?_⟩
  wtm_at "ll"
  refine Sx.newL (by show 8 ≤ sizeLine; decide) fun l1 G1 n1 h1 s1 => ?_
  change G1 l1 = some (.lst (m1.map V.str)) at h1
  wtm_at "ll"
  refine Sx.newL (by show 7 ≤ sizeLine; decide) fun b2 F2 o2 g2 r2 => ?_
  change F2 b2 = some (.lst (m2.map V.str)) at g2
  wtm_at "ll"
  refine Sx.catN (r2 _ _ h1) g2 (by show 15 ≤ sizeLine; decide) fun l2 G2 n2 h2 s2 => ?_
  rw [← List.map_append] at h2
  wtm_at "ll"
  refine Sx.newL (by show 8 ≤ sizeLine; decide) fun b3 F3 o3 g3 r3 => ?_
  change F3 b3 = some (.lst (m3.map V.str)) at g3
  wtm_at "ll"
  refine Sx.catN (r3 _ _ h2) g3 (by show 23 ≤ sizeLine; decide) fun l3 G3 n3 h3 s3 => ?_
  rw [← List.map_append] at h3
  wtm_at "ll"
  refine Sx.newL (by show 7 ≤ sizeLine; decide) fun b4 F4 o4 g4 r4 => ?_
  change F4 b4 = some (.lst (m4.map V.str)) at g4
  wtm_at "ll"
  refine Sx.catN (r4 _ _ h3) g4 (by show 30 ≤ sizeLine; decide) fun l4 G4 n4 h4 s4 => ?_
  rw [← List.map_append] at h4
  wtm_at "ll"
  refine Sx.newL (by show 7 ≤ sizeLine; decide) fun b5 F5 o5 g5 r5 => ?_
  change F5 b5 = some (.lst (m5.map V.str)) at g5
  wtm_at "ll"
  refine Sx.catN (r5 _ _ h4) g5 (by show 37 ≤ sizeLine; decide) fun l5 G5 n5 h5 s5 => ?_
  rw [← List.map_append] at h5
  wtm_at "ll"
  refine Sx.newL (by show 7 ≤ sizeLine; decide) fun b6 F6 o6 g6 r6 => ?_
  change F6 b6 = some (.lst (m6.map V.str)) at g6
  wtm_at "ll"
  refine Sx.catN (r6 _ _ h5) g6 (by show 44 ≤ sizeLine; decide) fun l6 G6 n6 h6 s6 => ?_
  rw [← List.map_append] at h6
  have h7 : G6 l6 = some (.lst (menuS.map V.str)) := h6
  clear h6
  wtm_at "ll"
  refine ⟨l6, _, rfl, .inl (SqL.of h7), ?_⟩
  rw [List.length_map, menu_len]
  wtm_at "ll"
  have hq : 0 ≤ c % 44 ∧ c % 44 < 44 := by omega
  have hc : ((44 : Nat) : Int) = 44 := rfl
  rw [hc]
  generalize c % 44 = q at hq ⊢
  obtain ⟨q, rfl⟩ := num_nat hq.1
  have hi : menuS[q]? = some (menuS[q]'(by rw [menu_len]; omega)) := List.getElem?_eq_getElem _
  refine Sx.ixL h7 (atI_nat (by rw [List.getElem?_map, hi]; rfl)) ?_
  wtm_at "ll"
  exact k _ _ (menu_bad (List.mem_of_getElem? hi)) (s1.trans (r2.trans (s2.trans (r3.trans (s3.trans (r4.trans (s4.trans (r5.trans (s5.trans (r6.trans s6))))))))))
theorem ok_bad (R : Raw K mg "_law_bad" s_law_bad) (T : TxtL K mg) (G_law_menu : GF P w K mg base "_law_menu" ["_law_cell_here"] 1 sp_bad) : GF P w K mg base "_law_bad" ["_law_cell_here"] 2 sp_bad := by
 refine GF.mk R sc_law_bad (by wtm_at "1") (fun vs H Q E h => ?_) (fun f cdv A outer s H vs Q E hr h => ?_)
 ·obtain ⟨c, rfl, _⟩ := h; rfl
 ·obtain ⟨c, rfl, k⟩ := h
  have hz := sz
  refine ⟨_, (@pss_cons _ _ _ _ _ (@ps_if _ _ _ _ _ _ _ _ (@pt_cmpR _ _ _ _ _ _ _ _ op_gt (@pe_op _ _ _ _ _ _ _ _ op_mod (pv 0) pe_int) pe_int (nomark _)) (@pss_one _ _ _ (@ps_ret _ _ _ _ (@pe_gcallN _ _ _ _ _ _ _ _ _ _ G_law_menu (hr.mono (by decide)) rfl (@pa_c _ _ _ _ _ (@pe_op _ _ _ _ _ _ _ _ op_fdiv (pv 0) pe_int) pa_nil rfl) (by decide) rfl))) pss_nil) (@pss_cons _ _ _ _ _ (@ps_set _ _ (1) _ _ _ _ sc_law_bad.nd rfl (Or.inl rfl) pe_str rfl (by first | exact .inl rfl | exact .inr rfl | assumption)) (@pss_one _ _ _ (@ps_ret _ _ _ _ (@pe_op _ _ _ _ _ _ _ _ op_add_str (@pe_ix _ _ _ _ _ _ _ (ix_listK (K := K) rfl) (@pe_lst _ _ _ _ (@pa_c _ _ _ _ _ pe_str (@pa_c _ _ _ _ _ pe_str (@pa_c _ _ _ _ _ pe_str (@pa_c _ _ _ _ _ pe_str pa_nil rfl) rfl) rfl) rfl)) (@pe_op _ _ _ _ _ _ _ _ op_mod (@pe_op _ _ _ _ _ _ _ _ op_fdiv (pv 0) pe_int) pe_int) (fun _ _ => rfl)) (@pe_ix _ _ _ _ _ _ _ ix_str (pv 1) (@pe_op _ _ _ _ _ _ _ _ op_mod (@pe_op _ _ _ _ _ _ _ _ op_fdiv (pv 0) pe_int) (@pe_callBN _ _ _ _ _ _ _ _ _ call_lenS (by rfl) T.len_ bo_len (@pa_c _ _ _ _ _ (pv 1) pa_nil rfl) (by decide) (by decide) rfl)) (fun _ _ => rfl))))))), ?_⟩
  wtm_at "ll"
  refine iteD (fun g => ?_) (fun g => ?_)
  ·wtm_at "ll"
   exact ⟨_, rfl, fun t H' hb s => k t H' hb s⟩
  wtm_at "ll"
  refine Sx.newL (by show 4 ≤ sizeLine; decide) fun l1 G1 n1 h1 s1 => ?_
  change G1 l1 = some (.lst (baseS.map V.str)) at h1
  wtm_at "ll"
  have hq : 0 ≤ c / 4 % 4 ∧ c / 4 % 4 < 4 := by omega
  generalize c / 4 % 4 = q at hq ⊢
  obtain ⟨q, rfl⟩ := num_nat hq.1
  have hi : baseS[q]? = some (baseS[q]'(by show q < 4; omega)) := List.getElem?_eq_getElem _
  refine Sx.ixL h1 (atI_nat (by rw [List.getElem?_map, hi]; rfl)) ?_
  have hb := List.mem_of_getElem? hi
  generalize baseS[q]'(by show q < 4; omega) = b at hb ⊢
  wtm_at "ll"
  change rLenS [V.str signS] _ _
  refine ⟨signS, rfl, by rw [sign_len]; omega, ?_⟩
  rw [sign_len]
  refine ⟨_, _, rfl, rfl, (show (0 : Int) < ((51 : Nat) : Int) by decide), ?_⟩
  dsimp only
  have hq2 : 0 ≤ c / 16 % ((51 : Nat) : Int) ∧ c / 16 % ((51 : Nat) : Int) < 51 := by omega
  generalize c / 16 % ((51 : Nat) : Int) = m at hq2 ⊢
  obtain ⟨m, rfl⟩ := num_nat hq2.1
  have hl : (cs signS).length = 51 := by rw [cs_len, sign_len]
  have hj : (cs signS)[m]? = some ((cs signS)[m]'(by rw [hl]; omega)) := List.getElem?_eq_getElem _
  refine ⟨signS, (m : Int), _, rfl, rfl, by rw [sign_len]; omega, atI_nat hj, ?_⟩
  have hc := List.mem_of_getElem? hj
  generalize (cs signS)[m]'(by rw [hl]; omega) = z at hc ⊢
  have hbad := sign_bad hb hc
  refine Sx.addS ?_ (k _ _ hbad s1)
  have := hbad.len
  have e : (b ++ oc [z]).length = b.length + (oc [z]).length := by rw [← cs_len, cs_app, List.length_append, cs_len, cs_len]
  show b.length + (oc [z]).length ≤ 16777216
  omega
theorem ok_law (R : Raw K mg "law" s_law) (T : TxtL K mg) (G_law_cell : GF P w K mg base "_law_cell" ["_law_script", "_law_k"] 1 (sp_cell K)) (G_law_line : GF P w K mg base "_law_line" ["_law_number"] 2 Ll.sp_line) (G_law_bad : GF P w K mg base "_law_bad" ["_law_cell_here"] 2 sp_bad) (G_law_refused : GF P w K mg base "_law_refused" ["_law_text", "_law_due"] 11 sp_ref) : GF P w K mg base "law" ["_law_script"] 12 (sp_law K) := by
 refine GF.mk R sc_law (by wtm_at "1") (fun vs H Q E h => ?_) (fun f cdv A outer s H vs Q E hr h => ?_)
 ·obtain ⟨a, ns, rfl, _⟩ := h; rfl
 ·obtain ⟨a, ns, rfl, hS, k⟩ := h
  have hz := sz
  refine ⟨_, (@pss_cons _ _ _ _ _ (@ps_setLC _ _ _ _ _ _ _ _ _ _ _ _ ([]) (1) _ _ _ sc_law.nd rfl (Or.inl rfl) rfl rfl (@pi_listK _ (K) _ _ _ rfl (@pe_slice _ _ _ _ _ _ _ _ _ _ (sl_listK (K := K) rfl) (pv 0) (@po_some _ _ _ pe_int) (@po_some _ _ _ pe_int))) ⟨rfl, rfl, by decide +kernel, by decide +kernel, rfl, by decide +kernel, trivial, rfl, trivial⟩ (fun _ _ _ _ => pts_nil) (fun _ _ _ _ => (@pe_gcallN _ _ _ _ _ _ _ _ _ _ G_law_line (hr.mono (by decide)) rfl (@pa_c _ _ _ _ _ (@pe_op _ _ _ _ _ _ _ _ op_mod (pv 0) pe_int) pa_nil rfl) (by decide) rfl)) (fun _ => rfl) (by first | exact .inl rfl | exact .inr rfl | assumption)) (@pss_cons _ _ _ _ _ (@ps_set _ _ (2) _ _ _ _ sc_law.nd rfl (Or.inl rfl) (@pe_op _ _ _ _ _ _ _ _ op_mod (@pe_gcallN _ _ _ _ _ _ _ _ _ _ G_law_cell (hr.mono (by decide)) rfl (@pa_c _ _ _ _ _ (pv 0) (@pa_c _ _ _ _ _ pe_int pa_nil rfl) rfl) (by decide) rfl) (@pe_op _ _ _ _ _ _ _ _ op_add (@pe_callBN _ _ _ _ _ _ _ _ _ (call_len_seqN (K := K) rfl) (by rfl) T.len_ bo_len (@pa_c _ _ _ _ _ (pv 1) pa_nil rfl) (by decide) (by decide) rfl) pe_int)) rfl (by first | exact .inl rfl | exact .inr rfl | assumption)) (@pss_cons _ _ _ _ _ (@ps_expr _ _ _ _ (pe_bm PySem.F.plainAttrs_list PySem.F.slot_list_insert PySem.F.type_list_insert mt_insert (pv 1) (@pa_c _ _ _ _ _ (pv 2) (@pa_c _ _ _ _ _ (@pe_gcallN _ _ _ _ _ _ _ _ _ _ G_law_bad (hr.mono (by decide)) rfl (@pa_c _ _ _ _ _ (@pe_gcallN _ _ _ _ _ _ _ _ _ _ G_law_cell (hr.mono (by decide)) rfl (@pa_c _ _ _ _ _ (pv 0) (@pa_c _ _ _ _ _ pe_int pa_nil rfl) rfl) (by decide) rfl) pa_nil rfl) (by decide) rfl) pa_nil rfl) rfl)) rfl) (@pss_cons _ _ _ _ _ (@ps_cut _ _ _ (@ps_if _ _ _ _ _ _ _ _ (@pt_cmpR _ _ _ _ _ _ _ _ op_eq (@pe_op _ _ _ _ _ _ _ _ op_mod (@pe_gcallN _ _ _ _ _ _ _ _ _ _ G_law_cell (hr.mono (by decide)) rfl (@pa_c _ _ _ _ _ (pv 0) (@pa_c _ _ _ _ _ pe_int pa_nil rfl) rfl) (by decide) rfl) pe_int) pe_int (nomark _)) (@pss_cons _ _ _ _ _ (@ps_set _ _ (3) _ _ _ _ sc_law.nd rfl (Or.inl rfl) (@pe_op _ _ _ _ _ _ _ _ op_mod (@pe_op _ _ _ _ _ _ _ _ op_fdiv (@pe_gcallN _ _ _ _ _ _ _ _ _ _ G_law_cell (hr.mono (by decide)) rfl (@pa_c _ _ _ _ _ (pv 0) (@pa_c _ _ _ _ _ pe_int pa_nil rfl) rfl) (by decide) rfl) pe_int) (@pe_op _ _ _ _ _ _ _ _ op_add (@pe_callBN _ _ _ _ _ _ _ _ _ (call_len_seqN (K := K) rfl) (by rfl) T.len_ bo_len (@pa_c _ _ _ _ _ (pv 1) pa_nil rfl) (by decide) (by decide) rfl) pe_int)) rfl (by first | exact .inl rfl | exact .inr rfl | assumption)) (@pss_cons _ _ _ _ _ (@ps_expr _ _ _ _ (pe_bm PySem.F.plainAttrs_list PySem.F.slot_list_insert PySem.F.type_list_insert mt_insert (pv 1) (@pa_c _ _ _ _ _ (pv 3) (@pa_c _ _ _ _ _ (@pe_gcallN _ _ _ _ _ _ _ _ _ _ G_law_bad (hr.mono (by decide)) rfl (@pa_c _ _ _ _ _ (@pe_op _ _ _ _ _ _ _ _ op_fdiv (@pe_gcallN _ _ _ _ _ _ _ _ _ _ G_law_cell (hr.mono (by decide)) rfl (@pa_c _ _ _ _ _ (pv 0) (@pa_c _ _ _ _ _ pe_int pa_nil rfl) rfl) (by decide) rfl) pe_int) pa_nil rfl) (by decide) rfl) pa_nil rfl) rfl)) rfl) (@pss_one _ _ _ (@ps_set _ _ (2) _ _ _ _ sc_law.nd rfl (Or.inl rfl) (@pe_callBN _ _ _ _ _ _ _ _ _ (call_min2N rfl) (by rfl) T.min_ bo_min (@pa_c _ _ _ _ _ (pv 3) (@pa_c _ _ _ _ _ (@pe_op _ _ _ _ _ _ _ _ op_add (pv 2) (@pe_callTyN _ _ _ _ _ _ _ _ _ call_int1N (by rfl) T.int_ bo_int (@pa_c _ _ _ _ _ (@pe_cmpR _ _ _ _ _ _ _ _ op_le (pv 3) (pv 2) (nomark _)) pa_nil rfl) (by decide) (by decide) rfl)) pa_nil rfl) rfl) (by decide) (by decide) rfl) rfl (by first | exact .inl rfl | exact .inr rfl | assumption))))) pss_nil)) (@pss_one _ _ _ (@ps_ret _ _ _ _ (@pe_gcallN _ _ _ _ _ _ _ _ _ _ G_law_refused (hr.mono (by decide)) rfl (@pa_c _ _ _ _ _ (pe_bm PySem.F.plainAttrs_str PySem.F.slot_str_join PySem.F.type_str_join (mt_join (K := K) rfl) pe_str (@pa_c _ _ _ _ _ (pv 1) pa_nil rfl)) (@pa_c _ _ _ _ _ (@pe_tup _ _ _ _ _ (@pa_c _ _ _ _ _ pe_str (@pa_c _ _ _ _ _ (@pe_op _ _ _ _ _ _ _ _ op_add (pv 2) pe_int) pa_nil rfl) rfl)) pa_nil rfl) rfl) (by decide) rfl))))))), ?_⟩
  wtm_at "ll"
  refine Sx.slN hS fun l1 G1 n1 h1 s1 => ?_
  rw [show cutV (ns.map V.int) (some 3) (some 43) = ((ns.drop 3).take 40).map V.int from (cutMid _ 3 43).trans (by rw [← List.map_drop, ← List.map_take])] at h1
  have l40 : ((ns.drop 3).take 40).length ≤ 40 := by rw [List.length_take]; omega
  generalize (ns.drop 3).take 40 = m at h1 l40 ⊢
  wtm_at "ll"
  refine ⟨l1, rfl, ⟨_, SqL.of h1⟩, lc_listI (xs := m.map V.int) (fun i acc H' => acc = ((m.map fun c => lineS (c % 1024)).take i).map V.str ∧ acc.length = i ∧ Same G1 H') (by rw [List.length_map]; omega) ⟨rfl, rfl, Same.refl _⟩ ?_ ?_ ?_ ?_⟩
  ·rintro i acc H' ⟨_, h, _⟩
   exact h
  ·rintro i acc H' ⟨_, _, s2⟩
   exact SqL.of (s2 _ _ h1)
  ·rintro i x acc H' hx ⟨rfl, hl2, s2⟩ Q' q'
   rw [List.getElem?_map] at hx
   cases e : m[i]? with
   | none => rw [e] at hx; cases hx
   | some v =>
    rw [e] at hx
    cases hx
    wtm_at "ll"
    refine ⟨_, rfl, by omega, by omega, fun H3 s3 => ?_⟩
    refine q' _ _ ⟨?_, by rw [List.length_append, List.length_singleton, hl2], s2.trans s3⟩
    rw [List.take_add_one (i := i), List.map_append, List.getElem?_map, e]
    rfl
  rintro acc G2 ⟨rfl, _, s2⟩ l2 n2
  rw [List.length_map, List.take_of_length_le (by rw [List.length_map]; exact Nat.le_refl _)]
  have hgood : ∀ r ∈ m.map fun c => lineS (c % 1024), GoodRow r := fun r hr => by
   obtain ⟨c, _, rfl⟩ := List.mem_map.mp hr
   exact good_line (by omega) (by omega)
  have hgl : (m.map fun c => lineS (c % 1024)).length ≤ 40 := by rw [List.length_map]; exact l40
  generalize (m.map fun c => lineS (c % 1024)) = good at hgood hgl ⊢
  have s12 := s1.trans s2
  have h2 : (upd G2 l2 (.lst (good.map V.str))) l2 = some (.lst (good.map V.str)) := upd_same
  have s3 := s12.trans (Same.newH (o := .lst (good.map V.str)) n2)
  have fr3 : ∀ b, b ≠ l2 → (upd G2 l2 (.lst (good.map V.str))) b = G2 b := fun b hb => upd_ne hb
  have nl2 : H l2 = none := s12.free n2
  generalize upd G2 l2 (.lst (good.map V.str)) = G3 at h2 s3 fr3 ⊢
  have hS3 := s3.seq hS
  wtm_at "ll"
  refine ⟨l2, _, rfl, .inl (SqL.of h2), ?_⟩
  wtm_at "ll"
  rw [List.length_map]
  have hq : 0 ≤ ns.getD (Int.toNat 0) 0 % ((good.length : Int) + 1) ∧ ns.getD (Int.toNat 0) 0 % ((good.length : Int) + 1) < (good.length : Int) + 1 := ⟨Int.emod_nonneg _ (by omega), Int.emod_lt_of_pos _ (by omega)⟩
  generalize ns.getD (Int.toNat 0) 0 % ((good.length : Int) + 1) = q at hq ⊢
  obtain ⟨q, rfl⟩ := num_nat hq.1
  have hqk : q ≤ good.length := by omega
  refine ⟨Sx.tyL h2, ?_⟩
  wtm_at "ll"
  refine ⟨_, rfl, fun t1 G4 hb1 s4 => ?_⟩
  wtm_at "ll"
  refine ⟨l2, _, .str t1, q, rfl, rfl, s4 _ _ h2, by rw [List.length_map]; exact hqk, by rw [List.length_map]; omega, ?_⟩
  rw [← List.map_take, ← List.map_drop, ← List.map_cons (f := V.str), ← List.map_append]
  have mx : Mixed (good.take q ++ t1 :: good.drop q) q := mix_first hgood hb1 hqk
  have ml : (good.take q ++ t1 :: good.drop q).length ≤ 41 := by rw [List.length_append, List.length_cons, List.length_take, List.length_drop]; omega
  generalize good.take q ++ t1 :: good.drop q = rows at mx ml ⊢
  have h5 : (upd G4 l2 (.lst (rows.map V.str))) l2 = some (.lst (rows.map V.str)) := upd_same
  have s5 : Same H (upd G4 l2 (.lst (rows.map V.str))) := fun b o e => by
   have hb : b ≠ l2 := fun z => by rw [z, nl2] at e; cases e
   rw [upd_ne hb]
   exact s4 _ _ (s3 _ _ e)
  generalize upd G4 l2 (.lst (rows.map V.str)) = G5 at h5 s5 ⊢
  have hS5 := s5.seq hS
  wtm_at "ll"
  refine Sx.cut (fun σ' H' => ∃ (rs : List Str) (j : Nat) (x : Option V), σ' = [some (.ref a), some (.ref l2), some (.int (j : Int)), x] ∧ H' l2 = some (.lst (rs.map V.str)) ∧ Mixed rs j ∧ rs.length ≤ 42) ?_ ?_
  ·wtm_at "ll"
   refine iteD (fun g => ?_) (fun g => ?_)
   ·wtm_at "ll"
    refine ⟨l2, _, rfl, .inl (SqL.of h5), ?_⟩
    wtm_at "ll"
    rw [List.length_map]
    have ho : 0 ≤ ns.getD (Int.toNat 2) 0 / 3 % ((rows.length : Int) + 1) ∧ ns.getD (Int.toNat 2) 0 / 3 % ((rows.length : Int) + 1) < (rows.length : Int) + 1 := ⟨Int.emod_nonneg _ (by omega), Int.emod_lt_of_pos _ (by omega)⟩
    generalize ns.getD (Int.toNat 2) 0 / 3 % ((rows.length : Int) + 1) = o at ho ⊢
    obtain ⟨o, rfl⟩ := num_nat ho.1
    have hok : o ≤ rows.length := by omega
    refine ⟨Sx.tyL h5, ?_⟩
    wtm_at "ll"
    refine ⟨_, rfl, fun t2 G6 hb2 s6 => ?_⟩
    wtm_at "ll"
    refine ⟨l2, _, .str t2, o, rfl, rfl, s6 _ _ h5, by rw [List.length_map]; exact hok, by rw [List.length_map]; omega, ?_⟩
    rw [← List.map_take, ← List.map_drop, ← List.map_cons (f := V.str), ← List.map_append]
    have mx2 := mix_more mx hb2 hok
    have ml2 : (rows.take o ++ t2 :: rows.drop o).length ≤ 42 := by rw [List.length_append, List.length_cons, List.length_take, List.length_drop]; omega
    generalize rows.take o ++ t2 :: rows.drop o = rs at mx2 ml2 ⊢
    wtm_at "ll"
    refine ⟨_, _, rfl, ?_⟩
    wtm_at "ll"
    have em : (if ((q : Int) + if decide ((o : Int) ≤ (q : Int)) = true then 1 else 0) < (o : Int) then (q : Int) + if decide ((o : Int) ≤ (q : Int)) = true then 1 else 0 else (o : Int)) = ((if o ≤ q then o else q : Nat) : Int) := by
     by_cases g2 : o ≤ q
     ·rw [decide_eq_true (show (o : Int) ≤ q by omega), if_pos rfl, if_pos g2, if_neg (by omega)]
     ·rw [decide_eq_false (show ¬ (o : Int) ≤ q by omega), if_neg Bool.false_ne_true, if_neg g2, if_pos (by omega)]
      omega
    rw [em]
    exact ⟨rs, _, some (.int o), rfl, upd_same, mx2, ml2⟩
   ·wtm_at "ll"
    exact ⟨rows, q, _, rfl, h5, mx, by omega⟩
  rintro _ G6 ⟨rs, j, x, rfl, h6, mx6, l6⟩
  wtm_at "ll"
  have rf := mix_ref mx6 (by omega)
  obtain ⟨pre, b1, post, er, _, hp, hb, hpo⟩ := id mx6
  refine Sx.joinL h6 (joinOk 60 (fun r hr => ?_) (by rw [l_nl]; omega)) ?_
  ·rw [er] at hr
   rcases List.mem_append.mp hr with z | z
   ·exact (hp r z).len
   ·rcases List.mem_cons.mp z with rfl | z
    ·exact Nat.le_trans hb.len (by decide)
    ·exact (hpo r z).2
  wtm_at "ll"
  refine ⟨by show 2 ≤ sizeLine; decide, fun t7 n7 => ?_⟩
  wtm_at "ll"
  exact ⟨_, .noDeed, _, t7, rfl, rf, upd_same, fun H' _ => k H'⟩
end
end K34
def PySem.W.Fast.tw1918526677288893089 : Nat := 0
def PySem.W.Fast.tw7164193514098295789 : Nat := 0
def PySem.W.Fast.tw5245841266891850969 : Nat := 0
def PySem.W.Fast.tw9495169703690462024 : Nat := 0
def PySem.W.Fast.tw9626165421576794576 : Nat := 0
def PySem.W.Fast.tw2992544572670896655 : Nat := 0
def PySem.W.Fast.tw9276247124753136890 : Nat := 0
def PySem.W.Fast.tw3765906751544381397 : Nat := 0
def PySem.W.Fast.tw13158370795494596957 : Nat := 0
def PySem.W.Fast.tw6617612322225971104 : Nat := 0
def PySem.W.Fast.tw10917831521074721226 : Nat := 0
def PySem.W.Fast.tw17906462205910728127 : Nat := 0
def PySem.W.Fast.tw6579098330059588017 : Nat := 0
def PySem.W.Fast.tw5856661696057332528 : Nat := 0
def PySem.W.Fast.tw16002291417535092101 : Nat := 0
def PySem.W.Fast.tw12423666686957439084 : Nat := 0
def PySem.W.Fast.tw9261768387371412579 : Nat := 0
def PySem.W.Fast.tw6822729341480645935 : Nat := 0
def PySem.W.Fast.tw11464762955601982603 : Nat := 0
def PySem.W.Fast.tw12372593956063455356 : Nat := 0
def PySem.W.Fast.tw9359086108823650248 : Nat := 0
def PySem.W.Fast.tw1354679274670502708 : Nat := 0
def PySem.W.Fast.tw8643163207230411381 : Nat := 0
def PySem.W.Fast.tw7461477548124417012 : Nat := 0
def PySem.W.Fast.tw10699657404323997899 : Nat := 0
def PySem.W.Fast.tw4049269226028386058 : Nat := 0
def PySem.W.Fast.tw3478232109131674381 : Nat := 0
def PySem.W.Fast.tw17781460727534555363 : Nat := 0
def PySem.W.Fast.tw12431627721345782437 : Nat := 0
def PySem.W.Fast.tw3987915488871535804 : Nat := 0
def PySem.W.Fast.tw11388136784515634587 : Nat := 0
def PySem.W.Fast.tw8784932838258359484 : Nat := 0
def PySem.W.Fast.tw8244004913309729854 : Nat := 0
def PySem.W.Fast.tw9663425514892568348 : Nat := 0
def PySem.W.Fast.tw7824339609960799255 : Nat := 0
def PySem.W.Fast.tw9500409335425655568 : Nat := 0
def PySem.W.Fast.tw1711828753685506629 : Nat := 0
def PySem.W.Fast.tw14809172307550498629 : Nat := 0
def PySem.W.Fast.tw15416243581272033492 : Nat := 0
def PySem.W.Fast.tw15261348962713663945 : Nat := 0
def PySem.W.Fast.tw9572072104764946744 : Nat := 0
def PySem.W.Fast.tw6905822431237786635 : Nat := 0
def PySem.W.Fast.tw6253738749345861862 : Nat := 0
def PySem.W.Fast.tw2035788138391005629 : Nat := 0
def PySem.W.Fast.tw15516903349237483540 : Nat := 0
def PySem.W.Fast.tw3477090098024934491 : Nat := 0
def PySem.W.Fast.tw13300942594827605262 : Nat := 0
def PySem.W.Fast.tw1431087377918848806 : Nat := 0
def PySem.W.Fast.tw11531388347531778662 : Nat := 0
def PySem.W.Fast.tw4373951487750383887 : Nat := 0
def PySem.W.Fast.tw531691775535143007 : Nat := 0
def PySem.W.Fast.tw11828438240852757957 : Nat := 0
def PySem.W.Fast.tw15275030774065052613 : Nat := 0
def PySem.W.Fast.tw2663715171604750475 : Nat := 0
def PySem.W.Fast.tw12480408100823070585 : Nat := 0
def PySem.W.Fast.tw13508452236255654346 : Nat := 0
def PySem.W.Fast.tw12457436985690803229 : Nat := 0
def PySem.W.Fast.tw5535142121593203719 : Nat := 0
def PySem.W.Fast.tw17371542050300864516 : Nat := 0
def PySem.W.Fast.tw706859548498155117 : Nat := 0
def PySem.W.Fast.tw7455492671150798626 : Nat := 0
def PySem.W.Fast.tw10378504928556515101 : Nat := 0
def PySem.W.Fast.tw7513375757636175604 : Nat := 0
def PySem.W.Fast.tw11087727431726567093 : Nat := 0
def PySem.W.Fast.tw17214684423344089977 : Nat := 0
def PySem.W.Fast.tw12122509502208329343 : Nat := 0
def PySem.W.Fast.tw626590445266944746 : Nat := 0
def PySem.W.Fast.tw15603704588422120372 : Nat := 0
def PySem.W.Fast.tw17557385941787439829 : Nat := 0
def PySem.W.Fast.tw6787849261662218449 : Nat := 0
def PySem.W.Fast.tw1368321383918872370 : Nat := 0
def PySem.W.Fast.tw16847786739043612320 : Nat := 0
def PySem.W.Fast.tw10534751753182631863 : Nat := 0
def PySem.W.Fast.tw14116730722710642383 : Nat := 0
def PySem.W.Fast.tw10693579879053260705 : Nat := 0
def PySem.W.Fast.tw798717154743815988 : Nat := 0
def PySem.W.Fast.tw14249596009060282079 : Nat := 0
def PySem.W.Fast.tw12112870258012624883 : Nat := 0
def PySem.W.Fast.tw11801800868715286040 : Nat := 0
def PySem.W.Fast.tw7016975926962892007 : Nat := 0
def PySem.W.Fast.tw16263930667125634485 : Nat := 0
def PySem.W.Fast.tw3022937248854695318 : Nat := 0
def PySem.W.Fast.tw956949108635611568 : Nat := 0
def PySem.W.Fast.tw2528517840775616968 : Nat := 0
def PySem.W.Fast.tw1957905755265038870 : Nat := 0
def PySem.W.Fast.tw380005092778665733 : Nat := 0
def PySem.W.Fast.tw10528033680844300484 : Nat := 0
def PySem.W.Fast.tw9174342206448296750 : Nat := 0
def PySem.W.Fast.tw2611140817463081056 : Nat := 0
def PySem.W.Fast.tw13841259853627525667 : Nat := 0
def PySem.W.Fast.tw16275795892694455983 : Nat := 0
def PySem.W.Fast.tw5864316903300161331 : Nat := 0
def PySem.W.Fast.tw8662505345957901875 : Nat := 0
def PySem.W.Fast.tw15623975306611596037 : Nat := 0
def PySem.W.Fast.tw4667397349356175397 : Nat := 0
def PySem.W.Fast.tw7916754636333180229 : Nat := 0
def PySem.W.Fast.tw1238768528890134745 : Nat := 0
def PySem.W.Fast.tw12883663767394231216 : Nat := 0
def PySem.W.Fast.tw17071560235429354158 : Nat := 0
def PySem.W.Fast.tw17311053881777247852 : Nat := 0
def PySem.W.Fast.tw12015211574337981824 : Nat := 0
def PySem.W.Fast.tw5093444388216692854 : Nat := 0
def PySem.W.Fast.tw4528025414389592311 : Nat := 0
def PySem.W.Fast.tw16666887181650799887 : Nat := 0
def PySem.W.Fast.tw7851235849635442196 : Nat := 0
def PySem.W.Fast.tw9684795196043778224 : Nat := 0
def PySem.W.Fast.tw10830983610146009805 : Nat := 0
def PySem.W.Fast.tw2253637566768220829 : Nat := 0
def PySem.W.Fast.tw9938082682540909435 : Nat := 0
def PySem.W.Fast.tw9599223551164291666 : Nat := 0
def PySem.W.Fast.tw14954628272805414114 : Nat := 0
def PySem.W.Fast.tw14054326264225705656 : Nat := 0
def PySem.W.Fast.tw2840293526770843123 : Nat := 0
def PySem.W.Fast.tw6402579693841535861 : Nat := 0
def PySem.W.Fast.tw1323365550464178119 : Nat := 0
def PySem.W.Fast.tw6512083192916110015 : Nat := 0
def PySem.W.Fast.tw11176672816042977037 : Nat := 0
def PySem.W.Fast.tw13953580372120291499 : Nat := 0
def PySem.W.Fast.tw3979577707188766471 : Nat := 0
def PySem.W.Fast.tw16633035799992921527 : Nat := 0
def PySem.W.Fast.tw16664963293789358487 : Nat := 0
def PySem.W.Fast.tw4206314429912070127 : Nat := 0
def PySem.W.Fast.tw5383375600130111598 : Nat := 0
def PySem.W.Fast.tw2492844565697254211 : Nat := 0
def PySem.W.Fast.tw2129371961397605209 : Nat := 0
def PySem.W.Fast.tw15051136676727737450 : Nat := 0
def PySem.W.Fast.tw14057449794332127891 : Nat := 0
def PySem.W.Fast.tw16072392169301856997 : Nat := 0
def PySem.W.Fast.tw10052620294192237619 : Nat := 0
def PySem.W.Fast.tw17284048967184229410 : Nat := 0
def PySem.W.Fast.tw11338943539917787300 : Nat := 0
def PySem.W.Fast.tw3559183678382516446 : Nat := 0
def PySem.W.Fast.tw13520161786427555204 : Nat := 0
def PySem.W.Fast.tw11934864227338220952 : Nat := 0
def PySem.W.Fast.tw4927595601391473606 : Nat := 0
def PySem.W.Fast.tw9399676598853650706 : Nat := 0
def PySem.W.Fast.tw1520203365381065120 : Nat := 0
def PySem.W.Fast.tw13675631268873343219 : Nat := 0
def PySem.W.Fast.tw4011311874649717636 : Nat := 0
def PySem.W.Fast.tw12585826870811959615 : Nat := 0
def PySem.W.Fast.tw10256259460713503084 : Nat := 0
def PySem.W.Fast.tw2798974763132915054 : Nat := 0
def PySem.W.Fast.tw5918980900562540517 : Nat := 0
def PySem.W.Fast.tw15919955000431274756 : Nat := 0
def PySem.W.Fast.tw6989045933419047893 : Nat := 0
def PySem.W.Fast.tw2240076111902561955 : Nat := 0
def PySem.W.Fast.tw9238401511740107971 : Nat := 0
def PySem.W.Fast.tw16126143487675880049 : Nat := 0
def PySem.W.Fast.tw10582584896856427872 : Nat := 0
def PySem.W.Fast.tw12773749405657702437 : Nat := 0
def PySem.W.Fast.tw10007508847494145453 : Nat := 0
local macro_rules | `(tactic| wtm_at "R") => `(tactic| (dsimp only [L2.KOf]; refine' L2.raw_mk (by assumption) (by assumption) ?a ?l ?c ?k; (case a => k_is); (case l => k_is); (case c => k_is); (case k => k_is)))
local macro_rules | `(tactic| wtm_at "I") => `(tactic| first | (refine' L2.int_mk (by assumption) (by assumption) ?a; (case a => k_is)) | (refine' L2.str_mk (by assumption) (by assumption) ?a; (case a => k_is)))
abbrev Pw := PySem.Challenge.pw_corehouse_k34_lines_that_are_not_as_told
open PySem PySem.W PyProof.Rows
set_option maxRecDepth 100000 in
set_option maxHeartbeats 0 in
theorem PySem.Challenge.cw_corehouse_k34_lines_that_are_not_as_told_holds : PySem.Challenge.rw_corehouse_k34_lines_that_are_not_as_told.Holds := by
 w_on; o_law; k_head; (case hw => w_witness2)
 k_fill
 refine L2.walk_ofK (l := PySem.Challenge.rw_corehouse_k34_lines_that_are_not_as_told) (n := 63) (k := 12) (x := "_law_script") (CX := L2.CX0) (sp := K34.sp_law) rfl (by decide) rfl ⟨rfl, by decide, by decide⟩ (fun w h Y => PySem.W.kIn_of Y) ?F ?S ?C
 case F =>
  intro w mg fa h KX G hmg
  have R_word : L2.Raw (L2.KOf KX) mg "word" Tx.s_word := by wtm_at "R"
  have R_read_line : L2.Raw (L2.KOf KX) mg "read_line" Tx.s_read_line := by wtm_at "R"
  have R_pieces_of : L2.Raw (L2.KOf KX) mg "pieces_of" Tx.s_pieces_of := by wtm_at "R"
  have R_read_label : L2.Raw (L2.KOf KX) mg "read_label" Tx.s_read_label := by wtm_at "R"
  have R_is_name : L2.Raw (L2.KOf KX) mg "is_name" Tx.s_is_name := by wtm_at "R"
  have R_is_short_name : L2.Raw (L2.KOf KX) mg "is_short_name" Tx.s_is_short_name := by wtm_at "R"
  have R_is_told_word : L2.Raw (L2.KOf KX) mg "is_told_word" Tx.s_is_told_word := by wtm_at "R"
  have R_read_deed : L2.Raw (L2.KOf KX) mg "read_deed" Tx.s_read_deed := by wtm_at "R"
  have R_read_cell_deed : L2.Raw (L2.KOf KX) mg "read_cell_deed" Tx.s_read_cell_deed := by wtm_at "R"
  have R_read_ask : L2.Raw (L2.KOf KX) mg "read_ask" Tx.s_read_ask := by wtm_at "R"
  have R_read_bits : L2.Raw (L2.KOf KX) mg "read_bits" Tx.s_read_bits := by wtm_at "R"
  have R_read_value : L2.Raw (L2.KOf KX) mg "read_value" Tx.s_read_value := by wtm_at "R"
  have R_is_term : L2.Raw (L2.KOf KX) mg "is_term" Tx.s_is_term := by wtm_at "R"
  have R_is_figures : L2.Raw (L2.KOf KX) mg "is_figures" Tx.s_is_figures := by wtm_at "R"
  have R_assembled : L2.Raw (L2.KOf KX) mg "assembled" Tx.s_assembled := by wtm_at "R"
  have R_go_over_first : L2.Raw (L2.KOf KX) mg "go_over_first" Tx.s_go_over_first := by wtm_at "R"
  have R_go_over_again : L2.Raw (L2.KOf KX) mg "go_over_again" Tx.s_go_over_again := by wtm_at "R"
  have R_makes_cell : L2.Raw (L2.KOf KX) mg "makes_cell" Tx.s_makes_cell := by wtm_at "R"
  have R_tell_label : L2.Raw (L2.KOf KX) mg "tell_label" Tx.s_tell_label := by wtm_at "R"
  have R_move_here : L2.Raw (L2.KOf KX) mg "move_here" Tx.s_move_here := by wtm_at "R"
  have R_bounded_value : L2.Raw (L2.KOf KX) mg "bounded_value" Tx.s_bounded_value := by wtm_at "R"
  have R_term_value : L2.Raw (L2.KOf KX) mg "term_value" Tx.s_term_value := by wtm_at "R"
  have R_word_of : L2.Raw (L2.KOf KX) mg "word_of" Tx.s_word_of := by wtm_at "R"
  have R_pool_place : L2.Raw (L2.KOf KX) mg "pool_place" Tx.s_pool_place := by wtm_at "R"
  have R_make_cell : L2.Raw (L2.KOf KX) mg "make_cell" Tx.s_make_cell := by wtm_at "R"
  have R_law_cell : L2.Raw (L2.KOf KX) mg "_law_cell" Tx.s_law_cell := by wtm_at "R"
  have R_law_kinds : L2.Raw (L2.KOf KX) mg "_law_kinds" Tx.s_law_kinds := by wtm_at "R"
  have R_law_asks : L2.Raw (L2.KOf KX) mg "_law_asks" Tx.s_law_asks := by wtm_at "R"
  have R_law_named : L2.Raw (L2.KOf KX) mg "_law_named" Tx.s_law_named := by wtm_at "R"
  have R_law_changes : L2.Raw (L2.KOf KX) mg "_law_changes" Tx.s_law_changes := by wtm_at "R"
  have R_law_tests : L2.Raw (L2.KOf KX) mg "_law_tests" Tx.s_law_tests := by wtm_at "R"
  have R_law_line : L2.Raw (L2.KOf KX) mg "_law_line" Tx.s_law_line := by wtm_at "R"
  have R_law_said : L2.Raw (L2.KOf KX) mg "_law_said" Tx.s_law_said := by wtm_at "R"
  have R_law_by_base : L2.Raw (L2.KOf KX) mg "_law_by_base" Tx.s_law_by_base := by wtm_at "R"
  have R_law_refused : L2.Raw (L2.KOf KX) mg "_law_refused" Tx.s_law_refused := by wtm_at "R"
  have R_law_menu : L2.Raw (L2.KOf KX) mg "_law_menu" Tx.s_law_menu := by wtm_at "R"
  have R_law_bad : L2.Raw (L2.KOf KX) mg "_law_bad" Tx.s_law_bad := by wtm_at "R"
  have R_law : L2.Raw (L2.KOf KX) mg "law" Tx.s_law := by wtm_at "R"
  have I_WORDS : L2.IntG mg "WORDS" 1024 := by wtm_at "I"
  have I_PLACES : L2.IntG mg "PLACES" 64 := by wtm_at "I"
  have I_ASK : L2.IntG mg "ASK" 6 := by wtm_at "I"
  have I_BITS : L2.IntG mg "BITS" 7 := by wtm_at "I"
  have I_DEEDS : L2.TupG (L2.KOf KX) mg "DEEDS" [.str "and", .str "add", .str "rise", .str "put", .str "call", .str "go"] := by
   dsimp only [L2.KOf]
   refine' L2.tup_mk KX G ?a ?l ?z ?vDEEDS
   (case a => k_is); (case l => k_is); (case z => decide)
   (case vDEEDS => exact .cons ⟨_, rfl⟩ (.cons ⟨_, rfl⟩ (.cons ⟨_, rfl⟩ (.cons ⟨_, rfl⟩ (.cons ⟨_, rfl⟩ (.cons ⟨_, rfl⟩ (.nil)))))))
  have I_ASKS : L2.TupG (L2.KOf KX) mg "ASKS" [.str "heard", .str "hear", .str "room", .str "say", .str "sleep", .str "fetch", .str "store", .str "stop", .str "look"] := by
   dsimp only [L2.KOf]
   refine' L2.tup_mk KX G ?a ?l ?z ?vASKS
   (case a => k_is); (case l => k_is); (case z => decide)
   (case vASKS => exact .cons ⟨_, rfl⟩ (.cons ⟨_, rfl⟩ (.cons ⟨_, rfl⟩ (.cons ⟨_, rfl⟩ (.cons ⟨_, rfl⟩ (.cons ⟨_, rfl⟩ (.cons ⟨_, rfl⟩ (.cons ⟨_, rfl⟩ (.cons ⟨_, rfl⟩ (.nil))))))))))
  have I_CHANGES : L2.TupG (L2.KOf KX) mg "CHANGES" [.str "zero", .str "turn", .str "flip", .str "more", .str "left", .str "right"] := by
   dsimp only [L2.KOf]
   refine' L2.tup_mk KX G ?a ?l ?z ?vCHANGES
   (case a => k_is); (case l => k_is); (case z => decide)
   (case vCHANGES => exact .cons ⟨_, rfl⟩ (.cons ⟨_, rfl⟩ (.cons ⟨_, rfl⟩ (.cons ⟨_, rfl⟩ (.cons ⟨_, rfl⟩ (.cons ⟨_, rfl⟩ (.nil)))))))
  have I_TESTS : L2.TupG (L2.KOf KX) mg "TESTS" [.str "minus", .str "none", .str "mark", .str "not", .str "zero", .str "flat"] := by
   dsimp only [L2.KOf]
   refine' L2.tup_mk KX G ?a ?l ?z ?vTESTS
   (case a => k_is); (case l => k_is); (case z => decide)
   (case vTESTS => exact .cons ⟨_, rfl⟩ (.cons ⟨_, rfl⟩ (.cons ⟨_, rfl⟩ (.cons ⟨_, rfl⟩ (.cons ⟨_, rfl⟩ (.cons ⟨_, rfl⟩ (.nil)))))))
  have I_BIT_ROW : L2.TupG (L2.KOf KX) mg "BIT_ROW" [.int 32, .int 16, .int 8, .int 4, .int 2, .int 1] := by
   dsimp only [L2.KOf]
   refine' L2.tup_mk KX G ?a ?l ?z ?vBIT_ROW
   (case a => k_is); (case l => k_is); (case z => decide)
   (case vBIT_ROW => exact .cons ⟨_, rfl⟩ (.cons ⟨_, rfl⟩ (.cons ⟨_, rfl⟩ (.cons ⟨_, rfl⟩ (.cons ⟨_, rfl⟩ (.cons ⟨_, rfl⟩ (.nil)))))))
  have I_OTHER_WORDS : L2.TupG (L2.KOf KX) mg "OTHER_WORDS" [.str "place", .str "word", .str "far", .str "ask", .str "change", .str "test", .str "here"] := by
   dsimp only [L2.KOf]
   refine' L2.tup_mk KX G ?a ?l ?z ?vOTHER_WORDS
   (case a => k_is); (case l => k_is); (case z => decide)
   (case vOTHER_WORDS => exact .cons ⟨_, rfl⟩ (.cons ⟨_, rfl⟩ (.cons ⟨_, rfl⟩ (.cons ⟨_, rfl⟩ (.cons ⟨_, rfl⟩ (.cons ⟨_, rfl⟩ (.cons ⟨_, rfl⟩ (.nil))))))))
  have I_SMALL_LETTERS : L2.StrG mg "SMALL_LETTERS" "abcdefghijklmnopqrstuvwxyz" := by wtm_at "I"
  have I_FIGURES : L2.StrG mg "FIGURES" "0123456789" := by wtm_at "I"
  have I_MOST_SIGNS : L2.IntG mg "MOST_SIGNS" 8 := by wtm_at "I"
  have I_MOST_FIGURES : L2.IntG mg "MOST_FIGURES" 4 := by wtm_at "I"
  have A_Line : ∃ C, L2.RawC (L2.KOf KX) mg "Line" "Line.__init__" C Tx.s_Line_init ∧ L2.Cls (L2.KOf KX) C ∧ L2.NoAttr (L2.KOf KX) C "number" ∧ L2.NoAttr (L2.KOf KX) C "label" ∧ L2.NoAttr (L2.KOf KX) C "name" ∧ L2.NoAttr (L2.KOf KX) C "base" ∧ L2.NoAttr (L2.KOf KX) C "pooled" ∧ L2.NoAttr (L2.KOf KX) C "terms" := by
   dsimp only [L2.KOf]
   refine' ⟨_, L2.rawC_mk KX G ?a ?a1 ?i1 ?l ?c ?k ?mk ?kc, ⟨?pg, ?hd, ?po, ?sa⟩, ?n_number, ?n_label, ?n_name, ?n_base, ?n_pooled, ?n_terms⟩
   (case a => k_is)
   (case a1 => k_is)
   (case i1 => k_is)
   (case l => k_is)
   (case c => k_is)
   (case k => k_is)
   (case mk => k_is)
   (case kc => k_is)
   (case pg => k_is)
   (case hd => k_is)
   (case po => k_is)
   (case sa => k_is)
   (case n_number => unfold L2.NoAttr; k_is)
   (case n_label => unfold L2.NoAttr; k_is)
   (case n_name => unfold L2.NoAttr; k_is)
   (case n_base => unfold L2.NoAttr; k_is)
   (case n_pooled => unfold L2.NoAttr; k_is)
   (case n_terms => unfold L2.NoAttr; k_is)
  have A_Sheet : ∃ C, L2.RawC (L2.KOf KX) mg "Sheet" "Sheet.__init__" C Tx.s_Sheet_init ∧ L2.Cls (L2.KOf KX) C ∧ L2.NoAttr (L2.KOf KX) C "labels" ∧ L2.NoAttr (L2.KOf KX) C "made" ∧ L2.NoAttr (L2.KOf KX) C "pool" ∧ L2.NoAttr (L2.KOf KX) C "here" := by
   dsimp only [L2.KOf]
   refine' ⟨_, L2.rawC_mk KX G ?a ?a1 ?i1 ?l ?c ?k ?mk ?kc, ⟨?pg, ?hd, ?po, ?sa⟩, ?n_labels, ?n_made, ?n_pool, ?n_here⟩
   (case a => k_is)
   (case a1 => k_is)
   (case i1 => k_is)
   (case l => k_is)
   (case c => k_is)
   (case k => k_is)
   (case mk => k_is)
   (case kc => k_is)
   (case pg => k_is)
   (case hd => k_is)
   (case po => k_is)
   (case sa => k_is)
   (case n_labels => unfold L2.NoAttr; k_is)
   (case n_made => unfold L2.NoAttr; k_is)
   (case n_pool => unfold L2.NoAttr; k_is)
   (case n_here => unfold L2.NoAttr; k_is)
  have A_X : ∃ (CB : Sc.Bad → Addr) (CT CE fI : Addr) (fd : FuncData), (Lx.TxtE (L2.KOf KX) mg CB CT CE ∧ ∀ b, L2.xIn (L2.KOf KX) (CB b) fI = true) ∧ L2.XB (L2.KOf KX) CE ∧ L2.Fun (L2.KOf KX) "__init__" "BadText.__init__" Tx.s_BadText_init fI fd := by
   dsimp only [L2.KOf]
   refine' ⟨Lx.cb _ _ _ _ _, _, _, _, _, Lx.mk_x KX G ?m1 ?m2 ?m3 ?m4 ?m5 ?mt ?mc ?mv ?mi ?ok, ⟨?r1, ?r2, ?r3⟩, L2.fun_mk ?l ?c ?k⟩
   (case m1 => k_is)
   (case m2 => k_is)
   (case m3 => k_is)
   (case m4 => k_is)
   (case m5 => k_is)
   (case mt => k_is)
   (case mc => k_is)
   (case mv => k_is)
   (case mi => k_is)
   (case r1 => k_is)
   (case r2 => k_is)
   (case r3 => k_is)
   (case l => k_is)
   (case c => k_is)
   (case k => k_is)
   (case ok => kernel_rfl)
  have Z_len : mg "len" = none := PySem.W.mg_none_of KX G (by k_is)
  have Z_isinstance : mg "isinstance" = none := PySem.W.mg_none_of KX G (by k_is)
  have Z_int : mg "int" = none := PySem.W.mg_none_of KX G (by k_is)
  have Z_bool : mg "bool" = none := PySem.W.mg_none_of KX G (by k_is)
  have Z_list : mg "list" = none := PySem.W.mg_none_of KX G (by k_is)
  have Z_range : mg "range" = none := PySem.W.mg_none_of KX G (by k_is)
  have Z_sum : mg "sum" = none := PySem.W.mg_none_of KX G (by k_is)
  have Z_any : mg "any" = none := PySem.W.mg_none_of KX G (by k_is)
  have Z_tuple : mg "tuple" = none := PySem.W.mg_none_of KX G (by k_is)
  have Z_enumerate : mg "enumerate" = none := PySem.W.mg_none_of KX G (by k_is)
  have Z_str : mg "str" = none := PySem.W.mg_none_of KX G (by k_is)
  have Z_min : mg "min" = none := PySem.W.mg_none_of KX G (by k_is)
  have Z_all : mg "all" = none := PySem.W.mg_none_of KX G (by k_is)
  have kii : PySem.W.kitOne (L2.KOf KX) (.type "int") (.type "int") = some true := by first | rfl | decide
  have kib : PySem.W.kitOne (L2.KOf KX) (.type "int") (.type "bool") = some false := by first | rfl | decide
  have kll : PySem.W.kitOne (L2.KOf KX) (.type "list") (.type "list") = some true := by first | rfl | decide
  obtain ⟨f, fd, e, Fn⟩ := id R_law
  have e0 := hmg.symm.trans e
  cases e0
  obtain ⟨oc, od, kV, doc, pm, an, cdv, ct, osl, rfl, lk, hcd⟩ := Fn.ex
  refine ⟨PySem.W.fnOf "law" "law" (L2.defArgs Tx.s_law) (L2.defBody Tx.s_law) (L2.defScope Tx.s_law) .none kV doc pm an cdv ct, fun s u => .of_eq rfl, fun base kb nb => ?_⟩
  have TL : Lw.TxtL (L2.KOf KX) mg := ⟨Z_len, Z_isinstance, Z_int, Z_bool, Z_list, Z_range, Z_sum, kii, kib, kll, Z_any, Z_enumerate, Z_tuple, Z_str, Z_min⟩
  have G_law_cell := Lw.ok_cell (P := Pw) (w := w) (base := base) R_law_cell TL
  have G_law_kinds := Ll.ok_kinds (P := Pw) (w := w) (base := base) R_law_kinds
  have G_law_asks := Ll.ok_asks (P := Pw) (w := w) (base := base) R_law_asks
  have G_law_changes := Ll.ok_changes (P := Pw) (w := w) (base := base) R_law_changes
  have G_law_tests := Ll.ok_tests (P := Pw) (w := w) (base := base) R_law_tests
  have G_law_named := Ll.ok_named (P := Pw) (w := w) (base := base) R_law_named TL
  have G_law_line := Ll.ok_line R_law_line TL G_law_kinds G_law_asks G_law_changes G_law_tests G_law_named
  obtain ⟨CL, A_Line, L_cl, L_number, L_label, L_name, L_base, L_pooled, L_terms⟩ := A_Line
  obtain ⟨CS, A_Sheet, S_cl, S_labels, S_made, S_pool, S_here⟩ := A_Sheet
  have TX : Sc.TxtX (L2.KOf KX) mg := ⟨I_DEEDS, I_ASKS, I_CHANGES, I_TESTS, I_OTHER_WORDS, I_BIT_ROW, I_SMALL_LETTERS, I_FIGURES, I_MOST_SIGNS, I_MOST_FIGURES, I_ASK, I_BITS, Z_len, Z_all, Z_enumerate⟩
  have TN : Sc.TxtN (L2.KOf KX) mg CL := ⟨TX, L_cl, L_number, L_label, L_name, L_base, L_pooled, L_terms⟩
  have TT : Sc.TxtT (L2.KOf KX) mg CL CS := ⟨TN, S_cl, S_labels, S_made, S_pool, S_here, I_PLACES, I_WORDS, Z_int, Z_range⟩
  have G_is_figures := Sc.ok_figs (P := Pw) (w := w) (base := base) R_is_figures TX
  have G_is_told_word := Sc.ok_told (P := Pw) (w := w) (base := base) R_is_told_word TX
  have G_is_short_name := Sc.ok_short (P := Pw) (w := w) (base := base) R_is_short_name TX
  have G_is_name := Sc.ok_name R_is_name G_is_short_name G_is_told_word
  have G_is_term := Sc.ok_term R_is_term G_is_name G_is_figures
  have M_Line := Sc.ok_initL (P := Pw) (w := w) (base := base) A_Line TN
  have G_pieces_of := Sc.ok_pieces (P := Pw) (w := w) (base := base) R_pieces_of
  have G_read_ask := Sc.ok_ask (P := Pw) (w := w) (base := base) R_read_ask TN
  have G_read_bits := Sc.ok_bits (P := Pw) (w := w) (base := base) R_read_bits TN
  have G_read_value := Sc.ok_value R_read_value TN G_is_term
  have G_word := Sc.ok_word (P := Pw) (w := w) (base := base) R_word
  have G_read_label := Sc.ok_label R_read_label TN G_is_name
  have G_read_cell_deed := Sc.ok_cell R_read_cell_deed TN G_word G_read_value
  have G_read_deed := Sc.ok_deed R_read_deed TN G_word G_read_value G_read_cell_deed G_read_ask G_read_bits
  have G_read_line := Sc.ok_line R_read_line TN M_Line G_pieces_of G_read_label G_read_deed
  have G_makes_cell := Sc.ok_makes (P := Pw) (w := w) (base := base) R_makes_cell TT
  have G_tell_label := Sc.ok_tell (P := Pw) (w := w) (base := base) R_tell_label TT
  have G_term_value := Sc.ok_tval (P := Pw) (w := w) (base := base) R_term_value TT
  have G_make_cell := Sc.ok_mcell (P := Pw) (w := w) (base := base) R_make_cell TT
  have G_bounded_value := Sc.ok_bound R_bounded_value TT G_term_value
  have G_move_here := Sc.ok_move R_move_here TT G_bounded_value G_makes_cell
  have G_pool_place := Sc.ok_pool R_pool_place TT G_bounded_value G_make_cell
  have G_word_of := Sc.ok_wof R_word_of TT G_bounded_value G_pool_place
  have M_Sheet := Sc.ok_initS (P := Pw) (w := w) (base := base) A_Sheet TT
  have G_go_over_first := Sc.ok_first R_go_over_first TT G_read_line G_tell_label G_move_here
  have G_go_over_again := Sc.ok_again R_go_over_again TT G_makes_cell G_make_cell G_word_of G_move_here
  have G_assembled := Sc.ok_asm R_assembled TT M_Sheet G_go_over_first G_go_over_again
  obtain ⟨CB, CT, CE, fI, fdI, ⟨TE, xi⟩, XBE, FI⟩ := A_X
  have X_NoDeed : L2.GX PySem.Challenge.pw_corehouse_k34_lines_that_are_not_as_told w (L2.KOf KX) mg base "NoDeed" (CB .noDeed) 1 := Xc.ok_bad (TE.m .noDeed) TE.mc XBE (L2.x_of_in KX (xi .noDeed)).1 (L2.x_of_in KX (xi .noDeed)).2.1 (L2.x_of_in KX (xi .noDeed)).2.2 FI
  have X_Twice : L2.GX PySem.Challenge.pw_corehouse_k34_lines_that_are_not_as_told w (L2.KOf KX) mg base "Twice" (CB .twice) 1 := Xc.ok_bad (TE.m .twice) TE.mc XBE (L2.x_of_in KX (xi .twice)).1 (L2.x_of_in KX (xi .twice)).2.1 (L2.x_of_in KX (xi .twice)).2.2 FI
  have X_NoName : L2.GX PySem.Challenge.pw_corehouse_k34_lines_that_are_not_as_told w (L2.KOf KX) mg base "NoName" (CB .noName) 1 := Xc.ok_bad (TE.m .noName) TE.mc XBE (L2.x_of_in KX (xi .noName)).1 (L2.x_of_in KX (xi .noName)).2.1 (L2.x_of_in KX (xi .noName)).2.2 FI
  have X_OutOfBounds : L2.GX PySem.Challenge.pw_corehouse_k34_lines_that_are_not_as_told w (L2.KOf KX) mg base "OutOfBounds" (CB .bounds) 1 := Xc.ok_bad (TE.m .bounds) TE.mc XBE (L2.x_of_in KX (xi .bounds)).1 (L2.x_of_in KX (xi .bounds)).2.1 (L2.x_of_in KX (xi .bounds)).2.2 FI
  have X_Taken : L2.GX PySem.Challenge.pw_corehouse_k34_lines_that_are_not_as_told w (L2.KOf KX) mg base "Taken" (CB .taken) 1 := Xc.ok_bad (TE.m .taken) TE.mc XBE (L2.x_of_in KX (xi .taken)).1 (L2.x_of_in KX (xi .taken)).2.1 (L2.x_of_in KX (xi .taken)).2.2 FI
  have E_read_ask := Sc.ok_askE R_read_ask TN X_NoDeed
  have E_read_label := Sc.ok_labelE R_read_label TN G_is_name X_NoDeed
  have E_read_bits := Sc.ok_bitsE R_read_bits TN X_NoDeed
  have E_read_value := Sc.ok_valueE R_read_value TN G_is_term X_NoDeed
  have E_read_cell_deed := Sc.ok_cellE R_read_cell_deed TN G_word G_read_value E_read_value
  have E_read_deed := Sc.ok_deedE R_read_deed TN X_NoDeed G_word G_read_value G_read_cell_deed G_read_ask G_read_bits E_read_value E_read_cell_deed E_read_ask E_read_bits
  have E_read_line := Sc.ok_lineE R_read_line TN M_Line G_pieces_of G_read_label G_read_deed E_read_label E_read_deed
  have E_tell_label := Sc.ok_tellE R_tell_label TT X_Twice
  have E_term_value := Sc.ok_tvalE R_term_value TT X_NoName
  have E_make_cell := Sc.ok_mcellE R_make_cell TT X_Taken
  have E_bounded_value := Sc.ok_boundE R_bounded_value TT X_OutOfBounds G_term_value E_term_value
  have E_move_here := Sc.ok_moveE R_move_here TT X_OutOfBounds G_bounded_value E_bounded_value G_makes_cell
  have E_pool_place := Sc.ok_poolE R_pool_place TT G_bounded_value E_bounded_value G_make_cell E_make_cell
  have E_word_of := Sc.ok_wofE R_word_of TT G_bounded_value E_bounded_value G_pool_place E_pool_place
  have E_go_over_first := Sc.ok_firstE R_go_over_first TT E_read_line E_tell_label E_move_here G_read_line G_tell_label G_move_here
  have E_go_over_again := Sc.ok_againE R_go_over_again TT E_make_cell E_word_of E_move_here G_makes_cell G_make_cell G_word_of G_move_here
  have E_assembled := Sc.ok_asmE R_assembled TT M_Sheet G_go_over_first G_go_over_again E_go_over_first E_go_over_again
  have G_law_said := Lx.ok_said R_law_said TE E_assembled
  have G_law_by_base := Lx.ok_base R_law_by_base TL TE E_assembled
  have G_law_refused := Lx.ok_refused R_law_refused TL G_law_said G_law_by_base
  have G_law_menu := K34.ok_menu (P := Pw) (w := w) (base := base) R_law_menu TL
  have G_law_bad := K34.ok_bad R_law_bad TL G_law_menu
  have GL := K34.ok_law R_law TL G_law_cell G_law_line G_law_bad G_law_refused
  exact L2.GF.fn GL e lk
 case S => exact fun K H a ns hl _ hS => ⟨a, ns, rfl, hS, fun _ => rfl⟩
 case C => exact fun _ _ _ _ z => z
