import PyProof.Rows.All
import Wide.All
import OpenK.AllK
import Wide.FinOn
import PyProof.EqAt
import PyProof.EqKinds
import PyProof.TupleCall
import KE.BitLaws
import VbahaqSpec
import KE.KDictSum
import KE.KSortTupG
import PyFlatLaws
import KE.KDictOf
import PyProof.Rows.SortShellAny
import Open.SpecLaws
import KE.OsHead
import KE.OsGo
import PySem.Challenge.RW_milehouse_s01_answers
set_option Elab.async false
set_option linter.all false
set_option maxRecDepth 100000
set_option maxHeartbeats 2000000
namespace L2
open PySem PySem.Spec PyProof.Rows
abbrev Key := Sum Int Str
def keyIs : Key -> Value -> Bool
 | .inl k, v => Value.isInt k v
 | .inr x, v => Value.isStrOf x v
def keyH (w : World) : Key -> Int
 | .inl k => hashInt k
 | .inr x => hashStr w x
theorem keyIs_shape : ∀ {k : Key} {v : Value}, keyIs k v = true -> (∃ i t, k = Sum.inl i /\ v = Value.int i t) \/ (∃ x t, k = Sum.inr x /\ v = Value.str x t)
 | .inl i, v, h => by
  obtain ⟨t, e⟩ := Value.isInt_shape (k := i) (v := v) h
  exact .inl ⟨i, t, rfl, e⟩
 | .inr x, v, h => by
  obtain ⟨t, e⟩ := Value.isStrOf_shape (x := x) (v := v) h
  exact .inr ⟨x, t, rfl, e⟩
theorem keyIs_int (i : Int) (t : Tok) : keyIs (.inl i) (.int i t) = true := by simp [keyIs, Value.isInt]
theorem keyIs_str (x : Str) (t : Tok) : keyIs (.inr x) (.str x t) = true := by simp [keyIs, Value.isStrOf]
theorem key_ll (a b : Int) : decide ((Sum.inl a : Key) = Sum.inl b) = (a == b) := by
 by_cases e : a = b
 ·subst e; simp
 ·have h : ¬ (Sum.inl a : Key) = Sum.inl b := fun q => e (Sum.inl.inj q)
  rw [decide_eq_false h]
  exact (beq_eq_false_iff_ne.mpr e).symm
theorem key_rr (a b : Str) : decide ((Sum.inr a : Key) = Sum.inr b) = decide (a = b) := by
 by_cases e : a = b
 ·subst e; simp
 ·have h : ¬ (Sum.inr a : Key) = Sum.inr b := fun q => e (Sum.inr.inj q)
  rw [decide_eq_false h, decide_eq_false e]
theorem key_lr (a : Int) (b : Str) : decide ((Sum.inl a : Key) = Sum.inr b) = false := decide_eq_false (fun q => nomatch q)
theorem key_rl (a : Str) (b : Int) : decide ((Sum.inr a : Key) = Sum.inl b) = false := decide_eq_false (fun q => nomatch q)
def mixKind (prog : Program) (w : World) : PySem.KeyKind prog w Key where
 is := keyIs
 hash := keyH w
 inj := fun v a b ha hb => by
  rcases keyIs_shape ha with ⟨i, t, rfl, rfl⟩ | ⟨x, t, rfl, rfl⟩
  ·rcases keyIs_shape hb with ⟨j, u, rfl, e⟩ | ⟨y, u, rfl, e⟩
   ·injection e with e1 _; rw [e1]
   ·exact nomatch e
  ·rcases keyIs_shape hb with ⟨j, u, rfl, e⟩ | ⟨y, u, rfl, e⟩
   ·exact nomatch e
   ·injection e with e1 _; rw [e1]
 byValue := fun k v h => by
  rcases keyIs_shape h with ⟨i, t, rfl, rfl⟩ | ⟨x, t, rfl, rfl⟩ <;> rfl
 pyHash := fun hv h => by
  rcases keyIs_shape hv with ⟨i, t, rfl, rfl⟩ | ⟨x, t, rfl, rfl⟩
  ·exact wpAny_pyHash_int h
  ·exact wpAny_pyHash_str h
 eqBool := fun hu hv h => by
  rcases keyIs_shape hu with ⟨i, t, rfl, rfl⟩ | ⟨x, t, rfl, rfl⟩
  ·rcases keyIs_shape hv with ⟨j, u, rfl, rfl⟩ | ⟨y, u, rfl, rfl⟩
   ·rw [key_ll] at h; exact wpAny_eqBool_int h
   ·rw [key_lr] at h; exact SeqAt.EqAt.int_str i t y u _ _ _ _ h
  ·rcases keyIs_shape hv with ⟨j, u, rfl, rfl⟩ | ⟨y, u, rfl, rfl⟩
   ·rw [key_rl] at h; exact SeqAt.EqAt.str_int x t j u _ _ _ _ h
   ·rw [key_rr] at h; exact wpAny_eqBool_str h
 «strs» := fun k x t v h => by
  rcases keyIs_shape h with ⟨i, u, rfl, e⟩ | ⟨y, u, rfl, e⟩
  ·exact nomatch e
  ·injection e with e1 _
   subst e1
   cases v <;> rfl
theorem mixKind_int (prog : Program) (w : World) (i : Int) (t : Tok) : (mixKind prog w).is (.inl i) (.int i t) = true := keyIs_int i t
theorem mixKind_str (prog : Program) (w : World) (x : Str) (t : Tok) : (mixKind prog w).is (.inr x) (.str x t) = true := keyIs_str x t
end L2
namespace L2
open PySem PySem.Spec PyProof.Rows
inductive V where
 | non | bl (b : Bool) | int (i : Int) | str (x : Str) | byt (b : Array UInt8) | flt (b : UInt64) | ref (a : Addr) | ty (n : String)
 deriving DecidableEq
def RelV : V -> Value -> Prop
 | .non, u => u = Value.none
 | .bl b, u => u = Value.bool b
 | .int i, u => ∃ t, u = Value.int i t
 | .str x, u => ∃ t, u = Value.str x t
 | .byt b, u => ∃ t, u = Value.bytes b t
 | .flt b, u => ∃ t, u = Value.float b t
 | .ref a, u => u = Value.ref a
 | .ty n, u => u = Value.type n
abbrev Vals : List V -> List Value -> Prop := Paired RelV
theorem Vals.length {xs : List V} {us : List Value} (r : Vals xs us) : xs.length = us.length := Paired.length r
theorem Vals.get : ∀ {xs : List V} {us : List Value} {i : Nat} {x : V}, Vals xs us -> xs[i]? = some x -> ∃ u, us[i]? = some u /\ RelV x u
 | _, _, _, _, .nil, e => by simp at e
 | _, _, 0, _, .cons r _, e => by simp at e; subst e; exact ⟨_, rfl, r⟩
 | _, _, i + 1, x, .cons _ t, e => by
  obtain ⟨u, h1, h2⟩ := Vals.get (i := i) (x := x) t (by simpa using e)
  exact ⟨u, by simpa using h1, h2⟩
theorem Vals.append : ∀ {xs ys : List V} {us ws : List Value}, Vals xs us -> Vals ys ws -> Vals (xs ++ ys) (us ++ ws)
 | _, _, _, _, .nil, s => s
 | _, _, _, _, .cons r t, s => .cons r (Vals.append t s)
theorem Vals.take : ∀ {xs : List V} {us : List Value} (n : Nat), Vals xs us -> Vals (xs.take n) (us.take n)
 | _, _, 0, _ => .nil
 | _, _, _ + 1, .nil => .nil
 | _, _, n + 1, .cons r t => .cons r (Vals.take n t)
theorem Vals.drop : ∀ {xs : List V} {us : List Value} (n : Nat), Vals xs us -> Vals (xs.drop n) (us.drop n)
 | _, _, 0, r => r
 | _, _, _ + 1, .nil => .nil
 | _, _, n + 1, .cons _ t => Vals.drop n t
def RelO : Option V -> Option Value -> Prop
 | some v, some u => RelV v u
 | none, none => True
 | _, _ => False
def KV {κ : Type} : List (κ × V) -> List (κ × Value) -> Prop := Paired fun (p : κ × V) (q : κ × Value) => p.1 = q.1 /\ RelV p.2 q.2
def kV : Key -> V
 | .inl i => .int i
 | .inr x => .str x
inductive HO where
 | lst (xs : List V)
 | tup (xs : List V)
 | dK (kvs : List (Key × V)) | dT (kvs : List (List Key × V))
 | set (S : Int -> Bool) (n : Nat)
 | ins (C dx : Addr) (fs : List (Str × V))
 | own (x : Addr)
 | xd (fs : List (Str × V))
 | met (f x : Addr)
 | rng (lo hi : Int)
 | frz (o : Obj) (u : HO)
 | tbl (ps : Array Value)
 | ext (φ : Heap -> Prop)
abbrev Hp := Addr -> Option HO
def upd (H : Hp) (a : Addr) (o : HO) : Hp := fun b => if b = a then some o else H b
theorem upd_same {H : Hp} {a : Addr} {o : HO} : upd H a o a = some o := by unfold upd; rw [if_pos rfl]
theorem upd_ne {H : Hp} {a b : Addr} {o : HO} (h : b ≠ a) : upd H a o b = H b := by unfold upd; rw [if_neg h]
theorem upd_upd {H : Hp} {a : Addr} {o u : HO} : upd (upd H a o) a u = upd H a u := by
 funext b; unfold upd; split <;> rfl
theorem ne_of {H : Hp} {a b : Addr} {o u : HO} (h : H a = some o) (h' : H b = some u) (d : o ≠ u) : a ≠ b := by
 intro e; subst e; rw [h] at h'; exact d (Option.some.inj h')
theorem ne_of_none {H : Hp} {a b : Addr} {o : HO} (h : H a = some o) (h' : H b = none) : a ≠ b := by
 intro e; subst e; rw [h] at h'; cases h'
section
variable (P : Program) (w : World)
def ObjOk (H : Hp) (h : Heap) (a : Addr) : HO -> Prop
 | .lst xs => xs.length <= sizeLine /\ ∃ (its : List Value) (n : Nat), Vals xs its /\ h.get? a = some { cls := .type "list", data := .seq its.toArray n }
 | .tup xs => xs.length <= sizeLine /\ ∃ its : List Value, Vals xs its /\ IsTup h a its.toArray
 | .dK kvs => kvs.length <= sizeLine /\ (a == sysModules) = false /\ ∃ vs, KV kvs vs /\ h.DictOf (mixKind P w) a vs
 | .dT kvs => kvs.length <= sizeLine /\ (a == sysModules) = false /\ ∃ xs : List (List Key × Addr × Value),
   Paired (fun (p : List Key × V) (q : List Key × Addr × Value) => p.1 = q.1 /\ H q.2.1 = some (.tup (p.1.map kV)) /\ RelV p.2 q.2.2) kvs xs /\
   ∃ o es ep, h.get? a = some o /\ o.ExactDict /\ o.data = .dict es ep /\ es.toList = xs.map (entryOfKey (tupleKind (mixKind P w))) /\ (xs.map (·.1)).Nodup
 | .set S n => h.SetOf (intKind P w) a S n
 | .ins C dx fs => H dx = some (.own a) /\ fs.length <= 1000 /\ dx ≠ a /\ h.get? a = some (PySem.W.instObj C dx) /\
   ∃ mA, h.Ns1 dx mA /\ (∀ f, RelO (fs.lookup f) (mA f)) /\ PySem.Within mA (fs.map (·.1))
 | .own _ => ∃ o, h.get? a = some o
 | .xd fs => ∃ mA, h.Ns1 a mA /\ ∀ f, RelO (fs.lookup f) (mA f)
 | .rng lo hi => ∃ t u v, h.get? a = some { cls := .type "range", data := .fields #[.int lo t, .int hi u, .int 1 v] }
 | .frz o u => h.get? a = some o /\ ObjOk H h a u
 | .tbl ps => h.get? a = some { cls := .none, data := .fields ps }
 | .met f x => h.get? a = some (PySem.W.methodObj (.ref f) (.ref x))
 | .ext φ => φ h /\ (∃ o, h.get? a = some o) /\ ∀ h1 h2 : Heap, φ h1 -> (∀ o, h1.get? a = some o -> h2.get? a = some o) -> φ h2
def HOk (H : Hp) (h : Heap) : Prop := ∀ a o, H a = some o -> ObjOk P w H h a o
end
section
variable {P : Program} {w : World} {H H' : Hp} {h h' : Heap} {a : Addr} {o : HO}
theorem ObjOk.lt (x : ObjOk P w H h a o) : a < h.objs.size := by
 cases o with
 | lst xs => obtain ⟨_, _, _, _, e⟩ := x; exact Heap.lt_size e
 | tup xs => obtain ⟨_, _, _, p⟩ := x; exact p.lt
 | dK kvs => obtain ⟨_, _, _, _, o, _, _, e, _⟩ := x; exact Heap.lt_size e
 | dT kvs => obtain ⟨_, _, _, _, o, _, _, e, _⟩ := x; exact Heap.lt_size e
 | set S n => obtain ⟨o, _, _, _, e, _⟩ := x; exact Heap.lt_size e
 | ins C dx fs => obtain ⟨_, _, _, e, _⟩ := x; exact Heap.lt_size e
 | own y => obtain ⟨_, e⟩ := x; exact Heap.lt_size e
 | xd fs => obtain ⟨_, ⟨_, _, _, e, _⟩, _⟩ := x; exact Heap.lt_size e
 | rng lo hi => obtain ⟨_, _, _, e⟩ := x; exact Heap.lt_size e
 | frz ob u => obtain ⟨e, _⟩ := x; exact Heap.lt_size e
 | tbl ps => exact Heap.lt_size (show h.get? a = some _ from x)
 | met f y => exact Heap.lt_size (show h.get? a = some _ from x)
 | ext φ => obtain ⟨_, ⟨_, e⟩, _⟩ := x; exact Heap.lt_size e
theorem Paired.mapP {α β : Type} {F G : α -> β -> Prop} : ∀ {l₁ : List α} {l₂ : List β}, Paired F l₁ l₂ -> (∀ a b, F a b -> G a b) -> Paired G l₁ l₂
 | _, _, .nil, _ => .nil
 | _, _, .cons r t, f => .cons (f _ _ r) (Paired.mapP t f)
theorem ObjOk.stay (x : ObjOk P w H h a o) (k : ∀ b u, (b = a \/ H b = some (.own a)) -> h.get? b = some u -> h'.get? b = some u)
  (ho : ∀ b, H b = some (.own a) -> H' b = some (.own a)) (ht : ∀ b xs, H b = some (.tup xs) -> H' b = some (.tup xs)) : ObjOk P w H' h' a o := by
 induction o with
 | lst xs => obtain ⟨z, its, n, r, e⟩ := x; exact ⟨z, its, n, r, k _ _ (.inl rfl) e⟩
 | tup xs => obtain ⟨z, its, r, ob, e, c⟩ := x; exact ⟨z, its, r, ob, k _ _ (.inl rfl) e, c⟩
 | dK kvs => obtain ⟨z, y, vs, r, ob, es, ep, e, c⟩ := x; exact ⟨z, y, vs, r, ob, es, ep, k _ _ (.inl rfl) e, c⟩
 | dT kvs =>
  obtain ⟨z, y, xs, r, ob, es, ep, e, c⟩ := x
  exact ⟨z, y, xs, Paired.mapP r fun p q z => ⟨z.1, ht _ _ z.2.1, z.2.2⟩, ob, es, ep, k _ _ (.inl rfl) e, c⟩
 | set S n => obtain ⟨ob, es, ep, t, e, c⟩ := x; exact ⟨ob, es, ep, t, k _ _ (.inl rfl) e, c⟩
 | ins C dx fs =>
  obtain ⟨d, z, ne, e, mA, ⟨od, es, ep, e2, c⟩, r⟩ := x
  exact ⟨ho _ d, z, ne, k _ _ (.inl rfl) e, mA, ⟨od, es, ep, k _ _ (.inr d) e2, c⟩, r⟩
 | own y => obtain ⟨ob, e⟩ := x; exact ⟨ob, k _ _ (.inl rfl) e⟩
 | xd fs => obtain ⟨mA, ⟨od, es, ep, e, c⟩, r⟩ := x; exact ⟨mA, ⟨od, es, ep, k _ _ (.inl rfl) e, c⟩, r⟩
 | rng lo hi => obtain ⟨t, u, v, e⟩ := x; exact ⟨t, u, v, k _ _ (.inl rfl) e⟩
 | frz ob u ih => obtain ⟨e, q⟩ := x; exact ⟨k _ _ (.inl rfl) e, ih q⟩
 | tbl ps =>
  have e : h.get? a = some { cls := .none, data := .fields ps } := x
  show h'.get? a = some { cls := .none, data := .fields ps }
  exact k a _ (.inl rfl) e
 | met f y =>
  have e : h.get? a = some (PySem.W.methodObj (.ref f) (.ref y)) := x
  show h'.get? a = some (PySem.W.methodObj (.ref f) (.ref y))
  exact k a _ (.inl rfl) e
 | ext φ => obtain ⟨p, ⟨o, e⟩, st⟩ := x; exact ⟨st _ _ p fun o q => k _ _ (.inl rfl) q, ⟨o, k _ _ (.inl rfl) e⟩, st⟩
theorem HOk.lt (x : HOk P w H h) (e : H a = some o) : a < h.objs.size := (x a o e).lt
theorem HOk.fresh (x : HOk P w H h) (e : h.objs.size <= a) : H a = none := by
 cases q : H a with
 | none => rfl
 | some u => exact absurd (Nat.lt_of_lt_of_le (x.lt q) e) (Nat.lt_irrefl _)
theorem HOk.kept (x : HOk P w H h) (k : ∀ b u, h.get? b = some u -> h'.get? b = some u) : HOk P w H h' := fun a o e =>
 (x a o e).stay (fun b u _ q => k b u q) (fun _ q => q) fun _ _ q => q
theorem HOk.laid (x : HOk P w H h) (k : ∀ b u, h.get? b = some u -> h'.get? b = some u) (hp : h.objs.size <= a) (new : ObjOk P w (upd H a o) h' a o) : HOk P w (upd H a o) h' := fun b u e => by
 have hn := x.fresh hp
 by_cases hb : b = a
 ·subst hb; rw [upd_same] at e; cases e; exact new
 ·rw [upd_ne hb] at e
  exact (x b u e).stay (fun c v _ q => k c v q) (fun c q => by rw [upd_ne (ne_of_none q hn)]; exact q) fun c xs q => by rw [upd_ne (ne_of_none q hn)]; exact q
end
def Rd (H : Hp) (a : Addr) (u : HO) : Prop := H a = some u \/ ∃ o, H a = some (.frz o u)
theorem Rd.ok {P : Program} {w : World} {H : Hp} {h : Heap} {a : Addr} {u : HO} (r : Rd H a u) (x : HOk P w H h) : ObjOk P w H h a u := by
 rcases r with r | ⟨o, r⟩
 ·exact x a u r
 ·obtain ⟨_, q⟩ := x a _ r
  exact q
def Mut : Option HO -> Prop
 | some (.lst _) => True
 | some (.dK _) => True
 | some (.dT _) => True
 | some (.set _ _) => True
 | some (.ins _ _ _) => True
 | some (.ext _) => True
 | _ => False
section
variable {P : Program} {w : World} {H : Hp} {h h' : Heap} {x e : Addr} {o' : HO}
theorem HOk.write (ok : HOk P w H h) (mu : Mut (H x)) (he : e = x \/ H e = some (.own x)) (k : ∀ b u, b ≠ e -> h.get? b = some u -> h'.get? b = some u) (heo : ∃ u, h'.get? e = some u)
  (new : ObjOk P w (upd H x o') h' x o') : HOk P w (upd H x o') h' := fun b u q => by
 have nown : ∀ c y, H c = some (.own y) -> c ≠ x := fun c y r z => by subst z; rw [r] at mu; exact mu
 have ntup : ∀ c xs, H c = some (.tup xs) -> c ≠ x := fun c xs r z => by subst z; rw [r] at mu; exact mu
 by_cases hb : b = x
 ·subst hb; rw [upd_same] at q; cases q; exact new
 ·rw [upd_ne hb] at q
  by_cases hbe : b = e
  ·have q' : H b = some (.own x) := by
    rcases he with z | z
    ·exact absurd (hbe.trans z) hb
    ·rw [hbe]; exact z
   rw [q] at q'; cases q'
   obtain ⟨v, hv⟩ := heo
   exact ⟨v, by rw [hbe]; exact hv⟩
  ·refine (ok b u q).stay (fun c v hc r => k c v ?_ r) (fun c r => by rw [upd_ne (nown c b r)]; exact r) fun c xs r => by rw [upd_ne (ntup c xs r)]; exact r
   rcases hc with rfl | hc
   ·exact hbe
   ·rintro rfl
    rcases he with z | z
    ·exact nown c b hc z
    ·rw [hc] at z; cases z; exact hb rfl
end
structure Un (fs ex : List Addr) (H H' : Hp) (h h' : Heap) : Prop where
 keep : ∀ b o, h.get? b = some o -> H b = none -> b ∉ fs -> b ∉ ex -> h'.get? b = some o
 slot : ∀ b o, h.get? b = some o -> H b = none -> b ∈ fs -> b ∉ ex -> ∃ sl, h'.get? b = some { o with slots := sl }
 free : ∀ b o, h.get? b = some o -> H b = none -> b ∉ ex -> H' b = none
 there : ∀ b o, h.get? b = some o -> b ∉ ex -> ∃ o', h'.get? b = some o'
 tups : ∀ b xs, H b = some (.tup xs) -> H' b = some (.tup xs)
 frzs : ∀ b o u, H b = some (.frz o u) -> H' b = some (.frz o u)
 tbls : ∀ b ps, H b = some (.tbl ps) -> ∃ more, H' b = some (.tbl (ps ++ more))
section
variable {fs fs' ex ex' : List Addr} {H H1 H2 : Hp} {h h1 h2 h' : Heap} {a x e : Addr} {o : HO}
theorem Un.any (u : Un fs ex H H1 h h1) {b : Addr} {ob : Obj} (q : h.get? b = some ob) (n : H b = none) (hx : b ∉ ex) : ∃ sl, h1.get? b = some { ob with slots := sl } := by
 by_cases hb : b ∈ fs
 ·exact u.slot b ob q n hb hx
 ·exact ⟨ob.slots, u.keep b ob q n hb hx⟩
theorem Un.kept (k : ∀ b u, h.get? b = some u -> h'.get? b = some u) : Un fs ex H H h h' :=
 ⟨fun b ob q _ _ _ => k b ob q, fun b ob q _ _ _ => ⟨ob.slots, k b ob q⟩, fun _ _ _ n _ => n, fun b ob q _ => ⟨ob, k b ob q⟩, fun _ _ q => q, fun _ _ _ q => q, fun _ ps q => ⟨#[], by rw [q]; simp⟩⟩
theorem Un.refl : Un fs ex H H h h := Un.kept fun _ _ q => q
theorem Un.laid (k : ∀ b u, h.get? b = some u -> h'.get? b = some u) (hp : h.objs.size <= a) (hn : H a = none) : Un fs ex H (upd H a o) h h' where
 keep := fun b u q _ _ _ => k b u q
 slot := fun b u q _ _ _ => ⟨u.slots, k b u q⟩
 free := fun b u q n _ => by rw [upd_ne (Nat.ne_of_lt (Nat.lt_of_lt_of_le (Heap.lt_size q) hp))]; exact n
 there := fun b u q _ => ⟨u, k b u q⟩
 tups := fun b xs q => by rw [upd_ne (ne_of_none q hn)]; exact q
 frzs := fun b u xs q => by rw [upd_ne (ne_of_none q hn)]; exact q
 tbls := fun b ps q => ⟨#[], by rw [upd_ne (ne_of_none q hn), q]; simp⟩
theorem Un.write (mu : Mut (H x)) (he : e = x \/ H e = some (.own x)) (k : ∀ b u, b ≠ e -> h.get? b = some u -> h'.get? b = some u) (heo : ∃ u, h'.get? e = some u) : Un fs ex H (upd H x o) h h' := by
 have hx : ∀ b, H b = none -> b ≠ x := fun b n z => by subst z; rw [n] at mu; exact mu
 have hb : ∀ b, H b = none -> b ≠ e := fun b n z => by
  subst z
  rcases he with r | r
  ·exact hx b n r
  ·rw [n] at r; cases r
 have hm : ∀ b u, H b = some u -> ¬ Mut (some u) -> b ≠ x := fun b u q nm z => by subst z; rw [q] at mu; exact nm mu
 refine ⟨fun b u q n _ _ => k b u (hb b n) q, fun b u q n _ _ => ⟨u.slots, k b u (hb b n) q⟩, fun b u q n _ => by rw [upd_ne (hx b n)]; exact n, fun b u q _ => ?_,
  fun b xs q => by rw [upd_ne (hm b _ q fun z => z)]; exact q, fun b u xs q => by rw [upd_ne (hm b _ q fun z => z)]; exact q, fun b ps q => ⟨#[], by rw [upd_ne (hm b _ q fun z => z), q]; simp⟩⟩
 by_cases hbe : b = e
 ·subst hbe; exact heo
 ·exact ⟨u, k b u hbe q⟩
end
def trk (h : Heap) (H : Hp) : List Addr := (List.range h.objs.size).filter fun a => (H a).isSome
def hidT (h : Heap) (H : Hp) : Heap := PySem.W.hideAll h (trk h H)
theorem hidT_size (h : Heap) (H : Hp) : (hidT h H).objs.size = h.objs.size := PySem.W.hideAll_size _ _
theorem hidT_get {h : Heap} {H : Hp} {b : Addr} {o : Obj} (e : h.get? b = some o) (n : H b = none) : (hidT h H).get? b = some o :=
 PySem.W.hideAll_get _ e fun hm => by
  have q : (H b).isSome = true := (List.mem_filter.mp hm).2
  rw [n] at q; simp at q
theorem of_hidT {h : Heap} {H : Hp} {b : Addr} {o : Obj} (e : (hidT h H).get? b = some o) : h.get? b = some o /\ H b = none := by
 have e' : h.get? b = some o := PySem.W.of_hideAll (trk h H) e
 refine ⟨e', ?_⟩
 cases q : H b with
 | none => rfl
 | some x =>
  have hm : b ∈ trk h H := List.mem_filter.mpr ⟨List.mem_range.mpr (Heap.lt_size e'), by simp [q]⟩
  have z : (hidT h H).get? b = none := PySem.W.hideAll_none (trk h H) hm
  rw [z] at e; cases e
end L2
namespace L2
open PySem PySem.Spec PyProof.Rows
structure Mod (K : PySem.W.Frag) (mg : Str -> Option Value) (base : Heap) : Prop where
 kin : K.In base
 glob : base.Ns mainGlobals mg
 blt : ∃ mb, base.Ns builtinsNs mb /\ ∀ x : Str, x ≠ "__name__" -> mb x = bootBuiltins x
 nolimit : base.NoLimit
structure Cx where
 prog : Program
 w : World
 K : PySem.W.Frag
 mg : Str -> Option Value
 base : Heap
 A : Around
 N : List Str
 s_0 : Shared
 H_0 : Hp
 env : Env
 outer : List Env
 stack : List Env
 ex : List Addr
 fn : Str -> Bool
 calm : Bool
 pn : List (Addr × Obj)
 xe : Value -> Shared -> Prop
def frs (l : List Env) : List Addr := l.filterMap (·.frame)
abbrev Cx.fs (X : Cx) : List Addr := frs X.outer
def Vis (sc : Scope) (x : Str) : Prop := sc.names.lookup x = some .local \/ sc.names.lookup x = some .cell \/ sc.names.lookup x = some .free
def Loc (sc : Scope) (x : Str) : Prop := sc.names.lookup x = some .local \/ sc.names.lookup x = some .cell
def Look (env : Env) (h : Heap) (m : Str -> Option Value) (x : Str) (u : Value) : Prop :=
 (env.kindOf x = some .local /\ m x = some u) \/ ((env.kindOf x = some .cell \/ env.kindOf x = some .free) /\ ∃ c, env.cells.lookup x = some c /\ h.IsCell c (some u))
structure Cx.Ok (X : Cx) : Prop where
 mod : Mod X.K X.mg X.base
 kind : X.env.scope.kind = .function
 glob : X.env.globals = mainGlobals
 blt : X.env.builtins = builtinsNs
 above : X.s_0.heap.objs.size <= X.env.locals
 inj : ∀ x y c, X.env.cells.lookup x = some c -> X.env.cells.lookup y = some c -> x = y
 has : ∀ x, (X.env.kindOf x = some .cell \/ X.env.kindOf x = some .free) -> ∃ c, X.env.cells.lookup x = some c
 cab : ∀ x c, X.fn x = true -> X.env.cells.lookup x = some c -> X.s_0.heap.objs.size <= c
 hd : X.calm = true -> X.A.handled = none
 frames : X.A.frames = some X.stack
 stk : X.stack = X.outer \/ (X.stack = X.env :: X.outer /\ X.env.frame = some X.env.locals)
 exf : ∀ b ∈ X.ex, b ≠ X.env.locals /\ ∀ x c, X.env.cells.lookup x = some c -> c ≠ b
 bs : ∀ b o, X.base.get? b = some o -> X.s_0.heap.get? b = some o /\ X.H_0 b = none
 bsz : X.base.objs.size <= X.s_0.heap.objs.size
 noex : ∀ b o, X.base.get? b = some o -> b ∉ X.ex
 exfs : ∀ b ∈ X.ex, b ∉ X.fs
 funs : X.s_0.heap.FunFrames X.base X.outer
 frf : ∀ b ∈ X.fs, X.H_0 b = none
structure Inv (X : Cx) (pins : List (Addr × Obj)) (σ : List (Option V)) (H : Hp) (s : Shared) : Prop where
 ok : X.Ok
 os : s.os = X.s_0.os
 bare : AllBare s.gens
 base : Un X.fs X.ex X.H_0 H X.s_0.heap s.heap
 loc : ∃ m, s.heap.Ns X.env.locals m /\ ∀ (i : Nat) (x : Str) (v : V), X.N[i]? = some x -> σ[i]? = some (some v) -> Vis X.env.scope x -> ∃ u, RelV v u /\ Look X.env s.heap m x u
 cell : ∀ x c, X.env.cells.lookup x = some c -> ∃ v, s.heap.IsCell c v
 free : H X.env.locals = none
 freeC : ∀ x c, X.env.cells.lookup x = some c -> H c = none
 pin : ∀ p ∈ X.pn ++ pins, s.heap.get? p.1 = some p.2 /\ H p.1 = none /\ p.1 ≠ X.env.locals /\ p.1 ∉ X.fs /\ ∀ v, p.2.data ≠ .cell v
 hok : HOk X.prog X.w H s.heap
 len : σ.length = X.N.length
section
variable {X : Cx} {pins : List (Addr × Obj)} {σ : List (Option V)} {H H' : Hp} {s : Shared} {h' : Heap}
theorem Cx.Ok.nofr (ok : X.Ok) {b : Addr} {o : Obj} (e : X.base.get? b = some o) : b ∉ X.fs := fun hb => by
 have := (ok.funs.mem hb).1
 rw [e] at this; cases this
theorem Inv.bs (I : Inv X pins σ H s) : ∀ b o, X.base.get? b = some o -> s.heap.get? b = some o /\ H b = none := fun b o e =>
 ⟨I.base.keep b o (I.ok.bs b o e).1 (I.ok.bs b o e).2 (I.ok.nofr e) (I.ok.noex b o e), I.base.free b o (I.ok.bs b o e).1 (I.ok.bs b o e).2 (I.ok.noex b o e)⟩
theorem Inv.bk (I : Inv X pins σ H s) : ∀ b o, X.base.get? b = some o -> s.heap.get? b = some o := fun b o e => (I.bs b o e).1
theorem Inv.mod (I : Inv X pins σ H s) : Mod X.K X.mg X.base := I.ok.mod
theorem Inv.kIn (I : Inv X pins σ H s) : X.K.In s.heap := I.ok.mod.kin.keeps I.bk
theorem Inv.lt (I : Inv X pins σ H s) : X.env.locals < s.heap.objs.size := let ⟨_, hn, _⟩ := I.loc; hn.lt
theorem Inv.sz (I : Inv X pins σ H s) : X.s_0.heap.objs.size <= s.heap.objs.size := Nat.le_trans I.ok.above (Nat.le_of_lt I.lt)
theorem Inv.nofs (I : Inv X pins σ H s) {a : Addr} (h : s.heap.objs.size <= a) : a ∉ X.fs := fun hb => by
 obtain ⟨_, o, ho, _⟩ := I.ok.funs.mem hb
 exact absurd (Nat.lt_of_lt_of_le (Heap.lt_size ho) (Nat.le_trans I.sz h)) (Nat.lt_irrefl _)
theorem Inv.cne (I : Inv X pins σ H s) : ∀ x c, X.env.cells.lookup x = some c -> c ≠ X.env.locals := fun x c e z => by
 obtain ⟨v, o, ho, hd⟩ := I.cell x c e
 obtain ⟨m, ⟨o', es, ep, ho', hd', _⟩, _⟩ := I.loc
 rw [z, ho'] at ho; cases ho; rw [hd'] at hd; cases hd
theorem Inv.funs (I : Inv X pins σ H s) : s.heap.FunFrames X.base X.outer := by
 have all : ∀ (l : List Env), (∀ b ∈ frs l, b ∈ X.fs) -> X.s_0.heap.FunFrames X.base l -> s.heap.FunFrames X.base l := by
  intro l
  induction l with
  | nil => intro _ _; trivial
  | cons env r ih =>
   intro hs hl
   obtain ⟨hk, ⟨L, o, hf, hn, ho, hd⟩, hr⟩ := hl
   have hL : L ∈ X.fs := hs L (by unfold frs; rw [List.filterMap_cons, hf]; exact List.mem_cons_self)
   obtain ⟨sl, e⟩ := I.base.slot L o ho (I.ok.frf L hL) hL fun z => I.ok.exfs L z hL
   exact ⟨hk, ⟨L, _, hf, hn, e, hd⟩, ih (fun b hb => hs b (by unfold frs; rw [List.filterMap_cons, hf]; exact List.mem_cons_of_mem _ hb)) hr⟩
 exact all X.outer (fun _ hb => hb) I.ok.funs
theorem Inv.stack (I : Inv X pins σ H s) : s.heap.FunFrames X.base X.stack := by
 rcases I.ok.stk with e | ⟨e, hf⟩
 ·rw [e]; exact I.funs
 ·rw [e]
  obtain ⟨m, hn, _⟩ := I.loc
  refine .cons (by rw [I.ok.kind]; decide) hf hn ?_ I.funs
  exact Heap.get?_none_of_le (Nat.le_trans I.ok.bsz I.ok.above)
theorem Inv.stkSub (I : Inv X pins σ H s) : ∀ b ∈ frs X.stack, b ∈ X.env.locals :: X.fs := fun b hb => by
 rcases I.ok.stk with e | ⟨e, hf⟩
 ·rw [e] at hb; exact List.mem_cons_of_mem _ hb
 ·rw [e] at hb
  unfold frs at hb
  rw [List.filterMap_cons, hf] at hb
  exact hb
theorem Inv.stkFree (I : Inv X pins σ H s) : ∀ b ∈ frs X.stack, H b = none := fun b hb => by
 rcases List.mem_cons.mp (I.stkSub b hb) with e | hb
 ·rw [e]; exact I.free
 ·obtain ⟨_, o, ho, _⟩ := I.ok.funs.mem hb
  exact I.base.free b o ho (I.ok.frf b hb) fun z => I.ok.exfs b z hb
theorem Inv.step {g' : Array GenState} {t' : Nat} {d' : Drawn} {ch : List Addr} (I : Inv X pins σ H s)
  (hch : ∀ b ∈ ch, (b ∈ X.ex \/ X.s_0.heap.objs.size <= b) /\ b ≠ X.env.locals /\ (∀ x c, X.env.cells.lookup x = some c -> c ≠ b) /\ ∀ p ∈ X.pn ++ pins, p.1 ≠ b)
  (keep : ∀ b o, b ≠ X.env.locals -> b ∉ X.fs -> b ∉ ch -> s.heap.get? b = some o -> H b = none -> h'.get? b = some o)
  (slot : ∀ b o, b ≠ X.env.locals -> b ∈ X.fs -> b ∉ ch -> s.heap.get? b = some o -> H b = none -> ∃ sl, h'.get? b = some { o with slots := sl }) (free : ∀ b o, b ∉ ch -> s.heap.get? b = some o -> H b = none -> H' b = none)
  (there : ∀ b o, b ∉ ch -> s.heap.get? b = some o -> ∃ o', h'.get? b = some o')
  (tups : ∀ b xs, H b = some (.tup xs) -> H' b = some (.tup xs)) (frzs : ∀ b o u, H b = some (.frz o u) -> H' b = some (.frz o u)) (tbls : ∀ b ps, H b = some (.tbl ps) -> ∃ more, H' b = some (.tbl (ps ++ more)))
  (ns : ∀ m, s.heap.Ns X.env.locals m -> h'.Ns X.env.locals m) (hok : HOk X.prog X.w H' h') (hg : AllBare g') :
  Inv X pins σ H' { s with heap := h', gens := g', drawn := d', toks := t' } := by
 have neL : ∀ b o, X.s_0.heap.get? b = some o -> b ≠ X.env.locals := fun b o e => Nat.ne_of_lt (Nat.lt_of_lt_of_le (Heap.lt_size e) I.ok.above)
 have neC : ∀ b o, X.s_0.heap.get? b = some o -> b ∉ X.ex -> b ∉ ch := fun b o e hx hb => by
  rcases (hch b hb).1 with z | z
  ·exact hx z
  ·exact absurd (Nat.lt_of_lt_of_le (Heap.lt_size e) z) (Nat.lt_irrefl _)
 have cellK : ∀ x c, X.env.cells.lookup x = some c -> ∀ v, s.heap.IsCell c v -> h'.IsCell c v := fun x c e v ⟨o, ho, hd⟩ => by
  have nch : c ∉ ch := fun z => (hch c z).2.2.1 x c e rfl
  by_cases hc : c ∈ X.fs
  ·obtain ⟨sl, q⟩ := slot c o (I.cne x c e) hc nch ho (I.freeC x c e)
   exact ⟨_, q, hd⟩
  ·exact ⟨o, keep c o (I.cne x c e) hc nch ho (I.freeC x c e), hd⟩
 refine ⟨I.ok, I.os, hg, ⟨fun b o e n hb hx => ?_, fun b o e n hb hx => ?_, fun b o e n hx => ?_, fun b o e hx => ?_, fun b xs e => tups b xs (I.base.tups b xs e), fun b o xs e => frzs b o xs (I.base.frzs b o xs e), fun b ps e => ?_⟩, ?_, fun x c e => ?_, ?_, fun x c e => ?_, fun p hp => ?_, hok, I.len⟩
 ·exact keep b o (neL b o e) hb (neC b o e hx) (I.base.keep b o e n hb hx) (I.base.free b o e n hx)
 ·obtain ⟨sl, e1⟩ := I.base.slot b o e n hb hx
  obtain ⟨sl', e2⟩ := slot b _ (neL b o e) hb (neC b o e hx) e1 (I.base.free b o e n hx)
  exact ⟨sl', e2⟩
 ·obtain ⟨o', e1⟩ := I.base.there b o e hx
  exact free b o' (neC b o e hx) e1 (I.base.free b o e n hx)
 ·obtain ⟨o', e1⟩ := I.base.there b o e hx
  exact there b o' (neC b o e hx) e1
 ·obtain ⟨m1, e1⟩ := I.base.tbls b ps e
  obtain ⟨m2, e2⟩ := tbls b _ e1
  exact ⟨m1 ++ m2, by rw [e2, Array.append_assoc]⟩
 ·obtain ⟨m, hn, hl⟩ := I.loc
  refine ⟨m, ns m hn, fun i x v e1 e2 e3 => ?_⟩
  obtain ⟨u, r, l⟩ := hl i x v e1 e2 e3
  refine ⟨u, r, ?_⟩
  rcases l with l | ⟨k, c, e, z⟩
  ·exact .inl l
  ·exact .inr ⟨k, c, e, cellK x c e _ z⟩
 ·obtain ⟨v, z⟩ := I.cell x c e
  exact ⟨v, cellK x c e v z⟩
 ·obtain ⟨m, ⟨o, _, _, ho, _⟩, _⟩ := I.loc
  exact free _ o (fun z => (hch _ z).2.1 rfl) ho I.free
 ·obtain ⟨v, o, ho, hd⟩ := I.cell x c e
  exact free c o (fun z => (hch c z).2.2.1 x c e rfl) ho (I.freeC x c e)
 ·obtain ⟨e, n, ne, nf, d⟩ := I.pin p hp
  have nch : p.1 ∉ ch := fun z => (hch p.1 z).2.2.2 p hp rfl
  exact ⟨keep p.1 p.2 ne nf nch e n, free p.1 p.2 nch e n, ne, nf, d⟩
theorem Inv.un {t' : Nat} (I : Inv X pins σ H s) (u : Un X.fs [] H H' s.heap h') (hok : HOk X.prog X.w H' h') : Inv X pins σ H' { s with heap := h', toks := t' } := by
 obtain ⟨m, ⟨o, es, ep, ho, r⟩, _⟩ := id I.loc
 obtain ⟨sl, hL⟩ := u.any ho I.free (by simp)
 exact I.step (g' := s.gens) (d' := s.drawn) (ch := []) (fun _ z => nomatch z) (fun b o _ hb _ e n => u.keep b o e n hb (by simp)) (fun b o _ hb _ e n => u.slot b o e n hb (by simp)) (fun b o _ e n => u.free b o e n (by simp)) (fun b o _ e => u.there b o e (by simp)) u.tups u.frzs u.tbls (fun m' hm => by
  obtain ⟨o', es', ep', ho', r'⟩ := hm
  rw [ho] at ho'; cases ho'
  exact ⟨_, es', ep', hL, r'⟩) hok I.bare
theorem Inv.call {g' : Array GenState} {t' : Nat} {d' : Drawn} {ch : List Addr} (I : Inv X pins σ H s) (u : Un (frs X.stack) ch H H' s.heap h') (hok : HOk X.prog X.w H' h') (hg : AllBare g')
  (hch : ∀ b ∈ ch, (b ∈ X.ex \/ X.s_0.heap.objs.size <= b) /\ b ≠ X.env.locals /\ (∀ x c, X.env.cells.lookup x = some c -> c ≠ b) /\ ∀ p ∈ X.pn ++ pins, p.1 ≠ b) :
  Inv X pins σ H' { s with heap := h', gens := g', drawn := d', toks := t' } := by
 obtain ⟨m, ⟨o, es, ep, ho, r⟩, _⟩ := id I.loc
 obtain ⟨sl, hL⟩ := u.any ho I.free fun z => (hch _ z).2.1 rfl
 exact I.step (ch := ch) hch (fun b o hL hb hc e n => u.keep b o e n (fun z => (List.mem_cons.mp (I.stkSub b z)).elim hL hb) hc) (fun b o _ _ hc e n => u.any e n hc) (fun b o hc e n => u.free b o e n hc) (fun b o hc e => u.there b o e hc) u.tups u.frzs u.tbls (fun m' hm => by
  obtain ⟨o', es', ep', ho', r'⟩ := hm
  rw [ho] at ho'; cases ho'
  exact ⟨_, es', ep', hL, r'⟩) hok hg
theorem Inv.turned {t' : Nat} {it : Addr} (I : Inv X pins σ H s) (k : ∀ b o, b ≠ it -> s.heap.get? b = some o -> h'.get? b = some o) (hn : H it = none) (hL : it ≠ X.env.locals)
  (h1 : it ∈ X.ex \/ X.s_0.heap.objs.size <= it) (h2 : ∀ x c, X.env.cells.lookup x = some c -> c ≠ it) (h3 : ∀ p ∈ X.pn ++ pins, p.1 ≠ it) : Inv X pins σ H { s with heap := h', toks := t' } := by
 have nit : ∀ b u, H b = some u -> b ≠ it := fun b u e z => by rw [z, hn] at e; cases e
 refine I.step (g' := s.gens) (d' := s.drawn) (ch := [it]) (fun b hb => ?_) (fun b o _ _ hc e _ => k b o (fun z => hc (by simp [z])) e) (fun b o _ _ hc e _ => ⟨o.slots, k b o (fun z => hc (by simp [z])) e⟩) (fun _ _ _ _ n => n)
  (fun b o hc e => ⟨o, k b o (fun z => hc (by simp [z])) e⟩) (fun _ _ e => e) (fun _ _ _ e => e) (fun b ps e => ⟨#[], by rw [e]; simp⟩) (fun m hm => ?_) (fun b u e => ?_) I.bare
 ·have e : b = it := by simpa using hb
  subst e
  exact ⟨h1, hL, h2, h3⟩
 ·obtain ⟨o, es, ep, ho, r⟩ := hm
  exact ⟨o, es, ep, k _ o (Ne.symm hL) ho, r⟩
 ·refine (I.hok b u e).stay (fun c v hc q => k c v ?_ q) (fun _ q => q) fun _ _ q => q
  rcases hc with z | z
  ·rw [z]; exact nit b u e
  ·exact nit c _ z
theorem Inv.tok (I : Inv X pins σ H s) (t : Nat) : Inv X pins σ H { s with toks := t } := I.un (h' := s.heap) (t' := t) Un.refl I.hok
theorem Inv.kept {t' : Nat} (I : Inv X pins σ H s) (k : ∀ b u, s.heap.get? b = some u -> h'.get? b = some u) : Inv X pins σ H { s with heap := h', toks := t' } := I.un (Un.kept k) (I.hok.kept k)
theorem Inv.laid {a : Addr} {o : HO} {t' : Nat} (I : Inv X pins σ H s) (k : ∀ b u, s.heap.get? b = some u -> h'.get? b = some u) (hp : s.heap.objs.size <= a) (new : ObjOk X.prog X.w (upd H a o) h' a o) :
  Inv X pins σ (upd H a o) { s with heap := h', toks := t' } := I.un (Un.laid k hp (I.hok.fresh hp)) (I.hok.laid k hp new)
theorem Inv.write {x e : Addr} {o : HO} {t' : Nat} (I : Inv X pins σ H s) (mu : Mut (H x)) (he : e = x \/ H e = some (.own x)) (k : ∀ b u, b ≠ e -> s.heap.get? b = some u -> h'.get? b = some u) (heo : ∃ u, h'.get? e = some u)
  (new : ObjOk X.prog X.w (upd H x o) h' x o) : Inv X pins σ (upd H x o) { s with heap := h', toks := t' } := I.un (Un.write mu he k heo) (I.hok.write mu he k heo new)
theorem Inv.weak {σ' : List (Option V)} (I : Inv X pins σ H s) (hl : σ'.length = σ.length) (w : ∀ (i : Nat) v, σ'[i]? = some (some v) -> σ[i]? = some (some v)) : Inv X pins σ' H s :=
 ⟨I.ok, I.os, I.bare, I.base, let ⟨m, hn, hl'⟩ := I.loc; ⟨m, hn, fun i x v e1 e2 e3 => hl' i x v e1 (w i v e2) e3⟩, I.cell, I.free, I.freeC, I.pin, I.hok, hl.trans I.len⟩
theorem Inv.pins_of {pins' : List (Addr × Obj)} (I : Inv X pins σ H s) (h : ∀ p ∈ pins', s.heap.get? p.1 = some p.2 /\ H p.1 = none /\ p.1 ≠ X.env.locals /\ p.1 ∉ X.fs /\ ∀ v, p.2.data ≠ .cell v) : Inv X pins' σ H s :=
 ⟨I.ok, I.os, I.bare, I.base, I.loc, I.cell, I.free, I.freeC, fun p hp => (List.mem_append.mp hp).elim (fun z => I.pin p (List.mem_append_left _ z)) (h p), I.hok, I.len⟩
theorem nodup_ix {N : List Str} (hN : N.Nodup) {i j : Nat} {x : Str} (a : N[i]? = some x) (b : N[j]? = some x) : i = j := by
 obtain ⟨h1, e1⟩ := List.getElem?_eq_some_iff.mp a
 obtain ⟨h2, e2⟩ := List.getElem?_eq_some_iff.mp b
 exact (List.getElem_inj hN).mp (e1.trans e2.symm)
theorem store_ok2 {M : Model} {A : Around} {E : Value -> Shared -> Prop} {i : Nat} {x : Str} {v : V} {u : Value} {Q : Unit -> Shared -> Prop} (I : Inv X pins σ H s) (hN : X.N.Nodup) (hi : X.N[i]? = some x) (hx : Loc X.env.scope x) (r : RelV v u)
  (h : ∀ s', Inv X pins (σ.set i (some v)) H s' -> (∃ a, Heap.SameBut a s.heap s'.heap /\ (a = X.env.locals \/ X.env.cells.lookup x = some a)) -> Q () s') (hf : X.fn x = true \/ X.env.scope.names.lookup x = some .local := by first | exact .inl rfl | exact .inr rfl | assumption) : wpAny M A (storeName X.env x u) Q E s := by
 obtain ⟨m, hn, hl⟩ := id I.loc
 have hcls : (X.env.scope.kind == .class || (X.env.scope.kind == .module && X.env.locals != X.env.globals)) = false := by rw [I.ok.kind]; rfl
 have hiσ : i < σ.length := by rw [I.len]; exact (List.getElem?_eq_some_iff.mp hi).1
 have cne := I.cne
 have tracked : ∀ {a : Addr} {h' : Heap}, (∃ o, s.heap.get? a = some o /\ H a = none) -> Heap.SameBut a s.heap h' -> HOk X.prog X.w H h' := fun {a h'} ha hs b ob e => by
  obtain ⟨_, _, hfree⟩ := ha
  refine (I.hok b ob e).stay (fun c w' hc q => (hs.2 c ?_).trans q) (fun _ q => q) fun _ _ q => q
  rintro rfl
  rcases hc with rfl | hc
  ·rw [hfree] at e; cases e
  ·rw [hfree] at hc; cases hc
 rcases hx with hk | hk
 ·refine wpAny_storeName_local hk hn (fun h' hn' hs => ?_) hcls
  obtain ⟨oL, _, _, hoL, _⟩ := id hn
  refine h _ ⟨I.ok, I.os, I.bare, ⟨fun b o e n hb hx => ?_, fun b o e n hb hx => ?_, I.base.free, fun b o e hx => ?_, I.base.tups, I.base.frzs, I.base.tbls⟩, ⟨_, hn', fun j y v' e1 e2 e3 => ?_⟩, fun y c e => ?_, I.free, I.freeC, fun p hp => ?_, tracked ⟨oL, hoL, I.free⟩ hs, by simpa using I.len⟩ ⟨_, hs, .inl rfl⟩
  ·exact (hs.2 b (Nat.ne_of_lt (Nat.lt_of_lt_of_le (Heap.lt_size e) I.ok.above))).trans (I.base.keep b o e n hb hx)
  ·obtain ⟨sl, e1⟩ := I.base.slot b o e n hb hx
   exact ⟨sl, (hs.2 b (Nat.ne_of_lt (Nat.lt_of_lt_of_le (Heap.lt_size e) I.ok.above))).trans e1⟩
  ·obtain ⟨o', e1⟩ := I.base.there b o e hx
   exact ⟨o', (hs.2 b (Nat.ne_of_lt (Nat.lt_of_lt_of_le (Heap.lt_size e) I.ok.above))).trans e1⟩
  ·by_cases hj : j = i
   ·subst hj
    rw [hi] at e1; cases e1
    rw [List.getElem?_set_self hiσ] at e2
    cases e2
    exact ⟨u, r, .inl ⟨hk, by simp⟩⟩
   ·rw [List.getElem?_set_ne (Ne.symm hj)] at e2
    obtain ⟨u', r', q⟩ := hl j y v' e1 e2 e3
    refine ⟨u', r', ?_⟩
    rcases q with ⟨k, e⟩ | ⟨k, c, e, z⟩
    ·refine .inl ⟨k, ?_⟩
     have : y ≠ x := fun e => hj (nodup_ix hN e1 (e ▸ hi))
     simp [this, e]
    ·exact .inr ⟨k, c, e, z.sameBut hs (cne y c e)⟩
  ·obtain ⟨w', z⟩ := I.cell y c e
   exact ⟨w', z.sameBut hs (cne y c e)⟩
  ·obtain ⟨e, n, ne, nf, d⟩ := I.pin p hp
   exact ⟨(hs.2 p.1 ne).trans e, n, ne, nf, d⟩
 ·have hfn : X.fn x = true := by
   rcases hf with z | z
   ·exact z
   ·rw [z] at hk; cases hk
  obtain ⟨c, hc⟩ := I.ok.has x (.inl hk)
  obtain ⟨w', z⟩ := I.cell x c hc
  refine wpAny_storeName_cell I.ok.kind hk hc z (fun h' hc' hs => ?_)
  obtain ⟨oc, hoc, hocd⟩ := id z
  refine h { s with heap := h' } ⟨I.ok, I.os, I.bare, ⟨fun b o e n hb hx => ?_, fun b o e n hb hx => ?_, I.base.free, fun b o e hx => ?_, I.base.tups, I.base.frzs, I.base.tbls⟩, ⟨m, hn.sameBut hs (Ne.symm (cne x c hc)), fun j y v' e1 e2 e3 => ?_⟩, fun y c' e => ?_, I.free, I.freeC, fun p hp => ?_, tracked ⟨oc, hoc, I.freeC x c hc⟩ hs, by simpa using I.len⟩ ⟨c, hs, .inr hc⟩
  ·exact (hs.2 b (Nat.ne_of_lt (Nat.lt_of_lt_of_le (Heap.lt_size e) (I.ok.cab x c hfn hc)))).trans (I.base.keep b o e n hb hx)
  ·obtain ⟨sl, e1⟩ := I.base.slot b o e n hb hx
   exact ⟨sl, (hs.2 b (Nat.ne_of_lt (Nat.lt_of_lt_of_le (Heap.lt_size e) (I.ok.cab x c hfn hc)))).trans e1⟩
  ·obtain ⟨o', e1⟩ := I.base.there b o e hx
   exact ⟨o', (hs.2 b (Nat.ne_of_lt (Nat.lt_of_lt_of_le (Heap.lt_size e) (I.ok.cab x c hfn hc)))).trans e1⟩
  ·by_cases hj : j = i
   ·subst hj
    rw [hi] at e1; cases e1
    rw [List.getElem?_set_self hiσ] at e2
    cases e2
    exact ⟨u, r, .inr ⟨.inl hk, c, hc, hc'⟩⟩
   ·rw [List.getElem?_set_ne (Ne.symm hj)] at e2
    obtain ⟨u', r', q⟩ := hl j y v' e1 e2 e3
    refine ⟨u', r', ?_⟩
    rcases q with q | ⟨k, c', e, z'⟩
    ·exact .inl q
    ·refine .inr ⟨k, c', e, z'.sameBut hs ?_⟩
     rintro rfl
     exact hj (nodup_ix hN e1 (I.ok.inj _ _ _ e hc ▸ hi))
  ·by_cases hcc : c' = c
   ·subst hcc; exact ⟨_, hc'⟩
   ·obtain ⟨w2, z2⟩ := I.cell y c' e
    exact ⟨w2, z2.sameBut hs hcc⟩
  ·obtain ⟨e, n, ne, nf, d⟩ := I.pin p hp
   refine ⟨(hs.2 p.1 ?_).trans e, n, ne, nf, d⟩
   intro q
   rw [q, hoc] at e
   have q' : oc = p.2 := Option.some.inj e
   exact d w' (by rw [<- q']; exact hocd)
theorem store_ok {M : Model} {A : Around} {E : Value -> Shared -> Prop} {i : Nat} {x : Str} {v : V} {u : Value} {Q : Unit -> Shared -> Prop} (I : Inv X pins σ H s) (hN : X.N.Nodup) (hi : X.N[i]? = some x) (hx : Loc X.env.scope x) (r : RelV v u)
  (h : ∀ s', Inv X pins (σ.set i (some v)) H s' -> Q () s') (hf : X.fn x = true \/ X.env.scope.names.lookup x = some .local := by first | exact .inl rfl | exact .inr rfl | assumption) : wpAny M A (storeName X.env x u) Q E s :=
 store_ok2 I hN hi hx r (fun s' I' _ => h s' I') hf
theorem Inv.call' {s' : Shared} {ch : List Addr} (I : Inv X pins σ H s) (ho : s'.os = s.os) (u : Un (frs X.stack) ch H H' s.heap s'.heap) (hok : HOk X.prog X.w H' s'.heap) (hg : AllBare s'.gens)
  (hch : ∀ b ∈ ch, (b ∈ X.ex \/ X.s_0.heap.objs.size <= b) /\ b ≠ X.env.locals /\ (∀ x c, X.env.cells.lookup x = some c -> c ≠ b) /\ ∀ p ∈ X.pn ++ pins, p.1 ≠ b) : Inv X pins σ H' s' := by
 obtain ⟨h', g', d', t', o'⟩ := s'
 have e : o' = s.os := ho
 subst e
 exact I.call (g' := g') (t' := t') (d' := d') u hok hg hch
end
abbrev XK := Value -> Option Addr -> Hp -> Prop
abbrev St := List (Option V)
abbrev VK := V -> Hp -> Prop
abbrev TE := St -> Hp -> VK -> Prop
abbrev TT := St -> Hp -> (Bool -> Hp -> Prop) -> Prop
abbrev TA := St -> Hp -> (List V -> Hp -> Prop) -> Prop
structure Ends where
 nx : St -> Hp -> Prop
 rt : VK
 bk : St -> Hp -> Prop := fun _ _ => False
 ct : St -> Hp -> Prop := fun _ _ => False
abbrev TS := Ends -> St -> Hp -> Prop
def EP (X : Cx) (pins : List (Addr × Obj)) (σ : St) (Q : VK) (u : Value) (s' : Shared) : Prop := ∃ v H', Inv X pins σ H' s' /\ RelV v u /\ Q v H'
def TP (X : Cx) (pins : List (Addr × Obj)) (σ : St) (Q : Bool -> Hp -> Prop) (b : Bool) (s' : Shared) : Prop := ∃ H', Inv X pins σ H' s' /\ Q b H'
def AP (X : Cx) (pins : List (Addr × Obj)) (σ : St) (Q : List V -> Hp -> Prop) (us : List Value) (s' : Shared) : Prop := ∃ vs H', Inv X pins σ H' s' /\ Vals vs us /\ Q vs H'
def SP (X : Cx) (pins : List (Addr × Obj)) (D : Ends) (f : Flow) (s' : Shared) : Prop :=
 match f with
 | .next => ∃ σ' H', Inv X pins σ' H' s' /\ D.nx σ' H'
 | .brk => ∃ σ' H', Inv X pins σ' H' s' /\ D.bk σ' H'
 | .cont => ∃ σ' H', Inv X pins σ' H' s' /\ D.ct σ' H'
 | .ret u => ∃ v σ' H', Inv X pins σ' H' s' /\ RelV v u /\ D.rt v H'
def PE (X : Cx) (e : Expr) (t : TE) : Prop :=
 ∀ (pins : List (Addr × Obj)) (s : Shared) (σ : St) (H : Hp) (Q : VK), Inv X pins σ H s -> t σ H Q -> wpAny (model X.prog X.w) X.A (eval e X.env) (EP X pins σ Q) X.xe s
def PT (X : Cx) (e : Expr) (t : TT) : Prop :=
 ∀ (pins : List (Addr × Obj)) (s : Shared) (σ : St) (H : Hp) (Q : Bool -> Hp -> Prop), Inv X pins σ H s -> t σ H Q -> wpAny (model X.prog X.w) X.A (isTrue e X.env (eval e X.env)) (TP X pins σ Q) X.xe s
def PW (X : Cx) (e : Expr) (t : TT) : Prop :=
 ∀ (whole : Sem Value) (pins : List (Addr × Obj)) (s : Shared) (σ : St) (H : Hp) (Q : Bool -> Hp -> Prop), Inv X pins σ H s -> t σ H Q -> wpAny (model X.prog X.w) X.A (isTrue e X.env whole) (TP X pins σ Q) X.xe s
theorem PW.pt {X : Cx} {e : Expr} {t : TT} (h : PW X e t) : PT X e t := h _
def PA (X : Cx) (es : List Expr) (t : TA) : Prop :=
 ∀ (pos : Pos) (pins : List (Addr × Obj)) (s : Shared) (σ : St) (H : Hp) (Q : List V -> Hp -> Prop), Inv X pins σ H s -> t σ H Q -> wpAny (model X.prog X.w) X.A (spliced (backTo pos (starEach es X.env))) (AP X pins σ Q) X.xe s
def PS (X : Cx) (st : Stmt) (t : TS) : Prop :=
 ∀ (pins : List (Addr × Obj)) (s : Shared) (σ : St) (H : Hp) (D : Ends), Inv X pins σ H s -> t D σ H -> wpAny (model X.prog X.w) X.A (exec st X.env) (SP X pins D) X.xe s
def PSs (X : Cx) (st : List Stmt) (t : TS) : Prop :=
 ∀ (pins : List (Addr × Obj)) (s : Shared) (σ : St) (H : Hp) (D : Ends), Inv X pins σ H s -> t D σ H -> wpAny (model X.prog X.w) X.A (execs st X.env) (SP X pins D) X.xe s
theorem thn {α : Type} {t : Sem α} {Q Q' : α -> Shared -> Prop} {M : Model} {A : Around} {E : Value -> Shared -> Prop} {s : Shared} (h : wpAny M A t Q E s) (hQ : ∀ a s, Q a s -> Q' a s) : wpAny M A t Q' E s := wpAny_mono h hQ fun _ _ x => x
end L2
namespace L2
open PySem PySem.Spec PyProof.Rows
section
variable {X : Cx}
def tVar (i : Nat) : TE := fun σ H Q => ∃ v, σ[i]? = some (some v) /\ Q v H
def tC (v : V) : TE := fun _ H Q => Q v H
theorem pe_var {i : Nat} {x : Str} {pos : Pos} (hN : X.N[i]? = some x) (hv : Vis X.env.scope x) (hd : (x == ("__debug__" : Str)) = false := by decide) (hcd : (x == ("__classdict__" : Str)) = false := by decide) : PE X (.Name x pos) (tVar i) := by
 intro pins s σ H Q I h
 obtain ⟨v, e, h⟩ := h
 obtain ⟨m, hn, hl⟩ := I.loc
 obtain ⟨u, r, l⟩ := hl i x v hN e hv
 have fin : EP X pins σ Q u s := ⟨v, H, I, r, h⟩
 rcases l with ⟨hk, hm⟩ | ⟨hk, c, hc, hcell⟩
 ·exact wpAny_Name (wpAny_loadName_local I.ok.kind hk hn hm fin) hd
 ·rcases hk with hk | hk
  ·exact wpAny_Name (wpAny_loadName_cell I.ok.kind hk hc hcell fin) hd
  ·exact wpAny_Name (wpAny_loadName_free I.ok.kind hk hc hcell fin hcd) hd
theorem pe_int {i j pos} : PE X (.Constant (.int i) j pos) (tC (.int i)) := fun _ _ _ H _ I h => wpAny_Constant_int ⟨.int i, H, I.tok _, ⟨_, rfl⟩, h⟩
theorem pe_bl {b j pos} : PE X (.Constant (.bool b) j pos) (tC (.bl b)) := fun _ _ _ H _ I h => Constant_bool ⟨.bl b, H, I, rfl, h⟩
theorem pe_non {j pos} : PE X (.Constant .none j pos) (tC .non) := fun _ _ _ H _ I h => Constant_none ⟨.non, H, I, rfl, h⟩
def Gl (X : Cx) (x : Str) : Prop := X.env.kindOf x = some .globalImplicit
theorem ld_glob {E : Value -> Shared -> Prop} {pins : List (Addr × Obj)} {s : Shared} {σ : St} {H : Hp} {x : Str} {u : Value} {pos : Pos} {Q : Value -> Shared -> Prop} (I : Inv X pins σ H s) (hg : Gl X x) (hm : X.mg x = some u) (h : Q u s)
  (hd : (x == ("__debug__" : Str)) = false := by decide) : wpAny (model X.prog X.w) X.A (eval (.Name x pos) X.env) Q E s :=
 Calls.Name_function_global I.ok.kind hg (Calls.loadGlobal_global (by rw [I.ok.glob]; exact I.mod.glob.keeps I.bk) hm h) hd
theorem ld_blt {E : Value -> Shared -> Prop} {pins : List (Addr × Obj)} {s : Shared} {σ : St} {H : Hp} {x : Str} {u : Value} {pos : Pos} {Q : Value -> Shared -> Prop} (I : Inv X pins σ H s) (hg : Gl X x) (hm : X.mg x = none) (hv : bootBuiltins x = some u) (h : Q u s)
  (hn : x ≠ "__name__" := by decide) (hd : (x == ("__debug__" : Str)) = false := by decide) : wpAny (model X.prog X.w) X.A (eval (.Name x pos) X.env) Q E s := by
 obtain ⟨mb, h1, h2⟩ := I.mod.blt
 exact Calls.Name_function_global I.ok.kind hg (Calls.loadGlobal_builtin (by rw [I.ok.glob]; exact I.mod.glob.keeps I.bk) hm (by rw [I.ok.blt]; exact h1.keeps I.bk) ((h2 x hn).trans hv) h) hd
theorem pe_glob {x : Str} {v : V} {u : Value} {pos : Pos} (hg : Gl X x) (hm : X.mg x = some u) (r : RelV v u) (hd : (x == ("__debug__" : Str)) = false := by decide) : PE X (.Name x pos) (tC v) :=
 fun _ _ _ H _ I h => ld_glob I hg hm ⟨v, H, I, r, h⟩ hd
variable {a b : Expr} {ta tb : TE} {pos : Pos}
def PC (X : Cx) (op : CmpOp) (a b : Expr) (t : TE) : Prop :=
 ∀ (pins : List (Addr × Obj)) (s : Shared) (σ : St) (H : Hp) (Q : VK), Inv X pins σ H s -> t σ H Q ->
  wpAny (model X.prog X.w) X.A (eval a X.env) (fun v s₁ => wpAny (model X.prog X.w) X.A (eval b X.env) (fun u s₂ => wpAny (model X.prog X.w) X.A (compareOp op v u) (EP X pins σ Q) X.xe s₂) X.xe s₁) X.xe s
theorem nobehind (b : Expr) {op : CmpOp} (h : op ≠ .In) (h2 : op ≠ .NotIn) : behindInMarks op b = false := by
 have e1 : (op == CmpOp.In) = false := by cases op <;> first | rfl | exact absurd rfl h
 have e2 : (op == CmpOp.NotIn) = false := by cases op <;> first | rfl | exact absurd rfl h2
 cases b <;> simp [behindInMarks, e1, e2]
def tIsN (ta : TE) : TE := fun σ H Q => ta σ H fun x H1 => Q (.bl (decide (x = .non))) H1
def tNotN (ta : TE) : TE := fun σ H Q => ta σ H fun x H1 => Q (.bl (!decide (x = .non))) H1
theorem RelV.none_iff {x : V} {v : Value} (r : RelV x v) : (v == Value.none) = decide (x = .non) := by
 cases x with
 | non => cases r; rfl
 | bl _ => cases r; rfl
 | int _ => obtain ⟨t, rfl⟩ := r; rfl
 | str _ => obtain ⟨t, rfl⟩ := r; rfl
 | byt _ => obtain ⟨t, rfl⟩ := r; rfl
 | flt _ => obtain ⟨t, rfl⟩ := r; rfl
 | ref _ => cases r; rfl
 | ty _ => cases r; rfl
theorem pc_isN {j pos'} (ha : PE X a ta) : PC X .Is a (.Constant .none j pos') (tIsN ta) := by
 intro pins s σ H Q I h
 refine thn (ha pins s σ H _ I h) fun v s1 ⟨x, H1, I1, r1, q1⟩ => ?_
 exact Constant_none (is_none_gen ⟨.bl _, H1, I1, by rw [r1.none_iff]; rfl, q1⟩)
theorem pc_notN {j pos'} (ha : PE X a ta) : PC X .IsNot a (.Constant .none j pos') (tNotN ta) := by
 intro pins s σ H Q I h
 refine thn (ha pins s σ H _ I h) fun v s1 ⟨x, H1, I1, r1, q1⟩ => ?_
 exact Constant_none (isnot_none_gen ⟨.bl _, H1, I1, by rw [r1.none_iff]; rfl, q1⟩)
def tB (t : TE) : TT := fun σ H Q => t σ H fun x H1 => ∃ c, x = .bl c /\ Q c H1
theorem pe_cmp {op : CmpOp} {t : TE} (h : PC X op a b t) (h1 : behindInMarks op b = false := by first | exact nobehind _ (by decide) (by decide) | rfl) : PE X (.Compare a [op] [b] pos) t := fun pins s σ H Q I hw => wpAny_Compare1 (h pins s σ H Q I hw) h1
theorem pt_cmp {op : CmpOp} {t : TE} (h : PC X op a b t) (h1 : behindInMarks op b = false := by first | exact nobehind _ (by decide) (by decide) | rfl) : PT X (.Compare a [op] [b] pos) (tB t) := by
 intro pins s σ H Q I hw
 refine wpAny_isTrue_Compare1 (thn (h pins s σ H _ I hw) fun v s1 h1 => thn h1 fun u s2 h2 => thn h2 fun c s3 ⟨x, H1, I1, r1, q1⟩ => ?_) h1
 obtain ⟨d, rfl, q⟩ := q1
 cases r1
 exact wpAny_truthy_bool ⟨H1, I1, q⟩
theorem pt_val {e : Expr} {t : TE} (h : PE X e t) (he : ∀ whole, isTrue e X.env whole = (do let v <- whole; standAt e.pos; holding [v] (truthy v)) := by intro _; rfl) : PT X e (tB t) := by
 intro pins s σ H Q I hw
 refine isTrue_plain (thn (h pins s σ H _ I hw) fun v s1 ⟨x, H1, I1, r1, q1⟩ => ?_) (he _)
 obtain ⟨d, rfl, q⟩ := q1
 cases r1
 exact wpAny_truthy_bool ⟨H1, I1, q⟩
variable {tA tB' : TT} {rest : List Expr}
def tAnd (t u : TT) : TT := fun σ H Q => t σ H fun c H1 => if c = true then u σ H1 Q else Q false H1
def tOr (t u : TT) : TT := fun σ H Q => t σ H fun c H1 => if c = true then Q true H1 else u σ H1 Q
def tNot (t : TT) : TT := fun σ H Q => t σ H fun c H1 => Q (!c) H1
theorem pw_and1 (ha : PT X a tA) : PW X (.BoolOp .And [a] pos) tA := by
 intro wh pins s σ H Q I h
 refine isTrue_and (thn (ha pins s σ H Q I h) fun c s1 e => ?_)
 cases c with
 | true => exact isTrue_and_nil e
 | false => exact e
theorem pw_or1 (ha : PT X a tA) : PW X (.BoolOp .Or [a] pos) tA := by
 intro wh pins s σ H Q I h
 refine isTrue_or (thn (ha pins s σ H Q I h) fun c s1 e => ?_)
 cases c with
 | false => exact isTrue_or_nil e
 | true => exact e
theorem pw_and (ha : PT X a tA) (hb : PW X (.BoolOp .And (b :: rest) pos) tB') : PW X (.BoolOp .And (a :: b :: rest) pos) (tAnd tA tB') := by
 intro wh pins s σ H Q I h
 refine isTrue_and (thn (ha pins s σ H _ I h) fun c s1 ⟨H1, I1, q1⟩ => ?_)
 cases c with
 | true => exact hb wh pins s1 σ H1 Q I1 q1
 | false => exact ⟨H1, I1, q1⟩
theorem pw_or (ha : PT X a tA) (hb : PW X (.BoolOp .Or (b :: rest) pos) tB') : PW X (.BoolOp .Or (a :: b :: rest) pos) (tOr tA tB') := by
 intro wh pins s σ H Q I h
 refine isTrue_or (thn (ha pins s σ H _ I h) fun c s1 ⟨H1, I1, q1⟩ => ?_)
 cases c with
 | true => exact ⟨H1, I1, q1⟩
 | false => exact hb wh pins s1 σ H1 Q I1 q1
theorem pt_not (ha : PT X a tA) : PT X (.UnaryOp .Not a pos) (tNot tA) := by
 intro pins s σ H Q I h
 exact isTrue_not (ha pins s σ H (fun c H1 => Q (!c) H1) I h)
def tAndV (ta tb : TE) : TE := fun σ H Q => ta σ H fun x H1 => ∃ c, x = .bl c /\ if c = true then tb σ H1 Q else Q (.bl false) H1
theorem pe_one {op} {t : TE} (h : PE X a t) : PE X (.BoolOp op [a] pos) t := fun pins s σ H Q I hw => BoolOp_one (h pins s σ H Q I hw)
theorem pe_and (ha : PE X a ta) (hb : PE X (.BoolOp .And (b :: rest) pos) tb) : PE X (.BoolOp .And (a :: b :: rest) pos) (tAndV ta tb) := by
 intro pins s σ H Q I h
 refine BoolOp_and (thn (ha pins s σ H _ I h) fun v s1 ⟨x, H1, I1, r1, q1⟩ => ?_)
 obtain ⟨c, rfl, q1⟩ := q1
 cases r1
 refine wpAny_truthy_bool ?_
 cases c with
 | true => exact hb pins s1 σ H1 Q I1 q1
 | false => exact ⟨.bl false, H1, I1, rfl, q1⟩
def tIf (t : TT) (ta tb : TE) : TE := fun σ H Q => t σ H fun c H1 => if c = true then ta σ H1 Q else tb σ H1 Q
theorem pe_ifExp {c : Expr} (hc : PT X c tA) (ha : PE X a ta) (hb : PE X b tb) : PE X (.IfExp c a b pos) (tIf tA ta tb) := by
 intro pins s σ H Q I h
 refine wpAny_IfExp (thn (hc pins s σ H _ I h) fun d s1 ⟨H1, I1, q1⟩ => ?_)
 cases d with
 | true => exact ha pins s1 σ H1 Q I1 q1
 | false => exact hb pins s1 σ H1 Q I1 q1
end
end L2
namespace L2
open PySem PySem.Spec PyProof.Rows
def SqL (K : PySem.W.Frag) (H : Hp) (a : Addr) (xs : List V) : Prop :=
 Rd H a (.lst xs) \/
  ∃ (o : Obj) (its : Array Value) (n : Nat), K.lookup a = some o /\ o.cls = .type "list" /\ o.dict = none /\ o.data = .seq its n /\ its.size <= sizeLine /\ Vals xs its.toList
def SqT (K : PySem.W.Frag) (H : Hp) (a : Addr) (xs : List V) : Prop :=
 Rd H a (.tup xs) \/
  ∃ (o : Obj) (its : Array Value) (n : Nat), K.lookup a = some o /\ o.cls = .type "tuple" /\ o.data = .seq its n /\ its.size <= sizeLine /\ Vals xs its.toList
def absV : Value -> Option V
 | .none => some .non
 | .bool b => some (.bl b)
 | .int i _ => some (.int i)
 | .str x _ => some (.str x)
 | .bytes b _ => some (.byt b)
 | .float b _ => some (.flt b)
 | .ref a => some (.ref a)
 | .type n => some (.ty n)
 | _ => none
theorem RelV.abs {x : V} {u : Value} (r : RelV x u) : absV u = some x := by
 cases x with
 | non => cases r; rfl
 | bl _ => cases r; rfl
 | int _ => obtain ⟨t, rfl⟩ := r; rfl
 | str _ => obtain ⟨t, rfl⟩ := r; rfl
 | byt _ => obtain ⟨t, rfl⟩ := r; rfl
 | flt _ => obtain ⟨t, rfl⟩ := r; rfl
 | ref _ => cases r; rfl
 | ty _ => cases r; rfl
theorem RelV.inj {x y : V} {u : Value} (r : RelV x u) (q : RelV y u) : x = y := Option.some.inj (r.abs.symm.trans q.abs)
theorem Vals.inj : ∀ {xs ys : List V} {us : List Value}, Vals xs us -> Vals ys us -> xs = ys
 | _, _, _, .nil, .nil => rfl
 | _, _, _, .cons r t, .cons r' t' => by rw [r.inj r', Vals.inj t t']
section
variable {X : Cx} {pins : List (Addr × Obj)} {σ : St} {H : Hp} {s : Shared} {a : Addr} {xs ys : List V}
theorem SqL.of {K : PySem.W.Frag} (h : H a = some (.lst xs)) : SqL K H a xs := .inl (.inl h)
theorem SqT.of {K : PySem.W.Frag} (h : H a = some (.tup xs)) : SqT K H a xs := .inl (.inl h)
theorem Inv.list (I : Inv X pins σ H s) (h : SqL X.K H a xs) : ∃ its : List Value, Vals xs its /\ PlainL s.heap a its.toArray /\ xs.length <= sizeLine := by
 rcases h with h | ⟨o, its, n, hk, hc, hd, hs, hz, r⟩
 ·obtain ⟨z, its, n, r, e⟩ := h.ok I.hok
  exact ⟨its, r, ⟨_, n, e, rfl, rfl, rfl⟩, z⟩
 ·refine ⟨its.toList, r, ⟨o, n, I.kIn a o hk, hc, hd, by simpa using hs⟩, ?_⟩
  have e := r.length
  simp only [Array.length_toList] at e
  omega
theorem Inv.tuple (I : Inv X pins σ H s) (h : SqT X.K H a xs) : ∃ its : List Value, Vals xs its /\ IsTup s.heap a its.toArray /\ xs.length <= sizeLine := by
 rcases h with h | ⟨o, its, n, hk, hc, hs, hz, r⟩
 ·obtain ⟨z, its, r, p⟩ := h.ok I.hok
  exact ⟨its, r, p, z⟩
 ·refine ⟨its.toList, r, ⟨o, I.kIn a o hk, hc, n, by simpa using hs⟩, ?_⟩
  have e := r.length
  simp only [Array.length_toList] at e
  omega
theorem Inv.list_inj (I : Inv X pins σ H s) (h : SqL X.K H a xs) (h' : SqL X.K H a ys) : xs = ys := by
 obtain ⟨its, r, ⟨o, n, e, _, _, d⟩, _⟩ := I.list h
 obtain ⟨its', r', ⟨o', n', e', _, _, d'⟩, _⟩ := I.list h'
 rw [e] at e'; cases e'
 rw [d] at d'
 injection d' with d1 _
 have : its = its' := by simpa using congrArg Array.toList d1
 subst this
 exact r.inj r'
theorem Inv.tuple_inj (I : Inv X pins σ H s) (h : SqT X.K H a xs) (h' : SqT X.K H a ys) : xs = ys := by
 obtain ⟨its, r, ⟨o, e, _, n, d⟩, _⟩ := I.tuple h
 obtain ⟨its', r', ⟨o', e', _, n', d'⟩, _⟩ := I.tuple h'
 rw [e] at e'; cases e'
 rw [d] at d'
 injection d' with d1 _
 have : its = its' := by simpa using congrArg Array.toList d1
 subst this
 exact r.inj r'
end
abbrev Cx.wish (X : Cx) (E : Value -> Shared -> Prop) : Cx := { X with xe := E }
abbrev Cx.nox (X : Cx) : Cx := X.wish fun _ _ => False
theorem Cx.Ok.wish {X : Cx} (ok : X.Ok) (E : Value -> Shared -> Prop) : (X.wish E).Ok :=
 ⟨ok.mod, ok.kind, ok.glob, ok.blt, ok.above, ok.inj, ok.has, ok.cab, ok.hd, ok.frames, ok.stk, ok.exf, ok.bs, ok.bsz, ok.noex, ok.exfs, ok.funs, ok.frf⟩
theorem Cx.Ok.unwish {X : Cx} {E : Value -> Shared -> Prop} (ok : (X.wish E).Ok) : X.Ok :=
 ⟨ok.mod, ok.kind, ok.glob, ok.blt, ok.above, ok.inj, ok.has, ok.cab, ok.hd, ok.frames, ok.stk, ok.exf, ok.bs, ok.bsz, ok.noex, ok.exfs, ok.funs, ok.frf⟩
section
variable {X : Cx} {pins : List (Addr × Obj)} {σ : St} {H : Hp} {s : Shared} {E : Value -> Shared -> Prop}
theorem Inv.wish (I : Inv X pins σ H s) (E : Value -> Shared -> Prop) : Inv (X.wish E) pins σ H s := ⟨I.ok.wish E, I.os, I.bare, I.base, I.loc, I.cell, I.free, I.freeC, I.pin, I.hok, I.len⟩
theorem Inv.unwish (I : Inv (X.wish E) pins σ H s) : Inv X pins σ H s := ⟨I.ok.unwish, I.os, I.bare, I.base, I.loc, I.cell, I.free, I.freeC, I.pin, I.hok, I.len⟩
theorem SP.unwish {D : Ends} {f : Flow} {s' : Shared} (h : SP (X.wish E) pins D f s') : SP X pins D f s' := by
 cases f with
 | next => obtain ⟨σ', H', I, q⟩ := h; exact ⟨σ', H', I.unwish, q⟩
 | brk => obtain ⟨σ', H', I, q⟩ := h; exact ⟨σ', H', I.unwish, q⟩
 | cont => obtain ⟨σ', H', I, q⟩ := h; exact ⟨σ', H', I.unwish, q⟩
 | ret u => obtain ⟨v, σ', H', I, r, q⟩ := h; exact ⟨v, σ', H', I.unwish, r, q⟩
theorem PSs.nox {st : List Stmt} {t : TS} (h : PSs X.nox st t) : PSs X st t := fun pins s σ H D I hw =>
 wpAny_mono (h pins s σ H D (I.wish _) hw) (fun _ _ q => q.unwish) fun _ _ z => False.elim z
end
section
variable {X : Cx} {st : Stmt} {rest : List Stmt} {t u : TS} {e : Expr} {te : TE} {pos : Pos}
def tNext : TS := fun D σ H => D.nx σ H
def tSeq (t u : TS) : TS := fun D σ H => t { D with nx := u D } σ H
theorem pss_nil : PSs X [] tNext := fun _ _ σ H _ I h => wpAny_execs_nil ⟨σ, H, I, h⟩
theorem pss_cons (h1 : PS X st t) (h2 : PSs X rest u) : PSs X (st :: rest) (tSeq t u) := by
 intro pins s σ H D I h
 refine wpAny_execs_cons (thn (h1 pins s σ H { D with nx := u D } I h) fun f s1 q => ?_)
 cases f with
 | next =>
  obtain ⟨σ', H', I', q⟩ := q
  exact h2 pins s1 σ' H' D I' q
 | ret v => exact q
 | brk => exact q
 | cont => exact q
theorem pss_one (h1 : PS X st t) : PSs X [st] t := by
 intro pins s σ H D I h
 refine wpAny_execs_cons (thn (h1 pins s σ H D I h) fun f s1 q => ?_)
 cases f with
 | next => exact wpAny_execs_nil q
 | ret v => exact q
 | brk => exact q
 | cont => exact q
def tBreak : TS := fun D σ H => D.bk σ H
theorem ps_break : PS X (.Break pos) tBreak := fun _ _ σ H _ I h => wpAny_Break ⟨σ, H, I, h⟩
theorem Inv.quiet {pins : List (Addr × Obj)} {σ : St} {H : Hp} {s : Shared} (I : Inv X pins σ H s) : interactive X.env = false := by simp [interactive, I.ok.kind]
def tDrop (te : TE) : TS := fun D σ H => te σ H fun _ H1 => D.nx σ H1
theorem ps_expr (he : PE X e te) (hs : swapsWith e none pos.line X.env = pure false := by rfl) : PS X (.Expr e pos) (tDrop te) := by
 intro pins s σ H D I h
 exact wpAny_Expr_any (thn (he pins s σ H _ I h) fun v s1 ⟨x, H1, I1, r1, q1⟩ => ⟨σ, H1, I1, q1⟩) I.quiet hs
def tRet (te : TE) : TS := fun D σ H => te σ H D.rt
theorem ps_ret (he : PE X e te) : PS X (.Return (some e) pos) (tRet te) := by
 intro pins s σ H D I h
 exact wpAny_Return_some (thn (he pins s σ H _ I h) fun v s1 ⟨x, H1, I1, r1, q1⟩ => ⟨x, σ, H1, I1, r1, q1⟩)
def tIfS (c : TT) (t u : TS) : TS := fun D σ H => c σ H fun b H1 => if b = true then t D σ H1 else u D σ H1
theorem ps_if {c : Expr} {a b : List Stmt} {tc : TT} (hc : PT X c tc) (ha : PSs X a t) (hb : PSs X b u) : PS X (.If c a b pos) (tIfS tc t u) := by
 intro pins s σ H D I h
 refine wpAny_If (thn (hc pins s σ H _ I h) fun d s1 ⟨H1, I1, q1⟩ => ?_)
 cases d with
 | true => exact ha pins s1 σ H1 D I1 q1
 | false => exact hb pins s1 σ H1 D I1 q1
end
abbrev TG := V -> St -> Hp -> (St -> Hp -> Prop) -> Prop
abbrev TGs := List V -> St -> Hp -> (St -> Hp -> Prop) -> Prop
def PG (X : Cx) (target : Expr) (t : TG) : Prop :=
 ∀ (pins : List (Addr × Obj)) (s : Shared) (σ : St) (H : Hp) (v : V) (u : Value) (Q : St -> Hp -> Prop), Inv X pins σ H s -> RelV v u -> t v σ H Q ->
  wpAny (model X.prog X.w) X.A (assign target X.env u) (fun _ s' => ∃ σ' H', Inv X pins σ' H' s' /\ Q σ' H') X.xe s
def PGs (X : Cx) (ts : List Expr) (t : TGs) : Prop :=
 ∀ (pins : List (Addr × Obj)) (s : Shared) (σ : St) (H : Hp) (vs : List V) (us : List Value) (Q : St -> Hp -> Prop), Inv X pins σ H s -> Vals vs us -> t vs σ H Q ->
  wpAny (model X.prog X.w) X.A (assignInOrder ((assignEach ts X.env).map (·.2)) us) (fun _ s' => ∃ σ' H', Inv X pins σ' H' s' /\ Q σ' H') X.xe s
abbrev TIp := V -> V -> Hp -> VK -> Prop
def PIp (X : Cx) (op : Operator) (t : TIp) : Prop :=
 ∀ (pins : List (Addr × Obj)) (s : Shared) (σ : St) (H : Hp) (x y : V) (v u : Value) (Q : VK), Inv X pins σ H s -> RelV x v -> RelV y u -> t x y H Q ->
  wpAny (model X.prog X.w) X.A (inplaceOp op v u) (EP X pins σ Q) X.xe s
section
variable {X : Cx} {pos : Pos}
def gName (i : Nat) : TG := fun v σ H Q => Q (σ.set i (some v)) H
theorem pg_name {i : Nat} {x : Str} (hN : X.N.Nodup) (hi : X.N[i]? = some x) (hx : Loc X.env.scope x) (hf : X.fn x = true \/ X.env.scope.names.lookup x = some .local := by first | exact .inl rfl | exact .inr rfl | assumption) : PG X (.Name x pos) (gName i) := by
 intro pins s σ H v u Q I r h
 exact wpAny_assign_Name (store_ok I hN hi hx r (fun s' I' => ⟨_, H, I', h⟩) hf)
def gNil : TGs := fun vs σ H Q => vs = [] /\ Q σ H
def gCons (t : TG) (u : TGs) : TGs := fun vs σ H Q => ∃ v r, vs = v :: r /\ t v σ H fun σ' H' => u r σ' H' Q
theorem pgs_nil : PGs X [] gNil := by
 intro pins s σ H vs us Q I r h
 obtain ⟨e, h⟩ := h
 subst e
 cases r
 exact assignInOrder_nil ⟨σ, H, I, h⟩
theorem pgs_cons {e : Expr} {es : List Expr} {t : TG} {u : TGs} (h1 : PG X e t) (h2 : PGs X es u)
  (hs : (assignEach (e :: es) X.env).map (·.2) = assign e X.env :: (assignEach es X.env).map (·.2) := by rfl) : PGs X (e :: es) (gCons t u) := by
 intro pins s σ H vs us Q I r h
 obtain ⟨v, vr, e1, h⟩ := h
 subst e1
 cases r with
 | cons r rr =>
  rw [hs]
  refine assignInOrder_cons (thn (h1 pins s σ H _ _ _ I r h) fun _ s1 ⟨σ1, H1, I1, q1⟩ => ?_)
  exact h2 pins s1 σ1 H1 _ _ Q I1 rr q1
def gTup (K : PySem.W.Frag) (n : Nat) (t : TGs) : TG := fun v σ H Q => ∃ a xs, v = .ref a /\ SqT K H a xs /\ xs.length = n /\ t xs σ H Q
theorem pg_tup {es : List Expr} {k : Nat} {t : TGs} {n : Nat} (hc : X.calm = true) (h : PGs X es t)
  (hn : (assignEach es X.env).length = n := by rfl) (hst : (assignEach es X.env).findIdx? (·.1) = none := by rfl) : PG X (.Tuple es k pos) (gTup X.K n t) := by
 intro pins s σ H v u Q I r hw
 obtain ⟨a, xs, e1, hq, hl, hw⟩ := hw
 subst e1
 cases r
 obtain ⟨its, rv, ht, hz⟩ := I.tuple hq
 refine assign_Tuple_tuple (I.ok.hd hc) ht (by simp [hn, <- hl, rv.length]) hst fun h' hx => ?_
 have I1 : Inv X pins σ H { s with heap := h' } := I.kept (t' := s.toks) fun b o e => hx b o (Nat.ne_of_lt (Heap.lt_size e)) e
 exact h pins _ σ H xs _ Q I1 (by simpa using rv) hw
def tAsg (te : TE) (g : TG) : TS := fun D σ H => te σ H fun x H1 => g x σ H1 D.nx
theorem ps_set {i : Nat} {x : Str} {e : Expr} {te : TE} {pos' : Pos} (hN : X.N.Nodup) (hi : X.N[i]? = some x) (hx : Loc X.env.scope x) (he : PE X e te) (hs : swapsWith e (some (.Name x pos')) pos.line X.env = pure false := by rfl) (hf : X.fn x = true \/ X.env.scope.names.lookup x = some .local := by first | exact .inl rfl | exact .inr rfl | assumption) :
  PS X (.Assign [.Name x pos'] e pos) (tAsg te (gName i)) := by
 intro pins s σ H D I h
 refine wpAny_Assign_Name (thn (he pins s σ H _ I h) fun v s1 ⟨y, H1, I1, r1, q1⟩ => ?_) hs
 exact store_ok I1 hN hi hx r1 (fun s2 I2 => ⟨_, H1, I2, q1⟩) hf
def tAug (i : Nat) (te : TE) (ti : TIp) : TS := fun D σ H => ∃ x, σ[i]? = some (some x) /\ te σ H fun y H1 => ti x y H1 fun z H2 => D.nx (σ.set i (some z)) H2
theorem ps_aug {i : Nat} {x : Str} {e : Expr} {te : TE} {op : Operator} {ti : TIp} {pos' : Pos} (hN : X.N.Nodup) (hi : X.N[i]? = some x) (hx : Loc X.env.scope x) (he : PE X e te) (ho : PIp X op ti) (hf : X.fn x = true \/ X.env.scope.names.lookup x = some .local := by first | exact .inl rfl | exact .inr rfl | assumption) :
  PS X (.AugAssign (.Name x pos') op e pos) (tAug i te ti) := by
 intro pins s σ H D I h
 obtain ⟨v, e1, h⟩ := h
 obtain ⟨m, hn, hl⟩ := I.loc
 have vis : Vis X.env.scope x := by rcases hx with k | k; exact .inl k; exact .inr (.inl k)
 obtain ⟨u, r, l⟩ := hl i x v hi e1 vis
 refine wpAny_AugAssign_Name ?_
 have go : wpAny (model X.prog X.w) X.A (eval e X.env) (fun w s₂ => wpAny (model X.prog X.w) X.A (inplaceOp op u w) (fun r s₃ => wpAny (model X.prog X.w) X.A (storeName X.env x r) (fun _ => SP X pins D .next) X.xe s₃) X.xe s₂) X.xe s := by
  refine thn (he pins s σ H _ I h) fun w s1 ⟨y, H1, I1, r1, q1⟩ => ?_
  refine thn (ho pins s1 σ H1 v y u w _ I1 r r1 q1) fun z s2 ⟨zv, H2, I2, r2, q2⟩ => ?_
  exact store_ok I2 hN hi hx r2 (fun s3 I3 => ⟨_, H2, I3, q2⟩) hf
 rcases l with ⟨hk, hm⟩ | ⟨hk, c, hc, hcell⟩
 ·exact wpAny_loadName_local I.ok.kind hk hn hm go
 ·rcases hk with hk | hk
  ·exact wpAny_loadName_cell I.ok.kind hk hc hcell go
  ·rcases hx with k | k
   ·have : X.env.scope.names.lookup x = some .free := hk
    rw [k] at this; cases this
   ·have : X.env.scope.names.lookup x = some .free := hk
    rw [k] at this; cases this
def ipI (f : Int -> Int -> Int) : TIp := fun x y H Q => ∃ i j, x = .int i /\ y = .int j /\ Q (.int (f i j)) H
theorem ip_add : PIp X .Add (ipI fun i j => i + j) := by
 intro pins s σ H x y v u Q I r1 r2 h
 obtain ⟨i, j, e1, e2, q⟩ := h
 subst e1; subst e2
 obtain ⟨t, rfl⟩ := r1
 obtain ⟨t', rfl⟩ := r2
 exact iadd_int ⟨.int _, H, I.tok _, ⟨_, rfl⟩, q⟩
theorem ip_sub : PIp X .Sub (ipI fun i j => i - j) := by
 intro pins s σ H x y v u Q I r1 r2 h
 obtain ⟨i, j, e1, e2, q⟩ := h
 subst e1; subst e2
 obtain ⟨t, rfl⟩ := r1
 obtain ⟨t', rfl⟩ := r2
 exact isub_int ⟨.int _, H, I.tok _, ⟨_, rfl⟩, q⟩
end
section
variable {X : Cx} {pos : Pos}
def tWhile (c : TT) (tb : TS) : TS := fun D σ H => ∃ W : Nat -> St -> Hp -> Prop, (∃ m, W m σ H) /\ ∀ m σ H, W m σ H ->
 c σ H fun b H1 => if b = true then ∃ N : St -> Hp -> Prop, (∀ σ' H', N σ' H' -> ∃ m', m' < m /\ W m' σ' H') /\ tb { D with nx := N, ct := N, bk := D.nx } σ H1 else D.nx σ H1
theorem ps_while {c : Expr} {body : List Stmt} {tc : TT} {tb : TS} (hp : PassesOwn (model X.prog X.w) X.A X.env X.xe) (hc : PT X c tc) (hb : PSs X body tb) : PS X (.While c body [] pos) (tWhile tc tb) := by
 intro pins s σ H D I h
 obtain ⟨W, ⟨m0, w0⟩, turn⟩ := h
 refine wpAny_While (codeAny_whileLoop (fun n s' => ∃ σ' H', Inv X pins σ' H' s' /\ W n σ' H') ?_ m0 ⟨σ, H, I, w0⟩)
 rintro n s1 ⟨σ1, H1, I1, w1⟩
 refine wpAny_passesOwn hp (thn (hc pins s1 σ1 H1 _ I1 (turn n σ1 H1 w1)) fun b s2 ⟨H2, I2, q2⟩ => ?_)
 cases b with
 | true =>
  obtain ⟨N, hN, q2⟩ := q2
  rw [if_pos rfl]
  refine wpAny_passesOwn hp (thn (hb pins s2 σ1 H2 _ I2 q2) fun f s3 q3 => ?_)
  cases f with
  | next =>
   obtain ⟨σ3, H3, I3, n3⟩ := q3
   obtain ⟨m', hm, w3⟩ := hN σ3 H3 n3
   exact ⟨m', hm, σ3, H3, I3, w3⟩
  | cont =>
   obtain ⟨σ3, H3, I3, n3⟩ := q3
   obtain ⟨m', hm, w3⟩ := hN σ3 H3 n3
   exact ⟨m', hm, σ3, H3, I3, w3⟩
  | brk => exact q3
  | ret v => exact q3
 | false =>
  rw [if_neg Bool.false_ne_true]
  exact wpAny_execs_nil ⟨σ1, H2, I2, q2⟩
end
structure It where
 go : Nat -> Hp -> Prop
 yld : Nat -> Hp -> V -> Hp -> Prop
 stop : Nat -> Hp -> Prop
def FpOk (X : Cx) (pins : List (Addr × Obj)) (H : Hp) (b : Addr) : Prop :=
 H b = none /\ b ≠ X.env.locals /\ b ∉ X.fs /\ (b ∈ X.ex \/ X.s_0.heap.objs.size <= b) /\ (∀ x c, X.env.cells.lookup x = some c -> c ≠ b) /\ ∀ p ∈ X.pn ++ pins, p.1 ≠ b
theorem Inv.fpOk {X : Cx} {pins : List (Addr × Obj)} {σ : St} {H H' : Hp} {s : Shared} {b : Addr} (I : Inv X pins σ H s) (hb : s.heap.objs.size <= b) (hn : H' b = none) : FpOk X pins H' b := by
 refine ⟨hn, Nat.ne_of_gt (Nat.lt_of_lt_of_le I.lt hb), I.nofs hb, .inr (Nat.le_trans I.sz hb), fun x c e z => ?_, fun p hp z => ?_⟩
 ·obtain ⟨v, q⟩ := I.cell x c e
  exact absurd (Nat.lt_of_lt_of_le q.lt (by rw [z]; exact hb)) (Nat.lt_irrefl _)
 ·exact absurd (Nat.lt_of_lt_of_le (Heap.lt_size (I.pin p hp).1) (by rw [z]; exact hb)) (Nat.lt_irrefl _)
structure Turn (P : Program) (w : World) (K : PySem.W.Frag) (tg : Expr) (J : It) (fp : List Addr) (it : Addr) (tn : Nat -> Heap -> Prop) : Prop where
 mem : it ∈ fp
 obj : ∀ i h, tn i h -> ∀ b ∈ fp, ∃ o, h.get? b = some o /\ ∀ v, o.data ≠ .cell v
 keep : ∀ i h h', tn i h -> (∀ b ∈ fp, ∀ o, h.get? b = some o -> h'.get? b = some o) -> tn i h'
 item : ∀ (X : Cx), X.prog = P -> X.w = w -> X.K = K -> X.calm = true -> ∀ (i : Nat) (pins : List (Addr × Obj)) (s : Shared) (σ : St) (H : Hp) (E : Value -> Shared -> Prop), Inv X pins σ H s -> (∀ b ∈ fp, FpOk X pins H b) -> tn i s.heap -> J.go i H ->
  wpAny (model P w) X.A (pyNext (.ref it)) (fun r s1 => ∃ u, r = some u /\
   wpAny (model P w) X.A (letOwnedTupleGo tg (.ref it) u) (fun _ s2 => ∃ x H', Inv X pins σ H' s2 /\ RelV x u /\ J.yld i H x H' /\ tn (i + 1) s2.heap /\ ∀ b ∈ fp, H' b = none) E s1) E s
 done : ∀ (X : Cx), X.prog = P -> X.w = w -> X.K = K -> X.calm = true -> ∀ (i : Nat) (pins : List (Addr × Obj)) (s : Shared) (σ : St) (H : Hp) (E : Value -> Shared -> Prop), Inv X pins σ H s -> (∀ b ∈ fp, FpOk X pins H b) -> tn i s.heap -> J.stop i H ->
  wpAny (model P w) X.A (pyNext (.ref it)) (fun r s1 => r = none /\ Inv X pins σ H s1) E s
 self : ∀ (A : Around) (i : Nat) (s : Shared) (Q : Value -> Shared -> Prop) (E : Value -> Shared -> Prop), tn i s.heap -> Q (.ref it) s -> wpAny (model P w) A (pyIter (.ref it)) Q E s
abbrev TI := St -> Hp -> (It -> Hp -> Prop) -> Prop
def PIE (X : Cx) (pins : List (Addr × Obj)) (σ : St) (tg : Expr) (R : It -> Hp -> Prop) (itv : Value) (s2 : Shared) : Prop :=
 ∃ (it : Addr) (fp : List Addr) (tn : Nat -> Heap -> Prop) (J : It) (H' : Hp), itv = .ref it /\ Inv X pins σ H' s2 /\ Turn X.prog X.w X.K tg J fp it tn /\ tn 0 s2.heap /\ (∀ b ∈ fp, FpOk X pins H' b) /\ R J H'
def PI (X : Cx) (tg iter : Expr) (wi : TI) : Prop :=
 ∀ (pins : List (Addr × Obj)) (s : Shared) (σ : St) (H : Hp) (R : It -> Hp -> Prop), Inv X pins σ H s -> wi σ H R ->
  wpAny (model X.prog X.w) X.A (eval iter X.env) (fun v s1 => wpAny (model X.prog X.w) X.A (pyIter v) (PIE X pins σ tg R) X.xe s1) X.xe s
theorem go_of {M : Model} {A : Around} {E : Value -> Shared -> Prop} {s : Shared} {tg : Expr} {it : Addr} {u : Value} {o : Obj} {n : String} {vs : Array Value} {Q : Unit -> Shared -> Prop} (ho : s.heap.get? it = some o) (hc : o.cls = .type n) (hd : o.data = .fields vs)
  (hn : ["enumerate", "zip", "dict_itemiterator", "dict_reverseitemiterator", "odict_iterator", "itertools.zip_longest", "itertools.pairwise"].contains n = false) (hQ : Q () s) : wpAny M A (letOwnedTupleGo tg (.ref it) u) Q E s := by
 unfold letOwnedTupleGo
 cases tg <;> first
  | exact wpAny_pure hQ
  | (cases u <;> first
    | exact wpAny_pure hQ
    | (refine wpAny_bind (wpAny_load ho ?_)
       rw [hc, hd]
       show wpAny M A (if (["enumerate", "zip", "dict_itemiterator", "dict_reverseitemiterator", "odict_iterator", "itertools.zip_longest", "itertools.pairwise"].contains n && vs[0]? == some (rawInt _)) = true then _ else _) Q E s
       rw [if_neg (by intro h; rw [hn, Bool.false_and] at h; cases h)]
       exact wpAny_pure hQ))
def Itl (K : PySem.W.Frag) (a : Addr) : It :=
 ⟨fun i H => ∃ xs x, SqL K H a xs /\ xs[i]? = some x, fun i H x H' => H' = H /\ ∀ xs, SqL K H a xs -> xs[i]? = some x, fun i H => ∃ xs, SqL K H a xs /\ xs.length <= i⟩
theorem turn_list {P : Program} {w : World} {K : PySem.W.Frag} {tg : Expr} (a it : Addr) : Turn P w K tg (Itl K a) [it] it (fun i h => h.IsListIter it a i) where
 mem := by simp
 obj := fun i h st b hb => by
  have e : b = it := by simpa using hb
  subst e
  obtain ⟨o, e, c, d⟩ := st
  exact ⟨o, e, fun v z => by rw [d] at z; cases z⟩
 keep := fun i h h' st k => st.at fun o e => k it (by simp) o e
 item := by
  intro X hP hw hK hc i pins s σ H E I hf st hg
  subst hP hw hK
  obtain ⟨xs, x, hq, hx⟩ := hg
  obtain ⟨its, rv, p, hz⟩ := I.list hq
  obtain ⟨u, hu, ru⟩ := rv.get hx
  obtain ⟨f0, f1, f2, f3, f4, f5⟩ := hf it (by simp)
  refine wpAny_pyNext_list_item st p.isList (x := u) (by simpa using hu) fun h' st' sb => ?_
  have I1 : Inv X pins σ H { s with heap := h' } := I.turned (t' := s.toks) (fun b o hb e => (sb.2 b hb).trans e) f0 f1 f3 f4 f5
  obtain ⟨o, e, c, d⟩ := id st'
  exact ⟨u, rfl, go_of (s := { s with heap := h' }) e c d (by decide) ⟨x, H, I1, ru, ⟨rfl, fun ys hy => by rw [I.list_inj hy hq]; exact hx⟩, st', fun b hb => (hf b hb).1⟩⟩
 done := by
  intro X hP hw hK hc i pins s σ H E I hf st hg
  subst hP hw hK
  obtain ⟨xs, hq, hx⟩ := hg
  obtain ⟨its, rv, p, hz⟩ := I.list hq
  obtain ⟨f0, f1, f2, f3, f4, f5⟩ := hf it (by simp)
  have hl := rv.length
  exact wpAny_pyNext_list_end (I.ok.hd hc) st p.isList (by simp; omega) fun h' eb => ⟨rfl, I.turned (t' := s.toks) (fun b o hb e => eb b o hb e) f0 f1 f3 f4 f5⟩
 self := fun _ _ _ _ _ st h => wpAny_pyIter_listiter st h
end L2
namespace L2
open PySem PySem.Spec PyProof.Rows
section
variable {X : Cx} {tg : Expr}
def iList (K : PySem.W.Frag) (tl : TE) : TI := fun σ H R => tl σ H fun x H1 => ∃ a, x = .ref a /\ (∃ xs, SqL K H1 a xs) /\ R (Itl K a) H1
theorem pi_list {l : Expr} {tl : TE} (hl : PE X l tl) : PI X tg l (iList X.K tl) := by
 intro pins s σ H R I h
 refine thn (hl pins s σ H _ I h) fun v s1 ⟨x, H1, I1, r1, q1⟩ => ?_
 obtain ⟨a, e, ⟨xs, hq⟩, q⟩ := q1
 subst e
 cases r1
 obtain ⟨its, rv, p, hz⟩ := I1.list hq
 refine wpAny_pyIter_list p.isList ?_
 refine ⟨s1.heap.objs.size, [s1.heap.objs.size], _, _, H1, rfl, I1.kept (t' := s1.toks) fun b o e => Heap.get?_push_of_some _ e, turn_list a _, ⟨_, Heap.get?_push_size _ rfl, rfl, rfl⟩, fun b hb => ?_, q⟩
 have e : b = s1.heap.objs.size := by simpa using hb
 subst e
 exact I1.fpOk (Nat.le_refl _) (I1.hok.fresh (Nat.le_refl _))
def tFor (wi : TI) (g : TG) (tb : TS) : TS := fun D σ H => wi σ H fun J H1 => ∃ W : Nat -> Nat -> St -> Hp -> Prop, (∃ m, W 0 m σ H1) /\ ∀ i m σ H, W i m σ H ->
 (J.stop i H /\ D.nx σ H) \/ (J.go i H /\ ∃ N : St -> Hp -> Prop, (∀ σ' H', N σ' H' -> ∃ m', m' < m /\ W (i + 1) m' σ' H') /\ ∀ x H', J.yld i H x H' -> g x σ H' fun σ2 H2 => tb { D with nx := N, ct := N, bk := D.nx } σ2 H2)
def pinsAt (fp : List Addr) (h : Heap) : List (Addr × Obj) := fp.filterMap fun b => (h.get? b).map fun o => (b, o)
theorem mem_pinsAt {fp : List Addr} {h : Heap} {b : Addr} {o : Obj} (hb : b ∈ fp) (e : h.get? b = some o) : (b, o) ∈ pinsAt fp h := List.mem_filterMap.mpr ⟨b, hb, by rw [e]; rfl⟩
theorem of_pinsAt {fp : List Addr} {h : Heap} {p : Addr × Obj} (hp : p ∈ pinsAt fp h) : p.1 ∈ fp /\ h.get? p.1 = some p.2 := by
 obtain ⟨b, hb, e⟩ := List.mem_filterMap.mp hp
 cases q : h.get? b with
 | none => rw [q] at e; cases e
 | some o =>
  rw [q] at e
  have e' : (b, o) = p := Option.some.inj e
  subst e'
  exact ⟨hb, q⟩
theorem Inv.pinned {pins : List (Addr × Obj)} {σ : St} {H : Hp} {s : Shared} {fp : List Addr} (I : Inv X pins σ H s) (hf : ∀ b ∈ fp, FpOk X pins H b) (ho : ∀ b ∈ fp, ∃ o, s.heap.get? b = some o /\ ∀ v, o.data ≠ .cell v) : Inv X (pins ++ pinsAt fp s.heap) σ H s :=
 I.pins_of fun p hp => (List.mem_append.mp hp).elim (fun z => I.pin p (List.mem_append_right _ z)) fun z => by
  obtain ⟨hb, e⟩ := of_pinsAt z
  obtain ⟨f0, f1, f2, _⟩ := hf p.1 hb
  obtain ⟨o, e', d⟩ := ho p.1 hb
  rw [e] at e'; cases e'
  exact ⟨e, f0, f1, f2, d⟩
theorem Inv.unpinned {pins pl : List (Addr × Obj)} {σ : St} {H : Hp} {s : Shared} (I : Inv X (pins ++ pl) σ H s) : Inv X pins σ H s := I.pins_of fun p hp => I.pin p (List.mem_append_right _ (List.mem_append_left _ hp))
theorem ps_for {iter : Expr} {body : List Stmt} {wi : TI} {g : TG} {tb : TS} {pos : Pos} (hp : PassesOwn (model X.prog X.w) X.A X.env X.xe) (hc : X.calm = true) (hi : PI X tg iter wi) (hg : PG X tg g) (hb : PSs X body tb)
  (hs : ∀ x, foldedSetIterable iter X.env x = pure x := by intro _; rfl) : PS X (.For tg iter body [] pos) (tFor wi g tb) := by
 intro pins s σ H D I h
 refine wpAny_For (thn (hi pins s σ H _ I h) fun v s1 h1 => thn h1 fun itv s2 h2 => ?_) hs
 obtain ⟨it, fp, tn, J, H2, e, I2, T, st2, f2, W, ⟨m0, w0⟩, turn⟩ := h2
 subst e
 have stat : ∀ {H' : Hp}, (∀ b ∈ fp, H' b = none) -> ∀ b ∈ fp, FpOk X pins H' b := fun hn b hb => ⟨hn b hb, (f2 b hb).2⟩
 refine codeAny_forLoop_any (fun n s' => ∃ i σ' H', Inv X pins σ' H' s' /\ tn i s'.heap /\ (∀ b ∈ fp, H' b = none) /\ W i n σ' H') ?_ m0 ⟨0, σ, H2, I2, st2, fun b hb => (f2 b hb).1, w0⟩
 rintro n s3 ⟨i, σ3, H3, I3, st3, fr3, w3⟩
 rcases turn i n σ3 H3 w3 with ⟨stop, qn⟩ | ⟨go, N, hN, step⟩
 ·refine wpAny_passesOwn hp (thn (T.done X rfl rfl rfl hc i pins s3 σ3 H3 X.xe I3 (stat fr3) st3 stop) fun r s4 ⟨hr, I4⟩ => ?_)
  subst hr
  exact wpAny_execs_nil ⟨σ3, H3, I4, qn⟩
 ·refine wpAny_passesOwn hp (thn (T.item X rfl rfl rfl hc i pins s3 σ3 H3 X.xe I3 (stat fr3) st3 go) fun r s4 ⟨u, hr, h4⟩ => ?_)
  subst hr
  refine wpAny_passesOwn hp (thn h4 fun _ s5 ⟨x, H5, I5, r5, y5, st5, fr5⟩ => ?_)
  have I5' := I5.pinned (stat fr5) (T.obj _ _ st5)
  refine wpAny_passesOwn hp (thn (hg _ s5 σ3 H5 x u _ I5' r5 (step x H5 y5)) fun _ s6 ⟨σ6, H6, I6, q6⟩ => ?_)
  refine wpAny_passesOwn hp (thn (hb _ s6 σ6 H6 _ I6 q6) fun f s7 q7 => ?_)
  have again : ∀ {σ7 : St} {H7 : Hp}, Inv X (pins ++ pinsAt fp s5.heap) σ7 H7 s7 -> N σ7 H7 -> ∃ m, m < n /\ ∃ i σ' H', Inv X pins σ' H' s7 /\ tn i s7.heap /\ (∀ b ∈ fp, H' b = none) /\ W i m σ' H' := fun {σ7 H7} I7 n7 => by
   obtain ⟨m', hm, w7⟩ := hN σ7 H7 n7
   refine ⟨m', hm, i + 1, σ7, H7, I7.unpinned, T.keep _ _ _ st5 fun b hb o e => (I7.pin (b, o) (List.mem_append_right _ (List.mem_append_right _ (mem_pinsAt hb e)))).1, fun b hb => ?_, w7⟩
   obtain ⟨o, e, d⟩ := T.obj _ _ st5 b hb
   exact (I7.pin (b, o) (List.mem_append_right _ (List.mem_append_right _ (mem_pinsAt hb e)))).2.1
  cases f with
  | next => obtain ⟨σ7, H7, I7, n7⟩ := q7; exact again I7 n7
  | cont => obtain ⟨σ7, H7, I7, n7⟩ := q7; exact again I7 n7
  | brk => obtain ⟨σ7, H7, I7, q7⟩ := q7; exact ⟨σ7, H7, I7.unpinned, q7⟩
  | ret v => obtain ⟨x7, σ7, H7, I7, r7, q7⟩ := q7; exact ⟨x7, σ7, H7, I7.unpinned, r7, q7⟩
end
theorem for_list {K : PySem.W.Frag} {a : Addr} {xs : List V} {g : TG} {tb : TS} {D : Ends} {σ : St} {H : Hp} (Pv : Nat -> St -> Hp -> Prop) (h0 : Pv 0 σ H) (hl : ∀ i σ H, i <= xs.length -> Pv i σ H -> SqL K H a xs)
  (hs : ∀ i x σ H, xs[i]? = some x -> Pv i σ H -> g x σ H fun σ2 H2 => tb { D with nx := Pv (i + 1), ct := Pv (i + 1), bk := D.nx } σ2 H2) (hd : ∀ σ H, Pv xs.length σ H -> D.nx σ H) :
  ∃ W : Nat -> Nat -> St -> Hp -> Prop, (∃ m, W 0 m σ H) /\ ∀ i m σ H, W i m σ H ->
   ((Itl K a).stop i H /\ D.nx σ H) \/ ((Itl K a).go i H /\ ∃ N : St -> Hp -> Prop, (∀ σ' H', N σ' H' -> ∃ m', m' < m /\ W (i + 1) m' σ' H') /\ ∀ x H', (Itl K a).yld i H x H' -> g x σ H' fun σ2 H2 => tb { D with nx := N, ct := N, bk := D.nx } σ2 H2) := by
 refine ⟨fun i m σ H => m = xs.length - i /\ i <= xs.length /\ Pv i σ H, ⟨xs.length, by simp, Nat.zero_le _, h0⟩, ?_⟩
 rintro i m σ H ⟨rfl, hi, p⟩
 have q := hl i σ H hi p
 by_cases hlt : i < xs.length
 ·refine .inr ⟨⟨xs, xs[i], q, by simp [hlt]⟩, Pv (i + 1), fun σ' H' p' => ⟨xs.length - (i + 1), by omega, rfl, hlt, p'⟩, fun x H' y => ?_⟩
  obtain ⟨e, y⟩ := y
  subst e
  exact hs i x σ _ (y xs q) p
 ·have e : i = xs.length := by omega
  subst e
  exact .inl ⟨⟨xs, q, Nat.le_refl _⟩, hd σ H p⟩
end L2
namespace L2
open PySem PySem.Spec PyProof.Rows
abbrev R2 := V -> V -> Hp -> VK -> Prop
def OpR (X : Cx) (f : Value -> Value -> Sem Value) (r : R2) : Prop :=
 ∀ (pins : List (Addr × Obj)) (s : Shared) (σ : St) (H : Hp) (x y : V) (v u : Value) (Q : VK), Inv X pins σ H s -> RelV x v -> RelV y u -> r x y H Q ->
  wpAny (model X.prog X.w) X.A (f v u) (EP X pins σ Q) X.xe s
def CallR (X : Cx) (f : Value) (r : List V -> Hp -> VK -> Prop) : Prop :=
 ∀ (pins : List (Addr × Obj)) (s : Shared) (σ : St) (H : Hp) (xs : List V) (us : List Value) (Q : VK), Inv X pins σ H s -> Vals xs us -> r xs H Q ->
  wpAny (model X.prog X.w) X.A (call f us) (EP X pins σ Q) X.xe s
def tOp (r : R2) (ta tb : TE) : TE := fun σ H Q => ta σ H fun x H1 => tb σ H1 fun y H2 => r x y H2 Q
def rI (C : Int -> Int -> Prop) (g : Int -> Int -> V) : R2 := fun x y H Q => ∃ i j, x = .int i /\ y = .int j /\ C i j /\ Q (g i j) H
def rI0 (g : Int -> Int -> V) : R2 := fun x y H Q => ∃ i j, x = .int i /\ y = .int j /\ Q (g i j) H
section
variable {X : Cx} {a b c : Expr} {ta tb tc : TE} {pos : Pos}
theorem binT (ha : PE X a ta) (hb : PE X b tb) {pins : List (Addr × Obj)} {s : Shared} {σ : St} {H : Hp} {R : V -> V -> Hp -> Prop} (I : Inv X pins σ H s)
  (h : ta σ H fun x H1 => tb σ H1 fun y H2 => R x y H2) {Q : Value -> Shared -> Prop} {f : Value -> Value -> Sem Value}
  (hf : ∀ v u s2 x y H2, Inv X pins σ H2 s2 -> RelV x v -> RelV y u -> R x y H2 -> wpAny (model X.prog X.w) X.A (f v u) Q X.xe s2) :
  wpAny (model X.prog X.w) X.A (eval a X.env) (fun v s₁ => wpAny (model X.prog X.w) X.A (eval b X.env) (fun u s₂ => wpAny (model X.prog X.w) X.A (f v u) Q X.xe s₂) X.xe s₁) X.xe s := by
 refine thn (ha pins s σ H _ I h) fun v s1 ⟨x, H1, I1, r1, q1⟩ => ?_
 refine thn (hb pins s1 σ H1 _ I1 q1) fun u s2 ⟨y, H2, I2, r2, q2⟩ => ?_
 exact hf v u s2 x y H2 I2 r1 r2 q2
theorem pe_op {op : Operator} {r : R2} (ho : OpR X (binaryOp op) r) (ha : PE X a ta) (hb : PE X b tb) : PE X (.BinOp a op b pos) (tOp r ta tb) := by
 intro pins s σ H Q I h
 exact wpAny_BinOp (binT ha hb I h fun v u s2 x y H2 I2 rx ry q => ho pins s2 σ H2 x y v u Q I2 rx ry q)
theorem opI {f : Value -> Value -> Sem Value} {C : Int -> Int -> Prop} {g : Int -> Int -> Int}
  (rule : ∀ (i j : Int) (t u : Tok) (s : Shared) (Q : Value -> Shared -> Prop) (E : Value -> Shared -> Prop), C i j -> Q (.int (g i j) s.toks) { s with toks := s.toks + 1 } -> wpAny (model X.prog X.w) X.A (f (.int i t) (.int j u)) Q E s) :
  OpR X f (rI C fun i j => .int (g i j)) := by
 intro pins s σ H x y v u Q I rx ry h
 obtain ⟨i, j, rfl, rfl, hc, q⟩ := h
 obtain ⟨t, rfl⟩ := rx
 obtain ⟨t', rfl⟩ := ry
 exact rule i j t t' s _ _ hc ⟨.int (g i j), H, I.tok _, ⟨_, rfl⟩, q⟩
theorem opI0 {f : Value -> Value -> Sem Value} {g : Int -> Int -> Int}
  (rule : ∀ (i j : Int) (t u : Tok) (s : Shared) (Q : Value -> Shared -> Prop) (E : Value -> Shared -> Prop), Q (.int (g i j) s.toks) { s with toks := s.toks + 1 } -> wpAny (model X.prog X.w) X.A (f (.int i t) (.int j u)) Q E s) :
  OpR X f (rI0 fun i j => .int (g i j)) := by
 intro pins s σ H x y v u Q I rx ry h
 obtain ⟨i, j, rfl, rfl, q⟩ := h
 obtain ⟨t, rfl⟩ := rx
 obtain ⟨t', rfl⟩ := ry
 exact rule i j t t' s _ _ ⟨.int (g i j), H, I.tok _, ⟨_, rfl⟩, q⟩
theorem opB0 {f : Value -> Value -> Sem Value} {g : Int -> Int -> Bool}
  (rule : ∀ (i j : Int) (t u : Tok) (s : Shared) (Q : Value -> Shared -> Prop) (E : Value -> Shared -> Prop), Q (.bool (g i j)) s -> wpAny (model X.prog X.w) X.A (f (.int i t) (.int j u)) Q E s) :
  OpR X f (rI0 fun i j => .bl (g i j)) := by
 intro pins s σ H x y v u Q I rx ry h
 obtain ⟨i, j, rfl, rfl, q⟩ := h
 obtain ⟨t, rfl⟩ := rx
 obtain ⟨t', rfl⟩ := ry
 exact rule i j t t' s _ _ ⟨.bl (g i j), H, I, rfl, q⟩
def CDiv (i j : Int) : Prop := 0 < j /\ j < 1073741824
def CMul (i j : Int) : Prop := (-(2 ^ 64) < i /\ i < 2 ^ 64) \/ (-(2 ^ 64) < j /\ j < 2 ^ 64)
theorem CMul.ok {i j : Int} (h : CMul i j) : IntMulOk i j := by
 rcases h with ⟨h1, h2⟩ | ⟨h1, h2⟩
 ·exact .of_left (intBits_le_64 h1 h2)
 ·exact .of_right (intBits_le_64 h1 h2)
theorem op_add : OpR X (binaryOp .Add) (rI0 fun i j => .int (i + j)) := opI0 fun _ _ _ _ _ _ _ q => add_int q
theorem op_mul : OpR X (binaryOp .Mult) (rI CMul fun i j => .int (i * j)) := opI fun _ _ _ _ _ _ _ hc q => mul_int q hc.ok
theorem op_fdiv : OpR X (binaryOp .FloorDiv) (rI CDiv fun i j => .int (i / j)) := opI fun i j _ _ _ _ _ hc q => by
 have h1 : (0 : Int) < j := hc.1
 have h2 : j < 1073741824 := hc.2
 exact floordiv_int (by omega) (by rw [Int.fdiv_eq_ediv_of_nonneg i (by omega)]; exact q) (.inl (PyProof.noPylong_small (by omega)))
theorem op_mod : OpR X (binaryOp .Mod) (rI (fun _ j => 0 < j) fun i j => .int (i % j)) := opI fun i j _ _ _ _ _ hc q => by
 have h1 : (0 : Int) < j := hc
 exact mod_int' (by omega) (by rw [Int.fmod_eq_emod_of_nonneg i (by omega)]; exact q)
end
def scal : V -> V -> Bool
 | .non, .non => true | .non, .int _ => true | .int _, .non => true | .non, .bl _ => true | .bl _, .non => true | .non, .str _ => true | .str _, .non => true
 | .int _, .int _ => true | .bl _, .bl _ => true | .str _, .str _ => true | .byt _, .byt _ => true
 | .int _, .str _ => true | .str _, .int _ => true | .bl _, .str _ => true | .str _, .bl _ => true
 | _, _ => false
def rEq : R2 := fun x y H Q => scal x y = true /\ Q (.bl (decide (x = y))) H
theorem dec_int {i j : Int} : decide (V.int i = V.int j) = (i == j) := by
 rw [Bool.eq_iff_iff]
 simp
theorem dec_bl {i j : Bool} : decide (V.bl i = V.bl j) = (i == j) := by
 rw [Bool.eq_iff_iff]
 simp
theorem dec_str {i j : Str} : decide (V.str i = V.str j) = (i == j) := by
 rw [Bool.eq_iff_iff]
 simp
theorem dec_byt {i j : Array UInt8} : decide (V.byt i = V.byt j) = (i.toList == j.toList) := by
 rw [Bool.eq_iff_iff]
 cases i
 cases j
 simp
section
variable {X : Cx} {a b c : Expr} {ta tb tc : TE} {pos : Pos}
theorem fin_bl {pins : List (Addr × Obj)} {σ : St} {H : Hp} {s : Shared} {Q : VK} {k k' : Bool} (I : Inv X pins σ H s) (q : Q (.bl k) H) (e : k = k') : EP X pins σ Q (.bool k') s := by
 subst e
 exact ⟨.bl k, H, I, rfl, q⟩
theorem op_eq : OpR X (compareOp .Eq) rEq := by
 intro pins s σ H x y v u Q I rx ry h
 obtain ⟨hs, q⟩ := h
 cases x with
 | non =>
  cases rx
  cases y with
  | non => cases ry; exact PySem.EqNone.eq_none_none (fin_bl I q (by simp))
  | bl j => cases ry; exact PySem.EqNone.eq_none_bool (fin_bl I q (by simp))
  | int j => obtain ⟨t', rfl⟩ := ry; exact PySem.EqNone.eq_none_int (fin_bl I q (by simp))
  | str j => obtain ⟨t', rfl⟩ := ry; exact PySem.EqNone.eq_none_str (fin_bl I q (by simp))
  | _ => exact absurd (show false = true from hs) Bool.false_ne_true
 | bl i =>
  cases rx
  cases y with
  | non => cases ry; exact PySem.EqNone.eq_bool_none (fin_bl I q (by simp))
  | bl j => cases ry; exact eq_bool (fin_bl I q dec_bl)
  | str j => obtain ⟨t', rfl⟩ := ry; exact PySem.EqMixed.eq_bool_str (fin_bl I q (by simp))
  | _ => exact absurd (show false = true from hs) Bool.false_ne_true
 | int i =>
  obtain ⟨t, rfl⟩ := rx
  cases y with
  | non => cases ry; exact PySem.EqNone.eq_int_none (fin_bl I q (by simp))
  | int j => obtain ⟨t', rfl⟩ := ry; exact eq_int (fin_bl I q dec_int)
  | str j => obtain ⟨t', rfl⟩ := ry; exact PySem.EqMixed.eq_int_str (fin_bl I q (by simp))
  | _ => exact absurd (show false = true from hs) Bool.false_ne_true
 | str i =>
  obtain ⟨t, rfl⟩ := rx
  cases y with
  | non => cases ry; exact PySem.EqNone.eq_str_none (fin_bl I q (by simp))
  | bl j => cases ry; exact PySem.EqMixed.eq_str_bool (fin_bl I q (by simp))
  | int j => obtain ⟨t', rfl⟩ := ry; exact PySem.EqMixed.eq_str_int (fin_bl I q (by simp))
  | str j => obtain ⟨t', rfl⟩ := ry; exact eq_str (fin_bl I q dec_str)
  | _ => exact absurd (show false = true from hs) Bool.false_ne_true
 | byt i =>
  obtain ⟨t, rfl⟩ := rx
  cases y with
  | byt j => obtain ⟨t', rfl⟩ := ry; exact PySem.W.eq_bytes (fin_bl I q dec_byt)
  | _ => exact absurd (show false = true from hs) Bool.false_ne_true
 | _ => cases y <;> exact absurd (show false = true from hs) Bool.false_ne_true
theorem op_lt : OpR X (compareOp .Lt) (rI0 fun i j => .bl (decide (i < j))) := opB0 fun _ _ _ _ _ _ _ q => lt_int q
theorem op_le : OpR X (compareOp .LtE) (rI0 fun i j => .bl (decide (i <= j))) := opB0 fun _ _ _ _ _ _ _ q => le_int q
theorem op_gt : OpR X (compareOp .Gt) (rI0 fun i j => .bl (decide (j < i))) := opB0 fun _ _ _ _ _ _ _ q => gt_int q
theorem op_ge : OpR X (compareOp .GtE) (rI0 fun i j => .bl (decide (j <= i))) := opB0 fun _ _ _ _ _ _ _ q => ge_int q
theorem nomark (b : Expr) {op : CmpOp} (h : op ≠ .In := by decide) (h2 : op ≠ .NotIn := by decide) : behindInMarks op b = false := by
 have e1 : (op == CmpOp.In) = false := by cases op <;> first | rfl | exact absurd rfl h
 have e2 : (op == CmpOp.NotIn) = false := by cases op <;> first | rfl | exact absurd rfl h2
 cases b <;> simp [behindInMarks, e1, e2]
theorem pe_cmpR {op : CmpOp} {r : R2} (ho : OpR X (compareOp op) r) (ha : PE X a ta) (hb : PE X b tb) (hm : behindInMarks op b = false) : PE X (.Compare a [op] [b] pos) (tOp r ta tb) := by
 intro pins s σ H Q I h
 exact wpAny_Compare1 (binT ha hb I h fun v u s2 x y H2 I2 rx ry q => ho pins s2 σ H2 x y v u Q I2 rx ry q) hm
def tTest (t : TE) : TT := fun σ H Q => t σ H fun x H' => ∃ k, x = .bl k /\ Q k H'
theorem pt_cmpR {op : CmpOp} {r : R2} (ho : OpR X (compareOp op) r) (ha : PE X a ta) (hb : PE X b tb) (hm : behindInMarks op b = false) : PT X (.Compare a [op] [b] pos) (tTest (tOp r ta tb)) := by
 intro pins s σ H Q I h
 refine wpAny_isTrue_Compare1 (thn (ha pins s σ H _ I h) fun v s1 ⟨x, H1, I1, r1, q1⟩ => thn (hb pins s1 σ H1 _ I1 q1) fun u s2 ⟨y, H2, I2, r2, q2⟩ =>
  thn (ho pins s2 σ H2 x y v u _ I2 r1 r2 q2) fun c s3 ⟨z, H3, I3, r3, k, e, q3⟩ => ?_) hm
 subst e
 cases r3
 exact wpAny_truthy_bool ⟨H3, I3, q3⟩
theorem line63 : (sizeLine : Nat) < 2 ^ 63 := by rw [sizeLine_eq]; decide
theorem vals1 {x : V} {us : List Value} (r : Vals [x] us) : ∃ u, us = [u] /\ RelV x u := by
 cases r with
 | cons r1 r2 => cases r2; exact ⟨_, rfl, r1⟩
theorem vals2 {x y : V} {us : List Value} (r : Vals [x, y] us) : ∃ u w', us = [u, w'] /\ RelV x u /\ RelV y w' := by
 cases r with
 | cons r1 r2 =>
  cases r2 with
  | cons r3 r4 => cases r4; exact ⟨_, _, rfl, r1, r3⟩
theorem call_min2 (hc : X.calm = true) : CallR X (.builtin "min") (fun xs H Q => ∃ i j, xs = [.int i, .int j] /\ Q (.int (if j < i then j else i)) H) := by
 intro pins s σ H xs us Q I r h
 obtain ⟨i, j, rfl, q⟩ := h
 obtain ⟨u, w', rfl, ⟨t, rfl⟩, ⟨t', rfl⟩⟩ := vals2 r
 refine min_two_ints (I.ok.hd hc) fun h' tk k => ⟨_, H, I.kept k, ?_, q⟩
 by_cases hj : j < i
 ·rw [if_pos hj, if_pos hj]; exact ⟨_, rfl⟩
 ·rw [if_neg hj, if_neg hj]; exact ⟨_, rfl⟩
end
end L2
namespace L2
open PySem PySem.Spec PyProof.Rows
structure ObjM (h : Heap) (x dx C : Addr) (mA : Str -> Option Value) : Prop where
 obj : h.get? x = some (PySem.W.instObj C dx)
 ns : h.Ns1 dx mA
 ne : dx ≠ x
theorem lookIn_ns {h : Heap} {dx : Addr} {mA : Str -> Option Value} (n : h.Ns1 dx mA) : ∃ od, h.get? dx = some od /\ ∀ name, PySem.W.lookIn name od = some (mA name) := by
 obtain ⟨o, es, ep, ho, hd, hk, _, hm⟩ := n
 refine ⟨o, ho, fun name => ?_⟩
 have e := hm name
 unfold nsFind findBy at e
 rw [<- Array.find?_toList] at e
 unfold PySem.W.lookIn
 rw [hd]
 dsimp only
 split
 ·rename_i y q
  rw [q] at e
  exact congrArg some e
 ·rename_i q
  rw [q] at e
  have a : es.toList.any (·.refKey) = false := by
   rw [List.any_eq_false]
   intro y hy
   obtain ⟨z, t, hkey⟩ := hk y (Array.mem_toList_iff.mp hy)
   simp [DictEntry.refKey, hkey]
  have a' : ¬ es.toList.any (·.refKey) = true := by rw [a]; exact Bool.false_ne_true
  rw [if_neg a']
  exact congrArg some e
theorem ObjM.look {h : Heap} {x dx C : Addr} {mA : Str -> Option Value} (I : ObjM h x dx C mA) : ∃ od, PySem.W.InstAt h x (PySem.W.instObj C dx) C (some od) /\ ∀ name, PySem.W.lookIn name od = some (mA name) :=
 let ⟨od, ho, hl⟩ := lookIn_ns I.ns
 ⟨od, ⟨I.obj, rfl, rfl, ho⟩, hl⟩
section
variable {prog : Program} {w : World} {A : Around} {E : Value -> Shared -> Prop} {s : Shared} {K : PySem.W.Frag} {x dx C f : Addr} {mA : Str -> Option Value} {name : Str} {v : Value}
theorem get_map {expr : Bool} {Q : Value -> Shared -> Prop} (X : K.In s.heap) (I : ObjM s.heap x dx C mA) (hg : PySem.W.plainGet K C name = true) (hh : PySem.W.hasDictIn K C = true)
  (ha : PySem.W.findIn K (.ref C) name = some none) (hv : mA name = some v) (hv' : PySem.W.handedIn v = true) (h : Q v { s with toks := s.toks + 1 }) :
  wpAny (model prog w) A (getAttr (.ref x) name expr) Q E s := by
 obtain ⟨od, J, hl⟩ := I.look
 exact PySem.W.get_value X J (PySem.W.plainGet_of hg).1 (PySem.W.findObj_own hh ha rfl (by rw [hl, hv])) hv' h
theorem set_map {ns : List Str} {Q : Unit -> Shared -> Prop} (X : K.In s.heap) (I : ObjM s.heap x dx C mA)
  (hs : PySem.W.findIn K (.ref C) "__setattr__" = some (some (.builtin "object.__setattr__"))) (hp : PySem.W.plainOver K C = true) (ht : PySem.W.takerIn K C name = some none) (hh : PySem.W.hasDictIn K C = true)
  (hw : PySem.Within mA ns) (hsz : ns.length <= sizeLine)
  (h : ∀ h', ObjM h' x dx C (fun y => if y = name then some v else mA y) -> Heap.SameBut dx s.heap h' -> Q () { s with heap := h', toks := s.toks + 2 }) :
  wpAny (model prog w) A (setAttr (.ref x) name v) Q E s := by
 obtain ⟨od, J, hl⟩ := I.look
 refine PySem.W.set_plain X J hs (PySem.W.osa_open (s := { s with toks := s.toks + 1 }) (r := none) X J hp ht fun b => ?_)
 obtain ⟨cd, hc, hd'⟩ := PySem.W.any_some hh
 have hx : s.heap.get? x = some ⟨.ref C, some dx, .plain, #[]⟩ := I.obj
 refine wpAny_bind (wpAny_pure (wpAny_bind (wpAny_bind (wpAny_loadPart hx (wpAny_bind (PySem.W.Looks.here (s := { s with toks := s.toks + 1 }) (PySem.W.looks_clsIn X hc) ?_))))))
 rw [hd']
 refine wpAny_pure (a := some dx) (wpAny_bind (wpAny_pure (wpAny_bind ?_)))
 refine wpAny_nsSet1 (s := { s with toks := s.toks + 1 }) I.ns fun h' hn2 hs2 => ?_
 obtain ⟨oD, esD, epD, hoD, hdD, hcD⟩ := hn2.count (PySem.Within.cons name v hw)
 refine wpAny_bind (wpAny_lookBehind hoD (by rw [hdD]; exact pastItsLine_dict (Nat.le_trans hcD (by rw [List.length_cons]; omega))) ?_)
 exact wpAny_pure (h _ ⟨(hs2.2 _ (Ne.symm I.ne)).trans I.obj, hn2, I.ne⟩ hs2)
theorem make_map {R : Result -> Shared -> Prop} {vs : List Value} {kw : List (Str × Value)} (X : K.In s.heap) (hm : PySem.W.makesIn K C = true)
  (hi : PySem.W.findIn K (.ref C) "__init__" = some (some (.ref f))) (hf : PySem.W.typeIn K (.ref f) = some (.type "function"))
  (h : codeAny (model prog w) (A.under (.builtin "type.__call__" ⟨.ref C :: vs, kw⟩)) (.call (.ref f) ⟨.ref (s.heap.objs.size + 1) :: vs, kw⟩) (PySem.W.InitBack (s.heap.objs.size + 1) R)
   {s with heap := (s.heap.push PySem.W.emptyDict).push (PySem.W.instObj C s.heap.objs.size) }) :
  codeAny (model prog w) A (.call (.ref C) ⟨vs, kw⟩) R s := by
 obtain ⟨hh, g, d, t, os⟩ := s
 exact PySem.W.make_core (PySem.W.makes_of X hm) (PySem.W.looks_findIn X hi) (fun self => PySem.W.bind_fn X self hf) (.inl rfl) h
end
def putF (f : Str) (v : V) : List (Str × V) -> List (Str × V)
 | [] => [(f, v)]
 | (g, x) :: r => if g = f then (g, v) :: r else (g, x) :: putF f v r
theorem lookup_putF (f g : Str) (v : V) : ∀ fs : List (Str × V), (putF f v fs).lookup g = if g = f then some v else fs.lookup g
 | [] => by
  show List.lookup g [(f, v)] = _
  by_cases h : g = f
  ·have hb : (g == f) = true := beq_iff_eq.mpr h
   simp only [List.lookup, hb, if_pos h]
  ·have hb : (g == f) = false := beq_eq_false_iff_ne.mpr h
   simp only [List.lookup, hb, if_neg h]
 | (k, x) :: r => by
  have ih := lookup_putF f g v r
  rw [show putF f v ((k, x) :: r) = (if k = f then (k, v) :: r else (k, x) :: putF f v r) from rfl]
  by_cases hk : k = f
  ·rw [if_pos hk]
   by_cases h : g = k
   ·have hb : (g == k) = true := beq_iff_eq.mpr h
    simp only [List.lookup, hb, if_pos (h.trans hk)]
   ·have hb : (g == k) = false := beq_eq_false_iff_ne.mpr h
    simp only [List.lookup, hb, if_neg (fun e : g = f => h (e.trans hk.symm))]
  ·rw [if_neg hk]
   by_cases h : g = k
   ·have hb : (g == k) = true := beq_iff_eq.mpr h
    simp only [List.lookup, hb, if_neg (fun e : g = f => hk (h.symm.trans e))]
   ·have hb : (g == k) = false := beq_eq_false_iff_ne.mpr h
    simp only [List.lookup, hb]
    exact ih
theorem keys_putF (f : Str) (v : V) : ∀ fs : List (Str × V), f ∈ (putF f v fs).map (·.1) /\ ∀ g, g ∈ fs.map (·.1) -> g ∈ (putF f v fs).map (·.1)
 | [] => ⟨by simp [putF], fun g h => by simp at h⟩
 | (k, x) :: r => by
  obtain ⟨i1, i2⟩ := keys_putF f v r
  rw [show putF f v ((k, x) :: r) = (if k = f then (k, v) :: r else (k, x) :: putF f v r) from rfl]
  by_cases hk : k = f
  ·rw [if_pos hk]
   subst hk
   exact ⟨by simp, fun g h => by simpa using h⟩
  ·rw [if_neg hk]
   refine ⟨?_, fun g h => ?_⟩
   ·rw [List.map_cons]
    exact List.mem_cons_of_mem _ i1
   ·rw [List.map_cons] at h ⊢
    rcases List.mem_cons.mp h with e | e
    ·exact List.mem_cons.mpr (.inl e)
    ·exact List.mem_cons_of_mem _ (i2 g e)
theorem length_putF (f : Str) (v : V) : ∀ fs : List (Str × V), (putF f v fs).length <= fs.length + 1
 | [] => by simp [putF]
 | (k, x) :: r => by
  have ih := length_putF f v r
  rw [show putF f v ((k, x) :: r) = (if k = f then (k, v) :: r else (k, x) :: putF f v r) from rfl]
  by_cases hk : k = f
  ·rw [if_pos hk, List.length_cons, List.length_cons]; omega
  ·rw [if_neg hk, List.length_cons, List.length_cons]; omega
theorem RelO.some_of {v : V} {o : Option Value} (r : RelO (some v) o) : ∃ u, o = some u /\ RelV v u := by
 cases o with
 | none => exact (show False from r).elim
 | some u => exact ⟨u, rfl, r⟩
theorem handed_of {v : V} {u : Value} (r : RelV v u) : PySem.W.handedIn u = true := by
 cases v with
 | non => cases (show u = Value.none from r); rfl
 | bl b => cases (show u = Value.bool b from r); rfl
 | int i => obtain ⟨t, e⟩ := (show ∃ t, u = Value.int i t from r); cases e; rfl
 | str x => obtain ⟨t, e⟩ := (show ∃ t, u = Value.str x t from r); cases e; rfl
 | byt b => obtain ⟨t, e⟩ := (show ∃ t, u = Value.bytes b t from r); cases e; rfl
 | flt b => obtain ⟨t, e⟩ := (show ∃ t, u = Value.float b t from r); cases e; rfl
 | ref a => cases (show u = Value.ref a from r); rfl
 | ty n => cases (show u = Value.type n from r); rfl
section
variable {P : Program} {w : World} {H H' : Hp} {h h' : Heap} {a C dx : Addr} {fs fs' : List (Str × V)}
theorem ins_get (hok : HOk P w H h) (e : H a = some (.ins C dx fs)) : ∃ mA, ObjM h a dx C mA /\ (∀ f, RelO (fs.lookup f) (mA f)) /\ PySem.Within mA (fs.map (·.1)) /\ fs.length <= 1000 /\ H dx = some (.own a) := by
 obtain ⟨d, z, ne, ob, mA, n, r, q⟩ := (show ObjOk P w H h a (.ins C dx fs) from hok a _ e)
 exact ⟨mA, ⟨ob, n, ne⟩, r, q, z, d⟩
end
structure Cls (K : PySem.W.Frag) (C : Addr) : Prop where
 pg : PySem.W.plainGet K C Str.empty = true
 hd : PySem.W.hasDictIn K C = true
 po : PySem.W.plainOver K C = true
 sa : PySem.W.findIn K (.ref C) "__setattr__" = some (some (.builtin "object.__setattr__"))
theorem Cls.get {K : PySem.W.Frag} {C : Addr} (c : Cls K C) (f : Str) : PySem.W.plainGet K C f = true := c.pg
def NoAttr (K : PySem.W.Frag) (C : Addr) (f : Str) : Prop := PySem.W.findIn K (.ref C) f = some none
theorem NoAttr.taker {K : PySem.W.Frag} {C : Addr} {f : Str} (n : NoAttr K C f) : PySem.W.takerIn K C f = some none := by
 unfold PySem.W.takerIn
 rw [show PySem.W.findIn K (.ref C) f = some none from n]
 rfl
section
variable {X : Cx} {pins : List (Addr × Obj)} {σ : St} {H : Hp} {s : Shared} {a C dx : Addr} {fs : List (Str × V)} {f : Str} {v : V} {A : Around} {E : Value -> Shared -> Prop}
theorem getattr_ok {b : Bool} {Q : Value -> Shared -> Prop} (I : Inv X pins σ H s) (e : H a = some (.ins C dx fs)) (c : Cls X.K C) (n : NoAttr X.K C f) (l : fs.lookup f = some v)
  (h : ∀ u s', Inv X pins σ H s' -> RelV v u -> Q u s') : wpAny (model X.prog X.w) A (getAttr (.ref a) f b) Q E s := by
 obtain ⟨mA, O, r, _, _, _⟩ := ins_get I.hok e
 obtain ⟨u, hu, ru⟩ := RelO.some_of (v := v) (o := mA f) (by rw [<- l]; exact r f)
 exact get_map I.kIn O (c.get f) c.hd n hu (handed_of ru) (h u _ (I.tok _) ru)
theorem setattr_ok {y : V} {u : Value} {Q : Unit -> Shared -> Prop} (I : Inv X pins σ H s) (e : H a = some (.ins C dx fs)) (c : Cls X.K C) (n : NoAttr X.K C f) (hl : fs.length < 1000) (ry : RelV y u)
  (h : ∀ s', Inv X pins σ (upd H a (.ins C dx (putF f y fs))) s' -> Q () s') : wpAny (model X.prog X.w) A (setAttr (.ref a) f u) Q E s := by
 obtain ⟨mA, O, r, wi, _, ho⟩ := ins_get I.hok e
 have hz : (fs.map (·.1)).length <= sizeLine := by rw [List.length_map, sizeLine_eq]; omega
 refine set_map I.kIn O c.sa c.po n.taker c.hd wi hz fun h' O' sb => h _ ?_
 have hd : ∃ o, h'.get? dx = some o := let ⟨o, _, _, e', _⟩ := O'.ns; ⟨o, e'⟩
 refine I.write (x := a) (e := dx) (by rw [e]; exact True.intro) (.inr ho) (fun b q hb z => (sb.2 b hb).trans z) hd ?_
 refine ⟨by rw [upd_ne O.ne]; exact ho, ?_, O.ne, O'.obj, _, O'.ns, fun g => ?_, fun g hg => ?_⟩
 ·have := length_putF f y fs; omega
 ·show RelO ((putF f y fs).lookup g) (if g = f then some u else mA g)
  rw [lookup_putF]
  by_cases q : g = f
  ·rw [if_pos q, if_pos q]; exact ry
  ·rw [if_neg q, if_neg q]; exact r g
 ·by_cases q : g = f
  ·rw [q]; exact (keys_putF f y fs).1
  ·refine (keys_putF f y fs).2 g (wi g fun z => hg ?_)
   show (if g = f then some u else mA g) = none
   rw [if_neg q]; exact z
theorem Inv.made (I : Inv X pins σ H s) : Inv X pins σ (upd (upd H s.heap.objs.size (.own (s.heap.objs.size + 1))) (s.heap.objs.size + 1) (.ins C s.heap.objs.size []))
  {s with heap := (s.heap.push PySem.W.emptyDict).push (PySem.W.instObj C s.heap.objs.size) } := by
 have e1 : (s.heap.push PySem.W.emptyDict).get? s.heap.objs.size = some PySem.W.emptyDict := Heap.get?_push_size s.heap rfl
 have e2 : ((s.heap.push PySem.W.emptyDict).push (PySem.W.instObj C s.heap.objs.size)).get? (s.heap.objs.size + 1) = some (PySem.W.instObj C s.heap.objs.size) := by
  have := Heap.get?_push_size (s.heap.push PySem.W.emptyDict) (o := PySem.W.instObj C s.heap.objs.size) rfl
  rwa [Heap.size_push] at this
 have e3 : (s.heap.push PySem.W.emptyDict).Ns s.heap.objs.size (fun _ => none) := ⟨PySem.W.emptyDict, #[], _, e1, rfl, (fun e he => absurd he (by simp)), fun _ => rfl⟩
 have I1 := I.laid (a := s.heap.objs.size) (o := .own (s.heap.objs.size + 1)) (h' := s.heap.push PySem.W.emptyDict) (t' := s.toks) (fun b u q => Heap.get?_push_of_some _ q) (Nat.le_refl _) ⟨_, e1⟩
 refine I1.laid (a := s.heap.objs.size + 1) (o := .ins C s.heap.objs.size []) (t' := s.toks) (fun b u q => Heap.get?_push_of_some _ q) (Nat.le_of_eq (Heap.size_push _ _)) ?_
 have ne : s.heap.objs.size ≠ s.heap.objs.size + 1 := Nat.ne_of_lt (Nat.lt_succ_self _)
 refine ⟨by rw [upd_ne ne, upd_same], Nat.zero_le _, ne, e2, fun _ => none, (Heap.Ns1.of_empty e3).at fun o q => Heap.get?_push_of_some _ q, fun _ => True.intro, fun y hy => absurd rfl hy⟩
theorem attr_of {prog : Program} {w : World} {env : Env} {e : Expr} {f : Str} {pos : Pos} {s : Shared} {Q : Value -> Shared -> Prop} (hb : attributeBase e f env (eval e env) = eval e env)
  (h : wpAny (model prog w) A (eval e env) (fun o s₁ => wpAny (model prog w) A (getAttr o f true) Q E s₁) E s) : wpAny (model prog w) A (eval (.Attribute e f pos) env) Q E s :=
 Attribute_any_ h (by rw [arm_eval_Attribute, hb])
end
def tFld (K : PySem.W.Frag) (ta : TE) (f : Str) : TE := fun σ H Q => ta σ H fun x H1 => ∃ a C dx fs v, x = .ref a /\ H1 a = some (.ins C dx fs) /\ Cls K C /\ NoAttr K C f /\ fs.lookup f = some v /\ Q v H1
def sFld (K : PySem.W.Frag) (ta tv : TE) (f : Str) : TS := fun D σ H => tv σ H fun y H1 => ta σ H1 fun x H2 => ∃ a C dx fs, x = .ref a /\ H2 a = some (.ins C dx fs) /\ Cls K C /\ NoAttr K C f /\ fs.length < 1000 /\
 D.nx σ (upd H2 a (.ins C dx (putF f y fs)))
def InOp (X : Cx) (op : Operator) (rd : V -> V -> Hp -> VK -> Prop) : Prop :=
 ∀ (pins : List (Addr × Obj)) (s : Shared) (σ : St) (H : Hp) (x y : V) (u v : Value) (Q : VK), Inv X pins σ H s -> RelV x u -> RelV y v -> rd x y H Q -> wpAny (model X.prog X.w) X.A (inplaceOp op u v) (EP X pins σ Q) X.xe s
def sFldAug (K : PySem.W.Frag) (ta tv : TE) (rd : V -> V -> Hp -> VK -> Prop) (f : Str) : TS := fun D σ H => ta σ H fun x H1 => ∃ a C dx fs v, x = .ref a /\ H1 a = some (.ins C dx fs) /\ Cls K C /\ NoAttr K C f /\ fs.lookup f = some v /\
 tv σ H1 fun y H2 => rd v y H2 fun z H3 => ∃ dx' fs', H3 a = some (.ins C dx' fs') /\ fs'.length < 1000 /\ D.nx σ (upd H3 a (.ins C dx' (putF f z fs')))
section
variable {X : Cx} {o e value : Expr} {f : Str} {pos pos' tpos : Pos} {ta tv : TE}
theorem pe_fld (he : PE X e ta) (hb : attributeBase e f X.env (eval e X.env) = eval e X.env) : PE X (.Attribute e f pos) (tFld X.K ta f) := by
 intro pins s σ H Q I h
 refine attr_of hb (thn (he pins s σ H _ I h) fun u s1 ⟨x, H1, I1, rx, a, C, dx, fs, v, ex, ea, c, n, l, q⟩ => ?_)
 subst ex
 obtain rfl : u = Value.ref a := rx
 exact getattr_ok I1 ea c n l fun u' s2 I2 ru => ⟨v, H1, I2, ru, q⟩
theorem ps_fld (ha : PE X o ta) (hv : PE X value tv) (hs : swapsWith value (some (.Attribute o f pos')) pos.line X.env = pure false) : PS X (.Assign [.Attribute o f pos'] value pos) (sFld X.K ta tv f) := by
 intro pins s σ H D I h
 refine plainObj_wpAny_Assign_Attribute (thn (hv pins s σ H _ I h) fun u s1 ⟨y, H1, I1, ry, q⟩ => thn (ha pins s1 σ H1 _ I1 q) fun ov s2 ⟨x, H2, I2, rx, a, C, dx, fs, ex, ea, c, n, l, q2⟩ => ?_) hs
 subst ex
 obtain rfl : ov = Value.ref a := rx
 exact setattr_ok I2 ea c n l ry fun s3 I3 => ⟨σ, _, I3, q2⟩
theorem ps_fldaug {op : Operator} {rd : V -> V -> Hp -> VK -> Prop} (ha : PE X o ta) (hv : PE X value tv) (hop : InOp X op rd) : PS X (.AugAssign (.Attribute o f tpos) op value pos) (sFldAug X.K ta tv rd f) := by
 intro pins s σ H D I h
 refine wpAny_AugAssign_AttributeAny (thn (ha pins s σ H _ I h) fun ov s1 ⟨x, H1, I1, rx, a, C, dx, fs, v, ex, ea, c, n, l, q⟩ => ?_)
 subst ex
 obtain rfl : ov = Value.ref a := rx
 refine getattr_ok I1 ea c n l fun u s2 I2 ru => thn (hv pins s2 σ H1 _ I2 q) fun w3 s3 ⟨y, H2, I3, ry, q3⟩ => thn (hop pins s3 σ H2 v y u w3 _ I3 ru ry q3) fun w4 s4 ⟨z, H3, I4, rz, dx', fs', ea', l', q4⟩ => ?_
 exact setattr_ok I4 ea' c n l' rz fun s5 I5 => ⟨σ, _, I5, q4⟩
def rAdd : V -> V -> Hp -> VK -> Prop := fun x y H Q => ∃ i j, x = .int i /\ y = .int j /\ Q (.int (i + j)) H
def rSub : V -> V -> Hp -> VK -> Prop := fun x y H Q => ∃ i j, x = .int i /\ y = .int j /\ Q (.int (i - j)) H
theorem in_add : InOp X .Add rAdd := by
 rintro pins s σ H x y u v Q I rx ry ⟨i, j, rfl, rfl, q⟩
 obtain ⟨t, rfl⟩ := (show ∃ t, u = Value.int i t from rx)
 obtain ⟨t', rfl⟩ := (show ∃ t', v = Value.int j t' from ry)
 exact PyProof.Rows.iadd_int ⟨.int (i + j), H, I.tok _, ⟨_, rfl⟩, q⟩
theorem in_sub : InOp X .Sub rSub := by
 rintro pins s σ H x y u v Q I rx ry ⟨i, j, rfl, rfl, q⟩
 obtain ⟨t, rfl⟩ := (show ∃ t, u = Value.int i t from rx)
 obtain ⟨t', rfl⟩ := (show ∃ t', v = Value.int j t' from ry)
 exact PyProof.Rows.isub_int ⟨.int (i - j), H, I.tok _, ⟨_, rfl⟩, q⟩
end
end L2
namespace L2
open PySem PySem.Spec PyProof.Rows
structure Room (k : Nat) (A : Around) : Prop where
 hd : A.handled = none
 dp : A.depth + 3 * k + 5 < recursionLimit
 un : A.units + 16 * k + 200 < cLine
theorem Room.mono {j k : Nat} {A : Around} (r : Room k A) (h : j <= k) : Room j A := ⟨r.hd, by have := r.dp; omega, by have := r.un; omega⟩
theorem Room.deeper {k : Nat} {A : Around} (r : Room (k + 1) A) (env : Env) : Room k (A.deeper env) :=
 ⟨r.hd, by have := r.dp; show A.depth + 1 + 3 * k + 5 < _; omega, by have := r.un; show A.units + 3 + 16 * k + 200 < _; omega⟩
theorem make_depth {A : Around} {C : Addr} {us : List Value} {kw : List (Str × Value)} : (A.under (.builtin "type.__call__" ⟨.ref C :: us, kw⟩)).depth = A.depth + 1 := by
 first | rfl | simp [Around.under, Code.weight, Code.isCreation, Code.isGuard, Code.isCaller, Code.frames, Code.isFrame, guardIds]
theorem make_units {A : Around} {C : Addr} {us : List Value} {kw : List (Str × Value)} : (A.under (.builtin "type.__call__" ⟨.ref C :: us, kw⟩)).units = A.units + 1 := by
 first | rfl | simp [Around.under, Code.cUnits, Code.frames, Code.isFrame]
theorem Room.make {k : Nat} {A : Around} (r : Room (k + 1) A) (C : Addr) (us : List Value) (kw : List (Str × Value)) : Room k (A.under (.builtin "type.__call__" ⟨.ref C :: us, kw⟩)) :=
 ⟨r.hd, by have := r.dp; rw [make_depth]; omega, by have := r.un; rw [make_units]; omega⟩
theorem Room.depth {k : Nat} {A : Around} (r : Room k A) : A.depth < recursionLimit := by have := r.dp; omega
theorem Room.units {k : Nat} {A : Around} (r : Room k A) : A.units + 64 < cLine := by have := r.un; omega
def tNil : TA := fun _ H Q => Q [] H
def tCons (ta : TE) (tr : TA) : TA := fun σ H Q => ta σ H fun x H1 => tr σ H1 fun xs H2 => Q (x :: xs) H2
section
variable {X : Cx} {e : Expr} {es : List Expr} {te : TE} {t : TA} {pos : Pos}
theorem pa_nil : PA X [] tNil := fun _ _ _ _ H Q I h => Calls.spliced_nil ⟨[], H, I, .nil, h⟩
theorem pa_cons (ha : PE X e te) (hr : PA X es t) (hs : starEach (e :: es) X.env = (false, eval e X.env) :: starEach es X.env := by rfl) : PA X (e :: es) (tCons te t) := by
 intro pos pins s σ H Q I h
 rw [hs]
 show wpAny _ _ (spliced ((false, eval e X.env) :: backTo pos (starEach es X.env))) _ _ s
 refine Calls.spliced_cons (thn (ha pins s σ H _ I h) fun u s1 ⟨x, H1, I1, r1, q1⟩ => ?_)
 exact thn (hr pos pins s1 σ H1 _ I1 q1) fun us s2 ⟨xs, H2, I2, r2, q2⟩ => ⟨x :: xs, H2, I2, .cons r1 r2, q2⟩
def tTup (t : TA) : TE := fun σ H Q => t σ H fun xs H1 => xs.length <= sizeLine /\ ∀ p, H1 p = none -> Q (.ref p) (upd H1 p (.tup xs))
def tLst (t : TA) : TE := fun σ H Q => t σ H fun xs H1 => xs.length <= sizeLine /\ ∀ p, H1 p = none -> Q (.ref p) (upd H1 p (.lst xs))
theorem pe_tup {x1} (h : PA X es t) : PE X (.Tuple es x1 pos) (tTup t) := by
 intro pins s σ H Q I hq
 refine wpAny_Tuple_spliced (thn (h pos pins s σ H _ I hq) fun us s1 ⟨xs, H1, I1, r, z, q⟩ => ⟨by rw [<- r.length]; exact z, ?_⟩)
 have hf : H1 s1.heap.objs.size = none := I1.hok.fresh (Nat.le_refl _)
 refine ⟨.ref s1.heap.objs.size, upd H1 s1.heap.objs.size (.tup xs), I1.laid (t' := s1.toks) (fun b u e => Heap.get?_push_of_some _ e) (Nat.le_refl _) ?_, rfl, q _ hf⟩
 exact ⟨z, us, r, ⟨_, Heap.get?_push_size _ rfl, rfl, _, rfl⟩⟩
theorem pe_lst (h : PA X es t) : PE X (.List es pos) (tLst t) := by
 intro pins s σ H Q I hq
 refine wpAny_List_spliced (thn (h pos pins s σ H _ I hq) fun us s1 ⟨xs, H1, I1, r, z, q⟩ => ⟨by rw [<- r.length]; exact z, ?_⟩)
 have hf : H1 s1.heap.objs.size = none := I1.hok.fresh (Nat.le_refl _)
 refine ⟨.ref s1.heap.objs.size, upd H1 s1.heap.objs.size (.lst xs), I1.laid (t' := s1.toks) (fun b u e => Heap.get?_push_of_some _ e) (Nat.le_refl _) ?_, rfl, q _ hf⟩
 exact ⟨z, us, 0, r, Heap.get?_push_size _ rfl⟩
end
abbrev Sp := List V -> Hp -> VK -> XK -> Prop
abbrev CXT := List Env -> Hp -> Shared -> XK -> Value -> Shared -> Prop
structure Env0 (P : Program) (w : World) (K : PySem.W.Frag) (mg : Str -> Option Value) (base : Heap) (A : Around) (outer : List Env) (s : Shared) (H : Hp) : Prop where
 frames : A.frames = some outer
 mod : Mod K mg base
 bs : ∀ b o, base.get? b = some o -> s.heap.get? b = some o /\ H b = none
 bsz : base.objs.size <= s.heap.objs.size
 funs : s.heap.FunFrames base outer
 frf : ∀ b ∈ frs outer, H b = none
 hok : HOk P w H s.heap
 bare : AllBare s.gens
def CE (outer : List Env) (P : Program) (w : World) (H : Hp) (s : Shared) (Q : VK) (u : Value) (s' : Shared) : Prop :=
 ∃ v H', s'.os = s.os /\ AllBare s'.gens /\ Un (frs outer) [] H H' s.heap s'.heap /\ HOk P w H' s'.heap /\ RelV v u /\ Q v H'
def CR (CX : CXT) (outer : List Env) (P : Program) (w : World) (H : Hp) (s : Shared) (Q : VK) (E : XK) (r : Result) (s' : Shared) : Prop :=
 match r with
 | .ok (.ret u) => CE outer P w H s Q u s'
 | .ok _ => False
 | .error e => CX outer H s E e s'
structure FnOk (P : Program) (w : World) (K : PySem.W.Frag) (mg : Str -> Option Value) (base : Heap) (CX : CXT) (k : Nat) (f : Addr) (fd : FuncData) (ps : List Str) (sp : Sp) : Prop where
 len : ∀ vs H Q E, sp vs H Q E -> vs.length = ps.length
 run : ∀ (A : Around) (outer : List Env) (s : Shared) (H : Hp) (args : Args) (us : List Value) (vs : List V) (Q : VK) (E : XK), Room k A -> Env0 P w K mg base A outer s H -> BindsTo s fd args (ps.zip us) -> Vals vs us -> sp vs H Q E ->
  codeAny (model P w) A (.call (.ref f) args) (CR CX outer P w H s Q E) s
theorem Env0.make {P : Program} {w : World} {K : PySem.W.Frag} {mg : Str -> Option Value} {base : Heap} {A : Around} {outer : List Env} {s : Shared} {H : Hp} (e : Env0 P w K mg base A outer s H) (C : Addr) (us : List Value) (kw : List (Str × Value)) :
  Env0 P w K mg base (A.under (.builtin "type.__call__" ⟨.ref C :: us, kw⟩)) outer s H := ⟨by first | exact e.frames | (simpa [Around.under, Code.envs, Code.isFrame, pushEnvs] using e.frames), e.mod, e.bs, e.bsz, e.funs, e.frf, e.hok, e.bare⟩
section
variable {X : Cx} {pins : List (Addr × Obj)} {σ : St} {H : Hp} {s s' : Shared}
theorem Inv.env0 (I : Inv X pins σ H s) : Env0 X.prog X.w X.K X.mg X.base X.A X.stack s H :=
 ⟨I.ok.frames, I.ok.mod, I.bs, Nat.le_trans I.ok.bsz I.sz, I.stack, I.stkFree, I.hok, I.bare⟩
theorem Inv.after {Q : VK} {u : Value} (I : Inv X pins σ H s) (h : CE X.stack X.prog X.w H s Q u s') : EP X pins σ Q u s' := by
 obtain ⟨v, H', os, bare, un, hok, r, q⟩ := h
 obtain ⟨hh, g, d, t, os'⟩ := s'
 obtain rfl : os' = s.os := os
 exact ⟨v, H', I.call (h' := hh) (g' := g) (d' := d) (t' := t) (ch := []) un hok bare (fun b z => absurd z (by simp)), r, q⟩
end
def tCall (sp : Sp) (dvs : List V) (E : XK) (t : TA) : TE := fun σ H Q => t σ H fun vs H1 => sp (vs ++ dvs) H1 Q E
def tMake (C : Addr) (sp : Sp) (dvs : List V) (E : XK) (t : TA) : TE := fun σ H Q => t σ H fun vs H1 => ∀ x dx, H1 x = none -> H1 dx = none -> dx ≠ x ->
 sp (.ref x :: (vs ++ dvs)) (upd (upd H1 dx (.own x)) x (.ins C dx [])) (fun v H2 => v = .non /\ Q (.ref x) H2) E
def Binds (K : PySem.W.Frag) (fd : FuncData) (ps : List Str) (ds : List Value) : Prop :=
 ∀ (s : Shared) (us : List Value), K.In s.heap -> (us ++ ds).length = ps.length -> BindsTo s fd ⟨us, []⟩ (ps.zip (us ++ ds))
theorem Binds.all {K : PySem.W.Frag} {fd : FuncData} {ps : List Str} (h : ∀ us : List Value, us.length = ps.length -> bindArgs fd ⟨us, []⟩ = pure (ps.zip us)) : Binds K fd ps [] := fun s us _ hl => by
 rw [List.append_nil] at hl ⊢
 exact .of_eq (h us hl)
def Passes (CX : CXT) (X : Cx) (E : XK) : Prop := ∀ (pins : List (Addr × Obj)) (σ : St) (H : Hp) (s : Shared) (e : Value) (s' : Shared), Inv X pins σ H s -> CX X.stack H s E e s' -> X.xe e s'
section
variable {X : Cx} {CX : CXT} {k : Nat} {f C : Addr} {fd : FuncData} {ps : List Str} {sp : Sp} {dvs : List V} {ds : List Value} {E : XK} {x m : Str} {p pos apos : Pos} {e o : Expr} {es : List Expr} {ta : TE} {t : TA}
theorem run_fn {pins : List (Addr × Obj)} {σ : St} {H : Hp} {s : Shared} {Q : VK} {us : List Value} {vs : List V} (F : FnOk X.prog X.w X.K X.mg X.base CX k f fd ps sp) (hr : Room k X.A) (hb : Binds X.K fd ps ds) (hd : Vals dvs ds) (hx : Passes CX X E)
  (I : Inv X pins σ H s) (r : Vals vs us) (h : sp (vs ++ dvs) H Q E) : wpAny (model X.prog X.w) X.A (call (.ref f) us) (EP X pins σ Q) X.xe s := by
 have r2 : Vals (vs ++ dvs) (us ++ ds) := r.append hd
 have hl : (us ++ ds).length = ps.length := by rw [<- r2.length]; exact F.len _ _ _ _ h
 refine wpAny_call (codeAny_mono (F.run X.A X.stack s H ⟨us, []⟩ (us ++ ds) (vs ++ dvs) Q E hr I.env0 (hb s us I.kIn hl) r2 h) fun r s' hq => ?_)
 cases r with
 | error e => exact hx pins σ H s e s' I hq
 | ok fl =>
  cases fl with
  | ret u => exact I.after hq
  | next => exact False.elim hq
  | brk => exact False.elim hq
  | cont => exact False.elim hq
theorem pe_call (F : FnOk X.prog X.w X.K X.mg X.base CX k f fd ps sp) (hr : Room k X.A) (hg : Gl X x) (hm : X.mg x = some (.ref f)) (hk : PySem.W.keepIn X.K (.ref f) = true) (hb : Binds X.K fd ps ds) (hd : Vals dvs ds) (hx : Passes CX X E)
  (ha : PA X (e :: es) t) (hdb : (x == ("__debug__" : Str)) = false := by decide) (he : starEach (e :: es) X.env = (false, eval e X.env) :: starEach es X.env := by rfl) (hpl : (backTo pos (starEach es X.env)).any (·.1) = false := by rfl) :
  PE X (.Call (.Name x p) (e :: es) [] pos) (tCall sp dvs E t) := by
 intro pins s σ H Q I h
 refine wpAny_Call_Name_kw (ld_glob I hg hm ?_ hdb)
 refine PySem.W.callWith_K (h₀ := X.base) I.ok.mod.kin hk (thn (ha pos pins s σ H _ I h) fun us s1 ⟨vs, H1, I1, r, q⟩ => ⟨I1.kIn, ?_⟩) he hpl
 exact run_fn F hr hb hd hx I1 r q
structure Mk (K : PySem.W.Frag) (C f : Addr) : Prop where
 makes : PySem.W.makesIn K C = true
 init : PySem.W.findIn K (.ref C) "__init__" = some (some (.ref f))
 fn : PySem.W.isFn K (.ref f) = true
 kp : PySem.W.keepIn K (.ref C) = true
theorem run_make {pins : List (Addr × Obj)} {σ : St} {H : Hp} {s : Shared} {Q : VK} {us : List Value} {vs : List V} (M : Mk X.K C f) (F : FnOk X.prog X.w X.K X.mg X.base CX k f fd ps sp) (hr : Room (k + 1) X.A) (hb : Binds X.K fd ps ds) (hd : Vals dvs ds)
  (hx : Passes CX X E) (I : Inv X pins σ H s) (r : Vals vs us)
  (h : ∀ x dx, H x = none -> H dx = none -> dx ≠ x -> sp (.ref x :: (vs ++ dvs)) (upd (upd H dx (.own x)) x (.ins C dx [])) (fun v H2 => v = .non /\ Q (.ref x) H2) E) :
  wpAny (model X.prog X.w) X.A (call (.ref C) us) (EP X pins σ Q) X.xe s := by
 have hq := h (s.heap.objs.size + 1) s.heap.objs.size (I.hok.fresh (Nat.le_succ _)) (I.hok.fresh (Nat.le_refl _)) (Nat.ne_of_lt (Nat.lt_succ_self _))
 have I2 := Inv.made (C := C) I
 have r2 : Vals (V.ref (s.heap.objs.size + 1) :: (vs ++ dvs)) (Value.ref (s.heap.objs.size + 1) :: (us ++ ds)) := .cons rfl (r.append hd)
 have hl : (Value.ref (s.heap.objs.size + 1) :: us ++ ds).length = ps.length := by
  have e := r2.length
  rw [F.len _ _ _ _ hq] at e
  exact e.symm
 refine wpAny_call (make_map (f := f) I.kIn M.makes M.init (beq_iff_eq.mp M.fn) (codeAny_mono (F.run _ X.stack _ _ ⟨Value.ref (s.heap.objs.size + 1) :: us, []⟩ (Value.ref (s.heap.objs.size + 1) :: (us ++ ds)) _ _ E (hr.make C us [])
  (I2.env0.make C us []) (hb _ (Value.ref (s.heap.objs.size + 1) :: us) I2.kIn hl) r2 hq) fun r s' hq' => ?_))
 cases r with
 | error e => exact hx pins σ _ _ e s' I2 hq'
 | ok fl =>
  cases fl with
  | ret u =>
   obtain ⟨v, H', I3, rv, ev, q3⟩ := I2.after hq'
   subst ev
   exact ⟨rv, ⟨V.ref (s.heap.objs.size + 1), H', I3, rfl, q3⟩⟩
  | next => exact False.elim hq'
  | brk => exact False.elim hq'
  | cont => exact False.elim hq'
theorem pe_make (M : Mk X.K C f) (F : FnOk X.prog X.w X.K X.mg X.base CX k f fd ps sp) (hr : Room (k + 1) X.A) (hg : Gl X x) (hm : X.mg x = some (.ref C)) (hb : Binds X.K fd ps ds) (hd : Vals dvs ds) (hx : Passes CX X E)
  (ha : PA X (e :: es) t) (hdb : (x == ("__debug__" : Str)) = false := by decide) (he : starEach (e :: es) X.env = (false, eval e X.env) :: starEach es X.env := by rfl) (hpl : (backTo pos (starEach es X.env)).any (·.1) = false := by rfl) :
  PE X (.Call (.Name x p) (e :: es) [] pos) (tMake C sp dvs E t) := by
 intro pins s σ H Q I h
 refine wpAny_Call_Name_kw (ld_glob I hg hm ?_ hdb)
 refine PySem.W.callWith_K (h₀ := X.base) I.ok.mod.kin M.kp (thn (ha pos pins s σ H _ I h) fun us s1 ⟨vs, H1, I1, r, q⟩ => ⟨I1.kIn, ?_⟩) he hpl
 exact run_make M F hr hb hd hx I1 r q
theorem pe_make0 (M : Mk X.K C f) (F : FnOk X.prog X.w X.K X.mg X.base CX k f fd ps sp) (hr : Room (k + 1) X.A) (hg : Gl X x) (hm : X.mg x = some (.ref C)) (hb : Binds X.K fd ps ds) (hd : Vals dvs ds) (hx : Passes CX X E)
  (hdb : (x == ("__debug__" : Str)) = false := by decide) : PE X (.Call (.Name x p) [] [] pos) (tMake C sp dvs E tNil) := by
 intro pins s σ H Q I h
 refine wpAny_Call_Name_kw (ld_glob I hg hm ?_ hdb)
 exact PySem.W.callWith_K0 I.kIn M.kp (run_make (us := []) M F hr hb hd hx I .nil h)
end
structure FnScope (N P : List Str) (sc : Scope) : Prop where
 kind : sc.kind = .function
 co : sc.isCoroutine = false
 gen : sc.isGenerator = false
 nd : N.Nodup
 pre : N.take P.length = P
 par : ∀ x ∈ P, sc.names.lookup x = some .local \/ sc.names.lookup x = some .cell
 nofree : ∀ y ∈ sc.names, y.2 ≠ .free
theorem bindL_out {kindOf : Str -> Option NameKind} {x : Str} : ∀ {binds : List (Str × Value)} {m : Str -> Option Value}, (∀ v, (x, v) ∉ binds) -> bindL kindOf binds m x = m x
 | [], _, _ => rfl
 | (n, v) :: r, m, h => by
  unfold bindL
  rw [bindL_out fun w hw => h w (List.mem_cons_of_mem _ hw)]
  split
  ·have : x ≠ n := by rintro rfl; exact h v List.mem_cons_self
   simp [this]
  ·rfl
theorem bindC_out {kindOf : Str -> Option NameKind} {x : Str} : ∀ {binds : List (Str × Value)} {m : Str -> Option Value}, (∀ v, (x, v) ∉ binds) -> bindC kindOf binds m x = m x
 | [], _, _ => rfl
 | (n, v) :: r, m, h => by
  unfold bindC
  rw [bindC_out fun w hw => h w (List.mem_cons_of_mem _ hw)]
  split
  ·rfl
  ·have : x ≠ n := by rintro rfl; exact h v List.mem_cons_self
   simp [this]
theorem bindL_get {kindOf : Str -> Option NameKind} {x : Str} {v : Value} : ∀ {P : List Str} {vs : List Value} {i : Nat} {m : Str -> Option Value}, P.Nodup -> P[i]? = some x -> vs[i]? = some v -> kindOf x = some .local ->
  bindL kindOf (P.zip vs) m x = some v
 | [], _, _, _, _, h, _, _ => by simp at h
 | _ :: _, [], _, _, _, _, h, _ => by simp at h
 | p :: P, w :: vs, 0, m, nd, h1, h2, hk => by
  simp at h1 h2; subst h1; subst h2
  show bindL kindOf ((p, w) :: P.zip vs) m p = _
  unfold bindL
  rw [bindL_out fun v hv => (List.nodup_cons.mp nd).1 (List.of_mem_zip hv).1, if_pos hk]
  simp
 | p :: P, w :: vs, i + 1, m, nd, h1, h2, hk => by
  show bindL kindOf ((p, w) :: P.zip vs) m x = _
  unfold bindL
  exact bindL_get (i := i) (List.nodup_cons.mp nd).2 (by simpa using h1) (by simpa using h2) hk
theorem bindC_get {kindOf : Str -> Option NameKind} {x : Str} {v : Value} : ∀ {P : List Str} {vs : List Value} {i : Nat} {m : Str -> Option Value}, P.Nodup -> P[i]? = some x -> vs[i]? = some v -> kindOf x ≠ some .local ->
  bindC kindOf (P.zip vs) m x = some v
 | [], _, _, _, _, h, _, _ => by simp at h
 | _ :: _, [], _, _, _, _, h, _ => by simp at h
 | p :: P, w :: vs, 0, m, nd, h1, h2, hk => by
  simp at h1 h2; subst h1; subst h2
  show bindC kindOf ((p, w) :: P.zip vs) m p = _
  unfold bindC
  rw [bindC_out fun v hv => (List.nodup_cons.mp nd).1 (List.of_mem_zip hv).1, if_neg hk]
  simp
 | p :: P, w :: vs, i + 1, m, nd, h1, h2, hk => by
  show bindC kindOf ((p, w) :: P.zip vs) m x = _
  unfold bindC
  exact bindC_get (i := i) (List.nodup_cons.mp nd).2 (by simpa using h1) (by simpa using h2) hk
def start (N : List Str) (vs : List V) : St := vs.map some ++ List.replicate (N.length - vs.length) none
def cxOf (CX : CXT) (P : Program) (w : World) (K : PySem.W.Frag) (mg : Str -> Option Value) (base : Heap) (N : List Str) (qual : Str) (scope : Scope) (f : Addr) (cd : Value) (A : Around) (outer : List Env) (s : Shared) (H : Hp) (E : XK) : Cx where
 prog := P
 w := w
 K := K
 mg := mg
 base := base
 A := A.deeper (envOfC qual scope s.heap.objs.size f cd)
 N := N
 s_0 := s
 H_0 := H
 env := envOfC qual scope s.heap.objs.size f cd
 outer := outer
 stack := envOfC qual scope s.heap.objs.size f cd :: outer
 ex := []
 calm := true
 fn := fun _ => true
 pn := []
 xe := fun e s' => wpAny (model P w) (A.deeper (envOfC qual scope s.heap.objs.size f cd)) (leaving (envOfC qual scope s.heap.objs.size f cd) e) (fun _ s'' => CX outer H s E e s'') (fun e' s'' => CX outer H s E e' s'') s'
theorem cell_has {sc : Scope} {n : Nat} {x : Str} (h : sc.names.lookup x = some .cell) : ∃ c, (cellsFrom n sc.names []).lookup x = some c := by
 have q := PySem.W.cellsFrom_some sc.names n [] (.inl h)
 exact Option.isSome_iff_exists.mp q
theorem inv_start {CX : CXT} {P : Program} {w : World} {K : PySem.W.Frag} {mg : Str -> Option Value} {base : Heap} {N ps : List Str} {qual : Str} {scope : Scope} {f : Addr} {cd : Value} {A : Around} {outer : List Env} {s s1 : Shared} {H : Hp} {E : XK} {us : List Value} {vs : List V}
  (S : FnScope N ps scope) (hd : A.handled = none) (e0 : Env0 P w K mg base A outer s H) (hl : vs.length = ps.length) (r : Vals vs us)
  (x : InCallC s s.heap.objs.size (bindL (envOfC qual scope s.heap.objs.size f cd).kindOf (ps.zip us) fun _ => none) (cellsFrom (s.heap.objs.size + 1) scope.names []) (bindC (envOfC qual scope s.heap.objs.size f cd).kindOf (ps.zip us) fun _ => none) s1) :
  Inv (cxOf CX P w K mg base N qual scope f cd A outer s H E) [] (start N vs) H s1 := by
 have hpl : ps.length <= N.length := by have := congrArg List.length S.pre; rw [List.length_take] at this; omega
 obtain ⟨h1, tk, rfl, hk⟩ := x.done
 have noA : ∀ b : Addr, b ∉ (cxOf CX P w K mg base N qual scope f cd A outer s H E).ex := fun b z => absurd (show b ∈ ([] : List Addr) from z) (by simp)
 refine ⟨⟨e0.mod, S.kind, rfl, rfl, Nat.le_refl _, fun y z c h1 h2 => ?_, fun y hy => ?_, fun y c _ h => ?_, fun _ => hd, Around.frames_deeper e0.frames, .inr ⟨rfl, rfl⟩, fun b z => absurd z (noA b), e0.bs, e0.bsz, fun b _ _ => noA b, fun b z => absurd z (noA b), e0.funs, e0.frf⟩,
  rfl, e0.bare, Un.kept hk, ⟨_, x.toInCall.ns, fun i y v h1 h2 h3 => ?_⟩, fun y c h => ⟨_, x.cell y c h⟩, e0.hok.fresh (Nat.le_refl _), fun y c h => ?_, fun p hp => absurd (show p ∈ ([] : List (Addr × Obj)) from hp) (by simp), e0.hok.kept hk, ?_⟩
 ·exact name_of_addr x.apart (PySem.mem_of_lookup h1) (PySem.mem_of_lookup h2)
 ·have hy : scope.names.lookup y = some .cell \/ scope.names.lookup y = some .free := hy
  rcases hy with hy | hy
  ·exact cell_has hy
  ·exact absurd rfl (S.nofree _ (PySem.mem_of_lookup hy))
 ·exact Nat.le_of_lt (x.above y c (PySem.mem_of_lookup h))
 ·have hi : i < vs.length := by
   unfold start at h2
   by_cases hi : i < vs.length
   ·exact hi
   ·rw [List.getElem?_append_right (by simpa using hi)] at h2
    rw [List.getElem?_replicate] at h2
    split at h2 <;> cases h2
  have ha : vs[i]? = some v := by
   unfold start at h2
   rw [List.getElem?_append_left (by simpa using hi), List.getElem?_map] at h2
   cases e : vs[i]? with
   | none => rw [e] at h2; cases h2
   | some a => rw [e] at h2; cases h2; rfl
  obtain ⟨u, hu, rv⟩ := r.get ha
  have hp : ps[i]? = some y := by
   rw [<- S.pre, List.getElem?_take_of_lt (by omega)]; exact h1
  have ndP : ps.Nodup := by rw [<- S.pre]; exact S.nd.sublist (List.take_sublist _ _)
  refine ⟨u, rv, ?_⟩
  rcases S.par y (List.mem_of_getElem? hp) with k | k
  ·exact .inl ⟨k, bindL_get ndP hp hu k⟩
  ·obtain ⟨c, e⟩ := cell_has (n := s.heap.objs.size + 1) k
   refine .inr ⟨.inl k, c, e, ?_⟩
   have q := x.cell y c e
   rw [bindC_get ndP hp hu (by show scope.names.lookup y ≠ _; rw [k]; decide)] at q
   exact q
 ·exact e0.hok.fresh (Nat.le_of_lt (x.above y c (PySem.mem_of_lookup h)))
 ·unfold start
  show _ = N.length
  rw [List.length_append, List.length_map, List.length_replicate]
  omega
theorem fn_of {CX : CXT} {P : Program} {w : World} {K : PySem.W.Frag} {mg : Str -> Option Value} {base : Heap} {k : Nat} {f : Addr} {name qual : Str} {params : Arguments} {body : List Stmt} {scope : Scope} {dV kV doc pm cdv ct oc : Value} {an od : Option Addr}
  {osl : Array (Option Value)} {N ps : List Str} {sp : Sp} (lk : K.lookup f = some ⟨oc, od, .func (PySem.W.fnOf name qual params body scope dV kV doc pm an cdv ct), osl⟩) (hcd : PySem.W.codeIn K cdv qual = true) (S : FnScope N ps scope)
  (len : ∀ vs H Q E, sp vs H Q E -> vs.length = ps.length)
  (hbody : ∀ (A : Around) (outer : List Env) (s : Shared) (H : Hp) (vs : List V) (Q : VK) (E : XK), Room k (A.deeper (envOfC qual scope s.heap.objs.size f cdv)) -> sp vs H Q E ->
   ∃ t, PSs (cxOf CX P w K mg base N qual scope f cdv A outer s H E) body t /\ t { nx := fun _ H' => Q .non H', rt := Q } (start N vs) H) :
  FnOk P w K mg base CX (k + 1) f (PySem.W.fnOf name qual params body scope dV kV doc pm an cdv ct) ps sp := by
 refine ⟨len, fun A outer s H args us vs Q E hr e0 hb r hsp => ?_⟩
 have hl := len _ _ _ _ hsp
 have KX : K.In s.heap := e0.mod.kin.keeps fun b o e => (e0.bs b o e).1
 have lim : s.heap.NoLimit := e0.mod.nolimit.keeps fun b o e => (e0.bs b o e).1
 have hkind : ∀ y ∈ ps.zip us, scope.names.lookup y.1 = some .local \/ (scope.names.lookup y.1 = some .cell /\ ((cellsFrom (s.heap.objs.size + 1) scope.names []).lookup y.1).isSome = true) := fun ⟨n, v⟩ hy => by
  rcases S.par n (List.of_mem_zip hy).1 with q | q
  ·exact .inl q
  ·exact .inr ⟨q, PySem.W.cellsFrom_some _ _ _ (.inl q)⟩
 refine codeAny_call_function hr.depth (KX _ _ lk) rfl S.co S.gen rfl (PySem.W.codeRec_of KX hcd) (hb _ _ _ _ ?_)
 refine wpAny_newFunctionEnv_cells S.kind hkind fun env he s1 x => ?_
 subst he
 refine ⟨lim.keeps x.toInCall.keep, codeAny_func ?_⟩
 obtain ⟨t, ht, hq⟩ := hbody A outer s H vs Q E (hr.deeper _) hsp
 have I : Inv (cxOf CX P w K mg base N qual scope f cdv A outer s H E) [] (start N vs) H s1 := inv_start S hr.hd e0 hl r x
 refine wpAny_mono (ht [] s1 (start N vs) H _ I hq) (fun fl s' hs => ?_) fun e s' hs => hs
 have fin : ∀ {σ' : St} {H' : Hp} {v : V} {u : Value}, Inv (cxOf CX P w K mg base N qual scope f cdv A outer s H E) [] σ' H' s' -> RelV v u -> Q v H' -> CE outer P w H s Q u s' :=
  fun {σ' H' v u} J rv q => ⟨v, H', J.os, J.bare, J.base, J.hok, rv, q⟩
 cases fl with
 | ret u =>
  obtain ⟨v, σ', H', J, rv, q⟩ := hs
  exact fin J rv q
 | next =>
  obtain ⟨σ', H', J, q⟩ := hs
  exact fin (v := V.non) (u := Value.none) J rfl q
 | brk =>
  obtain ⟨_, _, _, q⟩ := hs
  exact False.elim q
 | cont =>
  obtain ⟨_, _, _, q⟩ := hs
  exact False.elim q
end L2
namespace L2
open PySem PySem.Spec PyProof.Rows
section
variable {X : Cx} {x : Str} {p pos : Pos} {e : Expr} {es : List Expr} {t : TA} {id T : String} {r : List V -> Hp -> VK -> Prop}
def tCB (r : List V -> Hp -> VK -> Prop) (t : TA) : TE := fun σ H Q => t σ H fun vs H1 => r vs H1 Q
theorem pe_callB (hc : CallR X (.builtin id) r) (hg : Gl X x) (hm : X.mg x = none) (hv : bootBuiltins x = some (.builtin id)) (ha : PA X (e :: es) t) (hn : x ≠ "__name__" := by decide) (hdb : (x == ("__debug__" : Str)) = false := by decide)
  (he : starEach (e :: es) X.env = (false, eval e X.env) :: starEach es X.env := by rfl) (hpl : (backTo pos (starEach es X.env)).any (·.1) = false := by rfl) : PE X (.Call (.Name x p) (e :: es) [] pos) (tCB r t) := by
 intro pins s σ H Q I h
 refine wpAny_Call_Name_kw (ld_blt I hg hm hv ?_ hn hdb)
 exact PyProof.Rows.callWith_builtin1 (thn (ha pos pins s σ H _ I h) fun us s1 ⟨vs, H1, I1, r1, q1⟩ => hc pins s1 σ H1 vs us Q I1 r1 q1) he hpl
theorem pe_callTy (hc : CallR X (.type T) r) (hg : Gl X x) (hm : X.mg x = none) (hv : bootBuiltins x = some (.type T)) (ha : PA X (e :: es) t) (hn : x ≠ "__name__" := by decide) (hdb : (x == ("__debug__" : Str)) = false := by decide)
  (he : starEach (e :: es) X.env = (false, eval e X.env) :: starEach es X.env := by rfl) (hpl : (backTo pos (starEach es X.env)).any (·.1) = false := by rfl) : PE X (.Call (.Name x p) (e :: es) [] pos) (tCB r t) := by
 intro pins s σ H Q I h
 refine wpAny_Call_Name_kw (ld_blt I hg hm hv ?_ hn hdb)
 exact PyProof.Rows.callWith_type1 (thn (ha pos pins s σ H _ I h) fun us s1 ⟨vs, H1, I1, r1, q1⟩ => hc pins s1 σ H1 vs us Q I1 r1 q1) he hpl
end
end L2
namespace HT
open PySem PyProof.Rows
section
variable {prog : Program} {w : World} {A : Around} {E : Value -> Shared -> Prop} {s : Shared}
def sIx (n d : Nat) : Option Int -> Nat
 | none => d
 | some v => if v < 0 then (v + (n : Int)).toNat else min v.toNat n
theorem sIx_none (n d : Nat) : sIx n d none = d := rfl
theorem sIx_nat (n d k : Nat) : sIx n d (some (k : Int)) = min k n := by
 show (if (k : Int) < 0 then ((k : Int) + (n : Int)).toNat else min (k : Int).toNat n) = min k n
 rw [if_neg (by omega), Int.toNat_natCast]
end
end HT
namespace L2
open PySem PySem.Spec PyProof.Rows
abbrev TO := St -> Hp -> (Option Int -> Hp -> Prop) -> Prop
def PO (X : Cx) (e : Option Expr) (t : TO) : Prop :=
 ∀ (pins : List (Addr × Obj)) (s : Shared) (σ : St) (H : Hp) (Q : Option Int -> Hp -> Prop), Inv X pins σ H s -> t σ H Q ->
  wpAny (model X.prog X.w) X.A (evalPart e X.env) (fun u s' => ∃ o H', Inv X pins σ H' s' /\ IsPart u o /\ Q o H') X.xe s
def tNoPart : TO := fun _ H Q => Q none H
def tPart (t : TE) : TO := fun σ H Q => t σ H fun x H1 => ∃ i, x = .int i /\ Q (some i) H1
theorem intsAre_of {ns : List Int} : ∀ {us : List Value}, Vals (ns.map V.int) us -> IntsAre us ns := by
 induction ns with
 | nil => intro us r; rw [List.map_nil] at r; cases r; exact .nil
 | cons n ns ih =>
  intro us r
  rw [List.map_cons] at r
  cases r with
  | cons r1 r2 =>
   obtain ⟨t, e⟩ := r1
   subst e
   exact .cons n t (ih r2)
section
variable {X : Cx} {e : Expr} {te : TE} {lo hi : Option Expr} {tl th : TO} {pos p2 : Pos}
theorem po_none : PO X none tNoPart := by
 intro pins s σ H Q I h
 rw [evalPart_none]
 exact wpAny_pure ⟨none, H, I, .none, h⟩
theorem po_some (h : PE X e te) : PO X (some e) (tPart te) := by
 intro pins s σ H Q I hw
 rw [evalPart_some]
 refine thn (h pins s σ H _ I hw) fun u s1 ⟨x, H1, I1, r1, q1⟩ => ?_
 obtain ⟨i, rfl, q⟩ := q1
 obtain ⟨t, rfl⟩ := r1
 exact ⟨some i, H1, I1, .int i t, q⟩
def SlR (X : Cx) (r : V -> Option Int -> Option Int -> Hp -> VK -> Prop) : Prop :=
 ∀ (pins : List (Addr × Obj)) (s : Shared) (σ : St) (H : Hp) (x : V) (v vl vu : Value) (lo hi : Option Int) (sl : Addr) (Q : VK), Inv X pins σ H s -> RelV x v -> s.heap.IsSliceOf sl vl vu .none -> IsPart vl lo -> IsPart vu hi -> r x lo hi H Q ->
  ∃ T id, typeLookup (.type T) "__getitem__" = pure (some (.builtin id)) /\ s.TypeIs v T /\ wpAny (model X.prog X.w) X.A (getItem v (.ref sl)) (EP X pins σ Q) X.xe s
def tSl (r : V -> Option Int -> Option Int -> Hp -> VK -> Prop) (te : TE) (tl th : TO) : TE := fun σ H Q => te σ H fun x H1 => tl σ H1 fun l H2 => th σ H2 fun u H3 => r x l u H3 Q
theorem pe_slice {r : V -> Option Int -> Option Int -> Hp -> VK -> Prop} (hr : SlR X r) (he : PE X e te) (hl : PO X lo tl) (hu : PO X hi th) : PE X (.Subscript e (.Slice lo hi none p2) pos) (tSl r te tl th) := by
 intro pins s σ H Q I h
 refine Subscript_ (thn (he pins s σ H _ I h) fun v s1 ⟨x, H1, I1, r1, q1⟩ => ?_)
 refine wpAny_Slice (thn (hl pins s1 σ H1 _ I1 q1) fun vl s2 ⟨l, H2, I2, pl, q2⟩ => thn (hu pins s2 σ H2 _ I2 q2) fun vu s3 ⟨u, H3, I3, pu, q3⟩ => ?_)
 rw [evalPart_none]
 refine wpAny_pure ?_
 have I4 : Inv X pins σ H3 { s3 with heap := s3.heap.push { cls := .type "slice", data := .fields #[vl, vu, .none] } } := I3.kept (t' := s3.toks) fun b ob q => Heap.get?_push_of_some _ q
 obtain ⟨T, id, hT, ht, hg⟩ := hr pins { s3 with heap := s3.heap.push { cls := .type "slice", data := .fields #[vl, vu, .none] } } σ H3 x v vl vu l u s3.heap.objs.size Q I4 r1 (Heap.IsSliceOf.new ..) pl pu q3
 show wpAny (model X.prog X.w) X.A (subscriptTail e (.Slice lo hi none p2) v (.ref s3.heap.objs.size)) (EP X pins σ Q) X.xe { s3 with heap := s3.heap.push { cls := .type "slice", data := .fields #[vl, vu, .none] } }
 exact tail_any (ops := [.ref s3.heap.objs.size, v]) ht hT hg (by with_unfolding_all rfl)
def cutV (xs : List V) (lo hi : Option Int) : List V := (xs.drop (HT.sIx xs.length 0 lo)).take (HT.sIx xs.length xs.length hi - HT.sIx xs.length 0 lo)
theorem cutV_length (xs : List V) (lo hi : Option Int) : (cutV xs lo hi).length <= xs.length := by
 unfold cutV
 rw [List.length_take, List.length_drop]
 omega
end
end L2
namespace L2
open PySem PySem.Spec PyProof.Rows
def ixN (n : Nat) (i : Int) : Option Nat := if 0 <= i then (if i < n then some i.toNat else none) else if -(n : Int) <= i then some (i + n).toNat else none
def atI {α : Type} (xs : List α) (i : Int) : Option α := (ixN xs.length i).bind fun j => xs[j]?
theorem ixN_seq {n : Nat} {i : Int} {j : Nat} (h : ixN n i = some j) : seqIndex? i n = some j /\ j < n /\ -(n : Int) <= i /\ i < n := by
 unfold ixN at h
 by_cases h0 : 0 <= i
 ·rw [if_pos h0] at h
  by_cases h1 : i < n
  ·rw [if_pos h1] at h
   have e : i.toNat = j := Option.some.inj h
   exact ⟨by rw [seqIndex_of h0 h1, e], by omega, by omega, h1⟩
  ·rw [if_neg h1] at h; cases h
 ·rw [if_neg h0] at h
  by_cases h1 : -(n : Int) <= i
  ·rw [if_pos h1] at h
   have e : (i + n).toNat = j := Option.some.inj h
   exact ⟨by rw [seqIndex_neg (by omega) h1, e], by omega, h1, by omega⟩
  ·rw [if_neg h1] at h; cases h
theorem atI_get {α : Type} {xs : List α} {i : Int} {v : α} (h : atI xs i = some v) : ∃ j, seqIndex? i xs.length = some j /\ xs[j]? = some v /\ j < xs.length /\ -(xs.length : Int) <= i /\ i < xs.length := by
 unfold atI at h
 cases e : ixN xs.length i with
 | none => rw [e] at h; cases h
 | some j =>
  rw [e] at h
  obtain ⟨h1, h2, h3, h4⟩ := ixN_seq e
  exact ⟨j, h1, h, h2, h3, h4⟩
theorem atI_nat {α : Type} {xs : List α} {j : Nat} {v : α} (h : xs[j]? = some v) : atI xs (j : Int) = some v := by
 have hj : j < xs.length := (List.getElem?_eq_some_iff.mp h).1
 have e : ixN xs.length (j : Int) = some j := by
  unfold ixN
  rw [if_pos (by omega), if_pos (by omega)]; simp
 unfold atI; rw [e]; exact h
def PlainIx (b : Expr) : Prop := ∀ o i, subscripted b false o i = operate [o, i] (getItem o i)
def IxR (X : Cx) (r : R2) : Prop :=
 ∀ (value slice : Expr) (pins : List (Addr × Obj)) (s : Shared) (σ : St) (H : Hp) (x y : V) (v u : Value) (Q : VK), Inv X pins σ H s -> RelV x v -> RelV y u -> r x y H Q ->
  subscripted slice false v u = operate [v, u] (getItem v u) -> wpAny (model X.prog X.w) X.A (subscriptTail value slice v u) (EP X pins σ Q) X.xe s
def MtR (X : Cx) (id : String) (r : V -> List V -> Hp -> VK -> Prop) : Prop :=
 ∀ (pins : List (Addr × Obj)) (s : Shared) (σ : St) (H : Hp) (x : V) (xs : List V) (v : Value) (us : List Value) (Q : VK), Inv X pins σ H s -> RelV x v -> Vals xs us -> r x xs H Q ->
  wpAny (model X.prog X.w) X.A (call (.builtin id) (v :: us)) (EP X pins σ Q) X.xe s
section
variable {X : Cx} {a b : Expr} {ta tb : TE} {pos : Pos}
theorem pe_ix {r : R2} (hr : IxR X r) (ha : PE X a ta) (hb : PE X b tb) (hs : PlainIx b) : PE X (.Subscript a b pos) (tOp r ta tb) := by
 intro pins s σ H Q I h
 exact Subscript_ (binT ha hb I h fun v u s2 x y H2 I2 rx ry q => hr a b pins s2 σ H2 x y v u Q I2 rx ry q (hs _ _))
def rIxL (K : PySem.W.Frag) : R2 := fun x y H Q => ∃ p xs i v, x = .ref p /\ y = .int i /\ SqL K H p xs /\ atI xs i = some v /\ Q v H
def rIxT (K : PySem.W.Frag) : R2 := fun x y H Q => ∃ p xs i v, x = .ref p /\ y = .int i /\ SqT K H p xs /\ atI xs i = some v /\ Q v H
theorem ix_list : IxR X (rIxL X.K) := by
 intro value slice pins s σ H x y v u Q I rx ry h hs
 obtain ⟨p, xs, i, z, rfl, rfl, hq, he, q⟩ := h
 cases rx
 obtain ⟨t, rfl⟩ := ry
 obtain ⟨its, r, pl, hz⟩ := I.list hq
 obtain ⟨j, h1, h2, h3, h4, h5⟩ := atI_get he
 obtain ⟨w, ew, rw'⟩ := r.get h2
 have hl := r.length
 have hn := line63
 have fin : EP X pins σ Q w s := ⟨z, H, I, rw', q⟩
 by_cases h0 : 0 <= i
 ·have hj : i.toNat = j := by
   rw [seqIndex_of h0 h5] at h1
   exact Option.some.inj h1
  exact item_listR pl.isList h0 (by omega) (by rw [hj]; simpa using ew) fin hs
 ·have hj : (i + (its.toArray.size : Int)).toNat = j := by
   rw [seqIndex_neg (by omega) h4] at h1
   rw [List.size_toArray, <- hl]
   exact Option.some.inj h1
  exact subscriptTail_builtinR (x := w) pl.isList.typeIs slot_list_getitem.lookup
   (wpAny_getItem_list_neg (Q := fun r s' => r = w /\ EP X pins σ Q r s') pl.isList (by omega) (by rw [List.size_toArray] <;> omega) (by omega) (by rw [hj]; simpa using ew) ⟨rfl, fin⟩) hs
theorem ix_tup : IxR X (rIxT X.K) := by
 intro value slice pins s σ H x y v u Q I rx ry h hs
 obtain ⟨p, xs, i, z, rfl, rfl, hq, he, q⟩ := h
 cases rx
 obtain ⟨t, rfl⟩ := ry
 obtain ⟨its, r, pl, hz⟩ := I.tuple hq
 obtain ⟨j, h1, h2, h3, h4, h5⟩ := atI_get he
 obtain ⟨w, ew, rw'⟩ := r.get h2
 have hl := r.length
 have hn := line63
 have fin : EP X pins σ Q w s := ⟨z, H, I, rw', q⟩
 exact subscriptTail_builtinR (x := w) pl.typeIs slot_tuple_getitem.lookup
  (getItem_tuple (j := j) (Q := fun r s' => r = w /\ EP X pins σ Q r s') pl (by omega) (by omega) (by rw [List.size_toArray, <- hl]; exact h1) (by simpa using ew) ⟨rfl, fin⟩) hs
theorem slice_bounds (lo hi : Option Int) (n : Nat) : (sliceBounds lo hi none n).1 = ((HT.sIx n 0 lo : Nat) : Int) /\ (sliceBounds lo hi none n).2.1 = ((HT.sIx n n hi : Nat) : Int) /\ (sliceBounds lo hi none n).2.2 = 1 := by
 refine ⟨?_, ?_, rfl⟩
 ·cases lo with
  | none => simp [sliceBounds, HT.sIx]
  | some i =>
   simp only [sliceBounds, HT.sIx, Option.getD_none, show (1 : Int) > 0 by decide, if_true]
   by_cases h : i < 0
   ·simp only [h, if_true] <;> omega
   ·simp only [h, if_false] <;> omega
 ·cases hi with
  | none => simp [sliceBounds, HT.sIx]
  | some i =>
   simp only [sliceBounds, HT.sIx, Option.getD_none, show (1 : Int) > 0 by decide, if_true]
   by_cases h : i < 0
   ·simp only [h, if_true] <;> omega
   ·simp only [h, if_false] <;> omega
theorem slicePick_cut (its : List Value) (lo hi : Option Int) : slicePick its.toArray lo hi none = ((its.drop (HT.sIx its.length 0 lo)).take (HT.sIx its.length its.length hi - HT.sIx its.length 0 lo)).toArray := by
 obtain ⟨h1, h2, h3⟩ := slice_bounds lo hi its.toArray.size
 unfold slicePick
 rw [h1, h2, h3]
 simp only [sliceRange_one, pick_run, List.size_toArray] <;> rfl
def rSlL (K : PySem.W.Frag) : V -> Option Int -> Option Int -> Hp -> VK -> Prop := fun x lo hi H Q => ∃ a xs, x = .ref a /\ SqL K H a xs /\ ∀ p, H p = none -> Q (.ref p) (upd H p (.lst (cutV xs lo hi)))
theorem sl_list : SlR X (rSlL X.K) := by
 intro pins s σ H x v vl vu lo hi sl Q I rx hs pl pu h
 obtain ⟨a, xs, rfl, hx, q⟩ := h
 cases rx
 obtain ⟨its, r, ht, hz⟩ := I.list hx
 have hlen := r.length
 refine ⟨"list", _, slot_list_getitem.lookup, ht.isList.typeIs, ?_⟩
 refine wpAny_getItem_list_slice ht.isList hs pl pu .none (by simp) ?_ (by rw [List.size_toArray] <;> omega)
 rw [slicePick_cut, <- hlen]
 refine ⟨.ref s.heap.objs.size, _, I.laid (t' := s.toks) (o := .lst (cutV xs lo hi)) (fun b ob q => Heap.get?_push_of_some _ q) (Nat.le_refl _) ?_, rfl, q _ (I.hok.fresh (Nat.le_refl _))⟩
 exact ⟨Nat.le_trans (cutV_length xs lo hi) hz, _, 0, (r.drop (HT.sIx xs.length 0 lo)).take (HT.sIx xs.length xs.length hi - HT.sIx xs.length 0 lo), Heap.get?_push_size _ rfl⟩
def flatV : V -> Bool
 | .non => true
 | .bl _ => true
 | .int _ => true
 | .str _ => true
 | _ => false
def eqV : V -> V -> Bool
 | .non, .non => true
 | .bl a, .bl b => a == b
 | .bl a, .int b => (if a then 1 else 0) == b
 | .int a, .bl b => a == (if b then 1 else 0)
 | .int a, .int b => a == b
 | .str a, .str b => a == b
 | _, _ => false
theorem eqAt_V {A : Around} {s : Shared} {y x : V} {u v : Value} (ry : RelV y u) (rx : RelV x v) (fy : flatV y = true) (fx : flatV x = true) : SeqAt.EqAt A s u v (eqV y x) := by
 cases y with
 | non =>
  cases ry
  cases x with
  | non => cases rx; exact SeqAt.EqAt.same _
  | bl b => cases rx; exact SeqAt.EqAt.none_bool b
  | int b => obtain ⟨t, rfl⟩ := rx; exact SeqAt.EqAt.none_int b t
  | str b => obtain ⟨t, rfl⟩ := rx; exact SeqAt.EqAt.none_str b t
  | _ => exact absurd (show false = true from fx) Bool.false_ne_true
 | bl a =>
  cases ry
  cases x with
  | non => cases rx; exact SeqAt.EqAt.bool_none a
  | bl b => cases rx; exact SeqAt.EqAt.bool_bool a b
  | int b => obtain ⟨t, rfl⟩ := rx; exact SeqAt.EqAt.bool_int a b t
  | str b => obtain ⟨t, rfl⟩ := rx; exact SeqAt.EqAt.bool_str a b t
  | _ => exact absurd (show false = true from fx) Bool.false_ne_true
 | int a =>
  obtain ⟨t', rfl⟩ := ry
  cases x with
  | non => cases rx; exact SeqAt.EqAt.int_none a t'
  | bl b => cases rx; exact SeqAt.EqAt.int_bool a t' b
  | int b => obtain ⟨t, rfl⟩ := rx; exact SeqAt.EqAt.int_int a t' b t
  | str b => obtain ⟨t, rfl⟩ := rx; exact SeqAt.EqAt.int_str a t' b t
  | _ => exact absurd (show false = true from fx) Bool.false_ne_true
 | str a =>
  obtain ⟨t', rfl⟩ := ry
  cases x with
  | non => cases rx; exact SeqAt.EqAt.str_none a t'
  | bl b => cases rx; exact SeqAt.EqAt.str_bool a t' b
  | int b => obtain ⟨t, rfl⟩ := rx; exact SeqAt.EqAt.str_int a t' b t
  | str b => obtain ⟨t, rfl⟩ := rx; exact SeqAt.EqAt.str_str a t' b t
  | _ => exact absurd (show false = true from fx) Bool.false_ne_true
 | _ => exact absurd (show false = true from fy) Bool.false_ne_true
def eqU (x : V) (u : Value) : Bool := match u with
 | .none => eqV .non x
 | .bool b => eqV (.bl b) x
 | .int i _ => eqV (.int i) x
 | .str z _ => eqV (.str z) x
 | _ => false
theorem eqU_of {x y : V} {u : Value} (r : RelV y u) (f : flatV y = true) : eqU x u = eqV y x := by
 cases y with
 | non => cases r; rfl
 | bl b => cases r; rfl
 | int i => obtain ⟨t, rfl⟩ := r; rfl
 | str z => obtain ⟨t, rfl⟩ := r; rfl
 | _ => exact absurd (show false = true from f) Bool.false_ne_true
theorem any_eqU {x : V} : ∀ {xs : List V} {us : List Value}, Vals xs us -> xs.all flatV = true -> us.any (eqU x) = xs.any fun y => eqV y x
 | _, _, .nil, _ => rfl
 | y :: xs, u :: us, .cons r t, f => by
  rw [List.all_cons, Bool.and_eq_true] at f
  rw [List.any_cons, List.any_cons, eqU_of r f.1, any_eqU t f.2]
theorem mem_eqAt {A : Around} {s : Shared} {x : V} {v : Value} (rx : RelV x v) (fx : flatV x = true) : ∀ {xs : List V} {us : List Value}, Vals xs us -> xs.all flatV = true -> ∀ u ∈ us, SeqAt.EqAt A s u v (eqU x u)
 | _, _, .nil, _ => fun u hu => by cases hu
 | y :: xs, u :: us, .cons r t, f => fun u' hu => by
  rw [List.all_cons, Bool.and_eq_true] at f
  rcases List.mem_cons.mp hu with rfl | hu
  ·rw [eqU_of r f.1]; exact eqAt_V r rx f.1 fx
  ·exact mem_eqAt rx fx t f.2 u' hu
def inV (x : V) (xs : List V) : Bool := xs.any fun y => eqV y x
def rIn (K : PySem.W.Frag) (neg : Bool) : R2 := fun x y H Q => ∃ p xs, y = .ref p /\ (SqL K H p xs \/ SqT K H p xs) /\ flatV x = true /\ xs.all flatV = true /\ Q (.bl (if neg then !inV x xs else inV x xs)) H
theorem op_in_seq : OpR X (compareOp .In) (rIn X.K false) := by
 intro pins s σ H x y v u Q I rx ry h
 obtain ⟨p, xs, rfl, hq, fx, fs, q⟩ := h
 cases ry
 rcases hq with hq | hq
 ·obtain ⟨its, r, pl, hz⟩ := I.list hq
  refine SeqAt.in_listAt (eqU x) pl.isList (fun w hw => mem_eqAt rx fx r fs w (by simpa using hw)) ⟨.bl _, H, I, rfl, ?_⟩
  rw [show its.toArray.any (eqU x) = its.any (eqU x) by simp, any_eqU r fs]
  exact q
 ·obtain ⟨its, r, pl, hz⟩ := I.tuple hq
  refine SeqAt.in_tupleAt (eqU x) pl (fun w hw => mem_eqAt rx fx r fs w (by simpa using hw)) ⟨.bl _, H, I, rfl, ?_⟩
  rw [show its.toArray.any (eqU x) = its.any (eqU x) by simp, any_eqU r fs]
  exact q
theorem op_notIn_seq : OpR X (compareOp .NotIn) (rIn X.K true) := by
 intro pins s σ H x y v u Q I rx ry h
 obtain ⟨p, xs, rfl, hq, fx, fs, q⟩ := h
 cases ry
 rcases hq with hq | hq
 ·obtain ⟨its, r, pl, hz⟩ := I.list hq
  refine SeqAt.notIn_listAt (eqU x) pl.isList (fun w hw => mem_eqAt rx fx r fs w (by simpa using hw)) ⟨.bl _, H, I, rfl, ?_⟩
  rw [show its.toArray.any (eqU x) = its.any (eqU x) by simp, any_eqU r fs]
  exact q
 ·obtain ⟨its, r, pl, hz⟩ := I.tuple hq
  refine SeqAt.notIn_tupleAt (eqU x) pl (fun w hw => mem_eqAt rx fx r fs w (by simpa using hw)) ⟨.bl _, H, I, rfl, ?_⟩
  rw [show its.toArray.any (eqU x) = its.any (eqU x) by simp, any_eqU r fs]
  exact q
theorem call_len_seq : CallR X (.builtin "len") (fun xs H Q => ∃ p ys, xs = [.ref p] /\ (SqL X.K H p ys \/ SqT X.K H p ys) /\ Q (.int ys.length) H) := by
 intro pins s σ H xs us Q I r h
 obtain ⟨p, ys, rfl, hq, q⟩ := h
 obtain ⟨u, rfl, rx⟩ := vals1 r
 cases rx
 have hn := line63
 rcases hq with hq | hq
 ·obtain ⟨its, r', pl, hz⟩ := I.list hq
  have hlen := r'.length
  exact Calls.call_len_list pl.isList (by simp only [List.size_toArray] <;> omega) ⟨.int ys.length, H, I.tok _, ⟨s.toks + 1, by rw [List.size_toArray, hlen]⟩, q⟩
 ·obtain ⟨its, r', pl, hz⟩ := I.tuple hq
  have hlen := r'.length
  exact len_tuple pl (by simp only [List.size_toArray] <;> omega) ⟨.int ys.length, H, I.tok _, ⟨s.toks + 1, by rw [List.size_toArray, hlen]⟩, q⟩
theorem call_list_of : CallR X (.type "list") (fun xs H Q => ∃ p ys, xs = [.ref p] /\ (SqL X.K H p ys \/ SqT X.K H p ys) /\ ∀ l, H l = none -> Q (.ref l) (upd H l (.lst ys))) := by
 intro pins s σ H xs us Q I r h
 obtain ⟨p, ys, rfl, hq, q⟩ := h
 obtain ⟨u, rfl, rx⟩ := vals1 r
 cases rx
 have fin : ∀ (its : List Value), Vals ys its -> ys.length <= sizeLine -> ∀ (h' : Heap) (c' : Nat), (∀ b o', s.heap.get? b = some o' -> h'.get? b = some o') ->
   h'.get? s.heap.objs.size = some { cls := .type "list", dict := none, data := .seq its.toArray c', slots := #[] } -> EP X pins σ Q (.ref s.heap.objs.size) { s with heap := h' } := fun its r' hz h' c' kp e =>
  ⟨.ref s.heap.objs.size, _, I.laid (t' := s.toks) kp (Nat.le_refl _) (show ObjOk X.prog X.w _ h' _ (.lst ys) from ⟨hz, its, c', r', e⟩), rfl, q _ (I.hok.fresh (Nat.le_refl _))⟩
 rcases hq with hq | hq
 ·obtain ⟨its, r', pl, hz⟩ := I.list hq
  have hlen := r'.length
  obtain ⟨o, ho, hc, n, hd⟩ := pl.isList
  exact call_list_seq p (.inl rfl) ho hc hd (fun h' c' kp e => fin its r' hz h' c' kp e) (by simp only [List.size_toArray] <;> omega)
 ·obtain ⟨its, r', pl, hz⟩ := I.tuple hq
  have hlen := r'.length
  obtain ⟨o, ho, hc, n, hd⟩ := pl
  exact call_list_seq p (.inr rfl) ho hc hd (fun h' c' kp e => fin its r' hz h' c' kp e) (by simp only [List.size_toArray] <;> omega)
def tyV (K : PySem.W.Frag) (T : String) (x : V) (H : Hp) : Prop := match x with
 | .str _ => T = "str"
 | .int _ => T = "int"
 | .ref p => (T = "list" /\ ∃ xs, SqL K H p xs) \/ (T = "tuple" /\ ∃ o, K.lookup p = some o /\ o.cls = .type "tuple" /\ o.dict = none) \/
   (T = "dict" /\ ((∃ kvs, H p = some (.dK kvs)) \/ ∃ kvs, H p = some (.dT kvs))) \/ (T = "set" /\ ∃ S n, H p = some (.set S n))
 | _ => False
theorem tyV_is {pins : List (Addr × Obj)} {σ : St} {H : Hp} {s : Shared} {T : String} {x : V} {v : Value} (I : Inv X pins σ H s) (r : RelV x v) (ty : tyV X.K T x H) :
  s.TypeIs v T /\ ∀ a, v = .ref a -> ∃ ob, s.heap.get? a = some ob /\ ob.dict = none := by
 cases x with
 | str z =>
  obtain ⟨t, rfl⟩ := r
  cases (show T = "str" from ty)
  exact ⟨typeIs_str s z t, fun _ e => nomatch e⟩
 | int i =>
  obtain ⟨t, rfl⟩ := r
  cases (show T = "int" from ty)
  exact ⟨typeIs_int s i t, fun _ e => nomatch e⟩
 | ref p =>
  cases r
  rcases ty with ⟨rfl, xs, hq⟩ | ⟨rfl, o, hk, hc, hd⟩ | ⟨rfl, hk⟩ | ⟨rfl, S, n, hk⟩
  ·obtain ⟨its, _, pl, _⟩ := I.list hq
   refine ⟨pl.isList.typeIs, fun a e => ?_⟩
   cases e
   obtain ⟨o, n, e, c, hd, _⟩ := pl
   exact ⟨o, e, hd⟩
  ·refine ⟨⟨o, I.kIn p o hk, hc⟩, fun a e => ?_⟩
   cases e
   exact ⟨o, I.kIn _ o hk, hd⟩
  ·have z : ∃ o, s.heap.get? p = some o /\ o.ExactDict := by
    rcases hk with ⟨kvs, hk⟩ | ⟨kvs, hk⟩
    ·obtain ⟨_, _, _, _, o, _, _, e, ex, _⟩ := I.hok p _ hk
     exact ⟨o, e, ex⟩
    ·obtain ⟨_, _, _, _, o, _, _, e, ex, _⟩ := I.hok p _ hk
     exact ⟨o, e, ex⟩
   obtain ⟨o, e, ex⟩ := z
   refine ⟨⟨o, e, ex.1⟩, fun a e2 => ?_⟩
   cases e2
   exact ⟨o, e, ex.2.1⟩
  ·obtain ⟨o, _, _, _, e, ex, _⟩ := I.hok p _ hk
   refine ⟨⟨o, e, ex.1⟩, fun a e2 => ?_⟩
   cases e2
   exact ⟨o, e, ex.2.1⟩
 | _ => exact False.elim ty
def tBM (K : PySem.W.Frag) (T : String) (r : V -> List V -> Hp -> VK -> Prop) (to : TE) (t : TA) : TE := fun σ H Q => to σ H fun x H1 => tyV K T x H1 /\ t σ H1 fun xs H2 => r x xs H2 Q
variable {o e : Expr} {es : List Expr} {to : TE} {t : TA} {name : Str} {apos cpos : Pos} {T id : String} {r : V -> List V -> Hp -> VK -> Prop}
theorem pe_bm (pa : PlainAttrs T) (slot : Slot T name id) (hty : typeOf (.builtin id) = pure (.type "method_descriptor")) (hm : MtR X id r) (ho : PE X o to) (ha : PA X (e :: es) t)
  (hbase : attributeBase o name X.env (eval o X.env) = eval o X.env := by rfl)
  (hfew : ((backTo cpos (starEach (e :: es) X.env)).all (fun x => !x.1) && (backToKw cpos (keywordEach [] X.env)).all (fun x => x.1.isSome)
   && decide ((e :: es).length + ([] : List Keyword).length + (if ([] : List Keyword).isEmpty then 0 else 1) < 30)) = true := by rfl)
  (hline : (apos.endLine == cpos.line) = true := by rfl) (hs : starEach (e :: es) X.env = (false, eval e X.env) :: starEach es X.env := by rfl) (hplain : (backTo cpos (starEach es X.env)).any (·.1) = false := by rfl) :
  PE X (.Call (.Attribute o name apos) (e :: es) [] cpos) (tBM X.K T r to t) := by
 intro pins s σ H Q I h
 refine wpAny_Call_method_late hbase hfew hline rfl (thn (ho pins s σ H _ I h) fun v s1 ⟨x, H1, I1, r1, ty, q1⟩ => ?_)
 obtain ⟨h1, h2⟩ := tyV_is I1 r1 ty
 refine ⟨T, id, pa, slot, hty, h1, h2, ?_⟩
 have hA := ha cpos pins s1 σ H1 _ I1 q1
 rw [hs] at hA ⊢
 refine Calls.callWith_builtin (by show (false || (backTo cpos (starEach es X.env)).any (·.1)) = false; rw [hplain] <;> rfl) (Calls.evalArgs_plain ?_)
 exact thn hA fun us s2 ⟨vs, H2, I2, r2, q2⟩ => hm pins s2 σ H2 x vs v us Q I2 r1 r2 q2
end
end L2
namespace L2
open PySem PySem.Spec PyProof.Rows
def MtM (X : Cx) (id : String) (r : V -> List V -> Hp -> VK -> Prop) : Prop :=
 ∀ (pins : List (Addr × Obj)) (s : Shared) (σ : St) (H : Hp) (x : V) (xs : List V) (v : Value) (us : List Value) (Q : VK), Inv X pins σ H s -> RelV x v -> Vals xs us -> r x xs H Q ->
  wpAny (model X.prog X.w) X.A (call (.builtin id) (v :: us)) (EP X pins σ Q) X.xe s
theorem Vals.one : ∀ {x : V} {us : List Value}, Vals [x] us -> ∃ u, us = [u] /\ RelV x u
 | _, _, .cons r .nil => ⟨_, rfl, r⟩
theorem Vals.eraseIdx : ∀ {xs : List V} {us : List Value} (i : Nat), Vals xs us -> Vals (xs.eraseIdx i) (us.eraseIdx i)
 | _, _, _, .nil => .nil
 | _, _, 0, .cons _ t => t
 | _, _, i + 1, .cons r t => .cons r (Vals.eraseIdx i t)
theorem len_erase {α : Type} : ∀ (l : List α) (i : Nat), (l.eraseIdx i).length <= l.length
 | [], _ => Nat.le_refl _
 | _ :: _, 0 => Nat.le_succ _
 | _ :: r, i + 1 => Nat.succ_le_succ (len_erase r i)
section
variable {X : Cx} {pins : List (Addr × Obj)} {σ : St} {H : Hp} {s : Shared} {l b : Addr} {xs ys zs : List V}
theorem Inv.lset {its its' : List Value} {n : Nat} {f : Array Value -> Array Value} {t' : Nat} (I : Inv X pins σ H s) (hH : H l = some (.lst xs))
  (e : s.heap.get? l = some { cls := .type "list", data := .seq its.toArray n }) (hf : f its.toArray = its'.toArray) (hv : Vals ys its') (hz : ys.length <= sizeLine) :
  Inv X pins σ (upd H l (.lst ys)) { s with heap := s.heap.update l (Obj.mapSeq f), toks := t' } := by
 have q := PySem.IsL.update e f
 rw [hf] at q
 refine I.write (x := l) (e := l) (by rw [hH]; exact trivial) (.inl rfl) (fun b' u hb hu => (Heap.get?_update_other s.heap (Obj.mapSeq f) (Ne.symm hb)).trans hu) ⟨_, q⟩ ?_
 exact ⟨hz, its', _, hv, q⟩
theorem Inv.lnew {its : List Value} {t' : Nat} (I : Inv X pins σ H s) (hv : Vals ys its) (hz : ys.length <= sizeLine) :
  Inv X pins σ (upd H s.heap.objs.size (.lst ys)) { s with heap := s.heap.push { cls := .type "list", data := .seq its.toArray }, toks := t' } :=
 I.laid (fun _ _ q => Heap.get?_push_of_some _ q) (Nat.le_refl _) ⟨hz, its, 0, hv, Heap.get?_push_size _ rfl⟩
theorem Inv.fresh (I : Inv X pins σ H s) : H s.heap.objs.size = none := I.hok.fresh (Nat.le_refl _)
theorem Inv.lstM (I : Inv X pins σ H s) (hH : H l = some (.lst xs)) : xs.length <= sizeLine /\ ∃ (its : List Value) (n : Nat), Vals xs its /\ xs.length = its.length /\ s.heap.get? l = some { cls := .type "list", data := .seq its.toArray n } := by
 obtain ⟨z, its, n, r, e⟩ := I.hok l _ hH
 exact ⟨z, its, n, r, r.length, e⟩
theorem notLongL {n : Nat} (h : n <= sizeLine) : Builtin.List.listTooLong n = false := by
 unfold Builtin.List.listTooLong
 exact decide_eq_false (by omega)
end
section
variable {X : Cx}
def rAppend : V -> List V -> Hp -> VK -> Prop := fun x vs H Q => ∃ l xs y, x = .ref l /\ vs = [y] /\ H l = some (.lst xs) /\ xs.length < sizeLine /\ Q .non (upd H l (.lst (xs ++ [y])))
theorem mt_append : MtM X "list.append" rAppend := by
 intro pins s σ H x vs v us Q I rx rv h
 obtain ⟨l, xs, y, rfl, rfl, hH, hz, q⟩ := h
 cases rx
 obtain ⟨u, rfl, ru⟩ := rv.one
 obtain ⟨z, its, n, r, hl, e⟩ := I.lstM hH
 refine call_meets F.slot_list_append ⟨_, e, rfl⟩ F.entry_list_append (F.args_list_append_2 _ _) (PySem.list_append l its.toArray n u (by rw [List.size_toArray]; omega)) ⟨e, ?_⟩
 refine ⟨.non, _, I.lset (its' := its ++ [u]) hH e (by simp) (r.append (.cons ru .nil)) ?_, rfl, q⟩
 rw [List.length_append, List.length_singleton]
 omega
def rExtend : V -> List V -> Hp -> VK -> Prop := fun x vs H Q => ∃ l b xs zs, x = .ref l /\ vs = [.ref b] /\ H l = some (.lst xs) /\ H b = some (.lst zs) /\ xs.length + zs.length <= sizeLine /\ Q .non (upd H l (.lst (xs ++ zs)))
theorem mt_extend : MtM X "list.extend" rExtend := by
 intro pins s σ H x vs v us Q I rx rv h
 obtain ⟨l, b, xs, zs, rfl, rfl, hH, hB, hz, q⟩ := h
 cases rx
 obtain ⟨u, rfl, ru⟩ := rv.one
 cases ru
 obtain ⟨z, its, n, r, hl, e⟩ := I.lstM hH
 obtain ⟨z2, its2, n2, r2, hl2, e2⟩ := I.lstM hB
 have hsz : its.toArray.size + its2.toArray.size <= sizeLine := by rw [List.size_toArray, List.size_toArray]; omega
 have hlong : ¬ (!its.toArray.isEmpty && Builtin.List.listTooLong (its.toArray.size + its2.toArray.size)) = true := by
  rw [notLongL hsz, Bool.and_false]
  exact Bool.false_ne_true
 refine call_meets F.slot_list_extend ⟨_, e, rfl⟩ F.entry_list_extend (F.args_list_extend_2 _ _)
  (AutoSeq1.list_extend_list_list_0 l its.toArray n b its2.toArray n2 hlong (by rw [List.size_toArray]; omega) (by omega)) ⟨e, e2, ?_⟩
 refine ⟨.non, _, I.lset (its' := its ++ its2) hH e (by simp) (r.append r2) ?_, rfl, q⟩
 rw [List.length_append]
 omega
def rCat : R2 := fun x y H Q => ∃ l b xs zs, x = .ref l /\ y = .ref b /\ H l = some (.lst xs) /\ H b = some (.lst zs) /\ xs.length + zs.length <= sizeLine /\ ∀ p, H p = none -> Q (.ref p) (upd H p (.lst (xs ++ zs)))
theorem op_cat : OpR X (binaryOp .Add) rCat := by
 intro pins s σ H x y v u Q I rx ry h
 obtain ⟨l, b, xs, zs, rfl, rfl, hH, hB, hz, q⟩ := h
 cases rx
 cases ry
 obtain ⟨z, its, n, r, hl, e⟩ := I.lstM hH
 obtain ⟨z2, its2, n2, r2, hl2, e2⟩ := I.lstM hB
 refine PySem.P.add_list e e2 ?_ (by rw [List.size_toArray, List.size_toArray]; omega)
 have ea : its.toArray ++ its2.toArray = (its ++ its2).toArray := by simp
 rw [ea]
 exact ⟨.ref _, _, I.lnew (t' := s.toks) (r.append r2) (by rw [List.length_append]; omega), rfl, q _ I.fresh⟩
end
end L2
namespace L2
open PySem PySem.Spec PyProof.Rows
theorem Vals.ints : ∀ {ns : List Int} {us : List Value}, Vals (ns.map V.int) us -> IntsAre us ns
 | [], us, h => by
  rw [List.map_nil] at h
  cases h
  exact IntsAre.nil
 | n :: ns, us, h => by
  rw [List.map_cons] at h
  cases h with
  | cons r t =>
   obtain ⟨k, rfl⟩ := r
   exact IntsAre.cons n k (Vals.ints t)
theorem vals_of_ints : ∀ {us : List Value} {ns : List Int}, IntsAre us ns -> Vals (ns.map V.int) us
 | _, _, .nil => by rw [List.map_nil]; exact Paired.nil
 | _, _, .cons n t h => by rw [List.map_cons]; exact Paired.cons (show RelV (V.int n) (Value.int n t) from ⟨t, rfl⟩) (vals_of_ints h)
theorem Vals.bls : ∀ {bs : List Bool} {us : List Value}, Vals (bs.map V.bl) us -> us = bs.map Value.bool
 | [], us, h => by
  rw [List.map_nil] at h
  cases h
  rfl
 | b :: bs, us, h => by
  rw [List.map_cons] at h
  cases h with
  | cons r t =>
   cases r
   rw [Vals.bls t, List.map_cons]
theorem Vals.ref1 {a : Addr} {us : List Value} (r : Vals [V.ref a] us) : us = [Value.ref a] := by
 cases r with
 | cons r t =>
  cases t
  cases r
  rfl
section
variable {prog : Program} {w : World} {A : Around} {E : Value -> Shared -> Prop} {s : Shared} {l : Addr} {its : List Value} {ns : List Int} {Q : Value -> Shared -> Prop}
theorem sum_raw (hh : A.handled = none) (hl : s.heap.IsList l its.toArray) (hi : IntsAre its ns)
  (h : ∀ h' tk t', (∀ b o, s.heap.get? b = some o -> h'.get? b = some o) -> Q (.int ns.sum t') { s with heap := h', toks := tk }) : wpAny (model prog w) A (call (.builtin "sum") [.ref l]) Q E s := by
 obtain ⟨xs, e⟩ := hi.allInts.items
 have hn : numsOf (intItems xs).toList = ns := by rw [<- e]; exact hi.numsOf
 rw [nums_intItems] at hn
 rw [e] at hl
 refine PySem.sum_intListG hh hl fun h' tk t' hk => ?_
 have := h h' tk t' hk
 rw [preSum_eq, List.take_of_length_le (by simp), hn]; exact this
end
section
variable {X : Cx}
def rSum (K : PySem.W.Frag) : List V -> Hp -> VK -> Prop := fun vs H Q => ∃ (a : Addr) (ns : List Int), vs = [V.ref a] /\ SqL K H a (ns.map V.int) /\ Q (.int ns.sum) H
theorem cr_sum (hc : X.calm = true) : CallR X (.builtin "sum") (rSum X.K) := by
 intro pins s σ H vs us Q I r h
 obtain ⟨a, ns, rfl, hs, q⟩ := h
 obtain ⟨its, rv, hl, _⟩ := I.list hs
 rw [Vals.ref1 r]
 exact sum_raw (I.ok.hd hc) hl.isList rv.ints fun h' tk t' hk => ⟨.int _, H, I.kept hk, ⟨_, rfl⟩, q⟩
end
theorem iter_any {prog : Program} {w : World} {A : Around} {E : Value -> Shared -> Prop} {s : Shared} {l : Addr} {items : Array Value} {Q : Value -> Shared -> Prop} (hl : s.heap.IsList l items)
  (h : ∀ s₂ : Shared, s₂ = { s with heap := s.heap.push { cls := .type "list_iterator", data := .fields #[.ref l, .int 0 0] } } ->
   (s₂.heap.IsListIter s.heap.objs.size l 0 /\ s₂.heap.IsList l items) -> l ≠ s.heap.objs.size -> Q (.ref s.heap.objs.size) s₂) : wpAny (model prog w) A (pyIter (.ref l)) Q E s := by
 have hlt : l < s.heap.objs.size := by obtain ⟨_, e, _⟩ := hl; exact Heap.lt_size e
 exact wpAny_pyIter_list hl (h _ rfl ⟨⟨_, Heap.get?_push_size _ rfl, rfl, rfl⟩, hl.push _⟩ (Nat.ne_of_lt hlt))
theorem truth_bools {prog : Program} {w : World} {A : Around} {bs : List Bool} {its : List Value} (e : its = bs.map Value.bool) :
  TruthOf prog w A (fun i v => its.toArray[i]? = some v) (fun i => bs.getD i false) := fun i v s Q E hv hq => by
 have hv' : its[i]? = some v := by simpa using hv
 rw [e, List.getElem?_map] at hv'
 obtain ⟨b, hb, rfl⟩ := Option.map_eq_some_iff.mp hv'
 have hg : bs.getD i false = b := by rw [List.getD_eq_getElem?_getD, hb] <;> rfl
 have hq' : Q (bs.getD i false) s := hq
 rw [hg] at hq'
 exact wpAny_truthy_bool hq'
theorem any_range : ∀ bs : List Bool, (List.range bs.length).any (fun i => bs.getD i false) = bs.any id
 | [] => rfl
 | b :: bs => by
  rw [List.length_cons, List.range_succ_eq_map, List.any_cons, List.any_map, List.any_cons, <- any_range bs]
  all_goals rfl
section
variable {X : Cx}
def rAny (K : PySem.W.Frag) : List V -> Hp -> VK -> Prop := fun vs H Q => ∃ (a : Addr) (bs : List Bool), vs = [V.ref a] /\ SqL K H a (bs.map V.bl) /\ Q (.bl (bs.any id)) H
theorem cr_any (hc : X.calm = true) : CallR X (.builtin "any") (rAny X.K) := by
 intro pins s σ H vs us Q I r h
 obtain ⟨a, bs, rfl, hs, q⟩ := h
 obtain ⟨its, rv, hl, _⟩ := I.list hs
 rw [Vals.ref1 r]
 have hb := rv.bls
 refine call_any_walk (iter_any hl.isList fun s₂ e2 st hne => ?_)
 subst e2
 refine ⟨_, _, _, _, _, _, _, rfl, Walks.list (A := X.A.in1) (I.ok.hd hc) _ a hne its.toArray, st, truth_bools hb, fun h' tk hk => ?_⟩
 refine ⟨.bl _, H, I.kept fun b o eo => hk b o (fun hmem => ?_) (Heap.get?_push_of_some _ eo), ?_, q⟩
 ·rcases List.mem_cons.mp hmem with e1 | hmem
  ·exact absurd (e1 ▸ Heap.lt_size eo) (Nat.lt_irrefl _)
  ·cases hmem
 ·show Value.bool _ = Value.bool _
  rw [<- any_range, hb, List.size_toArray, List.length_map]
end
end L2
namespace L2
open PySem PySem.Spec PyProof.Rows
abbrev CellAt (h : Heap) (c : Addr) (v : Option Value) : Prop := h.IsCell c v
def relS (scope sc : Scope) : Scope :=
 {scope with names := scope.names.map fun (n, k) => if (k == .free && sc.kind == .function && sc.names.lookup n == some .cell) then (n, .cell) else (n, k) }
def cloFrom (cells : List (Str × Addr)) : List (Str × NameKind) -> List (Str × Addr) -> List (Str × Addr)
 | [], acc => acc
 | (n, k) :: r, acc => if k == .free then cloFrom cells r ((n, (cells.lookup n).getD 0) :: acc) else cloFrom cells r acc
theorem closure_loop (env : Env) (f : Str × NameKind -> List (Str × Addr) -> Sem (ForInStep (List (Str × Addr))))
  (hf : ∀ n k c, f (n, k) c = if k == .free then (do let a <- cellOf env n; pure (.yield ((n, a) :: c))) else pure (.yield c)) :
  ∀ (names : List (Str × NameKind)) (acc : List (Str × Addr)), (∀ y ∈ names, y.2 = .free -> ∃ c, env.cells.lookup y.1 = some c) -> forIn names acc f = pure (cloFrom env.cells names acc)
 | [], acc, _ => by rw [List.forIn_nil]; rfl
 | (n, k) :: r, acc, h => by
  rw [List.forIn_cons, hf]
  have ih := fun acc => closure_loop env f hf r acc fun y hy => h y (List.mem_cons_of_mem _ hy)
  unfold cloFrom
  by_cases hk : (k == NameKind.free) = true
  ·rw [if_pos hk, if_pos hk]
   obtain ⟨c, hc⟩ := h (n, k) List.mem_cons_self (by simpa using hk)
   have e : cellOf env n = pure c := by unfold cellOf; rw [hc]
   rw [e]
   have e2 : (env.cells.lookup n).getD 0 = c := by rw [hc]; rfl
   rw [e2]
   exact ih _
  ·rw [if_neg hk, if_neg hk]
   exact ih _
theorem closure_ok {scope : Scope} {env : Env} (h : ∀ y ∈ scope.names, y.2 = .free -> ∃ c, env.cells.lookup y.1 = some c) : closureFor scope env = pure (cloFrom env.cells scope.names []) := by
 simp only [closureFor]
 rw [closure_loop env _ (fun n k c => rfl) scope.names [] h]
 rfl
theorem mem_lookup {α : Type} : ∀ {l : List (Str × α)} {n : Str} {c : α}, (n, c) ∈ l -> ∃ c', l.lookup n = some c'
 | (k, v) :: r, n, c, h => by
  rw [List.lookup_cons]
  cases hb : n == k with
  | true => exact ⟨_, rfl⟩
  | false =>
   rcases List.mem_cons.mp h with e | h
   ·cases e; simp at hb
   ·exact mem_lookup h
theorem cloFrom_mem {cells : List (Str × Addr)} : ∀ {names : List (Str × NameKind)} {acc : List (Str × Addr)} {n : Str} {c : Addr}, (n, c) ∈ cloFrom cells names acc -> (n, c) ∈ acc \/ ((n, .free) ∈ names /\ c = (cells.lookup n).getD 0)
 | [], _, _, _, h => .inl h
 | (m, k) :: r, acc, n, c, h => by
  unfold cloFrom at h
  split at h
  ·rename_i hk
   have hk : k = .free := by simpa using hk
   rcases cloFrom_mem h with h | ⟨h1, h2⟩
   ·rcases List.mem_cons.mp h with e | h
    ·cases e; exact .inr ⟨hk ▸ List.mem_cons_self, rfl⟩
    ·exact .inl h
   ·exact .inr ⟨List.mem_cons_of_mem _ h1, h2⟩
  ·rcases cloFrom_mem h with h | ⟨h1, h2⟩
   ·exact .inl h
   ·exact .inr ⟨List.mem_cons_of_mem _ h1, h2⟩
theorem cloFrom_acc {cells : List (Str × Addr)} : ∀ {names : List (Str × NameKind)} {acc : List (Str × Addr)} {p : Str × Addr}, p ∈ acc -> p ∈ cloFrom cells names acc
 | [], _, _, h => h
 | (m, k) :: r, acc, p, h => by
  unfold cloFrom
  split
  ·exact cloFrom_acc (List.mem_cons_of_mem _ h)
  ·exact cloFrom_acc h
theorem cloFrom_has {cells : List (Str × Addr)} : ∀ {names : List (Str × NameKind)} {acc : List (Str × Addr)} {n : Str}, (n, .free) ∈ names -> (n, (cells.lookup n).getD 0) ∈ cloFrom cells names acc
 | (m, k) :: r, acc, n, h => by
  unfold cloFrom
  rcases List.mem_cons.mp h with e | h
  ·cases e
   exact cloFrom_acc List.mem_cons_self
  ·split
   ·exact cloFrom_has h
   ·exact cloFrom_has h
theorem cells_mem : ∀ {names : List (Str × NameKind)} {h : Heap} {acc : List (Str × Addr)} {x : Str} {c : Addr}, (x, c) ∈ cellsFrom h.objs.size names acc ->
  (x, c) ∈ acc \/ ((x, .cell) ∈ names /\ h.objs.size <= c /\ CellAt (pushCells h names) c none)
 | [], _, _, _, _, h => .inl h
 | (n, k) :: r, h, acc, x, c, hm => by
  unfold cellsFrom at hm
  unfold pushCells
  split at hm
  ·rename_i hk
   rw [if_pos hk]
   have hk : k = .cell := by simpa using hk
   rw [<- Heap.size_push h { cls := .type "cell", data := .cell none }] at hm
   rcases cells_mem hm with hm | ⟨h1, h2, h3⟩
   ·rcases List.mem_cons.mp hm with e | hm
    ·cases e
     exact .inr ⟨hk ▸ List.mem_cons_self, Nat.le_refl _, _, pushCells_keeps r _ _ _ (Heap.get?_push_size _ rfl), rfl⟩
    ·exact .inl hm
   ·rw [Heap.size_push] at h2
    exact .inr ⟨List.mem_cons_of_mem _ h1, Nat.le_of_succ_le h2, h3⟩
  ·rename_i hk
   rw [if_neg hk]
   rcases cells_mem hm with hm | ⟨h1, h2, h3⟩
   ·exact .inl hm
   ·exact .inr ⟨List.mem_cons_of_mem _ h1, h2, h3⟩
theorem cells_acc : ∀ {names : List (Str × NameKind)} {n : Nat} {acc : List (Str × Addr)} {p : Str × Addr}, p ∈ acc -> p ∈ cellsFrom n names acc
 | [], _, _, _, h => h
 | (m, k) :: r, n, acc, p, h => by
  unfold cellsFrom
  split
  ·exact cells_acc (List.mem_cons_of_mem _ h)
  ·exact cells_acc h
theorem cells_has : ∀ {names : List (Str × NameKind)} {n : Nat} {acc : List (Str × Addr)} {x : Str}, (x, .cell) ∈ names -> ∃ c, (x, c) ∈ cellsFrom n names acc
 | (m, k) :: r, n, acc, x, h => by
  unfold cellsFrom
  rcases List.mem_cons.mp h with e | h
  ·cases e
   exact ⟨n, cells_acc List.mem_cons_self⟩
  ·split
   ·exact cells_has h
   ·exact cells_has h
theorem cells_inj : ∀ {names : List (Str × NameKind)} {h : Heap} {acc : List (Str × Addr)} {x y : Str} {c : Addr}, (∀ p ∈ acc, p.2 < h.objs.size) -> (∀ x y c, (x, c) ∈ acc -> (y, c) ∈ acc -> x = y) ->
  (x, c) ∈ cellsFrom h.objs.size names acc -> (y, c) ∈ cellsFrom h.objs.size names acc -> x = y
 | [], _, _, _, _, _, _, hi, h1, h2 => hi _ _ _ h1 h2
 | (n, k) :: r, h, acc, x, y, c, hl, hi, h1, h2 => by
  unfold cellsFrom at h1 h2
  split at h1
  ·rename_i hk
   rw [if_pos hk] at h2
   rw [<- Heap.size_push h { cls := .type "cell", data := .cell none }] at h1 h2
   refine cells_inj (h := h.push _) (fun p hp => ?_) (fun x y c a b => ?_) h1 h2
   ·rw [Heap.size_push]
    rcases List.mem_cons.mp hp with rfl | hp
    ·exact Nat.lt_succ_self _
    ·exact Nat.lt_succ_of_lt (hl p hp)
   ·rcases List.mem_cons.mp a with e | a <;> rcases List.mem_cons.mp b with e' | b
    ·cases e; cases e'; rfl
    ·cases e; exact absurd (hl _ b) (Nat.lt_irrefl _)
    ·cases e'; exact absurd (hl _ a) (Nat.lt_irrefl _)
    ·exact hi _ _ _ a b
  ·rename_i hk
   rw [if_neg hk] at h2
   exact cells_inj hl hi h1 h2
theorem newEnv_comp {M : Model} {A : Around} {E : Value -> Shared -> Prop} {s : Shared} {scope : Scope} {globals : Addr} {closure : List (Str × Addr)} {qual : Str} {func : Option Addr} {code : Value} {around : Env} {builtins : Addr} {Q : Env -> Shared -> Prop}
  (h : Q (newEnv scope s.heap.objs.size globals (cellsFrom (s.heap.objs.size + 1) scope.names closure) qual func code (some around) builtins)
   {s with heap := pushCells (s.heap.push { cls := .type "dict", data := .dict #[] }) scope.names }) :
  wpAny M A (newFunctionEnv scope globals closure [] qual func code (some around) builtins) Q E s := by
 simp only [newFunctionEnv, Option.isSome_some, if_true]
 refine wpAny_bind (wpAny_alloc ?_)
 refine wpAny_bind (wpAny_layCells _ (fun n k c => rfl) scope.names closure _ _ ?_)
 rw [show ({ s with heap := s.heap.push { cls := .type "dict", data := .dict #[] } } : Shared).heap.objs.size = s.heap.objs.size + 1 from Heap.size_push ..]
 rw [List.forIn_nil]
 exact wpAny_bind (wpAny_pure (wpAny_pure h))
theorem lookup_relS {sc : Scope} : ∀ {names : List (Str × NameKind)} {x : Str} {k : NameKind},
  (names.map fun (n, k) => if (k == NameKind.free && sc.kind == .function && sc.names.lookup n == some .cell) then (n, NameKind.cell) else (n, k)).lookup x = some k ->
  ∃ k', names.lookup x = some k' /\ (k = k' \/ (k' = .free /\ k = .cell))
 | [], _, _, h => by simp at h
 | (n, k₀) :: r, x, k, h => by
  have ih := @lookup_relS sc r x k
  have h' : List.lookup x ((if (k₀ == NameKind.free && sc.kind == .function && sc.names.lookup n == some .cell) = true then (n, NameKind.cell) else (n, k₀)) :: (r.map _)) = some k := h
  cases hx : x == n with
  | true =>
   simp only [List.lookup_cons, hx]
   by_cases hc : (k₀ == NameKind.free && sc.kind == .function && sc.names.lookup n == some .cell) = true
   ·rw [if_pos hc] at h'
    simp only [List.lookup_cons, hx] at h'
    cases h'
    simp only [Bool.and_eq_true, beq_iff_eq] at hc
    exact ⟨k₀, rfl, .inr ⟨hc.1.1, rfl⟩⟩
   ·rw [if_neg hc] at h'
    simp only [List.lookup_cons, hx] at h'
    cases h'
    exact ⟨_, rfl, .inl rfl⟩
  | false =>
   simp only [List.lookup_cons, hx]
   by_cases hc : (k₀ == NameKind.free && sc.kind == .function && sc.names.lookup n == some .cell) = true
   ·rw [if_pos hc] at h'
    simp only [List.lookup_cons, hx] at h'
    exact ih h'
   ·rw [if_neg hc] at h'
    simp only [List.lookup_cons, hx] at h'
    exact ih h'
structure BlkOk (N : List Str) (sc scope : Scope) (own : List (Str × Nat)) : Prop where
 kind : scope.kind = .function
 uniq : ∀ y ∈ scope.names, scope.names.lookup y.1 = some y.2
 ix : ∀ p ∈ own, N[p.2]? = some p.1
 free : ∀ y ∈ scope.names, y.2 = .free -> sc.names.lookup y.1 = some .cell \/ sc.names.lookup y.1 = some .free
 own : ∀ y ∈ scope.names, y.2 = .local \/ y.2 = .cell -> y.1 ∈ own.map (·.1) \/ y.1 ∉ N
def wipe (σ : St) : List Nat -> St
 | [] => σ
 | v :: vs => (wipe σ vs).set v none
theorem wipe_length (σ : St) : ∀ vs : List Nat, (wipe σ vs).length = σ.length
 | [] => rfl
 | v :: vs => by unfold wipe; rw [List.length_set, wipe_length σ vs]
theorem wipe_some {σ : St} {i : Nat} {x : V} : ∀ {vs : List Nat}, (wipe σ vs)[i]? = some (some x) -> σ[i]? = some (some x) /\ i ∉ vs
 | [], h => ⟨h, by simp⟩
 | v :: vs, h => by
  unfold wipe at h
  by_cases hi : v = i
  ·subst hi
   by_cases hv : v < (wipe σ vs).length
   ·rw [List.getElem?_set_self hv] at h; cases h
   ·rw [List.getElem?_eq_none (by simpa using hv)] at h; cases h
  ·rw [List.getElem?_set_ne hi] at h
   obtain ⟨h1, h2⟩ := wipe_some h
   exact ⟨h1, by simp only [List.mem_cons, not_or]; exact ⟨fun e => hi e.symm, h2⟩⟩
abbrev Cx.blk (X : Cx) (s : Shared) (H : Hp) (scope : Scope) (cenv : Env) (fp : List Addr) : Cx := { X with s_0 := s, H_0 := H, env := cenv, outer := X.stack, ex := fp, fn := fun x => scope.names.lookup x == some .cell, pn := [], xe := fun _ _ => False }
section
variable {X : Cx} {pins : List (Addr × Obj)} {σ : St} {H : Hp} {s : Shared}
theorem block_start {scope : Scope} {own : List (Str × Nat)} {fp : List Addr} (I : Inv X pins σ H s) (ok : BlkOk X.N X.env.scope scope own) (hN : X.N.Nodup) (hfp : ∀ b ∈ fp, FpOk X pins H b /\ b < s.heap.objs.size) :
  Inv (X.blk s H scope (compEnvC scope (cellsFrom (s.heap.objs.size + 1) scope.names (cloFrom X.env.cells scope.names [])) s.heap.objs.size X.env) fp) [] (wipe σ (own.map (·.2))) H { s with heap := pushCells (s.heap.push { cls := .type "dict", data := .dict #[] }) scope.names } := by
 have hfree : ∀ y ∈ scope.names, y.2 = .free -> ∃ c, X.env.cells.lookup y.1 = some c := fun y hy e => by
  rcases ok.free y hy e with k | k
  ·exact I.ok.has _ (.inl k)
  ·exact I.ok.has _ (.inr k)
 generalize hcenv : compEnvC scope (cellsFrom (s.heap.objs.size + 1) scope.names (cloFrom X.env.cells scope.names [])) s.heap.objs.size X.env = cenv
 have kp : ∀ b o, s.heap.get? b = some o -> (pushCells (s.heap.push { cls := .type "dict", data := .dict #[] }) scope.names).get? b = some o := fun b o e => pushCells_keeps _ _ _ _ (Heap.get?_push_of_some _ e)
 have hL : cenv.locals = s.heap.objs.size := by rw [<- hcenv]; rfl
 have hcl : cenv.cells = cellsFrom (s.heap.objs.size + 1) scope.names (cloFrom X.env.cells scope.names []) := by rw [<- hcenv]; rfl
 have hsc : cenv.scope = relS scope X.env.scope := by rw [<- hcenv]; rfl
 rw [<- Heap.size_push s.heap { cls := .type "dict", data := .dict #[] }] at hcl
 have cm : ∀ {y c}, (y, c) ∈ cloFrom X.env.cells scope.names [] -> X.env.cells.lookup y = some c /\ c < s.heap.objs.size := fun {y c} hm => by
  rcases cloFrom_mem hm with hm | ⟨h1, rfl⟩
  ·cases hm
  ·obtain ⟨c, hc⟩ := hfree _ h1 rfl
   rw [hc]
   obtain ⟨w, z⟩ := I.cell _ _ hc
   exact ⟨rfl, z.lt⟩
 have mem : ∀ {y c}, cenv.cells.lookup y = some c -> (X.env.cells.lookup y = some c /\ c < s.heap.objs.size) \/ (s.heap.objs.size + 1 <= c /\ CellAt (pushCells (s.heap.push { cls := .type "dict", data := .dict #[] }) scope.names) c none) := fun {y c} e => by
  rw [hcl] at e
  rcases cells_mem (PySem.mem_of_lookup e) with hm | ⟨_, h2, h3⟩
  ·exact .inl (cm hm)
  ·rw [Heap.size_push] at h2; exact .inr ⟨h2, h3⟩
 have look : ∀ {y}, scope.names.lookup y = some .free -> ∃ c, cenv.cells.lookup y = some c /\ X.env.cells.lookup y = some c := fun {y} hl => by
  have hy : (y, NameKind.free) ∈ scope.names := PySem.mem_of_lookup hl
  obtain ⟨c', e'⟩ := mem_lookup (cells_acc (names := scope.names) (n := (s.heap.push { cls := .type "dict", data := .dict #[] }).objs.size) (cloFrom_has (cells := X.env.cells) (acc := []) hy))
  rw [<- hcl] at e'
  refine ⟨c', e', ?_⟩
  rw [hcl] at e'
  rcases cells_mem (PySem.mem_of_lookup e') with hm | ⟨h1, _, _⟩
  ·exact (cm hm).1
  ·have := ok.uniq _ h1
   rw [hl] at this; cases this
 have okB : (X.blk s H scope cenv fp).Ok := by
  refine ⟨I.ok.mod, by show cenv.scope.kind = _; rw [hsc]; exact ok.kind, by show cenv.globals = _; rw [<- hcenv]; exact I.ok.glob, by show cenv.builtins = _; rw [<- hcenv]; exact I.ok.blt, by show s.heap.objs.size <= cenv.locals; rw [hL]; exact Nat.le_refl _,
   fun y z c e1 e2 => ?_, fun y hy => ?_, fun y c z e => ?_, I.ok.hd, I.ok.frames, .inl rfl, fun b hb => ⟨?_, fun y c e z => ?_⟩, I.bs, Nat.le_trans I.ok.bsz I.sz, fun b o e hb => ?_, fun b hb z => ?_, I.stack, I.stkFree⟩
  ·have e1 : cenv.cells.lookup y = some c := e1
   have e2 : cenv.cells.lookup z = some c := e2
   rw [hcl] at e1 e2
   refine cells_inj (fun p hp => ?_) (fun y z c a b => I.ok.inj y z c (cm a).1 (cm b).1) (PySem.mem_of_lookup e1) (PySem.mem_of_lookup e2)
   rw [Heap.size_push]
   exact Nat.lt_succ_of_lt (cm (y := p.1) (c := p.2) hp).2
  ·show ∃ c, cenv.cells.lookup y = some c
   have key : ∀ k, cenv.kindOf y = some k -> (k = .cell \/ k = .free) -> ∃ c, cenv.cells.lookup y = some c := fun k hk hk' => by
    unfold Env.kindOf at hk
    rw [hsc] at hk
    obtain ⟨k', e, r⟩ := lookup_relS hk
    have : k' = .cell \/ k' = .free := by
     rcases r with rfl | ⟨rfl, _⟩
     ·exact hk'
     ·exact .inr rfl
    rcases this with rfl | rfl
    ·obtain ⟨c, hm⟩ := cells_has (n := (s.heap.push { cls := .type "dict", data := .dict #[] }).objs.size) (acc := cloFrom X.env.cells scope.names []) (PySem.mem_of_lookup e)
     obtain ⟨c', e'⟩ := mem_lookup hm
     exact ⟨c', by rw [hcl]; exact e'⟩
    ·obtain ⟨c, h1, _⟩ := look e
     exact ⟨c, h1⟩
   rcases hy with hy | hy
   ·exact key _ hy (.inl rfl)
   ·exact key _ hy (.inr rfl)
  ·have z : (scope.names.lookup y == some NameKind.cell) = true := z
   have z : scope.names.lookup y = some .cell := by simpa using z
   have e : cenv.cells.lookup y = some c := e
   rw [hcl] at e
   rcases cells_mem (PySem.mem_of_lookup e) with hm | ⟨_, h2, _⟩
   ·rcases cloFrom_mem hm with hm | ⟨h1, _⟩
    ·cases hm
    ·have q := ok.uniq _ h1
     rw [z] at q; cases q
   ·rw [Heap.size_push] at h2
    exact Nat.le_of_succ_le h2
  ·show b ≠ cenv.locals
   rw [hL]; exact Nat.ne_of_lt (hfp b hb).2
  ·have e : cenv.cells.lookup y = some c := e
   rcases mem e with ⟨h1, _⟩ | ⟨h1, _⟩
   ·exact (hfp b hb).1.2.2.2.2.1 y c h1 z
   ·have h2 : s.heap.objs.size + 1 <= b := by rw [<- z]; exact h1
    exact absurd (Nat.lt_of_lt_of_le (hfp b hb).2 (Nat.le_of_succ_le h2)) (Nat.lt_irrefl _)
  ·rcases (hfp b hb).1.2.2.2.1 with z | z
   ·exact I.ok.noex b o e z
   ·exact absurd (Nat.lt_of_lt_of_le (Heap.lt_size e) (Nat.le_trans I.ok.bsz z)) (Nat.lt_irrefl _)
  ·rcases List.mem_cons.mp (I.stkSub b z) with z | z
   ·exact (hfp b hb).1.2.1 z
   ·exact (hfp b hb).1.2.2.1 z
 refine ⟨okB, rfl, I.bare, Un.kept kp, ⟨fun _ => none, ?_, fun i y av e1 e2 e3 => ?_⟩, fun y c e => ?_, ?_, fun y c e => ?_, fun p hp => ?_, I.hok.kept kp, by rw [wipe_length]; exact I.len⟩
 ·show Heap.Ns _ cenv.locals _
  rw [hL]
  exact Heap.Ns.keeps (Heap.Ns.new ..) fun b o e => pushCells_keeps _ _ _ _ e
 ·obtain ⟨e2, hne⟩ := wipe_some e2
  have hfr : scope.names.lookup y = some .free /\ (cenv.kindOf y = some .cell \/ cenv.kindOf y = some .free) := by
   have key : ∀ k, cenv.scope.names.lookup y = some k -> k = .local \/ k = .cell \/ k = .free -> scope.names.lookup y = some .free /\ (cenv.kindOf y = some .cell \/ cenv.kindOf y = some .free) := fun k hk hk' => by
    have hk0 := hk
    rw [hsc] at hk
    obtain ⟨k', e, r⟩ := lookup_relS hk
    have no : ¬ (k' = .local \/ k' = .cell) := fun hh => by
     rcases ok.own _ (PySem.mem_of_lookup e) hh with e' | e'
     ·obtain ⟨p, hp, hpy⟩ := List.mem_map.mp e'
      have e3 := ok.ix p hp
      have : p.1 = y := hpy
      rw [this] at e3
      exact hne (List.mem_map.mpr ⟨p, hp, nodup_ix hN e3 e1⟩)
     ·exact e' (List.mem_of_getElem? e1)
    rcases r with rfl | ⟨rfl, rfl⟩
    ·rcases hk' with rfl | rfl | rfl
     ·exact absurd (.inl rfl) no
     ·exact absurd (.inr rfl) no
     ·exact ⟨e, .inr hk0⟩
    ·exact ⟨e, .inl hk0⟩
   have e3 : Vis cenv.scope y := e3
   rcases e3 with e3 | e3 | e3
   ·exact key _ e3 (.inl rfl)
   ·exact key _ e3 (.inr (.inl rfl))
   ·exact key _ e3 (.inr (.inr rfl))
  obtain ⟨m, hn, hl⟩ := I.loc
  have hvis : Vis X.env.scope y := (ok.free _ (PySem.mem_of_lookup hfr.1) rfl).elim (fun k => .inr (.inl k)) (fun k => .inr (.inr k))
  obtain ⟨w, r, q⟩ := hl i y av e1 e2 hvis
  refine ⟨w, r, .inr ⟨hfr.2, ?_⟩⟩
  obtain ⟨c, h1, h2⟩ := look hfr.1
  rcases q with ⟨k, _⟩ | ⟨_, c', e', z⟩
  ·have k : X.env.scope.names.lookup y = some .local := k
   rcases ok.free _ (PySem.mem_of_lookup hfr.1) rfl with k' | k' <;> rw [show X.env.scope.names.lookup y = _ from k'] at k <;> cases k
  ·rw [h2] at e'; cases e'
   exact ⟨c, h1, z.keeps kp⟩
 ·have e : cenv.cells.lookup y = some c := e
  rcases mem e with ⟨h1, _⟩ | ⟨_, z⟩
  ·obtain ⟨w, z⟩ := I.cell y c h1
   exact ⟨w, z.keeps kp⟩
  ·exact ⟨_, z⟩
 ·show H cenv.locals = none
  rw [hL]; exact I.hok.fresh (Nat.le_refl _)
 ·have e : cenv.cells.lookup y = some c := e
  rcases mem e with ⟨h1, _⟩ | ⟨h1, _⟩
  ·exact I.freeC y c h1
  ·exact I.hok.fresh (Nat.le_of_succ_le h1)
 ·exact absurd (show p ∈ ([] : List (Addr × Obj)) ++ [] from hp) (by simp)
theorem app_ok {E : Value -> Shared -> Prop} {D : Addr} {xs : List V} {y : V} {v : Value} {Q : Value -> Shared -> Prop} (I : Inv X pins σ H s) (hD : H D = some (.lst xs)) (hz : xs.length < sizeLine) (r : RelV y v)
  (h : ∀ s', Inv X pins σ (upd H D (.lst (xs ++ [y]))) s' -> Q .none s') : wpAny (model X.prog X.w) X.A (call (.builtin "list.append") [.ref D, v]) Q E s := by
 obtain ⟨hz', its, n, ri, e⟩ := I.hok D _ hD
 have hl := ri.length
 refine append_at (hsz := by rw [List.size_toArray]; omega) e fun h' sb ho' => ?_
 refine h { s with heap := h' } (I.write (t' := s.toks) (by rw [hD]; trivial) (.inl rfl) (fun b u hb q => (sb.2 b hb).trans q) ⟨_, ho'⟩ ⟨by rw [List.length_append]; exact hz, its ++ [v], n + 1, ri.append (.cons r .nil), ?_⟩)
 rw [ho']
 simp
def PTs (X : Cx) (ifs : List Expr) (t : TT) : Prop :=
 ∀ (pins : List (Addr × Obj)) (s : Shared) (σ : St) (H : Hp) (Q : Bool -> Hp -> Prop), Inv X pins σ H s -> t σ H Q ->
  wpAny (model X.prog X.w) X.A (forIn ifs true fun c r => if r = true then do let ok <- isTrue c X.env (eval c X.env); pure (ForInStep.yield ok) else pure (ForInStep.yield r)) (TP X pins σ Q) X.xe s
def tYes : TT := fun _ H Q => Q true H
theorem pts_nil : PTs X [] tYes := fun _ _ _ H _ I h => wpAny_tests_nil ⟨H, I, h⟩
theorem pts_one {c : Expr} {t : TT} (h : PT X c t) : PTs X [c] t := fun pins s σ H Q I hw => wpAny_tests_one (h pins s σ H Q I hw)
end
theorem thnF {α : Type} {t : Sem α} {Q Q' : α -> Shared -> Prop} {M : Model} {A : Around} {E : Value -> Shared -> Prop} {s : Shared} (h : wpAny M A t Q (fun _ _ => False) s) (hQ : ∀ a s, Q a s -> Q' a s) : wpAny M A t Q' E s := wpAny_mono h hQ fun _ _ z => False.elim z
theorem compLoop_any {prog : Program} {w : World} {A : Around} {R : Result -> Shared -> Prop} {s : Shared} {elt target iter : Expr} {ifs : List Expr} {scope : Scope} {pos : Pos} {it acc : Value} {env : Env} (I : Nat -> Shared -> Prop)
  (turn : ∀ n s, I n s -> wpAny (model prog w) A (pyNext it) (fun r s₁ => match r with
   | none => R (.ok .next) s₁
   | some v => wpAny (model prog w) A (letOwnedTupleGo target it v) (fun _ s₁' => wpAny (model prog w) A (assign target env v) (fun _ s₂ =>
     wpAny (model prog w) A (forIn ifs true fun c r => if r = true then do let ok <- isTrue c env (eval c env); pure (ForInStep.yield ok) else pure (ForInStep.yield r)) (fun ok s₃ =>
      if ok = true then wpAny (model prog w) A (eval elt env) (fun x s₄ =>
       wpAny (model prog w) A (call (.builtin "list.append") [acc, x]) (fun _ s₅ => ∃ m, m < n /\ I m s₅) (notedBy (model prog w) A env fun e s' => R (.error e) s') s₄) (notedBy (model prog w) A env fun e s' => R (.error e) s') s₃
      else ∃ m, m < n /\ I m s₃) (notedBy (model prog w) A env fun e s' => R (.error e) s') s₂) (notedBy (model prog w) A env fun e s' => R (.error e) s') s₁') (notedBy (model prog w) A env fun e s' => R (.error e) s') s₁) (notedBy (model prog w) A env fun e s' => R (.error e) s') s)
  (n : Nat) (h : I n s) :
  codeAny (model prog w) A (.compLoop (.ListComp elt [⟨target, iter, ifs, 0⟩] scope pos) 0 it acc env) R s := by
 refine codeAny_loop rfl I (fun n s hI => ?_) n h
 show wpAny _ A ((compTurn (.ListComp elt [⟨target, iter, ifs, 0⟩] scope pos) 0 it acc env).onRaise (fun x => do noteFrame x env; theTreesLotGoes x)) _ _ s
 refine wpAny_noted ?_
 rw [compTurn_list]
 refine wpAny_bind (wpAny_standAt (wpAny_bind (wpAny_mono (turn n s hI) (fun r s₁ h₁ => ?_) fun _ _ h' => h')))
 cases r with
 | none => exact wpAny_pure h₁
 | some v =>
  refine wpAny_bind (wpAny_mono h₁ (fun _ s₁' h₁' => ?_) fun _ _ h' => h')
  refine wpAny_bind (wpAny_mono h₁' (fun _ s₂ h₂ => wpAny_bind (wpAny_mono h₂ (fun ok s₃ h₃ => ?_) fun _ _ h' => h')) fun _ _ h' => h')
  cases ok with
  | false => exact wpAny_pure ⟨rfl, h₃⟩
  | true =>
   exact wpAny_bind (wpAny_bind (wpAny_mono h₃ (fun x s₄ h₄ => wpAny_bind (wpAny_mono h₄ (fun _ s₅ h₅ => wpAny_pure (wpAny_pure ⟨rfl, h₅⟩)) fun _ _ h' => h')) fun _ _ h' => h'))
section
variable {X : Cx}
def tLc (wi : TI) (g : TG) (tt : TT) (te : TE) (vs : List Nat) : TE := fun σ H Q => wi σ H fun J H1 => ∀ D, H1 D = none -> ∃ W : Nat -> Nat -> Hp -> Prop, (∃ m, W 0 m (upd H1 D (.lst []))) /\ ∀ i m H, W i m H ->
 (J.stop i H /\ Q (.ref D) H) \/ (J.go i H /\ ∃ Nx : Hp -> Prop, (∀ H', Nx H' -> ∃ m', m' < m /\ W (i + 1) m' H') /\ ∀ x H', J.yld i H x H' -> g x (wipe σ vs) H' fun σ2 H2 => wipe σ2 vs = wipe σ vs /\ tt σ2 H2 fun b H3 =>
  if b = true then te σ2 H3 fun y H4 => ∃ acc, H4 D = some (.lst acc) /\ acc.length < sizeLine /\ Nx (upd H4 D (.lst (acc ++ [y]))) else Nx H3)
theorem lc_core {pins : List (Addr × Obj)} {s : Shared} {σ : St} {H : Hp} {Q : VK} {elt tg iter : Expr} {ifs : List Expr} {scope : Scope} {own : List (Str × Nat)} {pos pos' : Pos} {wi : TI} {g : TG} {tt : TT} {te : TE} {use : Option (Value -> Sem Unit)} {Qf : Value -> Shared -> Prop}
  (hc : X.calm = true) (hN : X.N.Nodup) (I : Inv X pins σ H s) (hi : PI X tg iter wi) (ok : BlkOk X.N X.env.scope scope own)
  (hg : ∀ (s : Shared) (H : Hp) (C : Addr) (cl : List (Str × Addr)) (fp : List Addr), PG (X.blk s H scope (compEnvC scope cl C X.env) fp) tg g) (ht : ∀ (s : Shared) (H : Hp) (C : Addr) (cl : List (Str × Addr)) (fp : List Addr), PTs (X.blk s H scope (compEnvC scope cl C X.env) fp) ifs tt)
  (he : ∀ (s : Shared) (H : Hp) (C : Addr) (cl : List (Str × Addr)) (fp : List Addr), PE (X.blk s H scope (compEnvC scope cl C X.env) fp) elt te) (hs : ∀ x, foldedSetIterable iter X.env x = pure x)
  (h : tLc wi g tt te (own.map (·.2)) σ H Q)
  (hRR : ∀ D C s' m H', Inv X pins σ H' s' -> Q (.ref D) H' -> s'.heap.Ns C m -> FpOk X pins H' C -> compPost (model X.prog X.w) X.A X.xe use Qf (.ref D) C (.ok .next) s') :
  wpAny (model X.prog X.w) X.A (comprehension (.ListComp elt [⟨tg, iter, ifs, 0⟩] scope pos) scope X.env pos' (newList []) false (eval iter X.env) use) Qf X.xe s := by
 have hfree : ∀ y ∈ scope.names, y.2 = .free -> ∃ c, X.env.cells.lookup y.1 = some c := fun y hy e => by
  rcases ok.free y hy e with k | k
  ·exact I.ok.has _ (.inl k)
  ·exact I.ok.has _ (.inr k)
 refine wpAny_comprehension_free (use := use) rfl hs (closure_ok hfree) ok.kind (fun y hy e => by rw [ok.uniq y hy, e])
  (thn (hi pins s σ H _ I h) fun xv s1 hx => thn hx fun itv s2 h2 => ?_)
 obtain ⟨it, fp, tn, J, H2, e, I2, T, st2, f2, q⟩ := h2
 subst e
 refine wpAny_newObj_type (newEnv_comp ?_) (by show 0 <= sizeLine; decide)
 generalize hD : s2.heap.objs.size = D
 have hDn : H2 D = none := I2.hok.fresh (Nat.le_of_eq hD)
 obtain ⟨W, ⟨m0, w0⟩, turn⟩ := q D hDn
 generalize hs3 : ({ s2 with heap := s2.heap.push { cls := .type "list", data := .seq ([] : List Value).toArray } } : Shared) = s3
 have I3 : Inv X pins σ (upd H2 D (.lst [])) s3 := by
  rw [<- hs3]
  refine I2.laid (t' := s2.toks) (fun b o e => Heap.get?_push_of_some _ e) (Nat.le_of_eq hD) ⟨Nat.zero_le _, [], 0, .nil, ?_⟩
  rw [<- hD]
  exact Heap.get?_push_size _ rfl
 have h3 : s3.heap = s2.heap.push { cls := .type "list", data := .seq ([] : List Value).toArray } := by rw [<- hs3]
 have sz : ∀ b ∈ fp, b < s2.heap.objs.size := fun b hb => by
  obtain ⟨o, e, _⟩ := T.obj _ _ st2 b hb
  exact Heap.lt_size e
 have f3 : ∀ b ∈ fp, FpOk X pins (upd H2 D (.lst [])) b /\ b < s3.heap.objs.size := fun b hb => by
  have hlt := sz b hb
  refine ⟨⟨?_, (f2 b hb).2⟩, by rw [h3, Heap.size_push]; exact Nat.lt_succ_of_lt hlt⟩
  rw [upd_ne (by rw [<- hD]; exact Nat.ne_of_lt hlt)]
  exact (f2 b hb).1
 have st3 : tn 0 s3.heap := T.keep _ _ _ st2 fun b _ o e => by rw [h3]; exact Heap.get?_push_of_some _ e
 have I4 := block_start I3 ok hN f3
 have pg := hg s3 (upd H2 D (.lst [])) s3.heap.objs.size (cellsFrom (s3.heap.objs.size + 1) scope.names (cloFrom X.env.cells scope.names [])) fp
 have pt := ht s3 (upd H2 D (.lst [])) s3.heap.objs.size (cellsFrom (s3.heap.objs.size + 1) scope.names (cloFrom X.env.cells scope.names [])) fp
 have pe := he s3 (upd H2 D (.lst [])) s3.heap.objs.size (cellsFrom (s3.heap.objs.size + 1) scope.names (cloFrom X.env.cells scope.names [])) fp
 show codeAny _ _ (.compStart (.ListComp elt [⟨tg, iter, ifs, 0⟩] scope pos) 0 (.ref it) (.ref D) (compEnvC scope (cellsFrom (s3.heap.objs.size + 1) scope.names (cloFrom X.env.cells scope.names [])) s3.heap.objs.size X.env)) (compPost (model X.prog X.w) X.A X.xe use Qf (.ref D) s3.heap.objs.size) { s3 with heap := pushCells (s3.heap.push { cls := .type "dict", data := .dict #[] }) scope.names }
 have nfp : ∀ b ∈ fp, (upd H2 D (.lst [])) b = none := fun b hb => (f3 b hb).1.1
 generalize hce : compEnvC scope (cellsFrom (s3.heap.objs.size + 1) scope.names (cloFrom X.env.cells scope.names [])) s3.heap.objs.size X.env = ce at I4 pg pt pe ⊢
 have cL : ce.locals = s3.heap.objs.size := by subst hce; rfl
 generalize hH3 : upd H2 D (.lst []) = H3 at I3 I4 pg pt pe w0 nfp f3
 generalize hs4 : ({ s3 with heap := pushCells (s3.heap.push { cls := .type "dict", data := .dict #[] }) scope.names } : Shared) = s4 at I4 ⊢
 have st4 : tn 0 s4.heap := T.keep _ _ _ st3 fun b _ o e => by rw [<- hs4]; exact pushCells_keeps _ _ _ _ (Heap.get?_push_of_some _ e)
 have stat : ∀ {σ' : St} {H' : Hp} {s' : Shared}, Inv (X.blk s3 H3 scope ce fp) [] σ' H' s' -> (∀ b ∈ fp, H' b = none) -> ∀ b ∈ fp, FpOk (X.blk s3 H3 scope ce fp) [] H' b := fun {σ' H' s'} I' hn b hb =>
  ⟨hn b hb, (I'.ok.exf b hb).1, I'.ok.exfs b hb, .inl hb, fun x c e => (I'.ok.exf b hb).2 x c e, fun p hp => absurd (show p ∈ ([] : List (Addr × Obj)) ++ [] from hp) (by simp)⟩
 have loop : codeAny (model X.prog X.w) X.A (.compLoop (.ListComp elt [⟨tg, iter, ifs, 0⟩] scope pos) 0 (.ref it) (.ref D) ce) (compPost (model X.prog X.w) X.A X.xe use Qf (.ref D) s3.heap.objs.size) s4 := by
  refine compLoop_any (fun n s' => ∃ i H', Inv (X.blk s3 H3 scope ce fp) [] (wipe σ (own.map (·.2))) H' s' /\ tn i s'.heap /\ (∀ b ∈ fp, H' b = none) /\ W i n H') ?_ m0 ⟨0, H3, I4, st4, nfp, w0⟩
  rintro n s5 ⟨i, H5, I5, st5, n5, w5⟩
  rcases turn i n H5 w5 with ⟨stop, qq⟩ | ⟨go, Nx, hNx, step⟩
  ·have td := T.done (X.blk s3 H3 scope ce fp) rfl rfl rfl hc i [] s5 _ H5 (fun _ _ => False) I5 (stat I5 n5) st5 stop
   refine thnF td fun r s6 ⟨hr, I6⟩ => ?_
   subst hr
   have I7 : Inv X pins σ H5 s6 := I3.call' (ch := fp) I6.os I6.base I6.hok I6.bare fun b hb => ⟨(f3 b hb).1.2.2.2.1, (f3 b hb).1.2.1, (f3 b hb).1.2.2.2.2.1, (f3 b hb).1.2.2.2.2.2⟩
   have nC : H5 s3.heap.objs.size = none := by
    have z : H5 ce.locals = none := I6.free
    rw [cL] at z
    exact z
   obtain ⟨m, hn, _⟩ := I6.loc
   have hn : s6.heap.Ns ce.locals m := hn
   rw [cL] at hn
   exact hRR D s3.heap.objs.size s6 m H5 I7 qq hn (I3.fpOk (Nat.le_refl _) nC)
  ·have ti := T.item (X.blk s3 H3 scope ce fp) rfl rfl rfl hc i [] s5 _ H5 (fun _ _ => False) I5 (stat I5 n5) st5 go
   refine thnF ti fun r s6 ⟨u, hr, h6⟩ => ?_
   subst hr
   refine thnF h6 fun _ s7 ⟨x, H7, I7, r7, y7, st7, n7⟩ => ?_
   have I7' := I7.pinned (stat I7 n7) (T.obj _ _ st7)
   refine thnF (pg _ s7 _ H7 x u _ I7' r7 (step x H7 y7)) fun _ s8 ⟨σ8, H8, I8, hw8, q8⟩ => ?_
   refine thnF (pt _ s8 σ8 H8 _ I8 q8) fun b s9 ⟨H9, I9, q9⟩ => ?_
   have fin : ∀ {s' : Shared} {H' : Hp}, Inv (X.blk s3 H3 scope ce fp) ([] ++ pinsAt fp s7.heap) σ8 H' s' -> Nx H' -> ∃ m, m < n /\ ∃ i H', Inv (X.blk s3 H3 scope ce fp) [] (wipe σ (own.map (·.2))) H' s' /\ tn i s'.heap /\ (∀ b ∈ fp, H' b = none) /\ W i m H' := fun {s' H'} I' nx => by
    obtain ⟨m', hm, w'⟩ := hNx H' nx
    have pin' : ∀ b ∈ fp, ∀ o, s7.heap.get? b = some o -> s'.heap.get? b = some o /\ H' b = none := fun b hb o e =>
     let z := I'.pin (b, o) (List.mem_append_right _ (List.mem_append_right _ (mem_pinsAt hb e)))
     ⟨z.1, z.2.1⟩
    have hl : (wipe σ (own.map (·.2))).length = σ8.length := by rw [<- hw8, wipe_length]
    refine ⟨m', hm, i + 1, H', (I'.unpinned (pins := [])).weak hl (fun j v e => ?_), T.keep _ _ _ st7 fun b hb o e => (pin' b hb o e).1, fun b hb => ?_, w'⟩
    ·rw [<- hw8] at e
     exact (wipe_some e).1
    ·obtain ⟨o, e, _⟩ := T.obj _ _ st7 b hb
     exact (pin' b hb o e).2
   cases b with
   | false =>
    simp only [Bool.false_eq_true, if_false] at q9 ⊢
    exact fin I9 q9
   | true =>
    simp only [if_true] at q9 ⊢
    refine thnF (pe _ s9 σ8 H9 _ I9 q9) fun z s10 ⟨yv, H10, I10, r10, acc, hD10, hz10, nx⟩ => ?_
    exact app_ok (X := X.blk s3 H3 scope ce fp) I10 hD10 hz10 r10 fun s11 I11 => fin I11 nx
 exact codeAny_compStart_list loop (T.self X.A 0 _ _ _ st4 loop)
theorem pe_lc {elt tg iter : Expr} {ifs : List Expr} {scope : Scope} {own : List (Str × Nat)} {pos : Pos} {wi : TI} {g : TG} {tt : TT} {te : TE} (hc : X.calm = true) (hN : X.N.Nodup) (hi : PI X tg iter wi) (ok : BlkOk X.N X.env.scope scope own)
  (hg : ∀ (s : Shared) (H : Hp) (C : Addr) (cl : List (Str × Addr)) (fp : List Addr), PG (X.blk s H scope (compEnvC scope cl C X.env) fp) tg g) (ht : ∀ (s : Shared) (H : Hp) (C : Addr) (cl : List (Str × Addr)) (fp : List Addr), PTs (X.blk s H scope (compEnvC scope cl C X.env) fp) ifs tt)
  (he : ∀ (s : Shared) (H : Hp) (C : Addr) (cl : List (Str × Addr)) (fp : List Addr), PE (X.blk s H scope (compEnvC scope cl C X.env) fp) elt te) (hs : ∀ x, foldedSetIterable iter X.env x = pure x := by intro _; rfl) :
  PE X (.ListComp elt [⟨tg, iter, ifs, 0⟩] scope pos) (tLc wi g tt te (own.map (·.2))) := by
 intro pins s σ H Q I h
 rw [eval_ListComp]
 refine lc_core hc hN I hi ok hg ht he hs h fun D C s' m H' I' q hn f => ⟨m, hn, fun h'' sb => ?_⟩
 obtain ⟨f0, f1, f2, f3, f4, f5⟩ := f
 exact ⟨.ref D, H', I'.turned (t' := s'.toks) (fun b o hb e => (sb.2 b hb).trans e) f0 f1 f3 f4 f5, rfl, q⟩
end
theorem lc_list {K : PySem.W.Frag} {a : Addr} {xs : List V} {g : TG} {tt : TT} {te : TE} {vs : List Nat} {σ : St} {H1 : Hp} {D : Addr} {Qd : Hp -> Prop} (Pv : Nat -> Hp -> Prop) (h0 : Pv 0 (upd H1 D (.lst []))) (hl : ∀ i H, i <= xs.length -> Pv i H -> SqL K H a xs)
  (hs : ∀ i x H, xs[i]? = some x -> Pv i H -> g x (wipe σ vs) H fun σ2 H2 => wipe σ2 vs = wipe σ vs /\ tt σ2 H2 fun b H3 =>
   if b = true then te σ2 H3 fun y H4 => ∃ acc, H4 D = some (.lst acc) /\ acc.length < sizeLine /\ Pv (i + 1) (upd H4 D (.lst (acc ++ [y]))) else Pv (i + 1) H3) (hd : ∀ H, Pv xs.length H -> Qd H) :
  ∃ W : Nat -> Nat -> Hp -> Prop, (∃ m, W 0 m (upd H1 D (.lst []))) /\ ∀ i m H, W i m H ->
   ((Itl K a).stop i H /\ Qd H) \/ ((Itl K a).go i H /\ ∃ Nx : Hp -> Prop, (∀ H', Nx H' -> ∃ m', m' < m /\ W (i + 1) m' H') /\ ∀ x H', (Itl K a).yld i H x H' -> g x (wipe σ vs) H' fun σ2 H2 => wipe σ2 vs = wipe σ vs /\ tt σ2 H2 fun b H3 =>
    if b = true then te σ2 H3 fun y H4 => ∃ acc, H4 D = some (.lst acc) /\ acc.length < sizeLine /\ Nx (upd H4 D (.lst (acc ++ [y]))) else Nx H3) := by
 refine ⟨fun i m H => m = xs.length - i /\ i <= xs.length /\ Pv i H, ⟨xs.length, by simp, Nat.zero_le _, h0⟩, ?_⟩
 rintro i m H ⟨rfl, hi, p⟩
 have q := hl i H hi p
 by_cases hlt : i < xs.length
 ·refine .inr ⟨⟨xs, xs[i], q, by simp [hlt]⟩, Pv (i + 1), fun H' p' => ⟨xs.length - (i + 1), by omega, rfl, hlt, p'⟩, fun x H' y => ?_⟩
  obtain ⟨e, y⟩ := y
  subst e
  exact hs i x _ (y xs q) p
 ·have e : i = xs.length := by omega
  subst e
  exact .inl ⟨⟨xs, q, Nat.le_refl _⟩, hd H p⟩
def blkC (N : List Str) (sc scope : Scope) (own : List (Str × Nat)) : Bool :=
 (match scope.kind with | .function => true | _ => false) && (scope.names.all fun y => decide (scope.names.lookup y.1 = some y.2)) && (own.all fun p => decide (N[p.2]? = some p.1)) &&
  (scope.names.all fun y => match y.2 with
   | .free => (match sc.names.lookup y.1 with | some .cell => true | some .free => true | _ => false)
   | .local => decide (y.1 ∈ own.map (·.1)) || decide (y.1 ∉ N)
   | .cell => decide (y.1 ∈ own.map (·.1)) || decide (y.1 ∉ N)
   | _ => true)
theorem blkOk_by {N : List Str} {sc scope : Scope} {own : List (Str × Nat)} (h : blkC N sc scope own = true) : BlkOk N sc scope own := by
 unfold blkC at h
 simp only [Bool.and_eq_true, List.all_eq_true, decide_eq_true_eq] at h
 obtain ⟨⟨⟨h1, h2⟩, h3⟩, h4⟩ := h
 refine ⟨?_, h2, h3, fun y hy e => ?_, fun y hy e => ?_⟩
 ·split at h1
  ·assumption
  ·cases h1
 ·have q := h4 y hy
  simp only [e] at q
  split at q <;> first | exact .inl (by assumption) | exact .inr (by assumption) | cases q
 ·have q := h4 y hy
  rcases e with e | e <;> (simp only [e, Bool.or_eq_true, decide_eq_true_eq] at q; exact q)
end L2
namespace L2
open PySem PySem.Spec PyProof.Rows
section
variable {κ : Type} [DecidableEq κ]
def valV (kvs : List (κ × V)) (k : κ) : Option V := (kvs.find? fun kv => decide (kv.1 = k)).map (·.2)
def putK (kvs : List (κ × V)) (k : κ) (v : V) : List (κ × V) :=
 if (kvs.any fun kv => decide (kv.1 = k)) = true then kvs.map (fun kv => if kv.1 = k then (kv.1, v) else kv) else kvs ++ [(k, v)]
def dropK (kvs : List (κ × V)) (k : κ) : List (κ × V) := kvs.filter fun kv => decide (kv.1 ≠ k)
theorem valV_pos {p : κ × V} {r : List (κ × V)} {k : κ} (e : p.1 = k) : valV (p :: r) k = some p.2 := by simp [valV, List.find?_cons, e]
theorem valV_neg {p : κ × V} {r : List (κ × V)} {k : κ} (e : ¬ p.1 = k) : valV (p :: r) k = valV r k := by simp [valV, List.find?_cons, e]
theorem valV_any (k : κ) : ∀ kvs : List (κ × V), (kvs.any fun kv => decide (kv.1 = k)) = (valV kvs k).isSome
 | [] => rfl
 | p :: r => by
  rw [List.any_cons]
  by_cases e : p.1 = k
  ·simp only [valV_pos e, decide_eq_true e, Bool.true_or, Option.isSome_some]
  ·rw [valV_neg e, decide_eq_false e, Bool.false_or]; exact valV_any k r
theorem length_putK (kvs : List (κ × V)) (k : κ) (v : V) : (putK kvs k v).length <= kvs.length + 1 := by
 unfold putK
 split
 ·rw [List.length_map]; omega
 ·rw [List.length_append, List.length_cons, List.length_nil]; omega
theorem putK_new {kvs : List (κ × V)} {k : κ} (v : V) (h : valV kvs k = none) : putK kvs k v = kvs ++ [(k, v)] := by
 unfold putK
 rw [valV_any, h]
 exact if_neg (by decide)
theorem RelO.isSome_eq {o : Option V} {u : Option Value} (r : RelO o u) : o.isSome = u.isSome := by
 cases o with
 | none => cases u with
  | none => rfl
  | some _ => exact (show False from r).elim
 | some _ => cases u with
  | none => exact (show False from r).elim
  | some _ => rfl
theorem RelO.getD {o : Option V} {u : Option Value} {d : V} {d' : Value} (r : RelO o u) (rd : RelV d d') : RelV (o.getD d) (u.getD d') := by
 cases o with
 | none => cases u with
  | none => exact rd
  | some _ => exact (show False from r).elim
 | some _ => cases u with
  | none => exact (show False from r).elim
  | some _ => exact r
theorem KV.val {kvs : List (κ × V)} {vs : List (κ × Value)} (r : KV kvs vs) (k : κ) : RelO (valV kvs k) (valueAt vs k) := by
 unfold KV at r
 induction r with
 | nil => exact True.intro
 | @cons p q ps qs h t ih =>
  obtain ⟨h1, h2⟩ := h
  by_cases e : p.1 = k
  ·have e' : q.1 = k := h1.symm.trans e
   have b : valueAt (q :: qs) k = some q.2 := by simp [valueAt, List.find?_cons, e']
   rw [valV_pos e, b]; exact h2
  ·have e' : ¬ q.1 = k := fun z => e (h1.trans z)
   have b : valueAt (q :: qs) k = valueAt qs k := by simp [valueAt, List.find?_cons, e']
   rw [valV_neg e, b]; exact ih
theorem KV.any {kvs : List (κ × V)} {vs : List (κ × Value)} (r : KV kvs vs) (k : κ) : (kvs.any fun kv => decide (kv.1 = k)) = vs.any fun kv => decide (kv.1 = k) := by
 unfold KV at r
 induction r with
 | nil => rfl
 | cons h t ih => rw [List.any_cons, List.any_cons, ih, h.1]
theorem KV.repl {kvs : List (κ × V)} {vs : List (κ × Value)} (r : KV kvs vs) (k : κ) {y : V} {u : Value} (ry : RelV y u) :
  KV (kvs.map fun kv => if kv.1 = k then (kv.1, y) else kv) (vs.map fun kv => if kv.1 = k then (kv.1, u) else kv) := by
 unfold KV at r ⊢
 induction r with
 | nil => exact .nil
 | @cons p q ps qs h t ih =>
  rw [List.map_cons, List.map_cons]
  refine .cons ?_ ih
  obtain ⟨h1, h2⟩ := h
  by_cases e : p.1 = k
  ·rw [if_pos e, if_pos (h1.symm.trans e)]; exact ⟨h1, ry⟩
  ·rw [if_neg e, if_neg (fun z => e (h1.trans z))]; exact ⟨h1, h2⟩
theorem KV.put {kvs : List (κ × V)} {vs : List (κ × Value)} (r : KV kvs vs) (k : κ) {y : V} {u : Value} (ry : RelV y u) : KV (putK kvs k y) (stored vs k u) := by
 unfold putK stored
 rw [r.any k]
 by_cases e : (vs.any fun kv => decide (kv.1 = k)) = true
 ·rw [if_pos e, if_pos e]; exact r.repl k ry
 ·rw [if_neg e, if_neg e]; exact Paired.snoc r ⟨rfl, ry⟩
theorem KV.drop {kvs : List (κ × V)} {vs : List (κ × Value)} (r : KV kvs vs) (k : κ) : KV (dropK kvs k) (without vs k) := by
 unfold KV at r ⊢
 unfold dropK without
 induction r with
 | nil => exact .nil
 | @cons p q ps qs h t ih =>
  obtain ⟨h1, h2⟩ := h
  rw [List.filter_cons, List.filter_cons]
  by_cases e : p.1 = k
  ·have a : ¬ decide (p.1 ≠ k) = true := by simp [e]
   have b : ¬ decide (q.1 ≠ k) = true := by simp [h1.symm.trans e]
   rw [if_neg a, if_neg b]; exact ih
  ·have e' : ¬ q.1 = k := fun z => e (h1.trans z)
   have a : decide (p.1 ≠ k) = true := by simp [e]
   have b : decide (q.1 ≠ k) = true := by simp [e']
   rw [if_pos a, if_pos b]; exact .cons ⟨h1, h2⟩ ih
theorem KV.length {kvs : List (κ × V)} {vs : List (κ × Value)} (r : KV kvs vs) : kvs.length = vs.length := Paired.length r
theorem dropK_le (kvs : List (κ × V)) (k : κ) : (dropK kvs k).length <= kvs.length := List.length_filter_le _ _
end
theorem kV_is {P : Program} {w : World} {k : Key} {u : Value} (r : RelV (kV k) u) : (mixKind P w).is k u = true := by
 cases k with
 | inl i => obtain ⟨t, e⟩ := (show ∃ t, u = Value.int i t from r); subst e; exact mixKind_int P w i t
 | inr x => obtain ⟨t, e⟩ := (show ∃ t, u = Value.str x t from r); subst e; exact mixKind_str P w x t
theorem items_are {P : Program} {w : World} : ∀ {ks : List Key} {us : List Value}, Vals (ks.map kV) us -> ItemsAre (mixKind P w) ks us
 | [], _, r => by rw [List.map_nil] at r; cases r; exact .nil
 | k :: ks, _, r => by
  rw [List.map_cons] at r
  cases r with
  | cons h t => exact .cons (kV_is h) (items_are t)
abbrev KT (H : Hp) : List (List Key × V) -> List (List Key × Addr × Value) -> Prop := Paired fun p q => p.1 = q.1 /\ H q.2.1 = some (.tup (p.1.map kV)) /\ RelV p.2 q.2.2
theorem KT.val {H : Hp} {kvs : List (List Key × V)} {xs : List (List Key × Addr × Value)} (r : KT H kvs xs) (k : List Key) : RelO (valV kvs k) ((atKey xs k).map (·.2)) := by
 induction r with
 | nil => exact True.intro
 | @cons p q ps qs h t ih =>
  obtain ⟨h1, _, h2⟩ := h
  by_cases e : p.1 = k
  ·have e' : q.1 = k := h1.symm.trans e
   have b : atKey (q :: qs) k = some q.2 := by simp [atKey, List.find?_cons, e']
   rw [valV_pos e, b]; exact h2
  ·have e' : ¬ q.1 = k := fun z => e (h1.trans z)
   have b : atKey (q :: qs) k = atKey qs k := by simp [atKey, List.find?_cons, e']
   rw [valV_neg e, b]; exact ih
theorem KT.repl {H : Hp} {kvs : List (List Key × V)} {xs : List (List Key × Addr × Value)} (r : KT H kvs xs) (k : List Key) {y : V} {u : Value} (ry : RelV y u) :
  KT H (kvs.map fun kv => if kv.1 = k then (kv.1, y) else kv) (xs.map (putAt k u)) := by
 induction r with
 | nil => exact .nil
 | @cons p q ps qs h t ih =>
  rw [List.map_cons, List.map_cons]
  refine .cons ?_ ih
  obtain ⟨h1, h2, h3⟩ := h
  unfold putAt
  by_cases e : p.1 = k
  ·rw [if_pos e, if_pos (h1.symm.trans e)]; exact ⟨h1, h2, ry⟩
  ·rw [if_neg e, if_neg (fun z => e (h1.trans z))]; exact ⟨h1, h2, h3⟩
theorem KT.put {H : Hp} {kvs : List (List Key × V)} {xs : List (List Key × Addr × Value)} (r : KT H kvs xs) (k : List Key) {b : Addr} {y : V} {u : Value} (hb : H b = some (.tup (k.map kV))) (ry : RelV y u) :
  KT H (putK kvs k y) (storedH xs k b u) := by
 have e : (kvs.any fun kv => decide (kv.1 = k)) = (atKey xs k).isSome := by
  rw [valV_any, (r.val k).isSome_eq, Option.isSome_map]
 unfold putK storedH
 rw [e]
 by_cases q : (atKey xs k).isSome = true
 ·rw [if_pos q, if_pos q]; exact r.repl k ry
 ·rw [if_neg q, if_neg q]; exact Paired.snoc r ⟨rfl, hb, ry⟩
theorem KT.keeps {H H' : Hp} {kvs : List (List Key × V)} {xs : List (List Key × Addr × Value)} (r : KT H kvs xs) (ht : ∀ b ys, H b = some (.tup ys) -> H' b = some (.tup ys)) : KT H' kvs xs :=
 Paired.mapP r fun _ _ z => ⟨z.1, ht _ _ z.2.1, z.2.2⟩
section
variable {P : Program} {w : World} {H : Hp} {h : Heap} {a : Addr}
theorem rd_of {u : HO} (ok : HOk P w H h) (e : Rd H a u) : ObjOk P w H h a u := e.ok ok
theorem dk_rd {kvs : List (Key × V)} (ok : HOk P w H h) (e : Rd H a (.dK kvs)) : kvs.length <= sizeLine /\ (a == sysModules) = false /\ ∃ vs, KV kvs vs /\ h.DictOf (mixKind P w) a vs :=
 show ObjOk P w H h a (.dK kvs) from rd_of ok e
theorem dk_of {kvs : List (Key × V)} (ok : HOk P w H h) (e : H a = some (.dK kvs)) : kvs.length <= sizeLine /\ (a == sysModules) = false /\ ∃ vs, KV kvs vs /\ h.DictOf (mixKind P w) a vs := dk_rd ok (.inl e)
theorem key_of {ks : List Key} (ok : HOk P w H h) (e : H a = some (.tup (ks.map kV))) : (tupleKind (mixKind P w)).is h ks a := by
 obtain ⟨_, its, r, o, h1, h2, n, h3⟩ := (show ObjOk P w H h a (.tup (ks.map kV)) from ok a _ e)
 exact ⟨o, its.toArray, n, h1, h2, h3, by simpa using items_are r⟩
theorem dt_rd {kvs : List (List Key × V)} (ok : HOk P w H h) (e : Rd H a (.dT kvs)) : kvs.length <= sizeLine /\ (a == sysModules) = false /\
  ∃ xs, KT H kvs xs /\ h.DictOfH (tupleKind (mixKind P w)) a xs := by
 obtain ⟨z, y, xs, r, o, es, ep, h1, h2, h3, h4, h5⟩ := (show ObjOk P w H h a (.dT kvs) from rd_of ok e)
 refine ⟨z, y, xs, r, o, es, ep, h1, h2, h3, h4, fun x hx => ?_, h5⟩
 have all : ∀ {l : List (List Key × V)} {m : List (List Key × Addr × Value)}, KT H l m -> ∀ x ∈ m, (tupleKind (mixKind P w)).is h x.1 x.2.1 := by
  intro l m q
  induction q with
  | nil => intro x hx; exact nomatch hx
  | @cons p q ps qs hq t ih =>
   intro x hx
   rcases List.mem_cons.mp hx with e | hx
   ·subst e
    exact key_of ok (by rw [<- hq.1]; exact hq.2.1)
   ·exact ih x hx
 exact all r x hx
theorem dt_of {kvs : List (List Key × V)} (ok : HOk P w H h) (e : H a = some (.dT kvs)) : kvs.length <= sizeLine /\ (a == sysModules) = false /\
  ∃ xs, KT H kvs xs /\ h.DictOfH (tupleKind (mixKind P w)) a xs := dt_rd ok (.inl e)
end
def DGet (H : Hp) (a : Addr) (y : V) (r : Option V) : Prop :=
 (∃ kvs k, Rd H a (.dK kvs) /\ y = kV k /\ r = valV kvs k) \/ ∃ kvs k b, Rd H a (.dT kvs) /\ y = .ref b /\ H b = some (.tup (k.map kV)) /\ r = valV kvs k
def DPut (H : Hp) (a : Addr) (y v : V) (H' : Hp) : Prop :=
 (∃ kvs k, H a = some (.dK kvs) /\ y = kV k /\ kvs.length < sizeLine /\ H' = upd H a (.dK (putK kvs k v))) \/
 ∃ kvs k b, H a = some (.dT kvs) /\ y = .ref b /\ H b = some (.tup (k.map kV)) /\ kvs.length < sizeLine /\ H' = upd H a (.dT (putK kvs k v))
theorem DGet.k {H : Hp} {a : Addr} {kvs : List (Key × V)} {k : Key} (e : H a = some (.dK kvs)) : DGet H a (kV k) (valV kvs k) := .inl ⟨kvs, k, .inl e, rfl, rfl⟩
theorem DPut.k {H : Hp} {a : Addr} {kvs : List (Key × V)} {k : Key} {v : V} (e : H a = some (.dK kvs)) (hl : kvs.length < sizeLine) : DPut H a (kV k) v (upd H a (.dK (putK kvs k v))) := .inl ⟨kvs, k, e, rfl, hl, rfl⟩
section
variable {X : Cx} {pins : List (Addr × Obj)} {σ : St} {H : Hp} {s : Shared} {a : Addr} {y v : V} {u r : Value} {o : Option V} {A : Around} {E : Value -> Shared -> Prop}
theorem Inv.big (I : Inv X pins σ H s) : sysModules < s.heap.objs.size := by
 have h : mainGlobals < s.heap.objs.size := (I.mod.glob.keeps I.bk).lt
 exact Nat.lt_trans (by decide) h
theorem d_getItem {Q : Value -> Shared -> Prop} (hu : A.units + 1 < cLine) (I : Inv X pins σ H s) (g : DGet H a y (some v)) (ry : RelV y u) (h : ∀ w' s', Inv X pins σ H s' -> RelV v w' -> Q w' s') :
  wpAny (model X.prog X.w) A (getItem (.ref a) u) Q E s := by
 rcases g with ⟨kvs, k, e, ey, l⟩ | ⟨kvs, k, b, e, ey, eb, l⟩
 ·subst ey
  obtain ⟨z, hd, vs, rel, dd⟩ := dk_rd I.hok e
  obtain ⟨w', hw, rw'⟩ := RelO.some_of (v := v) (o := valueAt vs k) (by rw [l]; exact rel.val k)
  exact wpAny_getItem_of (kV_is ry) dd.mapOf hw (h w' _ (I.tok _) rw')
 ·subst ey
  cases (show u = Value.ref b from ry)
  obtain ⟨z, hd, xs, rel, dd⟩ := dt_rd I.hok e
  obtain ⟨w', hw, rw'⟩ := RelO.some_of (v := v) (o := (atKey xs k).map (·.2)) (by rw [l]; exact rel.val k)
  obtain ⟨p, hp, hp2⟩ := Option.map_eq_some_iff.mp hw
  refine wpAny_getItem_heap (tupleKind_room_in1 hu) (key_of I.hok eb) dd hp ?_
  rw [hp2]
  exact h w' _ (I.tok _) rw'
theorem d_in {Q : Value -> Shared -> Prop} (hu : A.units + 1 < cLine) (I : Inv X pins σ H s) (g : DGet H a y o) (ry : RelV y u) (h : ∀ s', Inv X pins σ H s' -> Q (.bool o.isSome) s') :
  wpAny (model X.prog X.w) A (compareOp .In u (.ref a)) Q E s := by
 rcases g with ⟨kvs, k, e, ey, l⟩ | ⟨kvs, k, b, e, ey, eb, l⟩
 ·subst ey
  obtain ⟨z, hd, vs, rel, dd⟩ := dk_rd I.hok e
  refine wpAny_in_of (kV_is ry) hd dd.mapOf ?_
  rw [<- (rel.val k).isSome_eq, <- l]
  exact h _ (I.tok _)
 ·subst ey
  cases (show u = Value.ref b from ry)
  obtain ⟨z, hd, xs, rel, dd⟩ := dt_rd I.hok e
  refine wpAny_in_heap (tupleKind_room_in1 hu) (key_of I.hok eb) hd dd ?_
  have q := (rel.val k).isSome_eq
  rw [Option.isSome_map] at q
  rw [<- q, <- l]
  exact h _ (I.tok _)
theorem d_notIn {Q : Value -> Shared -> Prop} (hu : A.units + 1 < cLine) (I : Inv X pins σ H s) (g : DGet H a y o) (ry : RelV y u) (h : ∀ s', Inv X pins σ H s' -> Q (.bool (!o.isSome)) s') :
  wpAny (model X.prog X.w) A (compareOp .NotIn u (.ref a)) Q E s := by
 rcases g with ⟨kvs, k, e, ey, l⟩ | ⟨kvs, k, b, e, ey, eb, l⟩
 ·subst ey
  obtain ⟨z, hd, vs, rel, dd⟩ := dk_rd I.hok e
  refine wpAny_notIn_of (kV_is ry) hd dd.mapOf ?_
  rw [<- (rel.val k).isSome_eq, <- l]
  exact h _ (I.tok _)
 ·subst ey
  cases (show u = Value.ref b from ry)
  obtain ⟨z, hd, xs, rel, dd⟩ := dt_rd I.hok e
  refine wpAny_notIn_heap (tupleKind_room_in1 hu) (key_of I.hok eb) hd dd ?_
  have q := (rel.val k).isSome_eq
  rw [Option.isSome_map] at q
  rw [<- q, <- l]
  exact h _ (I.tok _)
theorem d_write {h' : Heap} {t' : Nat} {ob : HO} (I : Inv X pins σ H s) (mu : Mut (H a)) (hs : Heap.SameBut a s.heap h') (he : ∃ q, h'.get? a = some q) (new : ObjOk X.prog X.w (upd H a ob) h' a ob) :
  Inv X pins σ (upd H a ob) { s with heap := h', toks := t' } :=
 I.write (x := a) (e := a) mu (.inl rfl) (fun b q hb z => (hs.2 b hb).trans z) he new
theorem dk_new {P : Program} {w : World} {H' : Hp} {h' : Heap} {kvs : List (Key × V)} {vs : List (Key × Value)} (z : kvs.length <= sizeLine) (hd : (a == sysModules) = false) (rel : KV kvs vs) (dd : h'.DictOf (mixKind P w) a vs) :
  ObjOk P w H' h' a (.dK kvs) := ⟨z, hd, vs, rel, dd⟩
theorem d_setItem {H' : Hp} {Q : Unit -> Shared -> Prop} (hu : A.units + 1 < cLine) (I : Inv X pins σ H s) (g : DPut H a y v H') (ry : RelV y u) (rv : RelV v r) (h : ∀ s', Inv X pins σ H' s' -> Q () s') :
  wpAny (model X.prog X.w) A (setItem (.ref a) u r) Q E s := by
 rcases g with ⟨kvs, k, e, ey, l, eH⟩ | ⟨kvs, k, b, e, ey, eb, l, eH⟩
 ·subst ey eH
  obtain ⟨z, hd, vs, rel, dd⟩ := dk_of I.hok e
  have hz : vs.length <= sizeLine := by rw [<- rel.length]; exact z
  have hl : (putK kvs k v).length <= sizeLine := by have := length_putK kvs k v; omega
  refine wpAny_setItem_pairs (hsz := hz) (kV_is ry) dd fun h' dd' hs => h _ ?_
  have he : ∃ q, h'.get? a = some q := let ⟨q, _, _, hq, _⟩ := dd'; ⟨q, hq⟩
  exact d_write I (by rw [e]; exact True.intro) hs he (dk_new hl hd (rel.put k rv) dd')
 ·subst ey eH
  cases (show u = Value.ref b from ry)
  obtain ⟨z, hd, xs, rel, dd⟩ := dt_of I.hok e
  have hz : xs.length <= sizeLine := by rw [<- Paired.length rel]; exact z
  have hl : (putK kvs k v).length <= sizeLine := by have := length_putK kvs k v; omega
  refine wpAny_setItem_heap (hsz := hz) (tupleKind_room_in1 hu) (key_of I.hok eb) dd fun h' dd' hs => h _ ?_
  obtain ⟨q, es, ep, hq, h2, h3, h4, _, h5⟩ := dd'
  refine d_write I (by rw [e]; exact True.intro) hs ⟨q, hq⟩ ⟨hl, hd, _, (rel.put k eb rv).keeps fun c ys ec => ?_, q, es, ep, hq, h2, h3, h4, h5⟩
  rw [upd_ne (ne_of ec e (fun z => nomatch z))]
  exact ec
end
section
variable {X : Cx} {pins : List (Addr × Obj)} {σ : St} {H : Hp} {s : Shared} {a : Addr} {kvs : List (Key × V)} {k : Key} {u : Value} {A : Around} {E : Value -> Shared -> Prop}
theorem d_pop {v : V} {more : List Value} {Q : Value -> Shared -> Prop} (I : Inv X pins σ H s) (e : H a = some (.dK kvs)) (ry : RelV (kV k) u) (l : valV kvs k = some v) (hm : more = [] \/ ∃ x, more = [x])
  (h : ∀ w' s', Inv X pins σ (upd H a (.dK (dropK kvs k))) s' -> RelV v w' -> Q w' s') : wpAny (model X.prog X.w) A (call (.builtin "dict.pop") (.ref a :: u :: more)) Q E s := by
 obtain ⟨z, hd, vs, rel, dd⟩ := dk_of I.hok e
 obtain ⟨w', hw, rw'⟩ := RelO.some_of (v := v) (o := valueAt vs k) (by rw [<- l]; exact rel.val k)
 have hp : (keyPart u).isSome = true := by
  cases k with
  | inl i => obtain ⟨t, q⟩ := (show ∃ t, u = Value.int i t from ry); subst q; rfl
  | inr x => obtain ⟨t, q⟩ := (show ∃ t, u = Value.str x t from ry); subst q; rfl
 have ha : argsOk "dict.pop" ⟨.ref a :: u :: more, []⟩ := by
  rcases hm with q | ⟨x, q⟩
  ·subst q; exact PySem.F.args_dict_pop_2 _ _
  ·subst q; exact PySem.F.args_dict_pop_3 _ _ _
 refine call_meetsIn PySem.F.slot_dict_pop dd.typeIs PySem.F.entry_dict_pop ha (meets_dict_pop_there (mixKind X.prog X.w) a (kV_is ry) more hm hp)
  ⟨vs, w', dd, by rw [<- rel.length]; exact z, hw, fun h' dd' hs => h w' _ ?_ rw'⟩
 have he : ∃ q, h'.get? a = some q := let ⟨q, _, _, hq, _⟩ := dd'; ⟨q, hq⟩
 exact d_write I (by rw [e]; exact True.intro) hs he (dk_new (Nat.le_trans (dropK_le kvs k) z) hd (rel.drop k) dd')
theorem d_len {Q : Value -> Shared -> Prop} (I : Inv X pins σ H s) (e : Rd H a (.dK kvs)) (h : ∀ t s', Inv X pins σ H s' -> Q (.int kvs.length t) s') : wpAny (model X.prog X.w) A (call (.builtin "len") [.ref a]) Q E s := by
 obtain ⟨z, hd, vs, rel, dd⟩ := dk_rd I.hok e
 refine call_len_dict hd dd (by rw [<- rel.length]; rw [sizeLine_eq] at z; omega) ?_
 rw [<- rel.length]
 exact h _ _ (I.tok _)
end
def NoSl (i : Expr) : Prop := ∀ ov iv, subscripted i false ov iv = operate [ov, iv] (getItem ov iv)
theorem subD_of {prog : Program} {w : World} {A : Around} {E : Value -> Shared -> Prop} {s : Shared} {env : Env} {value slice : Expr} {pos : Pos} {T id : String} {Q : Value -> Shared -> Prop}
  (hl : typeLookup (.type T) "__getitem__" = pure (some (.builtin id))) (hs : NoSl slice)
  (h : wpAny (model prog w) A (eval value env) (fun o s₁ => wpAny (model prog w) A (eval slice env) (fun i s₂ => s₂.TypeIs o T /\ wpAny (model prog w) A (getItem o i) Q E s₂) E s₁) E s) :
  wpAny (model prog w) A (eval (.Subscript value slice pos) env) Q E s := by
 refine Subscript_ (wpAny_mono h (fun o s₁ h₁ => wpAny_mono h₁ (fun i s₂ h₂ => ?_) fun _ _ x => x) fun _ _ x => x)
 obtain ⟨hT, h₂⟩ := h₂
 unfold subscriptTail
 refine wpAny_bind ?_
 rw [getitemInPython_of_ne hT.not_modules]
 refine wpAny_bind (wpAny_specialOf hT hl ?_)
 have fin : wpAny (model prog w) A (subscripted slice false o i) (fun r s₃ => wpAny (model prog w) A (letTemporaryGo value o r >>= fun _ => pure r) Q E s₃) E s₂ := by
  rw [hs o i]
  exact wpAny_operating (wpAny_mono h₂ (fun r s₃ h₃ => wpAny_bind (wpAny_letTemporaryGo (wpAny_pure h₃))) fun _ _ x => x)
 first
  | exact wpAny_pure (wpAny_bind fin)
  | exact wpAny_bind (wpAny_pure (wpAny_bind fin))
  | exact wpAny_bind fin
theorem dict_typeIs {X : Cx} {pins : List (Addr × Obj)} {σ : St} {H : Hp} {s : Shared} {a : Addr} {y : V} {o : Option V} (I : Inv X pins σ H s) (g : DGet H a y o) : s.TypeIs (.ref a) "dict" := by
 rcases g with ⟨kvs, k, e, _, _⟩ | ⟨kvs, k, b, e, _, _, _⟩
 ·obtain ⟨_, _, vs, _, dd⟩ := dk_rd I.hok e
  exact dd.typeIs
 ·obtain ⟨_, _, xs, _, dd⟩ := dt_rd I.hok e
  exact dd.typeIs
def tDGet (td ty : TE) : TE := fun σ H Q => td σ H fun x H1 => ty σ H1 fun y H2 => ∃ a v, x = .ref a /\ DGet H2 a y (some v) /\ Q v H2
def tDIn (ty td : TE) : TE := fun σ H Q => ty σ H fun y H1 => td σ H1 fun x H2 => ∃ a o, x = .ref a /\ DGet H2 a y o /\ Q (.bl o.isSome) H2
def tDNotIn (ty td : TE) : TE := fun σ H Q => ty σ H fun y H1 => td σ H1 fun x H2 => ∃ a o, x = .ref a /\ DGet H2 a y o /\ Q (.bl (!o.isSome)) H2
def sDPut (td ty tv : TE) : TS := fun D σ H => tv σ H fun v H1 => td σ H1 fun x H2 => ty σ H2 fun y H3 => ∃ a H4, x = .ref a /\ DPut H3 a y v H4 /\ D.nx σ H4
def sDAug (td ty tv : TE) (rd : V -> V -> Hp -> VK -> Prop) : TS := fun D σ H => td σ H fun x H1 => ty σ H1 fun y H2 => ∃ a v, x = .ref a /\ DGet H2 a y (some v) /\
 tv σ H2 fun y2 H3 => rd v y2 H3 fun z H4 => ∃ H5, DPut H4 a y z H5 /\ D.nx σ H5
section
variable {X : Cx} {o i e value : Expr} {pos pos' tpos : Pos} {td ty tv : TE}
theorem pe_dget (hu : X.A.units + 1 < cLine) (ho : PE X o td) (hi : PE X i ty) (hs : NoSl i) : PE X (.Subscript o i pos) (tDGet td ty) := by
 intro pins s σ H Q I h
 refine subD_of PySem.F.slot_dict_getitem.lookup hs (thn (ho pins s σ H _ I h) fun u s1 ⟨x, H1, I1, rx, q1⟩ => thn (hi pins s1 σ H1 _ I1 q1) fun iv s2 ⟨y, H2, I2, ry, a, v, ex, g, q2⟩ => ?_)
 subst ex
 obtain rfl : u = Value.ref a := rx
 exact ⟨dict_typeIs I2 g, d_getItem hu I2 g ry fun w' s3 I3 rw' => ⟨v, H2, I3, rw', q2⟩⟩
theorem pc_din (hu : X.A.units + 1 < cLine) (hi : PE X i ty) (ho : PE X o td) : PC X .In i o (tDIn ty td) := by
 intro pins s σ H Q I h
 refine thn (hi pins s σ H _ I h) fun iv s1 ⟨y, H1, I1, ry, q1⟩ => thn (ho pins s1 σ H1 _ I1 q1) fun u s2 ⟨x, H2, I2, rx, a, ov, ex, g, q2⟩ => ?_
 subst ex
 obtain rfl : u = Value.ref a := rx
 exact d_in hu I2 g ry fun s3 I3 => ⟨.bl ov.isSome, H2, I3, rfl, q2⟩
theorem pc_dnotin (hu : X.A.units + 1 < cLine) (hi : PE X i ty) (ho : PE X o td) : PC X .NotIn i o (tDNotIn ty td) := by
 intro pins s σ H Q I h
 refine thn (hi pins s σ H _ I h) fun iv s1 ⟨y, H1, I1, ry, q1⟩ => thn (ho pins s1 σ H1 _ I1 q1) fun u s2 ⟨x, H2, I2, rx, a, ov, ex, g, q2⟩ => ?_
 subst ex
 obtain rfl : u = Value.ref a := rx
 exact d_notIn hu I2 g ry fun s3 I3 => ⟨.bl (!ov.isSome), H2, I3, rfl, q2⟩
theorem ps_dput (hu : X.A.units + 1 < cLine) (ho : PE X o td) (hi : PE X i ty) (hv : PE X value tv) (hs : swapsWith value (some (.Subscript o i pos')) pos.line X.env = pure false) :
  PS X (.Assign [.Subscript o i pos'] value pos) (sDPut td ty tv) := by
 intro pins s σ H D I h
 refine wpAny_Assign_Subscript (thn (hv pins s σ H _ I h) fun r s1 ⟨v, H1, I1, rv, q1⟩ => thn (ho pins s1 σ H1 _ I1 q1) fun u s2 ⟨x, H2, I2, rx, q2⟩ => thn (hi pins s2 σ H2 _ I2 q2) fun iv s3 ⟨y, H3, I3, ry, a, H4, ex, g, q3⟩ => ?_) hs
 subst ex
 obtain rfl : u = Value.ref a := rx
 exact d_setItem hu I3 g ry rv fun s4 I4 => ⟨σ, H4, I4, q3⟩
theorem ps_daug {op : Operator} {rd : V -> V -> Hp -> VK -> Prop} (hu : X.A.units + 1 < cLine) (ho : PE X o td) (hi : PE X i ty) (hv : PE X value tv) (hop : InOp X op rd)
  (ha : ∀ ov iv new, augStore i ov iv new = (do holding [new, ov, iv] (setItem ov iv new); release [new, ov, iv] []; pure .next)) : PS X (.AugAssign (.Subscript o i tpos) op value pos) (sDAug td ty tv rd) := by
 intro pins s σ H D I h
 refine wpAny_AugAssign_SubscriptAny (thn (ho pins s σ H _ I h) fun u s1 ⟨x, H1, I1, rx, q1⟩ => thn (hi pins s1 σ H1 _ I1 q1) fun iv s2 ⟨y, H2, I2, ry, a, v, ex, g, q2⟩ => ?_) ha
 subst ex
 obtain rfl : u = Value.ref a := rx
 refine d_getItem hu I2 g ry fun w' s3 I3 rw' => thn (hv pins s3 σ H2 _ I3 q2) fun w2 s4 ⟨y2, H3, I4, ry2, q3⟩ => thn (hop pins s4 σ H3 v y2 w' w2 _ I4 rw' ry2 q3) fun w3 s5 ⟨z, H4, I5, rz, H5, g5, q4⟩ => ?_
 exact d_setItem hu I5 g5 ry rz fun s6 I6 => ⟨σ, H5, I6, q4⟩
end
theorem dk_empty {P : Program} {w : World} {H : Hp} (h : Heap) (hb : sysModules < h.objs.size) : ObjOk P w H (h.push { cls := .type "dict", data := .dict #[] }) h.objs.size (.dK []) :=
 ⟨Nat.zero_le _, beq_eq_false_iff_ne.mpr (Ne.symm (Nat.ne_of_lt hb)), [], .nil, Heap.DictOf.new h⟩
def tDNewK : TE := fun _ H Q => ∀ p, H p = none -> Q (.ref p) (upd H p (.dK []))
section
variable {X : Cx} {pos : Pos}
theorem pe_dnewK : PE X (.Dict [] [] pos) tDNewK := fun pins s σ H Q I h =>
 wpAny_Dict_empty ⟨.ref s.heap.objs.size, _, I.laid (a := s.heap.objs.size) (o := .dK []) (t' := s.toks) (fun _ _ q => Heap.get?_push_of_some _ q) (Nat.le_refl _) (dk_empty s.heap I.big), rfl, h _ (I.hok.fresh (Nat.le_refl _))⟩
end
structure M1 (X : Cx) (o : Expr) (m : Str) (apos : Pos) (e : Expr) (cpos : Pos) : Prop where
 base : attributeBase o m X.env (eval o X.env) = eval o X.env
 few : ((backTo cpos (starEach [e] X.env)).all (fun x => !x.1) && (backToKw cpos (keywordEach [] X.env)).all (fun x => x.1.isSome)
  && decide (([e] : List Expr).length + ([] : List Keyword).length + (if ([] : List Keyword).isEmpty then 0 else 1) < 30)) = true
 line : (apos.endLine == cpos.line) = true
 trees : backTo cpos (starEach [e] X.env) = [(false, eval e X.env)]
structure M2 (X : Cx) (o : Expr) (m : Str) (apos : Pos) (e f : Expr) (cpos : Pos) : Prop where
 base : attributeBase o m X.env (eval o X.env) = eval o X.env
 few : ((backTo cpos (starEach [e, f] X.env)).all (fun x => !x.1) && (backToKw cpos (keywordEach [] X.env)).all (fun x => x.1.isSome)
  && decide (([e, f] : List Expr).length + ([] : List Keyword).length + (if ([] : List Keyword).isEmpty then 0 else 1) < 30)) = true
 line : (apos.endLine == cpos.line) = true
 trees : backTo cpos (starEach [e, f] X.env) = [(false, eval e X.env), (false, eval f X.env)]
def IsD (H : Hp) (a : Addr) : Prop := (∃ kvs, Rd H a (.dK kvs)) \/ ∃ kvs, Rd H a (.dT kvs)
theorem isD_at {X : Cx} {pins : List (Addr × Obj)} {σ : St} {H : Hp} {s : Shared} {a : Addr} (I : Inv X pins σ H s) (d : IsD H a) :
  s.TypeIs (.ref a) "dict" /\ (∀ b, Value.ref a = .ref b -> ∃ ob, s.heap.get? b = some ob /\ ob.dict = none) /\ (a == sysModules) = false := by
 rcases d with ⟨kvs, e⟩ | ⟨kvs, e⟩
 ·obtain ⟨_, hd, vs, _, dd⟩ := dk_rd I.hok e
  refine ⟨dd.typeIs, fun b q => ?_, hd⟩
  cases q
  obtain ⟨ob, _, _, h1, h2, _⟩ := dd
  exact ⟨ob, h1, h2.2.1⟩
 ·obtain ⟨_, hd, xs, _, dd⟩ := dt_rd I.hok e
  refine ⟨dd.typeIs, fun b q => ?_, hd⟩
  cases q
  obtain ⟨ob, _, _, h1, h2, _⟩ := dd
  exact ⟨ob, h1, h2.2.1⟩
section
variable {X : Cx} {pins : List (Addr × Obj)} {σ : St} {H : Hp} {s : Shared} {a : Addr} {y d : V} {u r : Value} {o : Option V} {A : Around} {E : Value -> Shared -> Prop}
theorem d_get2 {Q : Value -> Shared -> Prop} (hu : A.units + 1 < cLine) (I : Inv X pins σ H s) (g : DGet H a y o) (ry : RelV y u) (rd : RelV d r) (h : ∀ w' s', Inv X pins σ H s' -> RelV (o.getD d) w' -> Q w' s') :
  wpAny (model X.prog X.w) A (call (.builtin "dict.get") [.ref a, u, r]) Q E s := by
 rcases g with ⟨kvs, k, e, ey, l⟩ | ⟨kvs, k, b, e, ey, eb, l⟩
 ·subst ey
  obtain ⟨z, hd, vs, rel, dd⟩ := dk_rd I.hok e
  refine call_meetsIn PySem.F.slot_dict_get dd.typeIs PySem.F.entry_dict_get (PySem.F.args_dict_get_3 _ _ _) (meets_dict_get_default (mixKind X.prog X.w) a (kV_is ry) hd r) ⟨_, dd.mapOf, h _ _ (I.tok _) ?_⟩
  rw [l]
  exact (rel.val k).getD rd
 ·subst ey
  cases (show u = Value.ref b from ry)
  obtain ⟨z, hd, xs, rel, dd⟩ := dt_rd I.hok e
  refine call_meetsIn PySem.F.slot_dict_get dd.typeIs PySem.F.entry_dict_get (PySem.F.args_dict_get_3 _ _ _) (meetsH_dict_get_default (tupleKind (mixKind X.prog X.w)) a b hd r) ⟨tupleKind_room_in1 hu, k, xs, key_of I.hok eb, dd, h _ _ (I.tok _) ?_⟩
  rw [l]
  exact (rel.val k).getD rd
end
def tDGet2 (td ty tx : TE) : TE := fun σ H Q => td σ H fun x H1 => ∃ a, x = .ref a /\ IsD H1 a /\ ty σ H1 fun y H2 => tx σ H2 fun z H3 => ∃ o, DGet H3 a y o /\ Q (o.getD z) H3
def tDPop1 (td ty : TE) : TE := fun σ H Q => td σ H fun x H1 => ∃ a, x = .ref a /\ IsD H1 a /\ ty σ H1 fun y H2 => ∃ kvs k v, H2 a = some (.dK kvs) /\ y = kV k /\ valV kvs k = some v /\ Q v (upd H2 a (.dK (dropK kvs k)))
section
variable {X : Cx} {o e f : Expr} {apos cpos : Pos} {td ty tx : TE}
theorem pe_dget2 (hu : X.A.units + 1 < cLine) (ho : PE X o td) (he : PE X e ty) (hf : PE X f tx) (m : M2 X o "get" apos e f cpos) : PE X (.Call (.Attribute o "get" apos) [e, f] [] cpos) (tDGet2 td ty tx) := by
 intro pins s σ H Q I h
 refine wpAny_Call_method m.base m.few m.line PySem.F.plainAttrs_dict PySem.F.slot_dict_get PySem.F.type_dict_get (thn (ho pins s σ H _ I h) fun u s1 ⟨x, H1, I1, rx, a, ex, d, q1⟩ => ?_)
 subst ex
 obtain rfl : u = Value.ref a := rx
 obtain ⟨t1, t2, _⟩ := isD_at I1 d
 refine ⟨t1, t2, ?_⟩
 rw [m.trees]
 refine Calls.callWith_builtin rfl (Calls.evalArgs_plain (Calls.spliced_cons (thn (he pins s1 σ H1 _ I1 q1) fun iv s2 ⟨y, H2, I2, ry, q2⟩ =>
  Calls.spliced_cons (thn (hf pins s2 σ H2 _ I2 q2) fun fv s3 ⟨z, H3, I3, rz, ov, g, q3⟩ => Calls.spliced_nil ?_))))
 exact d_get2 hu I3 g ry rz fun w' s4 I4 rw' => ⟨_, H3, I4, rw', q3⟩
theorem pe_dpop1 (ho : PE X o td) (he : PE X e ty) (m : M1 X o "pop" apos e cpos) : PE X (.Call (.Attribute o "pop" apos) [e] [] cpos) (tDPop1 td ty) := by
 intro pins s σ H Q I h
 refine wpAny_Call_method m.base m.few m.line PySem.F.plainAttrs_dict PySem.F.slot_dict_pop PySem.F.type_dict_pop (thn (ho pins s σ H _ I h) fun u s1 ⟨x, H1, I1, rx, a, ex, d, q1⟩ => ?_)
 subst ex
 obtain rfl : u = Value.ref a := rx
 obtain ⟨t1, t2, _⟩ := isD_at I1 d
 refine ⟨t1, t2, ?_⟩
 rw [m.trees]
 refine Calls.callWith_builtin rfl (Calls.evalArgs_plain (Calls.spliced_cons (thn (he pins s1 σ H1 _ I1 q1) fun iv s2 ⟨y, H2, I2, ry, kvs, k, v, ea, ey, l, q2⟩ => Calls.spliced_nil ?_)))
 subst ey
 exact d_pop I2 ea ry l (.inl rfl) fun w' s3 I3 rw' => ⟨v, _, I3, rw', q2⟩
end
end L2
namespace L2
open PySem PySem.Spec PyProof.Rows
section
variable {X : Cx}
theorem refs_at : ∀ {ps : List Addr} {us : List Value}, Vals (ps.map V.ref) us -> us = ps.map Value.ref
 | [], us, r => by
  rw [List.map_nil] at r
  cases r
  rfl
 | p :: ps, us, r => by
  rw [List.map_cons] at r
  cases r with
  | cons h t =>
   cases h
   rw [List.map_cons, <- refs_at t]
end
end L2
namespace L2
open PySem PySem.Spec PyProof.Rows
section
variable {X : Cx} {pins : List (Addr × Obj)} {σ : St} {H : Hp} {s : Shared} {h' : Heap}
theorem Inv.turnedL {t' : Nat} {ch : List Addr} (I : Inv X pins σ H s) (k : ∀ b o, b ∉ ch -> s.heap.get? b = some o -> h'.get? b = some o) (hf : ∀ b ∈ ch, FpOk X pins H b) : Inv X pins σ H { s with heap := h', toks := t' } := by
 have nit : ∀ b u, H b = some u -> b ∉ ch := fun b u e z => by
  have q := (hf b z).1
  rw [q] at e; cases e
 refine I.step (g' := s.gens) (d' := s.drawn) (ch := ch) (fun b hb => ⟨(hf b hb).2.2.2.1, (hf b hb).2.1, (hf b hb).2.2.2.2.1, (hf b hb).2.2.2.2.2⟩) (fun b o _ _ hc e _ => k b o hc e) (fun b o _ _ hc e _ => ⟨o.slots, k b o hc e⟩)
  (fun _ _ _ _ n => n) (fun b o hc e => ⟨o, k b o hc e⟩) (fun _ _ e => e) (fun _ _ _ e => e) (fun b ps e => ⟨#[], by rw [e]; simp⟩) (fun m hm => ?_) (fun b u e => ?_) I.bare
 ·obtain ⟨o, es, ep, ho, r⟩ := hm
  exact ⟨o, es, ep, k _ o (fun z => (hf _ z).2.1 rfl) ho, r⟩
 ·refine (I.hok b u e).stay (fun c v hc q => k c v ?_ q) (fun _ q => q) fun _ _ q => q
  rcases hc with z | z
  ·rw [z]; exact nit b u e
  ·exact nit c _ z
theorem Inv.turnedNew {t' : Nat} {ch : List Addr} {T : Addr} {ob : HO} (I : Inv X pins σ H s) (k : ∀ b o, b ∉ ch -> s.heap.get? b = some o -> h'.get? b = some o) (hf : ∀ b ∈ ch, FpOk X pins H b) (hT : s.heap.objs.size <= T)
  (new : ObjOk X.prog X.w (upd H T ob) h' T ob) : Inv X pins σ (upd H T ob) { s with heap := h', toks := t' } := by
 have hn : H T = none := I.hok.fresh hT
 have nit : ∀ b u, H b = some u -> b ∉ ch := fun b u e z => by
  have q := (hf b z).1
  rw [q] at e; cases e
 refine I.step (g' := s.gens) (d' := s.drawn) (ch := ch) (fun b hb => ⟨(hf b hb).2.2.2.1, (hf b hb).2.1, (hf b hb).2.2.2.2.1, (hf b hb).2.2.2.2.2⟩) (fun b o _ _ hc e _ => k b o hc e) (fun b o _ _ hc e _ => ⟨o.slots, k b o hc e⟩)
  (fun b o _ e n => ?_) (fun b o hc e => ⟨o, k b o hc e⟩) (fun b xs e => ?_) (fun b o u e => ?_) (fun b ps e => ⟨#[], ?_⟩) (fun m hm => ?_) (fun b u e => ?_) I.bare
 ·rw [upd_ne (Nat.ne_of_lt (Nat.lt_of_lt_of_le (Heap.lt_size e) hT))]; exact n
 ·rw [upd_ne (ne_of_none e hn)]; exact e
 ·rw [upd_ne (ne_of_none e hn)]; exact e
 ·rw [upd_ne (ne_of_none e hn), e]; simp
 ·obtain ⟨o, es, ep, ho, r⟩ := hm
  exact ⟨o, es, ep, k _ o (fun z => (hf _ z).2.1 rfl) ho, r⟩
 ·by_cases hb : b = T
  ·subst hb
   rw [upd_same] at e
   cases e
   exact new
  ·rw [upd_ne hb] at e
   refine (I.hok b u e).stay (fun c v hc q => k c v ?_ q) (fun c q => by rw [upd_ne (ne_of_none q hn)]; exact q) fun c xs q => by rw [upd_ne (ne_of_none q hn)]; exact q
   rcases hc with z | z
   ·rw [z]; exact nit b u e
   ·exact nit c _ z
theorem Inv.lock {d : Addr} {u : HO} (I : Inv X pins σ H s) (h : H d = some u) (mu : Mut (some u)) : ∃ od, Inv X pins σ (upd H d (.frz od u)) s := by
 have x := I.hok d u h
 have ex : ∃ od, s.heap.get? d = some od := by
  cases u with
  | lst xs => obtain ⟨_, _, _, _, e⟩ := x; exact ⟨_, e⟩
  | dK kvs => obtain ⟨_, _, _, _, o, _, _, e, _⟩ := x; exact ⟨o, e⟩
  | dT kvs => obtain ⟨_, _, _, _, o, _, _, e, _⟩ := x; exact ⟨o, e⟩
  | set S n => obtain ⟨o, _, _, _, e, _⟩ := x; exact ⟨o, e⟩
  | ins C dx fs => obtain ⟨_, _, _, e, _⟩ := x; exact ⟨_, e⟩
  | ext φ => obtain ⟨_, ⟨_, e⟩, _⟩ := x; exact ⟨_, e⟩
  | _ => exact False.elim mu
 obtain ⟨od, e⟩ := ex
 have new : ObjOk X.prog X.w (upd H d (.frz od u)) s.heap d (.frz od u) := by
  refine ⟨e, x.stay (fun b v _ q => q) (fun b q => ?_) fun b xs q => ?_⟩
  ·rw [upd_ne (fun z => by rw [z, h] at q; cases q; exact mu)]; exact q
  ·rw [upd_ne (fun z => by rw [z, h] at q; cases q; exact mu)]; exact q
 exact ⟨od, I.write (x := d) (e := d) (t' := s.toks) (h' := s.heap) (by rw [h]; exact mu) (.inl rfl) (fun b v _ q => q) ⟨od, e⟩ new⟩
theorem Inv.nofrz {d : Addr} {u : HO} (I : Inv X pins σ H s) (h : H d = some u) (mu : Mut (some u)) : ∀ o' u', X.H_0 d ≠ some (.frz o' u') := fun o' u' e => by
 have q := I.base.frzs d o' u' e
 rw [h] at q
 cases q
 exact mu
theorem Inv.unlock {d : Addr} {od : Obj} {u : HO} (I : Inv X pins σ H s) (h : H d = some (.frz od u)) (hn : ∀ o' u', X.H_0 d ≠ some (.frz o' u')) : Inv X pins σ (upd H d u) s := by
 have neH : ∀ b o, H b = some o -> (∀ o' u', o ≠ .frz o' u') -> b ≠ d := fun b o e hne z => by
  rw [z, h] at e
  cases e
  exact hne _ _ rfl
 have neN : ∀ b, H b = none -> b ≠ d := fun b e z => by rw [z, h] at e; cases e
 refine ⟨I.ok, I.os, I.bare, ⟨I.base.keep, I.base.slot, fun b o e n hx => ?_, I.base.there, fun b xs e => ?_, fun b o x e => ?_, fun b ps e => ?_⟩, I.loc, I.cell, ?_, fun x c e => ?_, fun p hp => ?_, fun b o e => ?_, I.len⟩
 ·rw [upd_ne (neN b (I.base.free b o e n hx))]; exact I.base.free b o e n hx
 ·have q := I.base.tups b xs e
  rw [upd_ne (neH b _ q (fun _ _ z => nomatch z))]; exact q
 ·have q := I.base.frzs b o x e
  rw [upd_ne (fun z => by rw [z] at e; exact hn _ _ e)]; exact q
 ·obtain ⟨m, q⟩ := I.base.tbls b ps e
  exact ⟨m, by rw [upd_ne (neH b _ q (fun _ _ z => nomatch z))]; exact q⟩
 ·rw [upd_ne (neN _ I.free)]; exact I.free
 ·rw [upd_ne (neN c (I.freeC x c e))]; exact I.freeC x c e
 ·obtain ⟨e, n, r⟩ := I.pin p hp
  exact ⟨e, by rw [upd_ne (neN _ n)]; exact n, r⟩
 ·by_cases hb : b = d
  ·rw [hb, upd_same] at e
   cases e
   rw [hb]
   obtain ⟨_, x⟩ := I.hok d _ h
   exact x.stay (fun c v _ q => q) (fun c q => by rw [upd_ne (neH c _ q (fun _ _ z => nomatch z))]; exact q) fun c xs q => by rw [upd_ne (neH c _ q (fun _ _ z => nomatch z))]; exact q
  ·rw [upd_ne hb] at e
   exact (I.hok b o e).stay (fun c v _ q => q) (fun c q => by rw [upd_ne (neH c _ q (fun _ _ z => nomatch z))]; exact q) fun c xs q => by rw [upd_ne (neH c _ q (fun _ _ z => nomatch z))]; exact q
end
def tLock (t : TS) : TS := fun D σ H => ∃ d u, H d = some u /\ Mut (some u) /\ ∀ od, t ⟨fun σ' H' => H' d = some (.frz od u) /\ D.nx σ' (upd H' d u), fun v H' => H' d = some (.frz od u) /\ D.rt v (upd H' d u), fun σ' H' => H' d = some (.frz od u) /\ D.bk σ' (upd H' d u), fun σ' H' => H' d = some (.frz od u) /\ D.ct σ' (upd H' d u)⟩ σ (upd H d (.frz od u))
def tLockE (t : TE) : TE := fun σ H Q => ∃ d u, H d = some u /\ Mut (some u) /\ ∀ od, t σ (upd H d (.frz od u)) fun v H' => H' d = some (.frz od u) /\ Q v (upd H' d u)
section
variable {X : Cx}
theorem ps_lock {st : Stmt} {t : TS} (h : PS X st t) : PS X st (tLock t) := by
 intro pins s σ H D I hw
 obtain ⟨d, u, hd, mu, hw⟩ := hw
 obtain ⟨od, I1⟩ := I.lock hd mu
 refine thn (h pins s σ _ _ I1 (hw od)) fun f s1 q => ?_
 cases f with
 | next => obtain ⟨σ', H', I2, e, q⟩ := q; exact ⟨σ', _, I2.unlock e (I.nofrz hd mu), q⟩
 | brk => obtain ⟨σ', H', I2, e, q⟩ := q; exact ⟨σ', _, I2.unlock e (I.nofrz hd mu), q⟩
 | cont => obtain ⟨σ', H', I2, e, q⟩ := q; exact ⟨σ', _, I2.unlock e (I.nofrz hd mu), q⟩
 | ret v => obtain ⟨x, σ', H', I2, r, e, q⟩ := q; exact ⟨x, σ', _, I2.unlock e (I.nofrz hd mu), r, q⟩
theorem pe_lock {e : Expr} {t : TE} (h : PE X e t) : PE X e (tLockE t) := by
 intro pins s σ H Q I hw
 obtain ⟨d, u, hd, mu, hw⟩ := hw
 obtain ⟨od, I1⟩ := I.lock hd mu
 refine thn (h pins s σ _ _ I1 (hw od)) fun v s1 ⟨x, H1, I2, r, e2, q⟩ => ?_
 exact ⟨x, _, I2.unlock e2 (I.nofrz hd mu), r, q⟩
theorem pi_one {tg : Expr} {pins : List (Addr × Obj)} {σ : St} {H : Hp} {s : Shared} {R : It -> Hp -> Prop} {J : It} {tn : Nat -> Heap -> Prop} {tk : Nat} (I : Inv X pins σ H s) (o : Obj)
  (T : Turn X.prog X.w X.K tg J [s.heap.objs.size] s.heap.objs.size tn) (st : tn 0 (s.heap.push o)) (q : R J H) : PIE X pins σ tg R (.ref s.heap.objs.size) { s with heap := s.heap.push o, toks := tk } := by
 refine ⟨s.heap.objs.size, [s.heap.objs.size], tn, J, H, rfl, I.kept fun b ob e => Heap.get?_push_of_some _ e, T, st, fun b hb => ?_, q⟩
 have e : b = s.heap.objs.size := by simpa using hb
 subst e
 exact I.fpOk (Nat.le_refl _) (I.hok.fresh (Nat.le_refl _))
end
section
variable {prog : Program} {w : World} {A : Around} {E : Value -> Shared -> Prop} {s : Shared}
theorem iter_keys {d : Addr} {o : Obj} {es : Array DictEntry} {ep : Nat} {Q : Value -> Shared -> Prop} (hd : (d == sysModules) = false) (ho : s.heap.get? d = some o) (hc : o.ExactDict) (hdat : o.data = .dict es ep)
  (hQ : Q (.ref s.heap.objs.size) { s with heap := s.heap.push { cls := .type "dict_keyiterator", data := .fields #[.ref d, .int 0 0, .int es.size 0, .int ep 0] } }) :
  wpAny (model prog w) A (pyIter (.ref d)) Q E s := by
 have hT : s.TypeIs (.ref d) "dict" := ⟨o, ho, hc.1⟩
 refine wpAny_pyIter_slot hT F.slot_dict_iter (wpAny_call_entry F.slot_dict_iter hT F.entry_dict_iter ?_ (F.args_dict_iter_1 _))
 unfold Builtin.«dict.__iter__»
 refine wpAny_bind ?_
 unfold Builtin.Dict.dictSlotNone
 refine wpAny_bind (wpAny_notOrdered_dict hT ?_)
 show wpAny _ _ (pure (Value.ref d)) _ _ s
 refine wpAny_pure ?_
 show wpAny _ _ (Builtin.Dict.showsAll d >>= _) _ _ s
 unfold Builtin.Dict.showsAll
 rw [if_neg (by rw [hd]; exact Bool.false_ne_true)]
 refine wpAny_bind (wpAny_pure ?_)
 refine wpAny_bind (wpAny_dictEntries ho hdat ?_)
 refine wpAny_bind (wpAny_dictEpoch ho hdat ?_)
 refine wpAny_bind (wpAny_newObj_type (wpAny_pure ⟨_, rfl, "dict_keyiterator", _, ⟨_, Heap.get?_push_size _ rfl, rfl⟩, F.slot_dict_keyiterator_next.lookup, ?_⟩))
 simpa [rawInt] using hQ
theorem next_key_item {it d : Addr} {i n ep : Nat} {od : Obj} {es : Array DictEntry} {en : DictEntry} {Q : Option Value -> Shared -> Prop} (hit : s.heap.IsKeyIter it d i n ep) (hod : s.heap.get? d = some od) (hdd : od.data = .dict es ep)
  (hsz : es.size = n) (hx : es[i]? = some en) (hQ : ∀ h', h'.IsKeyIter it d (i + 1) n ep -> Heap.SameBut it s.heap h' -> Q (some en.key) { s with heap := h' }) : wpAny (model prog w) A (pyNext (.ref it)) Q E s := by
 obtain ⟨o, ho, hc, hd⟩ := id hit
 unfold pyNext
 refine wpAny_bind (wpAny_attempt (wpAny_callSpecial?_slot (name := Str.ofString "__next__") hit.typeIs F.slot_dict_keyiterator_next
  (wpAny_call_entry F.slot_dict_keyiterator_next hit.typeIs F.entry_dict_keyiterator_next ?_ (F.args_dict_keyiterator_next_1 _))))
 refine wpAny_bind (wpAny_pure ?_)
 refine wpAny_bind ?_
 refine wpAny_bind ?_
 first | refine wpAny_bind (wpAny_typeNameOfWhole_keyiter hit.typeIs (wpAny_pure ?_)) | refine wpAny_bind (wpAny_typeNameOf_keyiter hit.typeIs (wpAny_pure ?_))
 refine wpAny_bind (wpAny_fieldsOf ho hd ?_)
 have hown : Builtin.Dict_items.ownsTuple "dict_keyiterator" = false := by decide
 simp only [hown, Bool.false_eq_true, if_false]
 show wpAny _ _ (if (Value.ref d == Value.none) = true then _ else _) _ _ s
 rw [if_neg (show ¬ ((Value.ref d == Value.none) = true) from Bool.false_ne_true)]
 refine wpAny_bind (wpAny_pure ?_)
 refine wpAny_bind (wpAny_dictEntries hod hdd ?_)
 rw [if_neg (by rw [hsz]; simp)]
 refine wpAny_bind (wpAny_pure ?_)
 refine wpAny_bind (wpAny_dictEpoch hod hdd ?_)
 rw [if_neg (by simp)]
 refine wpAny_pure ?_
 obtain ⟨hlt', hen⟩ := Array.getElem?_eq_some_iff.mp hx
 simp only [show ¬ ((i : Int) < 0) from by omega, if_false, Int.toNat_natCast, Array.getElem?_eq_getElem hlt']
 refine wpAny_bind ?_
 first | refine wpAny_bind (wpAny_typeNameOfWhole_keyiter hit.typeIs (wpAny_pure ?_)) | refine wpAny_bind (wpAny_typeNameOf_keyiter hit.typeIs (wpAny_pure ?_))
 refine wpAny_bind (wpAny_isOneOf_keyiter hit.typeIs ?_)
 show wpAny _ _ (setField (.ref it) 1 (rawInt ((i : Int) + 1)) >>= _) _ _ s
 refine wpAny_bind (wpAny_setField ho hd (by simp) ?_)
 have hit' : (s.heap.update it (Obj.mapFields (·.setIfInBounds 1 (rawInt ((i : Int) + 1))))).IsKeyIter it d (i + 1) n ep :=
  ⟨_, Heap.get?_update_self _ ho (Obj.isFreed_of_fields (Obj.data_mapFields hd _)), (Obj.cls_mapFields ..).trans hc, by rw [Obj.data_mapFields hd]; simp [rawInt]⟩
 refine wpAny_bind (wpAny_holding ?_)
 refine wpAny_bind (wpAny_isOneOf_keyiter (s := { s with heap := s.heap.update it (Obj.mapFields (·.setIfInBounds 1 (rawInt ((i : Int) + 1)))) }) hit'.typeIs ?_)
 show wpAny _ _ (pure es[i].key) _ _ _
 rw [hen]
 exact wpAny_pure (wpAny_pure ⟨_, rfl, wpAny_pure (hQ _ hit' (Heap.SameBut.update ..))⟩)
theorem next_key_end {it d : Addr} {i n ep : Nat} {od : Obj} {es : Array DictEntry} {Q : Option Value -> Shared -> Prop} (hh : A.handled = none) (hit : s.heap.IsKeyIter it d i n ep) (hod : s.heap.get? d = some od) (hdd : od.data = .dict es ep)
  (hsz : es.size = n) (hge : n <= i) (hQ : ∀ h', Heap.ExtBut it s.heap h' -> Q none { s with heap := h' }) : wpAny (model prog w) A (pyNext (.ref it)) Q E s := by
 obtain ⟨o, ho, hc, hd⟩ := id hit
 unfold pyNext
 refine wpAny_bind (wpAny_attempt (wpAny_callSpecial?_slot (name := Str.ofString "__next__") hit.typeIs F.slot_dict_keyiterator_next
  (wpAny_call_entry F.slot_dict_keyiterator_next hit.typeIs F.entry_dict_keyiterator_next ?_ (F.args_dict_keyiterator_next_1 _))))
 refine wpAny_bind (wpAny_pure ?_)
 refine wpAny_bind ?_
 refine wpAny_bind ?_
 first | refine wpAny_bind (wpAny_typeNameOfWhole_keyiter hit.typeIs (wpAny_pure ?_)) | refine wpAny_bind (wpAny_typeNameOf_keyiter hit.typeIs (wpAny_pure ?_))
 refine wpAny_bind (wpAny_fieldsOf ho hd ?_)
 have hown : Builtin.Dict_items.ownsTuple "dict_keyiterator" = false := by decide
 simp only [hown, Bool.false_eq_true, if_false]
 show wpAny _ _ (if (Value.ref d == Value.none) = true then _ else _) _ _ s
 rw [if_neg (show ¬ ((Value.ref d == Value.none) = true) from Bool.false_ne_true)]
 refine wpAny_bind (wpAny_pure ?_)
 refine wpAny_bind (wpAny_dictEntries hod hdd ?_)
 rw [if_neg (by rw [hsz]; simp)]
 refine wpAny_bind (wpAny_pure ?_)
 refine wpAny_bind (wpAny_dictEpoch hod hdd ?_)
 rw [if_neg (by simp)]
 refine wpAny_pure ?_
 have hge' : es.size <= i := by rw [hsz]; exact hge
 simp only [show ¬ ((i : Int) < 0) from by omega, if_false, Int.toNat_natCast, Array.getElem?_eq_none hge']
 refine wpAny_bind ?_
 first | refine wpAny_bind (wpAny_typeNameOfWhole_keyiter hit.typeIs (wpAny_pure ?_)) | refine wpAny_bind (wpAny_typeNameOf_keyiter hit.typeIs (wpAny_pure ?_))
 show wpAny _ _ (setField (.ref it) 0 .none >>= _) _ _ s
 refine wpAny_bind (wpAny_setField ho hd (by simp) ?_)
 show wpAny _ _ (newExc (.type "StopIteration") [] >>= _) _ _ _
 refine wpAny_bind ?_
 simp only [newExc, newTuple]
 refine wpAny_bind (wpAny_newObj_type ?_ (by size_fits))
 refine wpAny_bind (m := firstArgMember _ _) (wpAny_of_eq (a := Value.none) (by first | rfl | (simp only [firstArgMember]; rfl)) ?_)
 refine wpAny_newObj_type ?_ (by size_fits)
 simp only [raiseNew]
 refine wpAny_bind (wpAny_handled ?_)
 rw [show A.in1.handled = none from hh]
 refine wpAny_bind (wpAny_pure (wpAny_throw ?_))
 refine wpAny_bind (wpAny_isInstance (T := "StopIteration") (b := true) ⟨_, Heap.get?_push_size _ rfl, rfl⟩ isSubtype_stop ?_)
 exact wpAny_pure (hQ _ (((Heap.SameBut.update ..).extBut.push _).push _))
end
theorem kv_get {κ : Type} {kvs : List (κ × V)} {vs : List (κ × Value)} (h : KV kvs vs) : ∀ {i : Nat} {k : κ} {v : V}, kvs[i]? = some (k, v) -> ∃ u, vs[i]? = some (k, u) /\ RelV v u := by
 unfold KV at h
 induction h with
 | nil => intro i k v e; simp at e
 | @cons a b l₁ l₂ r t ih =>
  intro i k v e
  cases i with
  | zero =>
   simp only [List.getElem?_cons_zero, Option.some.injEq] at e
   subst e
   refine ⟨b.2, ?_, r.2⟩
   simp only [List.getElem?_cons_zero]
   exact congrArg some (Prod.ext r.1.symm rfl)
  | succ j =>
   simp only [List.getElem?_cons_succ] at e ⊢
   exact ih e
theorem paired_get {α β : Type} {G : α -> β -> Prop} {l₁ : List α} {l₂ : List β} (h : Paired G l₁ l₂) : ∀ {i : Nat} {a : α}, l₁[i]? = some a -> ∃ b, l₂[i]? = some b /\ G a b := by
 induction h with
 | nil => intro i a e; simp at e
 | @cons a b l₁ l₂ r t ih =>
  intro i a' e
  cases i with
  | zero =>
   simp only [List.getElem?_cons_zero, Option.some.injEq] at e
   subst e
   exact ⟨b, rfl, r⟩
  | succ j =>
   simp only [List.getElem?_cons_succ] at e ⊢
   exact ih e
theorem relV_key {k : Key} {u : Value} (h : keyIs k u = true) : RelV (kV k) u := by
 rcases keyIs_shape h with ⟨i, t, rfl, rfl⟩ | ⟨x, t, rfl, rfl⟩
 ·exact ⟨t, rfl⟩
 ·exact ⟨t, rfl⟩
section
variable {X : Cx} {pins : List (Addr × Obj)} {σ : St} {H : Hp} {s : Shared} {d : Addr} {o : Obj}
theorem Inv.frzK {kvs : List (Key × V)} (I : Inv X pins σ H s) (h : H d = some (.frz o (.dK kvs))) :
  (d == sysModules) = false /\ s.heap.get? d = some o /\ o.ExactDict /\ ∃ (es : Array DictEntry) (ep : Nat) (vs : List (Key × Value)), o.data = .dict es ep /\ es.size = kvs.length /\ KV kvs vs /\ s.heap.DictAt (mixKind X.prog X.w) d vs ep := by
 obtain ⟨hd, z, hs, vs, kv, o', es, ep, ho, hx, hdt, r⟩ := I.hok d _ h
 rw [hd] at ho
 cases ho
 refine ⟨hs, hd, hx, es, ep, vs, hdt, ?_, kv, o, es, hd, hx, hdt, r⟩
 have l1 := r.2.1.length
 have l2 : kvs.length = vs.length := Paired.length kv
 rw [Array.length_toList] at l1
 omega
theorem Inv.frzT {kvs : List (List Key × V)} (I : Inv X pins σ H s) (h : H d = some (.frz o (.dT kvs))) :
  (d == sysModules) = false /\ s.heap.get? d = some o /\ o.ExactDict /\ ∃ (es : Array DictEntry) (ep : Nat), o.data = .dict es ep /\ es.size = kvs.length /\
   ∀ (i : Nat) (k : List Key) (v : V), kvs[i]? = some (k, v) -> ∃ (en : DictEntry) (q : Addr), es[i]? = some en /\ en.key = .ref q /\ H q = some (.tup (k.map kV)) := by
 obtain ⟨hd, z, hs, xs, pr, o', es, ep, ho, hx, hdt, he, _⟩ := I.hok d _ h
 rw [hd] at ho
 cases ho
 refine ⟨hs, hd, hx, es, ep, hdt, ?_, fun i k v e => ?_⟩
 ·have l1 : es.size = xs.length := size_of_entries he
  have l2 : kvs.length = xs.length := Paired.length pr
  omega
 ·obtain ⟨b, hb, e1, e2, _⟩ := paired_get pr e
  have q := entry_at he i
  rw [hb] at q
  exact ⟨_, b.2.1, q, rfl, e2⟩
end
def Itk (d : Addr) (o : Obj) (kvs : List (Key × V)) : It :=
 ⟨fun i H => H d = some (.frz o (.dK kvs)) /\ i < kvs.length, fun i H x H' => H' = H /\ ∃ k v, kvs[i]? = some (k, v) /\ x = kV k, fun i H => H d = some (.frz o (.dK kvs)) /\ kvs.length <= i⟩
def Itkt (d : Addr) (o : Obj) (kvs : List (List Key × V)) : It :=
 ⟨fun i H => H d = some (.frz o (.dT kvs)) /\ i < kvs.length, fun i H x H' => H' = H /\ ∃ (k : List Key) (v : V) (q : Addr), kvs[i]? = some (k, v) /\ x = .ref q /\ H q = some (.tup (k.map kV)), fun i H => H d = some (.frz o (.dT kvs)) /\ kvs.length <= i⟩
def Iti (d : Addr) (o : Obj) (kvs : List (Key × V)) : It :=
 ⟨fun i H => H d = some (.frz o (.dK kvs)) /\ i < kvs.length, fun i H x H' => ∃ T k v, kvs[i]? = some (k, v) /\ x = .ref T /\ H T = none /\ H' = upd H T (.tup [kV k, v]), fun i H => H d = some (.frz o (.dK kvs)) /\ kvs.length <= i⟩
theorem dict_ep {o : Obj} {es es' : Array DictEntry} {ep ep' : Nat} (h : o.data = .dict es ep) (h' : o.data = .dict es' ep') : es' = es /\ ep' = ep := by
 rw [h] at h'
 cases h'
 exact ⟨rfl, rfl⟩
section
variable {P : Program} {w : World} {K : PySem.W.Frag} {tg : Expr} {d : Addr} {o : Obj} {es : Array DictEntry} {ep : Nat}
theorem turn_keys {kvs : List (Key × V)} (it : Addr) (hod : o.data = .dict es ep) : Turn P w K tg (Itk d o kvs) [it] it (fun i h => h.IsKeyIter it d i kvs.length ep) where
 mem := by simp
 obj := fun i h st b hb => by
  have e : b = it := by simpa using hb
  subst e
  obtain ⟨oi, e, c, dd⟩ := st
  exact ⟨oi, e, fun v z => by rw [dd] at z; cases z⟩
 keep := fun i h h' st k => st.at fun oi e => k it (by simp) oi e
 item := by
  intro X hP hw hK hc i pins s σ H E I hf st hg
  subst hP hw hK
  obtain ⟨hd, hi⟩ := hg
  obtain ⟨f0, f1, f2, f3, f4, f5⟩ := hf it (by simp)
  obtain ⟨hs, hgd, hx, es', ep', vs, hdt, hsz, kv, hm⟩ := I.frzK hd
  obtain ⟨rfl, rfl⟩ := dict_ep hod hdt
  obtain ⟨⟨k, v⟩, hkv⟩ : ∃ p, kvs[i]? = some p := ⟨kvs[i], List.getElem?_eq_getElem hi⟩
  obtain ⟨u, hu, ru⟩ := kv_get kv hkv
  have hl : kvs.length = vs.length := Paired.length kv
  rw [hl] at st
  refine wpAny_pyNext_dict_item st hm hu fun key h' hkey st' sb => ?_
  have I1 : Inv X pins σ H { s with heap := h' } := I.turned (t' := s.toks) (fun b ob hb e => (sb.2 b hb).trans e) f0 f1 f3 f4 f5
  obtain ⟨oi, e, c, dd⟩ := id st'
  refine ⟨key, rfl, go_of (s := { s with heap := h' }) e c dd (by decide) ⟨kV k, H, I1, relV_key (show keyIs k key = true from hkey), ⟨rfl, k, v, hkv, rfl⟩, ?_, fun b hb => (hf b hb).1⟩⟩
  show h'.IsKeyIter it d (i + 1) kvs.length _
  rw [hl]
  exact st'
 done := by
  intro X hP hw hK hc i pins s σ H E I hf st hg
  subst hP hw hK
  obtain ⟨hd, hi⟩ := hg
  obtain ⟨f0, f1, f2, f3, f4, f5⟩ := hf it (by simp)
  obtain ⟨hs, hgd, hx, es', ep', vs, hdt, hsz, kv, hm⟩ := I.frzK hd
  obtain ⟨rfl, rfl⟩ := dict_ep hod hdt
  exact next_key_end (I.ok.hd hc) st hgd hdt hsz hi fun h' eb => ⟨rfl, I.turned (t' := s.toks) (fun b ob hb e => eb b ob hb e) f0 f1 f3 f4 f5⟩
 self := fun A i s Q E st h => wpAny_pyIter_keyiter st h
theorem turn_keysT {kvs : List (List Key × V)} (it : Addr) (hod : o.data = .dict es ep) : Turn P w K tg (Itkt d o kvs) [it] it (fun i h => h.IsKeyIter it d i kvs.length ep) where
 mem := by simp
 obj := fun i h st b hb => by
  have e : b = it := by simpa using hb
  subst e
  obtain ⟨oi, e, c, dd⟩ := st
  exact ⟨oi, e, fun v z => by rw [dd] at z; cases z⟩
 keep := fun i h h' st k => st.at fun oi e => k it (by simp) oi e
 item := by
  intro X hP hw hK hc i pins s σ H E I hf st hg
  subst hP hw hK
  obtain ⟨hd, hi⟩ := hg
  obtain ⟨f0, f1, f2, f3, f4, f5⟩ := hf it (by simp)
  obtain ⟨hs, hgd, hx, es', ep', hdt, hsz, ent⟩ := I.frzT hd
  obtain ⟨rfl, rfl⟩ := dict_ep hod hdt
  obtain ⟨⟨k, v⟩, hkv⟩ : ∃ p, kvs[i]? = some p := ⟨kvs[i], List.getElem?_eq_getElem hi⟩
  obtain ⟨en, q, hen, hkey, hq⟩ := ent i k v hkv
  refine next_key_item st hgd hdt hsz hen fun h' st' sb => ?_
  have I1 : Inv X pins σ H { s with heap := h' } := I.turned (t' := s.toks) (fun b ob hb e => (sb.2 b hb).trans e) f0 f1 f3 f4 f5
  obtain ⟨oi, e, c, dd⟩ := id st'
  exact ⟨en.key, rfl, go_of (s := { s with heap := h' }) e c dd (by decide) ⟨.ref q, H, I1, hkey, ⟨rfl, k, v, q, hkv, rfl, hq⟩, st', fun b hb => (hf b hb).1⟩⟩
 done := by
  intro X hP hw hK hc i pins s σ H E I hf st hg
  subst hP hw hK
  obtain ⟨hd, hi⟩ := hg
  obtain ⟨f0, f1, f2, f3, f4, f5⟩ := hf it (by simp)
  obtain ⟨hs, hgd, hx, es', ep', hdt, hsz, ent⟩ := I.frzT hd
  obtain ⟨rfl, rfl⟩ := dict_ep hod hdt
  exact next_key_end (I.ok.hd hc) st hgd hdt hsz hi fun h' eb => ⟨rfl, I.turned (t' := s.toks) (fun b ob hb e => eb b ob hb e) f0 f1 f3 f4 f5⟩
 self := fun A i s Q E st h => by
  refine wpAny_pyIter_slot st.typeIs F.slot_dict_keyiterator_iter (wpAny_call_entry F.slot_dict_keyiterator_iter st.typeIs F.entry_dict_keyiterator_iter ?_ (F.args_dict_keyiterator_iter_1 _))
  show wpAny _ _ (ret (.ref it)) _ _ s
  exact wpAny_pure ⟨_, rfl, "dict_keyiterator", _, st.typeIs, F.slot_dict_keyiterator_next.lookup, h⟩
theorem turn_items {kvs : List (Key × V)} {elts : List Expr} {kk : Nat} {tpos : Pos} (it : Addr) (hod : o.data = .dict es ep) :
  Turn P w K (.Tuple elts kk tpos) (Iti d o kvs) [it] it (fun i h => ∃ ok ov, IsItemIter h it d i kvs.length ep ok ov) where
 mem := by simp
 obj := fun i h st b hb => by
  have e : b = it := by simpa using hb
  subst e
  obtain ⟨ok, ov, e⟩ := st
  exact ⟨_, e, fun v z => nomatch z⟩
 keep := fun i h h' st k => let ⟨ok, ov, e⟩ := st; ⟨ok, ov, k it (by simp) _ e⟩
 item := by
  intro X hP hw hK hc i pins s σ H E I hf st hg
  subst hP hw hK
  obtain ⟨hd, hi⟩ := hg
  obtain ⟨hs, hgd, hx, es', ep', vs, hdt, hsz, kv, hm⟩ := I.frzK hd
  obtain ⟨rfl, rfl⟩ := dict_ep hod hdt
  obtain ⟨⟨k, v⟩, hkv⟩ : ∃ p, kvs[i]? = some p := ⟨kvs[i], List.getElem?_eq_getElem hi⟩
  obtain ⟨u, hu, ru⟩ := kv_get kv hkv
  have hl : kvs.length = vs.length := Paired.length kv
  obtain ⟨ok, ov, he⟩ := st
  rw [hl] at he
  have hlt : it < s.heap.objs.size := Heap.lt_size he
  refine wpAny_pyNext_items_item he hm hu fun key h' hkey ho hT hz hk => ?_
  refine ⟨_, rfl, wpAny_letOwnedTupleGo_items (s := { s with heap := h' }) ho fun h'' he' sb => ?_⟩
  have hT2 : h''.get? s.heap.objs.size = some { cls := .type "tuple", data := .seq #[key, u] } := (sb.2 _ (Nat.ne_of_gt hlt)).trans hT
  have new : ObjOk X.prog X.w (upd H s.heap.objs.size (.tup [kV k, v])) h'' s.heap.objs.size (.tup [kV k, v]) :=
   ⟨by show 2 <= sizeLine; decide, [key, u], .cons (relV_key (show keyIs k key = true from hkey)) (.cons ru .nil), ⟨_, hT2, rfl, _, rfl⟩⟩
  have I1 : Inv X pins σ (upd H s.heap.objs.size (.tup [kV k, v])) { s with heap := h'' } :=
   I.turnedNew (t' := s.toks) (ch := [it]) (fun b ob hb e => (sb.2 b (by simpa using hb)).trans (hk b ob (by simpa using hb) e)) hf (Nat.le_refl _) new
  refine ⟨.ref s.heap.objs.size, _, I1, rfl, ⟨_, k, v, hkv, rfl, I.hok.fresh (Nat.le_refl _), rfl⟩, ⟨key, u, ?_⟩, fun b hb => ?_⟩
  ·rw [hl]; exact he'
  ·have e : b = it := by simpa using hb
   rw [e, upd_ne (Nat.ne_of_lt hlt)]
   exact (hf it (by simp)).1
 done := by
  intro X hP hw hK hc i pins s σ H E I hf st hg
  subst hP hw hK
  obtain ⟨hd, hi⟩ := hg
  obtain ⟨f0, f1, f2, f3, f4, f5⟩ := hf it (by simp)
  obtain ⟨hs, hgd, hx, es', ep', vs, hdt, hsz, kv, hm⟩ := I.frzK hd
  obtain ⟨rfl, rfl⟩ := dict_ep hod hdt
  have hl : kvs.length = vs.length := Paired.length kv
  obtain ⟨ok, ov, he⟩ := st
  rw [hl] at he
  exact wpAny_pyNext_items_end (I.ok.hd hc) he hm (List.getElem?_eq_none (by omega)) fun h' eb => ⟨rfl, I.turned (t' := s.toks) (fun b ob hb e => eb b ob hb e) f0 f1 f3 f4 f5⟩
 self := fun A i s Q E st h => let ⟨_, _, e⟩ := st; PySem.W.kcp_self e h
end
def iKeys (td : TE) : TI := fun σ H R => td σ H fun x H1 => ∃ d o, x = .ref d /\ ((∃ kvs, H1 d = some (.frz o (.dK kvs)) /\ R (Itk d o kvs) H1) \/ ∃ kvs, H1 d = some (.frz o (.dT kvs)) /\ R (Itkt d o kvs) H1)
def iItems (td : TE) : TI := fun σ H R => td σ H fun x H1 => ∃ d o kvs, x = .ref d /\ H1 d = some (.frz o (.dK kvs)) /\ R (Iti d o kvs) H1
section
variable {X : Cx} {tg e : Expr} {td : TE} {apos cpos : Pos}
theorem pi_keys (he : PE X e td) : PI X tg e (iKeys td) := by
 intro pins s σ H R I h
 refine thn (he pins s σ H _ I h) fun u s1 ⟨x, H1, I1, rx, d, o, ex, q⟩ => ?_
 subst ex
 obtain rfl : u = Value.ref d := rx
 rcases q with ⟨kvs, hd, q⟩ | ⟨kvs, hd, q⟩
 ·obtain ⟨hs, hgd, hx, es, ep, vs, hdt, hsz, kv, hm⟩ := I1.frzK hd
  refine iter_keys hs hgd hx hdt (pi_one (tk := s1.toks) I1 _ (turn_keys _ hdt) ⟨_, Heap.get?_push_size _ rfl, rfl, ?_⟩ q)
  rw [hsz] <;> rfl
 ·obtain ⟨hs, hgd, hx, es, ep, hdt, hsz, ent⟩ := I1.frzT hd
  refine iter_keys hs hgd hx hdt (pi_one (tk := s1.toks) I1 _ (turn_keysT _ hdt) ⟨_, Heap.get?_push_size _ rfl, rfl, ?_⟩ q)
  rw [hsz] <;> rfl
theorem pi_items {elts : List Expr} {kk : Nat} {tpos : Pos} (he : PE X e td) (hbase : attributeBase e "items" X.env (eval e X.env) = eval e X.env := by rfl) (hline : (apos.endLine == cpos.line) = true := by rfl) :
  PI X (.Tuple elts kk tpos) (.Call (.Attribute e "items" apos) [] [] cpos) (iItems td) := by
 intro pins s σ H R I h
 refine wpAny_Call_method (T := "dict") (id := "dict.items") hbase rfl hline F.plainAttrs_dict F.slot_dict_items F.type_dict_items (thn (he pins s σ H _ I h) fun u s1 ⟨x, H1, I1, rx, d, o, kvs, ex, hd, q⟩ => ?_)
 subst ex
 obtain rfl : u = Value.ref d := rx
 obtain ⟨hs, hgd, hx, es, ep, vs, hdt, hsz, kv, hm⟩ := I1.frzK hd
 have hl : kvs.length = vs.length := Paired.length kv
 refine ⟨hm.dictOf.typeIs, hm.dictOf.mapOf.noDict, ?_⟩
 have I2 : Inv X pins σ H1 { s1 with heap := s1.heap.push { cls := .type "dict_items", data := .fields #[.ref d] } } := I1.kept (t' := s1.toks) fun b ob q => Heap.get?_push_of_some _ q
 have fin : wpAny (model X.prog X.w) X.A (pyIter (.ref s1.heap.objs.size)) (PIE X pins σ (.Tuple elts kk tpos) R) X.xe { s1 with heap := s1.heap.push { cls := .type "dict_items", data := .fields #[.ref d] } } := by
  refine wpAny_pyIter_items (d := d) (knd := mixKind X.prog X.w) ⟨_, Heap.get?_push_size _ rfl, rfl, rfl⟩ (hm.push _) (pi_one (tk := s1.toks) I2 _ (turn_items _ hdt) ⟨.none, .none, ?_⟩ q)
  rw [hl]
  exact Heap.get?_push_size _ rfl
 show wpAny _ _ (callWith cpos (.builtin "dict.items") [.ref d] [] []) _ X.xe s1
 exact method_meetsIn F.slot_dict_items F.entry_dict_items rfl (PySem.evalArgs_none ⟨rfl, hm.dictOf.typeIs, F.args_dict_items_1 _, _, meets_dict_items (mixKind X.prog X.w) d hs, ⟨vs, hm.dictOf⟩, fin⟩)
end
def Ite (K : PySem.W.Frag) (a : Addr) : It :=
 ⟨fun i H => ∃ (xs : List V) (x : V), SqL K H a xs /\ xs[i]? = some x, fun i H v H' => ∃ T x, v = .ref T /\ H T = none /\ H' = upd H T (.tup [.int (i : Nat), x]) /\ ∀ xs, SqL K H a xs -> xs[i]? = some x, fun i H => ∃ xs : List V, SqL K H a xs /\ xs.length <= i⟩
theorem turn_enum {P : Program} {w : World} {K : PySem.W.Frag} {elts : List Expr} {kk : Nat} {tpos : Pos} (a e it : Addr) :
  Turn P w K (.Tuple elts kk tpos) (Ite K a) [e, it] e (fun i h => (∃ old, IsEnum h e it ((i : Nat) : Int) old) /\ h.IsListIter it a i /\ e ≠ it) where
 mem := by simp
 obj := fun i h st b hb => by
  obtain ⟨⟨old, he⟩, ⟨o, ho, hc, hd⟩, _⟩ := st
  have e' : b = e \/ b = it := by simpa using hb
  rcases e' with z | z
  ·rw [z]; exact ⟨_, he, fun v q => nomatch q⟩
  ·rw [z]; exact ⟨o, ho, fun v q => by rw [hd] at q; cases q⟩
 keep := fun i h h' st k => let ⟨⟨old, he⟩, hi, hne⟩ := st; ⟨⟨old, k e (by simp) _ he⟩, hi.at fun o q => k it (by simp) o q, hne⟩
 item := by
  intro X hP hw hK hc i pins s σ H E I hf st hg
  subst hP hw hK
  obtain ⟨⟨old, he⟩, hit, hne⟩ := st
  obtain ⟨xs, x, hq, hx⟩ := hg
  obtain ⟨its, rv, p, hz⟩ := I.list hq
  obtain ⟨u, hu, ru⟩ := rv.get hx
  have hel : e < s.heap.objs.size := Heap.lt_size he
  have hil : it < s.heap.objs.size := by obtain ⟨_, q, _⟩ := hit; exact Heap.lt_size q
  refine wpAny_pyNext_enum_item he hit p.isList (x := u) (by simpa using hu) hne fun h' ho hit' hT hsz hk => ?_
  refine ⟨_, rfl, wpAny_letOwnedTupleGo_enum (s := { s with heap := h', toks := s.toks + 1 }) ho fun h'' he' sb => ?_⟩
  have hT2 : h''.get? s.heap.objs.size = some { cls := .type "tuple", data := .seq #[.int i s.toks, u] } := (sb.2 _ (Nat.ne_of_gt hel)).trans hT
  have new : ObjOk X.prog X.w (upd H s.heap.objs.size (.tup [.int (i : Nat), x])) h'' s.heap.objs.size (.tup [.int (i : Nat), x]) :=
   ⟨by show 2 <= sizeLine; decide, [.int i s.toks, u], .cons ⟨_, rfl⟩ (.cons ru .nil), ⟨_, hT2, rfl, _, rfl⟩⟩
  have I1 : Inv X pins σ (upd H s.heap.objs.size (.tup [.int (i : Nat), x])) { s with heap := h'', toks := s.toks + 1 } :=
   I.turnedNew (ch := [e, it]) (fun b ob hb q => (sb.2 b (fun z => hb (by simp [z]))).trans (hk b ob (fun z => hb (by simp [z])) (fun z => hb (by simp [z])) q)) hf (Nat.le_refl _) new
  refine ⟨.ref s.heap.objs.size, _, I1, rfl, ⟨_, x, rfl, I.hok.fresh (Nat.le_refl _), rfl, fun ys hy => by rw [I.list_inj hy hq]; exact hx⟩, ⟨⟨u, ?_⟩, hit'.at fun o q => (sb.2 it (Ne.symm hne)).trans q, hne⟩, fun b hb => ?_⟩
  ·have e1 : ((i + 1 : Nat) : Int) = (i : Int) + 1 := by omega
   rw [e1]; exact he'
  ·have hb' : b < s.heap.objs.size := by
    have e' : b = e \/ b = it := by simpa using hb
    rcases e' with z | z
    ·rw [z]; exact hel
    ·rw [z]; exact hil
   rw [upd_ne (Nat.ne_of_lt hb')]
   exact (hf b hb).1
 done := by
  intro X hP hw hK hc i pins s σ H E I hf st hg
  subst hP hw hK
  obtain ⟨⟨old, he⟩, hit, hne⟩ := st
  obtain ⟨xs, hq, hx⟩ := hg
  obtain ⟨its, rv, p, hz⟩ := I.list hq
  obtain ⟨f0, f1, f2, f3, f4, f5⟩ := hf it (by simp)
  have hl := rv.length
  exact wpAny_pyNext_enum_end (I.ok.hd hc) he hit p.isList (by simp; omega) fun h' eb => ⟨rfl, I.turned (t' := s.toks) (fun b o hb q => eb b o hb q) f0 f1 f3 f4 f5⟩
 self := fun A i s Q E st h => let ⟨⟨_, he⟩, _⟩ := st; wpAny_pyIter_enum he h
def iEnum (K : PySem.W.Frag) (ta : TA) : TI := fun σ H R => ta σ H fun vs H1 => ∃ a xs, vs = [.ref a] /\ SqL K H1 a xs /\ R (Ite K a) H1
theorem pi_enum {X : Cx} {e : Expr} {ta : TA} {p pos tpos : Pos} {elts : List Expr} {kk : Nat} (hg : Gl X "enumerate") (hm : X.mg "enumerate" = none) (ha : PA X [e] ta) (hs : starEach [e] X.env = [(false, eval e X.env)] := by rfl) :
  PI X (.Tuple elts kk tpos) (.Call (.Name "enumerate" p) [e] [] pos) (iEnum X.K ta) := by
 intro pins s σ H R I h
 refine Call_ (ld_blt I hg hm boot_enumerate (PyProof.Rows.callWith_type1 (thn (ha pos pins s σ H _ I h) fun us s1 ⟨vs, H1, I1, r1, q1⟩ => ?_) hs rfl))
 obtain ⟨a, xs, ex, hq, q⟩ := q1
 subst ex
 cases r1 with
 | cons r rr =>
  cases rr
  cases r
  obtain ⟨its, rv, p', hz⟩ := I1.list hq
  refine call_enumerate_list p'.isList fun h' he hit hsz hk => wpAny_pyIter_enum he ?_
  have I2 : Inv X pins σ H1 { s1 with heap := h' } := I1.kept (t' := s1.toks) hk
  refine ⟨s1.heap.objs.size + 1, [s1.heap.objs.size + 1, s1.heap.objs.size], _, _, H1, rfl, I2, turn_enum a (s1.heap.objs.size + 1) s1.heap.objs.size, ⟨⟨.none, he⟩, hit, Nat.succ_ne_self _⟩, fun b hb => ?_, q⟩
  have e' : b = s1.heap.objs.size + 1 \/ b = s1.heap.objs.size := by simpa using hb
  have hle : s1.heap.objs.size <= b := by
   rcases e' with z | z
   ·rw [z]; exact Nat.le_add_right _ _
   ·rw [z]; exact Nat.le_refl _
  exact I1.fpOk hle (I1.hok.fresh hle)
theorem boot_zip5 : bootBuiltins "zip" = some (.type "zip") := by decide +kernel
def Itz (K : PySem.W.Frag) (a b : Addr) : It :=
 ⟨fun i H => ∃ (xs ys : List V) (x y : V), SqL K H a xs /\ SqL K H b ys /\ xs[i]? = some x /\ ys[i]? = some y,
  fun i H v H' => ∃ T x y, v = .ref T /\ H T = none /\ H' = upd H T (.tup [x, y]) /\ (∀ xs, SqL K H a xs -> xs[i]? = some x) /\ ∀ ys, SqL K H b ys -> ys[i]? = some y,
  fun i H => ∃ xs ys : List V, SqL K H a xs /\ SqL K H b ys /\ (xs.length <= i \/ ys.length <= i)⟩
theorem turn_zip {P : Program} {w : World} {K : PySem.W.Frag} {elts : List Expr} {kk : Nat} {tpos : Pos} {a b z TI TO i1 i2 : Addr} (D : ZipApart z TI TO i1 i2 a b) :
  Turn P w K (.Tuple elts kk tpos) (Itz K a b) [z, TI, TO, i1, i2] z (fun i h => IsZip h z TI TO .none /\ IsPair h TI (.ref i1) (.ref i2) /\ (∃ x y, IsPair h TO x y) /\ h.IsListIter i1 a i /\ h.IsListIter i2 b i) where
 mem := by simp
 obj := fun i h st c hc => by
  obtain ⟨hz, hTI, ⟨x, y, hTO⟩, ⟨o1, e1, _, d1⟩, ⟨o2, e2, _, d2⟩⟩ := st
  have e' : c = z \/ c = TI \/ c = TO \/ c = i1 \/ c = i2 := by simpa using hc
  rcases e' with q | q | q | q | q
  ·rw [q]; exact ⟨_, hz, fun v q => nomatch q⟩
  ·rw [q]; exact ⟨_, hTI, fun v q => nomatch q⟩
  ·rw [q]; exact ⟨_, hTO, fun v q => nomatch q⟩
  ·rw [q]; exact ⟨o1, e1, fun v q => by rw [d1] at q; cases q⟩
  ·rw [q]; exact ⟨o2, e2, fun v q => by rw [d2] at q; cases q⟩
 keep := fun i h h' st k => by
  obtain ⟨hz, hTI, ⟨x, y, hTO⟩, h1, h2⟩ := st
  exact ⟨k z (by simp) _ hz, k TI (by simp) _ hTI, ⟨x, y, k TO (by simp) _ hTO⟩, h1.at fun o q => k i1 (by simp) o q, h2.at fun o q => k i2 (by simp) o q⟩
 item := by
  intro X hP hw hK hc i pins s σ H E I hf st hg
  subst hP hw hK
  obtain ⟨hz, hTI, ⟨x0, y0, hTO⟩, h1, h2⟩ := st
  obtain ⟨xs, ys, x, y, hqx, hqy, hx, hy⟩ := hg
  obtain ⟨its, rv, p, _⟩ := I.list hqx
  obtain ⟨its2, rv2, p2, _⟩ := I.list hqy
  obtain ⟨u, hu, ru⟩ := rv.get hx
  obtain ⟨u2, hu2, ru2⟩ := rv2.get hy
  have hzl : z < s.heap.objs.size := Heap.lt_size hz
  refine wpAny_pyNext_zip_item D hz hTI hTO h1 h2 p.isList p2.isList (x := u) (y := u2) (by simpa using hu) (by simpa using hu2) fun h' z' TO' h1' h2' hT hsz hk => ?_
  refine ⟨_, rfl, wpAny_letOwnedTupleGo_zip (s := { s with heap := h' }) z' fun h'' z'' sb => ?_⟩
  have hT2 : h''.get? s.heap.objs.size = some { cls := .type "tuple", data := .seq #[u, u2] } := (sb.2 _ (Nat.ne_of_gt hzl)).trans hT
  have new : ObjOk X.prog X.w (upd H s.heap.objs.size (.tup [x, y])) h'' s.heap.objs.size (.tup [x, y]) :=
   ⟨by show 2 <= sizeLine; decide, [u, u2], .cons ru (.cons ru2 .nil), ⟨_, hT2, rfl, _, rfl⟩⟩
  have I1 : Inv X pins σ (upd H s.heap.objs.size (.tup [x, y])) { s with heap := h'' } :=
   I.turnedNew (t' := s.toks) (ch := [z, TI, TO, i1, i2]) (fun c o hb q => (sb.2 c (fun q' => hb (by simp [q']))).trans (hk c o (fun q' => hb (by simp [q'])) (fun q' => hb (by simp [q'])) (fun q' => hb (by simp [q'])) (fun q' => hb (by simp [q'])) q)) hf (Nat.le_refl _) new
  refine ⟨.ref s.heap.objs.size, _, I1, rfl, ⟨_, x, y, rfl, I.hok.fresh (Nat.le_refl _), rfl, fun l hl => by rw [I.list_inj hl hqx]; exact hx, fun l hl => by rw [I.list_inj hl hqy]; exact hy⟩, ⟨z'', ?_, ⟨u, u2, ?_⟩, ?_, ?_⟩, fun c hcm => ?_⟩
  ·exact (sb.2 _ D.TIz).trans (hk _ _ D.TIz D.TITO D.TIi1 D.TIi2 hTI)
  ·exact (sb.2 _ D.TOz).trans TO'
  ·exact h1'.at fun o q => (sb.2 _ D.i1z).trans q
  ·exact h2'.at fun o q => (sb.2 _ D.i2z).trans q
  ·have hlt : c < s.heap.objs.size := by
    have e' : c = z \/ c = TI \/ c = TO \/ c = i1 \/ c = i2 := by simpa using hcm
    rcases e' with q | q | q | q | q
    ·rw [q]; exact hzl
    ·rw [q]; exact Heap.lt_size hTI
    ·rw [q]; exact Heap.lt_size hTO
    ·rw [q]; obtain ⟨_, e1, _⟩ := h1; exact Heap.lt_size e1
    ·rw [q]; obtain ⟨_, e2, _⟩ := h2; exact Heap.lt_size e2
   rw [upd_ne (Nat.ne_of_lt hlt)]
   exact (hf c hcm).1
 done := by
  intro X hP hw hK hc i pins s σ H E I hf st hg
  subst hP hw hK
  obtain ⟨hz, hTI, ⟨x0, y0, hTO⟩, h1, h2⟩ := st
  obtain ⟨xs, ys, hqx, hqy, hend⟩ := hg
  obtain ⟨its, rv, p, _⟩ := I.list hqx
  obtain ⟨its2, rv2, p2, _⟩ := I.list hqy
  have l1 := rv.length
  have l2 := rv2.length
  have he : its.toArray[i]? = none \/ its2.toArray[i]? = none := by
   rcases hend with q | q
   ·exact .inl (by simp; omega)
   ·exact .inr (by simp; omega)
  exact wpAny_pyNext_zip_end (I.ok.hd hc) D hz hTI hTO h1 h2 p.isList p2.isList he fun h' hk => ⟨rfl, I.turnedL (t' := s.toks) (ch := [z, TI, TO, i1, i2]) (fun c o hb q =>
   hk c o (fun q' => hb (by simp [q'])) (fun q' => hb (by simp [q'])) (fun q' => hb (by simp [q'])) (fun q' => hb (by simp [q'])) q) hf⟩
 self := fun A i s Q E st h => wpAny_pyIter_zip st.1 h
def iZip (K : PySem.W.Frag) (ta : TA) : TI := fun σ H R => ta σ H fun vs H1 => ∃ a b xs ys, vs = [.ref a, .ref b] /\ SqL K H1 a xs /\ SqL K H1 b ys /\ R (Itz K a b) H1
theorem pi_zip {X : Cx} {e e2 : Expr} {ta : TA} {p pos tpos : Pos} {elts : List Expr} {kk : Nat} (hg : Gl X "zip") (hm : X.mg "zip" = none) (ha : PA X [e, e2] ta)
  (hs : starEach [e, e2] X.env = (false, eval e X.env) :: starEach [e2] X.env := by rfl) (hpl : (backTo pos (starEach [e2] X.env)).any (·.1) = false := by rfl) :
  PI X (.Tuple elts kk tpos) (.Call (.Name "zip" p) [e, e2] [] pos) (iZip X.K ta) := by
 intro pins s σ H R I h
 refine Call_ (ld_blt I hg hm boot_zip5 (PyProof.Rows.callWith_type1 (thn (ha pos pins s σ H _ I h) fun us s1 ⟨vs, H1, I1, r1, q1⟩ => ?_) hs hpl))
 obtain ⟨a, b, xs, ys, ex, hqx, hqy, q⟩ := q1
 subst ex
 cases r1 with
 | cons r rr =>
  cases rr with
  | cons r' rr =>
   cases rr
   cases r
   cases r'
   obtain ⟨its, rv, p1, _⟩ := I1.list hqx
   obtain ⟨its2, rv2, p2, _⟩ := I1.list hqy
   have la : a < s1.heap.objs.size := p1.lt
   have lb : b < s1.heap.objs.size := p2.lt
   refine call_zip_2 p1.isList p2.isList fun h' hz hTI hTO h1 h2 hsz hk => wpAny_pyIter_zip hz ?_
   have I2 : Inv X pins σ H1 { s1 with heap := h' } := I1.kept (t' := s1.toks) hk
   refine ⟨s1.heap.objs.size + 4, [s1.heap.objs.size + 4, s1.heap.objs.size + 2, s1.heap.objs.size + 3, s1.heap.objs.size, s1.heap.objs.size + 1], _, _, H1, rfl, I2, turn_zip (PySem.W.ktu_apart s1.heap.objs.size a b la lb), ⟨hz, hTI, ⟨_, _, hTO⟩, h1, h2⟩, fun c hcm => ?_, q⟩
   have e' : c = s1.heap.objs.size + 4 \/ c = s1.heap.objs.size + 2 \/ c = s1.heap.objs.size + 3 \/ c = s1.heap.objs.size \/ c = s1.heap.objs.size + 1 := by simpa using hcm
   have hle : s1.heap.objs.size <= c := by
    rcases e' with z | z | z | z | z
    ·rw [z]; exact Nat.le_add_right _ _
    ·rw [z]; exact Nat.le_add_right _ _
    ·rw [z]; exact Nat.le_add_right _ _
    ·rw [z]; exact Nat.le_refl _
    ·rw [z]; exact Nat.le_add_right _ _
   exact I1.fpOk hle (I1.hok.fresh hle)
end L2
namespace L2
open PySem PySem.Spec PyProof.Rows
def inClass (s : Stmt) (j : Nat) : Stmt := match s with
 | .ClassDef _ _ _ body _ _ _ _ _ _ _ => body.getD j (.Pass ⟨0, 0, 0, 0⟩)
 | _ => .Pass ⟨0, 0, 0, 0⟩
def defArgs (s : Stmt) : Arguments := match s with
 | .FunctionDef _ a _ _ _ _ _ _ _ _ => a
 | _ => { posonlyargs := [], args := [], vararg := none, kwonlyargs := [], kw_defaults := [], kwarg := none, defaults := [] }
def defBody (s : Stmt) : List Stmt := match s with
 | .FunctionDef _ _ b _ _ _ _ _ _ _ => b
 | _ => []
def defScope (s : Stmt) : Scope := match s with
 | .FunctionDef _ _ _ _ _ _ sc _ _ _ => sc
 | _ => { kind := .function, names := [], isGenerator := false, isCoroutine := false }
abbrev CX0 : CXT := fun _ _ _ _ _ _ => False
abbrev E0 : XK := fun _ _ _ => False
theorem pass0 {X : Cx} : Passes CX0 X E0 := fun _ _ _ _ _ _ _ h => h.elim
structure Fun (K : PySem.W.Frag) (x qual : Str) (st : Stmt) (f : Addr) (fd : FuncData) : Prop where
 ex : ∃ (oc : Value) (od : Option Addr) (kV doc pm : Value) (an : Option Addr) (cdv ct : Value) (osl : Array (Option Value)),
  fd = PySem.W.fnOf x qual (defArgs st) (defBody st) (defScope st) .none kV doc pm an cdv ct /\ K.lookup f = some ⟨oc, od, .func fd, osl⟩ /\ PySem.W.codeIn K cdv qual = true
 kp : PySem.W.keepIn K (.ref f) = true
section
variable {P : Program} {w : World} {K : PySem.W.Frag} {mg : Str -> Option Value} {base : Heap}
theorem Fun.ok {x qual : Str} {st : Stmt} {f : Addr} {fd : FuncData} {N ps : List Str} {k : Nat} {sp : Sp} (F : Fun K x qual st f fd) (S : FnScope N ps (defScope st)) (len : ∀ vs H Q E, sp vs H Q E -> vs.length = ps.length)
  (hbody : ∀ (cdv : Value) (A : Around) (outer : List Env) (s : Shared) (H : Hp) (vs : List V) (Q : VK) (E : XK), Room k (A.deeper (envOfC qual (defScope st) s.heap.objs.size f cdv)) -> sp vs H Q E ->
   ∃ t, PSs (cxOf CX0 P w K mg base N qual (defScope st) f cdv A outer s H E).nox (defBody st) t /\ t { nx := fun _ H' => Q .non H', rt := Q } (start N vs) H) : FnOk P w K mg base CX0 (k + 1) f fd ps sp := by
 obtain ⟨oc, od, kV, doc, pm, an, cdv, ct, osl, rfl, lk, hcd⟩ := F.ex
 refine fn_of lk hcd S len fun A outer s H vs Q E hr hsp => ?_
 obtain ⟨t, h, q⟩ := hbody cdv A outer s H vs Q E hr hsp
 exact ⟨t, h.nox, q⟩
theorem Fun.binds {x qual : Str} {st : Stmt} {f : Addr} {fd : FuncData} {ps : List Str} (F : Fun K x qual st f fd)
  (h : ∀ (kV doc pm : Value) (an : Option Addr) (cdv ct : Value) (us : List Value), us.length = ps.length -> bindArgs (PySem.W.fnOf x qual (defArgs st) (defBody st) (defScope st) .none kV doc pm an cdv ct) ⟨us, []⟩ = pure (ps.zip us)) : Binds K fd ps [] := by
 obtain ⟨oc, od, kV, doc, pm, an, cdv, ct, osl, rfl, lk, hcd⟩ := F.ex
 exact .all (h kV doc pm an cdv ct)
theorem fun_mk {x qual : Str} {st : Stmt} {f : Addr} {oc : Value} {od an : Option Addr} {osl : Array (Option Value)} {kV doc pm cdv ct : Value} (l : K.lookup f = some ⟨oc, od, .func (PySem.W.fnOf x qual (defArgs st) (defBody st) (defScope st) .none kV doc pm an cdv ct), osl⟩)
  (c : PySem.W.codeIn K cdv qual = true) (k : PySem.W.keepIn K (.ref f) = true) : Fun K x qual st f (PySem.W.fnOf x qual (defArgs st) (defBody st) (defScope st) .none kV doc pm an cdv ct) := ⟨⟨oc, od, kV, doc, pm, an, cdv, ct, osl, rfl, l, c⟩, k⟩
end
theorem hu_of {A : Around} {k : Nat} (hr : Room k A) : A.units + 1 < cLine := Nat.lt_of_le_of_lt (Nat.add_le_add_left (by decide : 1 <= 64) _) hr.units
section
variable {X : Cx}
theorem pv (i : Nat) {x : Str} {pos : Pos} (hN : X.N[i]? = some x := by rfl) (hv : Vis X.env.scope x := by first | exact Or.inl rfl | exact Or.inr (Or.inl rfl) | exact Or.inr (Or.inr rfl)) (hd : (x == ("__debug__" : Str)) = false := by decide)
  (hcd : (x == ("__classdict__" : Str)) = false := by decide) : PE X (.Name x pos) (tVar i) := pe_var hN hv hd hcd
theorem call_lenD : CallR X (.builtin "len") (fun xs H Q => ∃ a kvs, xs = [V.ref a] /\ H a = some (.dK kvs) /\ Q (.int kvs.length) H) := by
 intro pins s σ H xs us Q I r h
 obtain ⟨a, kvs, rfl, ha, q⟩ := h
 obtain ⟨u, rfl, ru⟩ := vals1 r
 cases ru
 exact d_len I (.inl ha) fun t s' I' => ⟨.int kvs.length, H, I', ⟨t, rfl⟩, q⟩
end
theorem iteF {A B : Prop} (h : B) : if false = true then A else B := by
 rw [if_neg Bool.false_ne_true]
 exact h
theorem iteT {A B : Prop} (h : A) : if true = true then A else B := by
 rw [if_pos rfl]
 exact h
theorem ite2 {c A B : Prop} [Decidable c] (h1 : c -> A) (h2 : ¬ c -> B) : if c then A else B := by
 by_cases h : c
 ·rw [if_pos h]
  exact h1 h
 ·rw [if_neg h]
  exact h2 h
def Same (H H' : Hp) : Prop := ∀ b o, H b = some o -> H' b = some o
theorem Same.refl (H : Hp) : Same H H := fun _ _ h => h
theorem Same.trans {H H1 H2 : Hp} (a : Same H H1) (b : Same H1 H2) : Same H H2 := fun c o h => b c o (a c o h)
theorem Same.free {H H' : Hp} (e : Same H H') {l : Addr} (h : H' l = Option.none) : H l = Option.none := by
 cases q : H l with
 | none => rfl
 | some o =>
  rw [e l o q] at h
  cases h
theorem Same.seq {K : PySem.W.Frag} {H H' : Hp} {a : Addr} {xs : List V} (e : Same H H') (h : SqL K H a xs) : SqL K H' a xs := by
 rcases h with (h | ⟨o, h⟩) | h
 ·exact .inl (.inl (e _ _ h))
 ·exact .inl (.inr ⟨o, e _ _ h⟩)
 ·exact .inr h
section
variable {κ : Type} [DecidableEq κ]
theorem nd_snoc : ∀ {l : List κ} {k : κ}, l.Nodup -> ¬ k ∈ l -> (l ++ [k]).Nodup
 | [], k, _, _ => by simp
 | a :: r, k, h, hk => by
  obtain ⟨h1, h2⟩ := List.nodup_cons.mp h
  show (a :: (r ++ [k])).Nodup
  refine List.nodup_cons.mpr ⟨fun m => ?_, nd_snoc h2 fun m => hk (List.mem_cons.mpr (Or.inr m))⟩
  rcases List.mem_append.mp m with q | q
  ·exact h1 q
  ·exact hk (List.mem_cons.mpr (Or.inl (List.mem_singleton.mp q).symm))
end
theorem at_of {xs : List V} {z : Int} {j : Nat} {v : V} (e : z = (j : Int)) (h : xs[j]? = some v) : atI xs z = some v := by
 rw [e]
 exact atI_nat h
theorem nd_ix {α : Type} {l : List α} (hN : l.Nodup) {i j : Nat} {x : α} (a : l[i]? = some x) (b : l[j]? = some x) : i = j := by
 obtain ⟨h1, e1⟩ := List.getElem?_eq_some_iff.mp a
 obtain ⟨h2, e2⟩ := List.getElem?_eq_some_iff.mp b
 exact (List.getElem_inj hN).mp (e1.trans e2.symm)
theorem Same.made {H H1 : Hp} {x dx C : Addr} (nx : H x = Option.none) (nd : H dx = Option.none) (k : ∀ b o, (upd (upd H dx (.own x)) x (.ins C dx [])) b = some o -> b ≠ x -> H1 b = some o) : Same H H1 := fun b o e =>
 k b o (by rw [upd_ne (ne_of_none e nx), upd_ne (ne_of_none e nd)]; exact e) (ne_of_none e nx)
end L2
namespace Mile
open Vbahaq
def Srt (l : Lots) : Prop := l.Pairwise fun a b => a.1 < b.1
def PosL (l : Lots) : Prop := ∀ p ∈ l, 0 < p.2
theorem Srt.nodup {l : Lots} (h : Srt l) : (l.map (·.1)).Nodup := by
 rw [List.nodup_iff_pairwise_ne, List.pairwise_map]
 exact h.imp fun h => Nat.ne_of_lt h
def putD (l : List (Nat × Nat)) (d n : Nat) : List (Nat × Nat) :=
 if d ∈ l.map (·.1) then l.map (fun p => if p.1 = d then (p.1, p.2 + n) else p) else l ++ [(d, n)]
def takeD (l : List (Nat × Nat)) (d n : Nat) : List (Nat × Nat) := l.map fun p => if p.1 = d then (p.1, p.2 - n) else p
def dropD (l : List (Nat × Nat)) (d : Nat) : List (Nat × Nat) := l.filter fun p => decide (p.1 ≠ d)
def lookD (l : List (Nat × Nat)) (d : Nat) : Option Nat := (l.find? fun p => decide (p.1 = d)).map (·.2)
theorem held_perm {k l : List (Nat × Nat)} (h : k.Perm l) : held k = held l := (h.map _).sum_nat
theorem lookD_mem : ∀ {l : List (Nat × Nat)} {d n : Nat}, lookD l d = some n -> (d, n) ∈ l
 | [], d, n, h => by cases h
 | p :: r, d, n, h => by
  unfold lookD at h
  rw [List.find?_cons] at h
  by_cases e : p.1 = d
  ·simp [e] at h
   subst e; subst h
   exact List.mem_cons_self
  ·simp only [e, decide_false] at h
   exact List.mem_cons_of_mem _ (lookD_mem (l := r) h)
theorem lookD_of_mem : ∀ {l : List (Nat × Nat)} {d n : Nat}, (l.map (·.1)).Nodup -> (d, n) ∈ l -> lookD l d = some n
 | [], d, n, _, h => by cases h
 | p :: r, d, n, nd, h => by
  obtain ⟨h1, h2⟩ := List.nodup_cons.mp (show (p.1 :: r.map (·.1)).Nodup from nd)
  unfold lookD
  rw [List.find?_cons]
  rcases List.mem_cons.mp h with e | h
  ·subst e
   simp
  ·have : ¬ p.1 = d := fun e => h1 (List.mem_map.mpr ⟨(d, n), h, e.symm⟩)
   simp only [this, decide_false]
   exact lookD_of_mem h2 h
theorem lookD_none : ∀ {l : List (Nat × Nat)} {d : Nat}, lookD l d = none -> d ∉ l.map (·.1)
 | [], d, _ => by simp
 | p :: r, d, h => by
  unfold lookD at h
  rw [List.find?_cons] at h
  by_cases e : p.1 = d
  ·simp [e] at h
  ·simp only [e, decide_false] at h
   have ih := lookD_none (l := r) h
   intro m
   rcases List.mem_cons.mp (show d ∈ p.1 :: r.map (·.1) from m) with q | q
   ·exact e q.symm
   ·exact ih q
theorem lookD_some {l : List (Nat × Nat)} {d n : Nat} (h : lookD l d = some n) : d ∈ l.map (·.1) := List.mem_map.mpr ⟨_, lookD_mem h, rfl⟩
theorem put_keys {d n : Nat} : ∀ {l : Lots}, ∀ p ∈ put d n l, p.1 = d \/ p.1 ∈ l.map (·.1)
 | [], p, h => by
  unfold put at h
  split at h
  ·cases h
  ·simp at h; subst h; exact .inl rfl
 | x :: r, p, h => by
  unfold put at h
  split at h
  ·exact .inr (List.mem_map.mpr ⟨p, h, rfl⟩)
  ·split at h
   ·rcases List.mem_cons.mp h with e | h
    ·subst e; exact .inl rfl
    ·exact .inr (List.mem_map.mpr ⟨p, h, rfl⟩)
   ·split at h
    ·rcases List.mem_cons.mp h with e | h
     ·subst e; exact .inl rfl
     ·exact .inr (List.mem_map.mpr ⟨p, List.mem_cons_of_mem _ h, rfl⟩)
    ·rcases List.mem_cons.mp h with e | h
     ·subst e; exact .inr (List.mem_cons_self)
     ·rcases put_keys (l := r) p h with e | e
      ·exact .inl e
      ·exact .inr (List.mem_cons_of_mem _ e)
theorem put_srt {d n : Nat} : ∀ {l : Lots}, Srt l -> Srt (put d n l)
 | [], _ => by
  unfold put
  split
  ·exact List.Pairwise.nil
  ·exact List.pairwise_singleton _ _
 | x :: r, h => by
  obtain ⟨h1, h2⟩ := List.pairwise_cons.mp h
  unfold put
  split
  ·exact h
  ·split
   ·refine List.pairwise_cons.mpr ⟨fun y hy => ?_, h⟩
    rcases List.mem_cons.mp hy with e | hy
    ·subst e; assumption
    ·exact Nat.lt_trans (by assumption) (h1 y hy)
   ·split
    ·refine List.pairwise_cons.mpr ⟨fun y hy => ?_, h2⟩
     have := h1 y hy
     show d < y.1
     omega
    ·refine List.pairwise_cons.mpr ⟨fun y hy => ?_, put_srt h2⟩
     rcases put_keys y hy with e | e
     ·omega
     ·obtain ⟨z, hz, e⟩ := List.mem_map.mp e
      have := h1 z hz
      omega
theorem put_pos {d n : Nat} (hn : 0 < n) : ∀ {l : Lots}, PosL l -> PosL (put d n l)
 | [], _, p, h => by
  unfold put at h
  rw [if_neg (by omega)] at h
  simp at h; subst h; exact hn
 | x :: r, hp, p, h => by
  unfold put at h
  rw [if_neg (by omega)] at h
  split at h
  ·rcases List.mem_cons.mp h with e | h
   ·subst e; exact hn
   ·exact hp p h
  ·split at h
   ·rcases List.mem_cons.mp h with e | h
    ·subst e; exact Nat.add_pos_right _ hn
    ·exact hp p (List.mem_cons_of_mem _ h)
   ·rcases List.mem_cons.mp h with e | h
    ·subst e; exact hp _ List.mem_cons_self
    ·exact put_pos hn (l := r) (fun q hq => hp q (List.mem_cons_of_mem _ hq)) p h
theorem map_ne_id {d : Nat} {f : Nat × Nat -> Nat × Nat} : ∀ {r : List (Nat × Nat)}, d ∉ r.map (·.1) -> r.map (fun p => if p.1 = d then f p else p) = r
 | [], _ => rfl
 | p :: r, h => by
  have e : ¬ p.1 = d := fun e => h (by rw [<- e]; exact List.mem_cons_self)
  rw [List.map_cons, if_neg e, map_ne_id (r := r) fun m => h (List.mem_cons_of_mem _ m)]
theorem put_perm_self {d n : Nat} (hn : 0 < n) : ∀ {l : Lots}, Srt l -> (putD l d n).Perm (put d n l)
 | [], _ => by
  show (putD [] d n).Perm (if n = 0 then [] else [(d, n)])
  rw [if_neg (by omega)]
  exact List.Perm.refl _
 | x :: r, h => by
  obtain ⟨h1, h2⟩ := List.pairwise_cons.mp h
  have nx : ∀ y ∈ r, d <= x.1 -> ¬ y.1 = d := fun y hy e z => by have := h1 y hy; omega
  have nr : d <= x.1 -> d ∉ r.map (·.1) := fun e m => by
   obtain ⟨y, hy, ey⟩ := List.mem_map.mp m
   exact nx y hy e ey
  unfold put
  rw [if_neg (by omega)]
  by_cases e1 : d < x.1
  ·rw [if_pos e1]
   unfold putD
   rw [if_neg (by
    intro m
    rcases List.mem_cons.mp (show d ∈ x.1 :: r.map (·.1) from m) with q | q
    ·omega
    ·exact nr (by omega) q)]
   exact List.perm_append_singleton _ _
  ·rw [if_neg e1]
   by_cases e2 : d = x.1
   ·rw [if_pos e2]
    unfold putD
    rw [if_pos (by rw [e2]; exact List.mem_cons_self), List.map_cons, if_pos e2.symm, map_ne_id (nr (by omega)), <- e2]
   ·rw [if_neg e2]
    have ih := put_perm_self (d := d) hn h2
    unfold putD at ih ⊢
    by_cases m : d ∈ r.map (·.1)
    ·rw [if_pos m] at ih
     rw [if_pos (show d ∈ (x :: r).map (·.1) from List.mem_cons_of_mem _ m), List.map_cons, if_neg (fun q => e2 q.symm)]
     exact ih.cons _
    ·rw [if_neg m] at ih
     rw [if_neg (by
      intro q
      rcases List.mem_cons.mp (show d ∈ x.1 :: r.map (·.1) from q) with q | q
      ·exact e2 q
      ·exact m q)]
     exact ih.cons _
theorem putD_perm {k l : List (Nat × Nat)} (h : k.Perm l) (d n : Nat) : (putD k d n).Perm (putD l d n) := by
 unfold putD
 have e : d ∈ k.map (·.1) ↔ d ∈ l.map (·.1) := (h.map _).mem_iff
 by_cases m : d ∈ l.map (·.1)
 ·rw [if_pos m, if_pos (e.mpr m)]
  exact h.map _
 ·rw [if_neg m, if_neg fun q => m (e.mp q)]
  exact h.append_right _
theorem put_perm {k l : List (Nat × Nat)} {d n : Nat} (hn : 0 < n) (h : k.Perm l) (s : Srt l) : (putD k d n).Perm (put d n l) := (putD_perm h d n).trans (put_perm_self hn s)
theorem takeDay_keys {d n : Nat} : ∀ {l : Lots}, ∀ p ∈ takeDay d n l, p.1 ∈ l.map (·.1)
 | [], p, h => by cases h
 | x :: r, p, h => by
  unfold takeDay at h
  split at h
  ·split at h
   ·exact List.mem_cons_of_mem _ (List.mem_map.mpr ⟨p, h, rfl⟩)
   ·rcases List.mem_cons.mp h with e | h
    ·subst e; exact List.mem_cons_self
    ·exact List.mem_cons_of_mem _ (List.mem_map.mpr ⟨p, h, rfl⟩)
  ·rcases List.mem_cons.mp h with e | h
   ·subst e; exact List.mem_cons_self
   ·exact List.mem_cons_of_mem _ (takeDay_keys p h)
theorem takeDay_srt {d n : Nat} : ∀ {l : Lots}, Srt l -> Srt (takeDay d n l)
 | [], _ => List.Pairwise.nil
 | x :: r, h => by
  obtain ⟨h1, h2⟩ := List.pairwise_cons.mp h
  unfold takeDay
  split
  ·split
   ·exact h2
   ·exact List.pairwise_cons.mpr ⟨h1, h2⟩
  ·refine List.pairwise_cons.mpr ⟨fun y hy => ?_, takeDay_srt h2⟩
   obtain ⟨z, hz, e⟩ := List.mem_map.mp (takeDay_keys y hy)
   have := h1 z hz
   omega
theorem takeDay_pos {d n : Nat} : ∀ {l : Lots}, PosL l -> PosL (takeDay d n l)
 | [], _, p, h => by cases h
 | x :: r, hp, p, h => by
  unfold takeDay at h
  split at h
  ·split at h
   ·exact hp p (List.mem_cons_of_mem _ h)
   ·rcases List.mem_cons.mp h with e | h
    ·subst e
     show 0 < x.2 - n
     omega
    ·exact hp p (List.mem_cons_of_mem _ h)
  ·rcases List.mem_cons.mp h with e | h
   ·subst e; exact hp _ List.mem_cons_self
   ·exact takeDay_pos (l := r) (fun q hq => hp q (List.mem_cons_of_mem _ hq)) p h
theorem filter_ne_id {d : Nat} : ∀ {r : List (Nat × Nat)}, d ∉ r.map (·.1) -> r.filter (fun p => decide (p.1 ≠ d)) = r
 | [], _ => rfl
 | p :: r, h => by
  have e : p.1 ≠ d := fun e => h (by rw [<- e]; exact List.mem_cons_self)
  rw [List.filter_cons, if_pos (decide_eq_true e), filter_ne_id (r := r) fun m => h (List.mem_cons_of_mem _ m)]
theorem takeDay_all {d n : Nat} : ∀ {l : Lots}, (l.map (·.1)).Nodup -> (d, n) ∈ l -> dropD l d = takeDay d n l
 | [], _, h => by cases h
 | x :: r, nd, h => by
  obtain ⟨h1, h2⟩ := List.nodup_cons.mp (show (x.1 :: r.map (·.1)).Nodup from nd)
  unfold takeDay dropD
  rcases List.mem_cons.mp h with e | h
  ·subst e
   rw [if_pos rfl, if_pos (Nat.le_refl _), List.filter_cons, if_neg (by simp)]
   exact filter_ne_id h1
  ·have e : ¬ x.1 = d := fun e => h1 (by rw [e]; exact List.mem_map.mpr ⟨_, h, rfl⟩)
   rw [if_neg e, List.filter_cons, if_pos (decide_eq_true e)]
   exact congrArg _ (takeDay_all (l := r) h2 h)
theorem takeDay_some {d n m : Nat} (hm : n < m) : ∀ {l : Lots}, (l.map (·.1)).Nodup -> (d, m) ∈ l -> takeD l d n = takeDay d n l
 | [], _, h => by cases h
 | x :: r, nd, h => by
  obtain ⟨h1, h2⟩ := List.nodup_cons.mp (show (x.1 :: r.map (·.1)).Nodup from nd)
  unfold takeDay takeD
  rcases List.mem_cons.mp h with e | h
  ·subst e
   rw [if_pos rfl, if_neg (by show ¬ m <= n; omega), List.map_cons, if_pos rfl, map_ne_id h1]
  ·have e : ¬ x.1 = d := fun e => h1 (by rw [e]; exact List.mem_map.mpr ⟨_, h, rfl⟩)
   rw [if_neg e, List.map_cons, if_neg e]
   exact congrArg _ (takeDay_some hm (l := r) h2 h)
theorem takeDay_other {d n d' n' : Nat} : ∀ {l : Lots}, d' ≠ d -> (d', n') ∈ l -> (d', n') ∈ takeDay d n l
 | [], _, h => by cases h
 | x :: r, e, h => by
  unfold takeDay
  rcases List.mem_cons.mp h with q | h
  ·subst q
   rw [if_neg e]
   exact List.mem_cons_self
  ·split
   ·split
    ·exact h
    ·exact List.mem_cons_of_mem _ h
   ·exact List.mem_cons_of_mem _ (takeDay_other e h)
abbrev T3 := Nat × Nat × Nat
def Lx (x y : T3) : Prop := x.1 < y.1 \/ (x.1 = y.1 /\ x.2.1 < y.2.1)
theorem insertL_perm (x : T3) : ∀ l : List T3, (insertL x l).Perm (x :: l)
 | [] => List.Perm.refl _
 | y :: r => by
  unfold insertL
  split
  ·exact List.Perm.refl _
  ·exact ((insertL_perm x r).cons y).trans (List.Perm.swap x y r)
theorem sortL_perm : ∀ l : List T3, (l.foldr insertL []).Perm l
 | [] => List.Perm.refl _
 | x :: r => (insertL_perm x _).trans ((sortL_perm r).cons x)
theorem insertL_map {f : T3 -> T3} (hf : ∀ t, (f t).1 = t.1) (x : T3) : ∀ l : List T3, insertL (f x) (l.map f) = (insertL x l).map f
 | [] => rfl
 | y :: r => by
  show (if (f x).1 <= (f y).1 then f x :: f y :: r.map f else f y :: insertL (f x) (r.map f)) = (if x.1 <= y.1 then x :: y :: r else y :: insertL x r).map f
  rw [hf, hf, insertL_map hf x r]
  split <;> rfl
theorem sortL_map {f : T3 -> T3} (hf : ∀ t, (f t).1 = t.1) : ∀ l : List T3, (l.map f).foldr insertL [] = (l.foldr insertL []).map f
 | [] => rfl
 | x :: r => by
  show insertL (f x) ((r.map f).foldr insertL []) = (insertL x (r.foldr insertL [])).map f
  rw [sortL_map hf r, insertL_map hf]
theorem insertL_Lx {x : T3} : ∀ {l : List T3}, l.Pairwise Lx -> (∀ y ∈ l, x.1 = y.1 -> x.2.1 < y.2.1) -> (insertL x l).Pairwise Lx
 | [], _, _ => List.pairwise_singleton _ _
 | y :: r, h, hx => by
  have h' := List.pairwise_cons.mp h
  unfold insertL
  split
  ·rename_i hle
   refine List.pairwise_cons.mpr ⟨fun z hz => ?_, h⟩
   have h0 : x.1 < y.1 \/ (x.1 = y.1 /\ x.2.1 < y.2.1) := by
    by_cases e : x.1 = y.1
    ·exact .inr ⟨e, hx y List.mem_cons_self e⟩
    ·exact .inl (by omega)
   rcases List.mem_cons.mp hz with e | hz'
   ·rw [e]; exact h0
   ·have h1 := h'.1 z hz'
    unfold Lx at h1 ⊢
    omega
  ·rename_i hle
   refine List.pairwise_cons.mpr ⟨fun z hz => ?_, insertL_Lx h'.2 fun z hz => hx z (List.mem_cons_of_mem _ hz)⟩
   rcases List.mem_cons.mp ((insertL_perm x r).mem_iff.mp hz) with e | hz'
   ·rw [e]; exact .inl (by omega)
   ·exact h'.1 z hz'
theorem sortL_Lx : ∀ {l : List T3}, l.Pairwise (fun x y => x.1 = y.1 -> x.2.1 < y.2.1) -> (l.foldr insertL []).Pairwise Lx
 | [], _ => List.Pairwise.nil
 | x :: r, h => by
  have h' := List.pairwise_cons.mp h
  exact insertL_Lx (sortL_Lx h'.2) fun y hy => h'.1 y ((sortL_perm r).mem_iff.mp hy)
theorem sorted_unique {α : Type} {R : α -> α -> Prop} (anti : ∀ a b, R a b -> R b a -> a = b) : ∀ {l m : List α}, l.Perm m -> l.Pairwise R -> m.Pairwise R -> l = m
 | [], m, p, _, _ => (List.Perm.nil_eq p)
 | a :: l, [], p, _, _ => absurd p.length_eq (by simp)
 | a :: l, b :: m, p, h1, h2 => by
  have g1 := List.pairwise_cons.mp h1
  have g2 := List.pairwise_cons.mp h2
  have e : a = b := by
   rcases List.mem_cons.mp (p.mem_iff.mp (List.mem_cons_self : a ∈ a :: l)) with e | ha
   ·exact e
   ·rcases List.mem_cons.mp (p.mem_iff.mpr (List.mem_cons_self : b ∈ b :: m)) with e | hb
    ·exact e.symm
    ·exact anti _ _ (g1.1 b hb) (g2.1 a ha)
  subst e
  rw [sorted_unique anti (List.Perm.cons_inv p) g1.2 g2.2]
abbrev Hand := List (Nat × Lots)
def tagged : Nat -> Hand -> List T3
 | _, [] => []
 | i, h :: r => (h.2.map fun x => (x.1, i, x.2)) ++ tagged (i + 1) r
def tagL (hs : Hand) : List T3 := (tagged 0 hs).foldr insertL []
def handL (hs : Hand) : List T3 := ((hs.flatMap fun h => h.2.map fun x => (x.1, h.1, x.2))).foldr insertL []
theorem tagged_place : ∀ {i : Nat} {hs : Hand} {t : T3}, t ∈ tagged i hs -> ∃ (j : Nat) (h : Nat × Lots), hs[j]? = some h /\ t.2.1 = i + j /\ (t.1, t.2.2) ∈ h.2
 | i, [], t, ht => by cases ht
 | i, h :: r, t, ht => by
  rcases List.mem_append.mp (show t ∈ (h.2.map fun x => (x.1, i, x.2)) ++ tagged (i + 1) r from ht) with q | q
  ·obtain ⟨x, hx, e⟩ := List.mem_map.mp q
   subst e
   exact ⟨0, h, rfl, rfl, hx⟩
  ·obtain ⟨j, g, e1, e2, e3⟩ := tagged_place q
   exact ⟨j + 1, g, e1, by omega, e3⟩
theorem tagged_apart : ∀ {i : Nat} {hs : Hand}, (∀ h ∈ hs, Srt h.2) -> (tagged i hs).Pairwise fun x y => x.1 = y.1 -> x.2.1 < y.2.1
 | i, [], _ => List.Pairwise.nil
 | i, h :: r, hh => by
  refine List.pairwise_append.mpr ⟨?_, tagged_apart fun g hg => hh g (List.mem_cons_of_mem _ hg), fun x hx y hy _ => ?_⟩
  ·rw [List.pairwise_map]
   exact (hh h List.mem_cons_self).imp fun q e => absurd e (Nat.ne_of_lt q)
  ·obtain ⟨z, _, e⟩ := List.mem_map.mp hx
   subst e
   obtain ⟨j, g, _, e2, _⟩ := tagged_place hy
   show i < y.2.1
   omega
theorem tagL_Lx {hs : Hand} (hh : ∀ h ∈ hs, Srt h.2) : (tagL hs).Pairwise Lx := sortL_Lx (tagged_apart hh)
def ownerAt (hs : Hand) (i : Nat) : Nat := ((hs[i]?).map (·.1)).getD 0
theorem tagged_owner (all : Hand) : ∀ {i : Nat} {hs : Hand}, (∀ j h, hs[j]? = some h -> ownerAt all (i + j) = h.1) -> (tagged i hs).map (fun t => (t.1, ownerAt all t.2.1, t.2.2)) = hs.flatMap fun h => h.2.map fun x => (x.1, h.1, x.2)
 | i, [], _ => rfl
 | i, h :: r, hh => by
  show ((h.2.map fun x => (x.1, i, x.2)) ++ tagged (i + 1) r).map _ = (h.2.map fun x => (x.1, h.1, x.2)) ++ r.flatMap fun h => h.2.map fun x => (x.1, h.1, x.2)
  rw [List.map_append, List.map_map, tagged_owner all (i := i + 1) (hs := r) fun j g e => by rw [<- hh (j + 1) g e]; exact congrArg _ (by omega)]
  refine congrArg (· ++ _) (List.map_congr_left fun x _ => ?_)
  show (x.1, ownerAt all i, x.2) = (x.1, h.1, x.2)
  rw [show ownerAt all i = h.1 from hh 0 h rfl]
theorem handL_tag (hs : Hand) : handL hs = (tagL hs).map fun t => (t.1, ownerAt hs t.2.1, t.2.2) := by
 unfold handL tagL
 rw [<- tagged_owner hs (i := 0) (hs := hs) (fun j h e => by unfold ownerAt; rw [Nat.zero_add, e]; rfl)]
 exact sortL_map (f := fun t => (t.1, ownerAt hs t.2.1, t.2.2)) (fun _ => rfl) _
def payL (k : Nat) : List Draw -> Lots -> Lots
 | [], l => l
 | d :: r, l => payL k r (if d.id = k then takeDay d.day d.n l else l)
theorem payL_snoc (k : Nat) (d : Draw) : ∀ (ds : List Draw) (l : Lots), payL k (ds ++ [d]) l = if d.id = k then takeDay d.day d.n (payL k ds l) else payL k ds l
 | [], l => rfl
 | e :: r, l => payL_snoc k d r _
theorem payL_srt (k : Nat) : ∀ (ds : List Draw) {l : Lots}, Srt l -> Srt (payL k ds l)
 | [], l, h => h
 | d :: r, l, h => payL_srt k r (by split; exact takeDay_srt h; exact h)
theorem payL_pos (k : Nat) : ∀ (ds : List Draw) {l : Lots}, PosL l -> PosL (payL k ds l)
 | [], l, h => h
 | d :: r, l, h => payL_pos k r (by split; exact takeDay_pos h; exact h)
theorem takeDay_len {d n : Nat} : ∀ {l : Lots}, (takeDay d n l).length <= l.length
 | [] => Nat.le_refl _
 | x :: r => by
  have := takeDay_len (d := d) (n := n) (l := r)
  unfold takeDay
  split
  ·split
   ·exact Nat.le_succ _
   ·exact Nat.le_refl _
  ·rw [List.length_cons, List.length_cons]
   omega
theorem payL_len (k : Nat) : ∀ (ds : List Draw) {l : Lots}, (payL k ds l).length <= l.length
 | [], l => Nat.le_refl _
 | d :: r, l => by
  have := payL_len k r (l := if d.id = k then takeDay d.day d.n l else l)
  refine Nat.le_trans this ?_
  split
  ·exact takeDay_len
  ·exact Nat.le_refl _
def takenD (k : List (Nat × Nat)) (d n m : Nat) : List (Nat × Nat) := if n = m then dropD k d else takeD k d n
theorem takenD_perm {k l : List (Nat × Nat)} {d n m : Nat} (p : k.Perm l) (s : Srt l) (hm : (d, m) ∈ l) (hn : n <= m) : (takenD k d n m).Perm (takeDay d n l) := by
 unfold takenD
 by_cases e : n = m
 ·subst e
  rw [if_pos rfl, <- takeDay_all s.nodup hm]
  exact p.filter _
 ·rw [if_neg e, <- takeDay_some (by omega) s.nodup hm]
  exact p.map _
theorem payL_keys (k : Nat) : ∀ (ds : List Draw) {l : Lots}, ∀ p ∈ payL k ds l, p.1 ∈ l.map (·.1)
 | [], l, p, h => List.mem_map.mpr ⟨p, h, rfl⟩
 | d :: r, l, p, h => by
  have := payL_keys k r p h
  split at this
  ·obtain ⟨q, hq, e⟩ := List.mem_map.mp this
   rw [<- e]
   exact takeDay_keys q hq
  ·exact this
theorem pay_eq : ∀ (ds : List Draw) (s : State), pay s ds = { s with members := s.members.map fun m => { m with lots := payL m.id ds m.lots } }
 | [], s => by
  show s = { s with members := s.members.map fun m => m }
  rw [List.map_id'']
  intro m; rfl
 | d :: r, s => by
  show pay (withLots s d.id (takeDay d.day d.n)) r = _
  rw [pay_eq r]
  unfold withLots
  rw [List.map_map]
  refine congrArg (fun z => ({ s with members := z } : State)) (List.map_congr_left fun m _ => ?_)
  show ({ (if m.id = d.id then { m with lots := takeDay d.day d.n m.lots } else m) with lots := payL (if m.id = d.id then { m with lots := takeDay d.day d.n m.lots } else m).id r (if m.id = d.id then { m with lots := takeDay d.day d.n m.lots } else m).lots } : Member) = { m with lots := payL m.id r (if d.id = m.id then takeDay d.day d.n m.lots else m.lots) }
  by_cases e : m.id = d.id
  ·rw [if_pos e, if_pos e.symm]
  ·rw [if_neg e, if_neg fun q => e q.symm]
theorem drawn_nil (c : Nat) : drawn c [] = [] := by unfold drawn; rfl
theorem drawn_zero (l : List T3) : drawn 0 l = [] := by
 cases l with
 | nil => exact drawn_nil 0
 | cons x r => unfold drawn; rfl
theorem drawn_cons {c : Nat} (hc : c ≠ 0) (d k n : Nat) (r : List T3) : drawn c ((d, k, n) :: r) = { id := k, day := d, n := min c n } :: drawn (c - min c n) r := by
 rw [drawn, if_neg hc]
structure WF (D : List Nat) (s : State) : Prop where
 ids : (s.members.map (·.id)).Nodup
 mlen : s.members.length <= 30
 srt : ∀ m ∈ s.members, Srt m.lots
 pos : ∀ m ∈ s.members, PosL m.lots
 days : ∀ m ∈ s.members, ∀ p ∈ m.lots, p.1 ∈ D
 pts : ∀ m ∈ s.members, m.points.length <= 60
 plen : s.pools.length <= 8
 pool : ∀ p ∈ s.pools, p.Nodup /\ (∀ k ∈ p, k ∈ s.members.map (·.id)) /\ p.length <= 6
 apart : s.pools.Pairwise fun p q => ∀ k ∈ p, k ∉ q
 bks : (s.awards.map (·.booking)).Nodup
 alen : s.awards.length <= 100
 draws : ∀ w ∈ s.awards, ∀ d ∈ w.draws, 0 < d.n /\ d.day ∈ D /\ d.id ∈ s.members.map (·.id)
 steps : s.rules.steps.length = 3
 bonus : s.rules.bonus.length = 4
 bonMax : ∀ b ∈ s.rules.bonus, b <= 300
theorem WF.start : WF [] start where
 ids := List.nodup_nil
 mlen := Nat.zero_le _
 srt := fun m hm => by cases hm
 pos := fun m hm => by cases hm
 days := fun m hm => by cases hm
 pts := fun m hm => by cases hm
 plen := Nat.zero_le _
 pool := fun m hm => by cases hm
 apart := List.Pairwise.nil
 bks := List.nodup_nil
 alen := Nat.zero_le _
 draws := fun m hm => by cases hm
 steps := rfl
 bonus := rfl
 bonMax := fun b hb => by
  have : b = 0 := by simpa [Vbahaq.start] using hb
  omega
theorem nodup_len : ∀ {l D : List Nat}, l.Nodup -> (∀ x ∈ l, x ∈ D) -> l.length <= D.length
 | [], D, _, _ => Nat.zero_le _
 | a :: r, D, nd, h => by
  obtain ⟨n1, n2⟩ := List.nodup_cons.mp nd
  have ha : a ∈ D := h a List.mem_cons_self
  have ih := nodup_len (l := r) (D := D.erase a) n2 fun x hx => by
   have hxa : x ≠ a := fun e => n1 (by rw [<- e]; exact hx)
   exact (List.mem_erase_of_ne hxa).mpr (h x (List.mem_cons_of_mem _ hx))
  have e := List.length_erase_of_mem ha
  have : 0 < D.length := List.length_pos_of_mem ha
  rw [List.length_cons]
  omega
theorem WF.few {D : List Nat} {s : State} (h : WF D s) {m : Member} (hm : m ∈ s.members) : m.lots.length <= D.length := by
 have := nodup_len (l := m.lots.map (·.1)) (D := D) (h.srt m hm).nodup fun x hx => by
  obtain ⟨p, hp, rfl⟩ := List.mem_map.mp hx
  exact h.days m hm p hp
 rwa [List.length_map] at this
theorem insertL_first {x : T3} {l : List T3} (h : ∀ y ∈ l, x.1 < y.1) : insertL x l = x :: l := by
 cases l with
 | nil => rfl
 | cons y r =>
  show (if x.1 <= y.1 then x :: y :: r else y :: insertL x r) = x :: y :: r
  rw [if_pos (Nat.le_of_lt (h y List.mem_cons_self))]
theorem sortL_rising : ∀ {l : List T3}, (l.Pairwise fun a b => a.1 < b.1) -> l.foldr insertL [] = l
 | [], _ => rfl
 | x :: r, h => by
  have h' := List.pairwise_cons.mp h
  show insertL x (r.foldr insertL []) = x :: r
  rw [sortL_rising h'.2, insertL_first h'.1]
theorem handL_one (g : Nat) {l : Lots} (s : Srt l) : handL [(g, l)] = l.map fun x => (x.1, g, x.2) := by
 unfold handL
 rw [List.flatMap_cons, List.flatMap_nil, List.append_nil]
 refine sortL_rising ?_
 rw [List.pairwise_map]
 exact s
theorem oldest_zero (l : Lots) : oldest 0 l = ([], l) := by
 cases l with
 | nil => rfl
 | cons x r => unfold oldest; rfl
theorem drawn_oldest (g : Nat) : ∀ (l : Lots) (c : Nat), drawn c (l.map fun x => (x.1, g, x.2)) = (oldest c l).1.map fun y => { id := g, day := y.1, n := y.2 }
 | [], c => by rw [List.map_nil, drawn_nil]; rfl
 | x :: r, c => by
  rw [List.map_cons]
  by_cases hc : c = 0
  ·rw [hc, drawn_zero, oldest_zero]
   rfl
  ·rw [drawn_cons hc]
   unfold oldest
   rw [if_neg hc]
   by_cases h : c < x.2
   ·rw [if_pos h, Nat.min_eq_left (Nat.le_of_lt h), Nat.sub_self, drawn_zero]
    rfl
   ·rw [if_neg h, Nat.min_eq_right (Nat.le_of_not_lt h), drawn_oldest g r (c - x.2)]
    rfl
theorem takeDay_head {x : Nat × Nat} {r : Lots} {n : Nat} : takeDay x.1 n (x :: r) = if x.2 <= n then r else (x.1, x.2 - n) :: r := by
 unfold takeDay
 rw [if_pos rfl]
theorem pay_oldest (g : Nat) : ∀ (l : Lots) (c : Nat), payL g ((oldest c l).1.map fun y => { id := g, day := y.1, n := y.2 }) l = (oldest c l).2
 | [], c => rfl
 | x :: r, c => by
  by_cases hc : c = 0
  ·rw [hc, oldest_zero]
   rfl
  ·unfold oldest
   rw [if_neg hc]
   by_cases h : c < x.2
   ·rw [if_pos h]
    show payL g [] (if g = g then takeDay x.1 c (x :: r) else x :: r) = _
    rw [if_pos rfl, takeDay_head, if_neg (by omega)]
    rfl
   ·rw [if_neg h]
    show payL g ((oldest (c - x.2) r).1.map fun y => { id := g, day := y.1, n := y.2 }) (if g = g then takeDay x.1 x.2 (x :: r) else x :: r) = (oldest (c - x.2) r).2
    rw [if_pos rfl, takeDay_head, if_pos (Nat.le_refl _)]
    exact pay_oldest g r (c - x.2)
theorem oldest_mem : ∀ (l : Lots) (c : Nat), ∀ y ∈ (oldest c l).1, y.1 ∈ l.map (·.1) /\ (PosL l -> 0 < y.2)
 | [], c, y, hy => by cases hy
 | x :: r, c, y, hy => by
  by_cases hc : c = 0
  ·rw [hc, oldest_zero] at hy
   cases hy
  ·unfold oldest at hy
   rw [if_neg hc] at hy
   by_cases h : c < x.2
   ·rw [if_pos h] at hy
    have e : y = (x.1, c) := by simpa using hy
    rw [e]
    exact ⟨List.mem_cons_self, fun _ => by show 0 < c; omega⟩
   ·rw [if_neg h] at hy
    rcases List.mem_cons.mp (show y ∈ x :: (oldest (c - x.2) r).1 from hy) with e | hy
    ·rw [e]; exact ⟨List.mem_cons_self, fun p => p x List.mem_cons_self⟩
    ·obtain ⟨h1, h2⟩ := oldest_mem r (c - x.2) y hy
     exact ⟨List.mem_cons_of_mem _ h1, fun p => h2 fun q hq => p q (List.mem_cons_of_mem _ hq)⟩
theorem oldest_len : ∀ (l : Lots) (c : Nat), (oldest c l).1.length <= l.length
 | [], c => Nat.le_refl _
 | x :: r, c => by
  by_cases hc : c = 0
  ·rw [hc, oldest_zero]
   exact Nat.zero_le _
  ·unfold oldest
   rw [if_neg hc]
   by_cases h : c < x.2
   ·rw [if_pos h]
    show 1 <= r.length + 1
    omega
   ·rw [if_neg h]
    show (oldest (c - x.2) r).1.length + 1 <= r.length + 1
    have := oldest_len r (c - x.2)
    omega
def putAll (ys : List (Nat × Nat)) (l : Lots) : Lots := ys.foldl (fun l y => put y.1 y.2 l) l
theorem putAll_srt : ∀ (ys : List (Nat × Nat)) {l : Lots}, Srt l -> Srt (putAll ys l)
 | [], l, h => h
 | y :: r, l, h => putAll_srt r (put_srt h)
theorem putAll_pos : ∀ (ys : List (Nat × Nat)) {l : Lots}, (∀ y ∈ ys, 0 < y.2) -> PosL l -> PosL (putAll ys l)
 | [], l, _, h => h
 | y :: r, l, hy, h => putAll_pos r (fun z hz => hy z (List.mem_cons_of_mem _ hz)) (put_pos (hy y List.mem_cons_self) h)
theorem putAll_days {D : List Nat} : ∀ (ys : List (Nat × Nat)) {l : Lots}, (∀ y ∈ ys, y.1 ∈ D) -> (∀ p ∈ l, p.1 ∈ D) -> ∀ p ∈ putAll ys l, p.1 ∈ D
 | [], l, _, h => h
 | y :: r, l, hy, h => putAll_days r (fun z hz => hy z (List.mem_cons_of_mem _ hz)) fun p hp => by
  rcases put_keys p hp with e | e
  ·rw [e]; exact hy y List.mem_cons_self
  ·obtain ⟨q, hq, e⟩ := List.mem_map.mp e
   rw [<- e]; exact h q hq
theorem putAll_snoc (ys : List (Nat × Nat)) (y : Nat × Nat) (l : Lots) : putAll (ys ++ [y]) l = put y.1 y.2 (putAll ys l) := by
 unfold putAll
 rw [List.foldl_append]
 rfl
theorem len_days {D : List Nat} {l : Lots} (s : Srt l) (h : ∀ p ∈ l, p.1 ∈ D) : l.length <= D.length := by
 have := nodup_len (l := l.map (·.1)) (D := D) s.nodup fun x hx => by
  obtain ⟨p, hp, rfl⟩ := List.mem_map.mp hx
  exact h p hp
 rwa [List.length_map] at this
theorem drawn_mem : ∀ {l : List T3} {c : Nat} {d : Draw}, d ∈ drawn c l -> ∃ n, (d.day, d.id, n) ∈ l /\ d.n = min d.n n /\ (0 < n -> 0 < d.n)
 | [], c, d, h => by rw [drawn_nil] at h; cases h
 | (a, k, n) :: r, c, d, h => by
  by_cases hc : c = 0
  ·rw [hc, drawn_zero] at h; cases h
  ·rw [drawn_cons hc] at h
   rcases List.mem_cons.mp h with e | h
   ·rw [e]
    refine ⟨n, List.mem_cons_self, ?_, fun hn => ?_⟩
    ·show min c n = min (min c n) n
     omega
    ·show 0 < min c n
     omega
   ·obtain ⟨m, h1, h2⟩ := drawn_mem h
    exact ⟨m, List.mem_cons_of_mem _ h1, h2⟩
theorem handL_mem {hs : Hand} {t : T3} (h : t ∈ handL hs) : ∃ g ∈ hs, t.2.1 = g.1 /\ (t.1, t.2.2) ∈ g.2 := by
 have := (sortL_perm _).mem_iff.mp h
 obtain ⟨g, hg, ht⟩ := List.mem_flatMap.mp this
 obtain ⟨x, hx, e⟩ := List.mem_map.mp ht
 rw [<- e]
 exact ⟨g, hg, rfl, hx⟩
theorem payL_none (k : Nat) : ∀ (ds : List Draw) (l : Lots), (∀ d ∈ ds, d.id ≠ k) -> payL k ds l = l
 | [], l, _ => rfl
 | d :: r, l, h => by
  show payL k r (if d.id = k then _ else l) = l
  rw [if_neg (h d List.mem_cons_self)]
  exact payL_none k r l fun e he => h e (List.mem_cons_of_mem _ he)
theorem drawn_len : ∀ (l : List T3) (c : Nat), (drawn c l).length <= l.length
 | [], c => by rw [drawn_nil]; exact Nat.le_refl _
 | (a, k, n) :: r, c => by
  by_cases hc : c = 0
  ·rw [hc, drawn_zero]; exact Nat.zero_le _
  ·rw [drawn_cons hc, List.length_cons, List.length_cons]
   have := drawn_len r (c - min c n)
   omega
end Mile
namespace Mile
open PySem PySem.Spec PyProof.Rows L2
def top (i : Nat) : Stmt := PySem.Challenge.pw_milehouse_s01_answers.main.body.getD i (.Pass ⟨0, 0, 0, 0⟩)
abbrev sPut : Stmt := top 1
abbrev sTake : Stmt := top 2
abbrev sCount : Stmt := top 3
abbrev sBefore : Stmt := top 4
abbrev sRunOut : Stmt := top 5
abbrev sOrder : Stmt := top 6
abbrev sOldest : Stmt := top 7
abbrev lk1 (p : Nat × Nat) : Key × V := (Sum.inl (p.1 : Int), V.int (p.2 : Int))
abbrev lk (l : List (Nat × Nat)) : List (Key × V) := l.map lk1
theorem key_nat {a b : Nat} : ((Sum.inl (a : Int) : Key) = Sum.inl (b : Int)) ↔ a = b := by
 constructor
 ·intro h
  have := Sum.inl.inj h
  omega
 ·intro h; rw [h]
theorem valV_lk (l : List (Nat × Nat)) (d : Nat) : valV (lk l) (Sum.inl (d : Int)) = (lookD l d).map fun n => V.int (n : Int) := by
 unfold lookD
 induction l with
 | nil => rfl
 | cons p r ih =>
  by_cases h : p.1 = d
  ·rw [show lk (p :: r) = lk1 p :: lk r from rfl, valV_pos (p := lk1 p) (key_nat.mpr h), List.find?_cons]
   simp [h]
  ·rw [show lk (p :: r) = lk1 p :: lk r from rfl, valV_neg (p := lk1 p) (fun e => h (key_nat.mp e)), ih, List.find?_cons]
   simp [h]
theorem lk_mem (l : List (Nat × Nat)) (d : Nat) : ((lk l).any fun kv => decide (kv.1 = (Sum.inl (d : Int) : Key))) = decide (d ∈ l.map (·.1)) := by
 rw [valV_any, valV_lk]
 cases e : lookD l d with
 | none => rw [decide_eq_false (lookD_none e)]; rfl
 | some n => rw [decide_eq_true (lookD_some e)]; rfl
theorem putK_lk (l : List (Nat × Nat)) (d n : Nat) : putK (lk l) (Sum.inl (d : Int)) (V.int (((lookD l d).getD 0 + n : Nat) : Int)) = lk (putD l d n) \/ ¬ (l.map (·.1)).Nodup := by
 by_cases nd : (l.map (·.1)).Nodup
 ·left
  unfold putK putD
  rw [lk_mem]
  by_cases m : d ∈ l.map (·.1)
  ·rw [if_pos m, if_pos (decide_eq_true m), List.map_map]
   unfold lk
   rw [List.map_map]
   refine List.map_congr_left fun p hp => ?_
   show (if (lk1 p).1 = (Sum.inl (d : Int) : Key) then ((lk1 p).1, _) else lk1 p) = lk1 (if p.1 = d then (p.1, p.2 + n) else p)
   by_cases e : p.1 = d
   ·rw [if_pos e, if_pos (key_nat.mpr e)]
    have : lookD l d = some p.2 := lookD_of_mem nd (by rw [<- e]; exact hp)
    rw [this]
    rfl
   ·rw [if_neg e, if_neg fun q => e (key_nat.mp q)]
  ·rw [if_neg m, if_neg (by simp [m]), show lookD l d = none by
    cases e : lookD l d with
    | none => rfl
    | some n => exact absurd (lookD_some e) m]
   show lk l ++ [_] = lk (l ++ [(d, n)])
   unfold lk
   rw [List.map_append]
   simp
 ·exact .inr nd
theorem dropK_lk (l : List (Nat × Nat)) (d : Nat) : dropK (lk l) (Sum.inl (d : Int)) = lk (dropD l d) := by
 unfold dropK dropD
 rw [List.filter_map]
 refine congrArg _ (List.filter_congr fun p _ => ?_)
 show decide ((Sum.inl (p.1 : Int) : Key) ≠ Sum.inl (d : Int)) = decide (p.1 ≠ d)
 by_cases e : p.1 = d
 ·rw [decide_eq_false (by simp [e]), decide_eq_false (by simp [e])]
 ·rw [decide_eq_true (show (Sum.inl (p.1 : Int) : Key) ≠ Sum.inl (d : Int) from fun q => e (key_nat.mp q)), decide_eq_true e]
theorem takeK_lk (l : List (Nat × Nat)) (d n m : Nat) (nd : (l.map (·.1)).Nodup) (hm : (d, m) ∈ l) (hn : n <= m) : putK (lk l) (Sum.inl (d : Int)) (V.int ((m : Int) - (n : Int))) = lk (takeD l d n) := by
 unfold putK takeD
 rw [lk_mem, if_pos (decide_eq_true (List.mem_map.mpr ⟨_, hm, rfl⟩)), List.map_map]
 unfold lk
 rw [List.map_map]
 refine List.map_congr_left fun p hp => ?_
 show (if (lk1 p).1 = (Sum.inl (d : Int) : Key) then ((lk1 p).1, _) else lk1 p) = lk1 (if p.1 = d then (p.1, p.2 - n) else p)
 by_cases e : p.1 = d
 ·rw [if_pos e, if_pos (key_nat.mpr e)]
  have h1 : lookD l d = some p.2 := lookD_of_mem nd (by rw [<- e]; exact hp)
  have h2 : lookD l d = some m := lookD_of_mem nd hm
  have h3 : p.2 = m := Option.some.inj (h1.symm.trans h2)
  rw [h3]
  show (_, V.int ((m : Int) - (n : Int))) = (_, V.int ((m - n : Nat) : Int))
  rw [Int.ofNat_sub hn]
 ·rw [if_neg e, if_neg fun q => e (key_nat.mp q)]
def LotsAt (H : Hp) (a : Addr) (l : Vbahaq.Lots) : Prop := ∃ k : List (Nat × Nat), H a = some (.dK (lk k)) /\ k.Perm l
end Mile
namespace Mile
open PySem PySem.Spec PyProof.Rows L2
open Vbahaq (Lots put takeDay held)
section
variable {P : Program} {w : World} {K : PySem.W.Frag} {mg : Str -> Option Value} {base : Heap}
def spPut : Sp := fun vs H Q _ => ∃ (a : Addr) (k : List (Nat × Nat)) (d n : Nat), vs = [.ref a, .int d, .int n] /\ H a = some (.dK (lk k)) /\ (k.map (·.1)).Nodup /\ k.length < sizeLine /\ Q .non (upd H a (.dK (lk (putD k d n))))
theorem scPut : FnScope ["lots", "last_day", "miles"] ["lots", "last_day", "miles"] (defScope sPut) := ⟨rfl, rfl, rfl, by decide +kernel, rfl, by decide +kernel, by decide +kernel⟩
theorem ok_put {f : Addr} {fd : FuncData} (F : Fun K "put_miles" "put_miles" sPut f fd) : FnOk P w K mg base CX0 1 f fd ["lots", "last_day", "miles"] spPut := by
 refine F.ok scPut (fun vs H Q E h => ?_) (fun cdv A outer s H vs Q E hr h => ?_)
 ·obtain ⟨a, k, d, n, rfl, _⟩ := h
  rfl
 ·obtain ⟨a, k, d, n, rfl, ha, nd, hl, q⟩ := h
  have hu := hu_of hr
  refine ⟨_, pss_one (ps_dput hu (pv 0) (pv 1) (pe_op op_add (pe_dget2 hu (pv 0) (pv 1) pe_int ⟨rfl, rfl, rfl, rfl⟩) (pv 2)) rfl), ?_⟩
  refine ⟨_, rfl, a, rfl, .inl ⟨_, .inl ha⟩, _, rfl, _, DGet.k (k := Sum.inl (d : Int)) ha, ?_⟩
  have e : (valV (lk k) (Sum.inl (d : Int))).getD (V.int 0) = V.int (((lookD k d).getD 0 : Nat) : Int) := by
   rw [valV_lk]
   cases lookD k d <;> rfl
  rw [e]
  refine ⟨_, rfl, _, _, rfl, rfl, _, rfl, _, rfl, a, _, rfl, DPut.k (k := Sum.inl (d : Int)) ha (by rw [List.length_map]; exact hl), ?_⟩
  have e2 := (putK_lk k d n).resolve_right fun z => z nd
  show Q .non (upd H a (.dK (putK (lk k) (Sum.inl (d : Int)) (V.int (((lookD k d).getD 0 + n : Nat) : Int)))))
  rw [e2]
  exact q
def spTake : Sp := fun vs H Q _ => ∃ (a : Addr) (k : List (Nat × Nat)) (d n m : Nat), vs = [.ref a, .int d, .int n] /\ H a = some (.dK (lk k)) /\ (k.map (·.1)).Nodup /\ k.length < sizeLine /\ (d, m) ∈ k /\ n <= m /\ Q .non (upd H a (.dK (lk (takenD k d n m))))
theorem scTake : FnScope ["lots", "last_day", "miles"] ["lots", "last_day", "miles"] (defScope sTake) := ⟨rfl, rfl, rfl, by decide +kernel, rfl, by decide +kernel, by decide +kernel⟩
theorem ok_take {f : Addr} {fd : FuncData} (F : Fun K "take_miles" "take_miles" sTake f fd) : FnOk P w K mg base CX0 1 f fd ["lots", "last_day", "miles"] spTake := by
 refine F.ok scTake (fun vs H Q E h => ?_) (fun cdv A outer s H vs Q E hr h => ?_)
 ·obtain ⟨a, k, d, n, m, rfl, _⟩ := h
  rfl
 ·obtain ⟨a, k, d, n, m, rfl, ha, nd, hl, hm, hn, q⟩ := h
  have hu := hu_of hr
  have hv : valV (lk k) (Sum.inl (d : Int)) = some (V.int (m : Int)) := by
   rw [valV_lk, lookD_of_mem nd hm]
   rfl
  refine ⟨_, pss_one (ps_if (pt_cmpR op_eq (pe_dget hu (pv 0) (pv 1) (fun _ _ => rfl)) (pv 2) (nomark _))
   (pss_one (ps_expr (pe_dpop1 (pv 0) (pv 1) ⟨rfl, rfl, rfl, rfl⟩)))
   (pss_one (ps_daug hu (pv 0) (pv 1) (pv 2) in_sub (fun _ _ _ => rfl)))), ?_⟩
  refine ⟨_, rfl, _, rfl, a, _, rfl, (by have := DGet.k (k := Sum.inl (d : Int)) ha; rw [hv] at this; exact this), _, rfl, rfl, _, rfl, ?_⟩
  unfold takenD at q
  refine ite2 (fun c => ?_) (fun c => ?_)
  ·have c' : n = m := by
    have := of_decide_eq_true c
    injection this with this
    omega
   rw [if_pos c'] at q
   refine ⟨_, rfl, a, rfl, .inl ⟨_, .inl ha⟩, _, rfl, _, Sum.inl (d : Int), _, ha, rfl, hv, ?_⟩
   rw [dropK_lk]
   exact q
  ·have c' : ¬ n = m := fun e => c (decide_eq_true (by rw [e]))
   rw [if_neg c'] at q
   refine ⟨_, rfl, _, rfl, a, _, rfl, (by have := DGet.k (k := Sum.inl (d : Int)) ha; rw [hv] at this; exact this), _, rfl, _, _, rfl, rfl, _, DPut.k (k := Sum.inl (d : Int)) ha (by rw [List.length_map]; exact hl), ?_⟩
   rw [takeK_lk k d n m nd hm hn]
   exact q
end
end Mile
namespace Mile
open PySem PySem.Spec PyProof.Rows L2
section
variable {prog : Program} {w : World} {A : Around} {E : Value -> Shared -> Prop} {s : Shared} {T : String} {r d : Addr} {n : Nat} {Pn : Nat -> Value -> Prop} {OK : Heap -> Prop} {Q : Value -> Shared -> Prop}
theorem sum_src (K : PySem.W.KdlSrc prog w T r d n Pn OK) (hh : A.handled = none) (hok : OK s.heap) (val : Nat -> Int) (hval : ∀ (i : Nat) (v : Value), Pn i v -> ∃ t : Tok, v = Value.int (val i) t)
  (fin : ∀ (h' : Heap) (tk : Nat) (t' : Tok), (∀ b o, s.heap.get? b = some o -> h'.get? b = some o) -> Q (.int (preSum val n) t') { s with heap := h', toks := tk }) : wpAny (model prog w) A (call (.builtin "sum") [.ref r]) Q E s := by
 obtain ⟨ob, stp, go, walk, st0⟩ := K.iter A.in1 s hh hok
 have small : ∀ b, b ∈ [s.heap.objs.size, d] -> b < (s.heap.push ob).objs.size := fun b hb => by
  rw [size_push']
  simp only [List.mem_cons, List.not_mem_nil, or_false] at hb
  rcases hb with rfl | rfl
  ·exact Nat.lt_succ_self _
  ·exact Nat.lt_succ_of_lt (K.there _ hok).2
 refine call_sum_walkAnyS (go _ _ ⟨s.heap.objs.size, _, _, _, n, Pn, _, val, rfl, walk.toS, st0, small, hval, fun s2 t' mv => ?_⟩)
 have keep : ∀ b o, s.heap.get? b = some o -> s2.heap.get? b = some o := fun b o e => by
  refine mv.heap b o (fun hb => ?_) (Heap.get?_push_of_some _ e)
  have := Heap.lt_size e
  rw [List.mem_singleton.mp hb] at this
  exact Nat.lt_irrefl _ this
 rw [Moved.eq_with mv]
 exact fin s2.heap s2.toks t' keep
end
theorem preSum_shift (f : Nat -> Int) : ∀ n : Nat, preSum f (n + 1) = f 0 + preSum (fun i => f (i + 1)) n
 | 0 => by simp [preSum]
 | n + 1 => by
  have ih := preSum_shift f n
  simp only [preSum] at ih ⊢
  omega
theorem preSum_list : ∀ ns : List Int, preSum (fun i => ns.getD i 0) ns.length = ns.sum
 | [] => rfl
 | a :: r => by
  show preSum (fun i => (a :: r).getD i 0) (r.length + 1) = (a :: r).sum
  rw [preSum_shift, List.sum_cons, <- preSum_list r]
  rfl
def tSumV (td : TE) : TE := fun σ H Q => td σ H fun x H1 => ∃ (d : Addr) (kvs : List (Key × V)) (ns : List Int), x = .ref d /\ H1 d = some (.dK kvs) /\ kvs.map (·.2) = ns.map V.int /\ Q (.int ns.sum) H1
theorem pe_sumV {X : Cx} {e : Expr} {td : TE} {p pos apos cpos : Pos} (hc : X.calm = true) (hg : Gl X "sum") (hm : X.mg "sum" = none) (he : PE X e td)
  (hst : starEach [.Call (.Attribute e "values" apos) [] [] cpos] X.env = [(false, eval (.Call (.Attribute e "values" apos) [] [] cpos) X.env)] := by rfl)
  (hbase : attributeBase e "values" X.env (eval e X.env) = eval e X.env := by rfl) (hline : (apos.endLine == cpos.line) = true := by rfl) :
  PE X (.Call (.Name "sum" p) [.Call (.Attribute e "values" apos) [] [] cpos] [] pos) (tSumV td) := by
 intro pins s σ H Q I h
 refine wpAny_Call_Name_kw (ld_blt I hg hm (u := .builtin "sum") (by decide +kernel) ?_)
 refine PyProof.Rows.callWith_builtin1 ?_ (by rw [hst] <;> rfl) rfl
 rw [hst]
 show wpAny _ _ (spliced ((false, eval (.Call (.Attribute e "values" apos) [] [] cpos) X.env) :: backTo pos [])) _ _ s
 refine Calls.spliced_cons ?_
 refine wpAny_Call_method (T := "dict") (id := "dict.values") hbase rfl hline F.plainAttrs_dict F.slot_dict_values F.type_dict_values (thn (he pins s σ H _ I h) fun u s1 ⟨x, H1, I1, rx, d, kvs, ns, ex, hd, hns, q⟩ => ?_)
 subst ex
 obtain rfl : u = Value.ref d := rx
 obtain ⟨hz, hs, vs, kv, hD⟩ := dk_of I1.hok hd
 obtain ⟨ep, hat⟩ := hD.dictAt
 have hl : kvs.length = vs.length := Paired.length kv
 refine ⟨hD.typeIs, hD.mapOf.noDict, ?_⟩
 have I2 : Inv X pins σ H1 { s1 with heap := s1.heap.push { cls := .type "dict_values", data := .fields #[.ref d] } } := I1.kept (t' := s1.toks) fun b ob q => Heap.get?_push_of_some _ q
 show wpAny _ _ (callWith cpos (.builtin "dict.values") [.ref d] [] []) _ X.xe s1
 refine method_meetsIn F.slot_dict_values F.entry_dict_values rfl (PySem.evalArgs_none ⟨rfl, hD.typeIs, F.args_dict_values_1 _, _, meets_dict_values (mixKind X.prog X.w) d hs, ⟨vs, hD⟩, ?_⟩)
 refine Calls.spliced_nil ?_
 show wpAny _ _ (call (.builtin "sum") [.ref s1.heap.objs.size]) _ _ _
 refine sum_src (PySem.W.kdl_values (knd := mixKind X.prog X.w) (kvs := vs) (ep := ep) (d := d)) (I.ok.hd hc) ⟨⟨_, Heap.get?_push_size _ rfl, rfl, rfl⟩, hat.push _⟩ (fun i => ns.getD i 0) (fun i v hv => ?_) fun h' tk t' hk => ?_
 ·obtain ⟨k, hx⟩ := hv
  have hlt : i < kvs.length := by rw [hl]; exact (List.getElem?_eq_some_iff.mp hx).1
  obtain ⟨⟨k2, v2⟩, hkv⟩ : ∃ p, kvs[i]? = some p := ⟨kvs[i], List.getElem?_eq_getElem hlt⟩
  obtain ⟨u, hu, ru⟩ := kv_get kv hkv
  rw [hx] at hu
  have e1 : v = u := congrArg (·.2) (Option.some.inj hu)
  have e2 : (kvs.map (·.2))[i]? = some v2 := by rw [List.getElem?_map, hkv]; rfl
  rw [hns, List.getElem?_map] at e2
  cases e3 : ns[i]? with
  | none => rw [e3] at e2; cases e2
  | some z =>
   rw [e3] at e2
   have e4 : V.int z = v2 := Option.some.inj e2
   rw [<- e4] at ru
   obtain ⟨t, ht⟩ := ru
   refine ⟨t, ?_⟩
   rw [e1, ht, List.getD_eq_getElem?_getD, e3]
   rfl
 ·have e : preSum (fun i => ns.getD i 0) vs.length = ns.sum := by
   have : vs.length = ns.length := by
    rw [<- hl, <- List.length_map (f := (·.2)) (as := kvs), hns, List.length_map]
   rw [this]
   exact preSum_list ns
  rw [e]
  exact ⟨.int ns.sum, H1, I2.kept hk, ⟨_, rfl⟩, q⟩
theorem perm_map_ex {α β : Type} {f : α -> β} {l m : List β} (h : l.Perm m) : ∀ Z : List α, m = Z.map f -> ∃ Z' : List α, Z'.Perm Z /\ l = Z'.map f := by
 induction h with
 | nil =>
  intro Z e
  cases Z with
  | nil => exact ⟨[], .refl _, rfl⟩
  | cons a r => cases e
 | cons x h ih =>
  intro Z e
  cases Z with
  | nil => cases e
  | cons a r =>
   obtain ⟨e1, e2⟩ := List.cons.inj e
   obtain ⟨Z', p, e3⟩ := ih r e2
   exact ⟨a :: Z', p.cons a, by rw [e1, e3]; rfl⟩
 | swap x y l =>
  intro Z e
  match Z, e with
  | a :: b :: r, e =>
   obtain ⟨e1, e2⟩ := List.cons.inj e
   obtain ⟨e3, e4⟩ := List.cons.inj e2
   exact ⟨b :: a :: r, List.Perm.swap a b r, by rw [e1, e3, e4]; rfl⟩
 | trans h1 h2 ih1 ih2 =>
  intro Z e
  obtain ⟨Z2, p2, e2⟩ := ih2 Z e
  obtain ⟨Z1, p1, e1⟩ := ih1 Z2 e2
  exact ⟨Z1, p1.trans p2, e1⟩
def lexLe (a b : Int × Int) : Prop := a.1 < b.1 \/ (a.1 = b.1 /\ a.2 <= b.2)
theorem lexLe_of {a b : Int × Int} (h : PyProof.Rows.lexLt itemOrd [Sum.inl b.1, Sum.inl b.2] [Sum.inl a.1, Sum.inl a.2] = false) : lexLe a b := by
 obtain ⟨h1, h2⟩ := lex_false.mp h
 have h1' : ¬ b.1 < a.1 := of_decide_eq_false (show decide (b.1 < a.1) = false from h1)
 rcases h2 with h2 | h2
 ·exact .inl (of_decide_eq_true (show decide (a.1 < b.1) = true from h2))
 ·obtain ⟨h3, _⟩ := lex_false.mp h2
  have h3' : ¬ b.2 < a.2 := of_decide_eq_false (show decide (b.2 < a.2) = false from h3)
  by_cases e : a.1 < b.1
  ·exact .inl e
  ·exact .inr ⟨by omega, by omega⟩
abbrev noStr : Nat -> Bool := fun _ => false
section
open PySem.MeetsSeq PySem.AutoSeq1
theorem extend_tup (l : Addr) (xs : Array Value) (n : Nat) (b : Addr) (ys : Array Value) (k : Nat) (dd : Option Addr) (sl : Array (Option Value)) (c0 : ¬(!xs.isEmpty && Builtin.List.listTooLong (xs.size + ys.size)) = true) (c1 : xs.size <= sizeLine) (c2 : xs.size + ys.size <= sizeLine + 1) :
  Meets (Builtin.«list.extend» ⟨[.ref l, .ref b], []⟩) (fun _ R s => s.heap.get? l = some { cls := .type "list", dict := none, data := .seq xs n, slots := #[] } /\ s.heap.get? b = some { cls := .type "tuple", dict := dd, data := .seq ys k, slots := sl } /\ R (.ok (.ret Value.none)) { s with heap := s.heap.update l (Obj.mapSeq fun x => x ++ ys), toks := s.toks }) := .of_wp fun _ _ _ _ s hyp => by
 have i1 := idx_int
 have i2 := AutoSeq1.sub_tuple_tuple
 have i3 := AutoSeq1.sub_list_list
 have i4 := AutoSeq1.sub_tuple_list
 have i5 := AutoSeq1.sub_list_tuple
 have c3 : (xs ++ ys).size <= sizeLine + 1 := by rw [Array.size_append]; exact c2
 obtain ⟨a1, a2, a3, a4, a5⟩ := s
 obtain ⟨e1, e2, fin⟩ := hyp
 wp_walk using (wpAny_updateSeq e1 rfl (hz := c1) (_hz' := c3)), wpAny_loadPart' e1, wpAny_loadPart' e2
 exact ⟨_, rfl, fin⟩
end
section
variable {X : Cx}
def rSortedT (K : PySem.W.Frag) : List V -> Hp -> VK -> Prop := fun vs H Q => ∃ (a : Addr) (Z : List (Addr × (Int × Int))), vs = [V.ref a] /\ SqL K H a (Z.map fun z => V.ref z.1) /\
 (∀ z ∈ Z, H z.1 = some (.tup [.int z.2.1, .int z.2.2])) /\
 ∀ (Z' : List (Addr × (Int × Int))) (p : Addr), Z'.Perm Z -> Z'.Pairwise (fun x y => lexLe x.2 y.2) -> H p = none -> Q (.ref p) (upd H p (.lst (Z'.map fun z => V.ref z.1)))
theorem tup2_at {pins : List (Addr × Obj)} {σ : L2.St} {H : Hp} {s : Shared} {t : Addr} {a b : Int} (I : L2.Inv X pins σ H s) (h : H t = some (.tup [.int a, .int b])) :
  ∃ (o : Obj) (n : Nat) (t1 t2 : Tok), s.heap.get? t = some o /\ o.cls = .type "tuple" /\ o.data = .seq #[.int a t1, .int b t2] n := by
 obtain ⟨its, rv, ⟨o, e, hc, n, hd⟩, _⟩ := I.tuple (SqT.of h)
 cases rv with
 | cons r1 rr =>
  cases rr with
  | cons r2 rr =>
   cases rr
   obtain ⟨t1, rfl⟩ := r1
   obtain ⟨t2, rfl⟩ := r2
   exact ⟨o, n, t1, t2, e, hc, hd⟩
theorem tups_at {pins : List (Addr × Obj)} {σ : L2.St} {H : Hp} {s : Shared} (I : L2.Inv X pins σ H s) : ∀ Z : List (Addr × (Int × Int)), (∀ z ∈ Z, H z.1 = some (.tup [.int z.2.1, .int z.2.2])) ->
  ∃ fs, TupsOf s.heap noStr (Z.map fun z => Value.ref z.1) fs
 | [], _ => ⟨[], .nil⟩
 | z :: r, h => by
  obtain ⟨fs, ih⟩ := tups_at I r fun x hx => h x (List.mem_cons_of_mem _ hx)
  obtain ⟨o, n, t1, t2, e, hc, hd⟩ := tup2_at I (h z List.mem_cons_self)
  exact ⟨_ :: fs, .cons ⟨z.1, o, _, n, rfl, e, hc, hd, rfl, fun _ => ⟨_, _, rfl⟩, fun q => Bool.noConfusion q⟩ ih⟩
theorem keyC_at {pins : List (Addr × Obj)} {σ : L2.St} {H : Hp} {s : Shared} (I : L2.Inv X pins σ H s) {z : Addr × (Int × Int)} (h : H z.1 = some (.tup [.int z.2.1, .int z.2.2])) :
  G.tupKeyC s.heap noStr (.ref z.1) = some [Sum.inl z.2.1, Sum.inl z.2.2] := by
 obtain ⟨o, n, t1, t2, e, hc, hd⟩ := tup2_at I h
 have e1 : G.isTupObj s.heap (.ref z.1) = true := by simp [G.isTupObj, e, hc]
 unfold G.tupKeyC
 rw [if_pos e1]
 simp only [tupKey, e, hd]
 rfl
theorem cr_sortedT : CallR X (.builtin "sorted") (rSortedT X.K) := by
 intro pins s σ H vs us Q I r h
 obtain ⟨a, Z, rfl, hs, hZ, q⟩ := h
 obtain ⟨its, rv, hl, hsz⟩ := I.list hs
 rw [Vals.ref1 r]
 have ei : its = Z.map fun z => Value.ref z.1 := by
  have := refs_at (ps := Z.map (·.1)) (us := its) (by rw [List.map_map]; exact rv)
  rw [this, List.map_map]
  rfl
 obtain ⟨fs, ht⟩ := tups_at I Z hZ
 rw [<- ei] at ht
 have hlen : its.length <= sizeLine := by rw [<- rv.length]; exact hsz
 refine G.sorted_tups hl.isList ht (fun v hv => ?_) hlen fun st' hp hso _ => ?_
 ·rw [ei] at hv
  obtain ⟨z, hz, rfl⟩ := List.mem_map.mp hv
  exact ⟨_, keyC_at I (hZ z hz)⟩
 ·have hp2 : (arrOf st').toList.Perm (its.zip its) := by
   have := Array.perm_iff_toList_perm.mp hp
   rwa [pairsOf_toList] at this
  have hzz : its.zip its = Z.map fun z => (Value.ref z.1, Value.ref z.1) := by
   rw [ei, List.zip_map']
  rw [hzz] at hp2
  obtain ⟨Z', pz, ez⟩ := perm_map_ex hp2 Z rfl
  have hpw : Z'.Pairwise (fun x y => lexLe x.2 y.2) := by
   refine List.pairwise_iff_getElem.mpr fun i j hi hj hij => ?_
   have hn : Z'.length = its.length := by rw [pz.length_eq, ei, List.length_map]
   have hso' := hso i j (Nat.le_of_lt hij) (by rw [pairsOf_size, <- hn]; exact hj)
   have key : ∀ (k : Nat) (hk : k < Z'.length), KK (G.tupKindC s.heap noStr) (arrOf st') k = [Sum.inl Z'[k].2.1, Sum.inl Z'[k].2.2] := fun k hk => by
    have e1 : (arrOf st')[k]? = some (Value.ref Z'[k].1, Value.ref Z'[k].1) := by
     rw [<- Array.getElem?_toList, ez, List.getElem?_map, List.getElem?_eq_getElem hk]
     rfl
    unfold KK
    rw [e1]
    show (G.tupKeyC s.heap noStr (Value.ref Z'[k].1)).getD [] = _
    rw [keyC_at I (hZ _ (pz.mem_iff.mp (List.getElem_mem hk)))]
    rfl
   rw [key i hi, key j hj] at hso'
   exact lexLe_of hso'
  obtain ⟨ep, he'⟩ := PyProof.Rows.sortedAll_at s.heap its ((arrOf st').map (·.2))
  have hout : ((arrOf st').map (·.2)).toList = Z'.map fun z => Value.ref z.1 := by
   rw [Array.toList_map, ez, List.map_map]
   rfl
  have hv : ∀ W : List (Addr × (Int × Int)), Vals (W.map fun z => V.ref z.1) (W.map fun z => Value.ref z.1) := fun W => by
   induction W with
   | nil => exact .nil
   | cons x r ih => exact .cons rfl ih
  have hlen2 : (Z'.map fun z => V.ref z.1).length <= sizeLine := by rw [List.length_map, pz.length_eq]; rw [List.length_map] at hsz; exact hsz
  refine ⟨.ref _, upd H (s.heap.objs.size + 1) (.lst (Z'.map fun z => V.ref z.1)), I.laid (t' := s.toks) (fun _ _ => PyProof.Rows.sortedAll_old) (Nat.le_succ _) ⟨hlen2, ((arrOf st').map (·.2)).toList, ep, by rw [hout]; exact hv Z', he'⟩, rfl, q Z' _ pz hpw (I.hok.fresh (Nat.le_succ _))⟩
def rExtendT (K : PySem.W.Frag) : V -> List V -> Hp -> VK -> Prop := fun x vs H Q => ∃ l b xs zs, x = .ref l /\ vs = [.ref b] /\ H l = some (.lst xs) /\ H b = some (.tup zs) /\ xs.length + zs.length <= sizeLine /\ Q .non (upd H l (.lst (xs ++ zs)))
theorem mt_extendT : MtM X "list.extend" (rExtendT X.K) := by
 intro pins s σ H x vs v us Q I rx rv h
 obtain ⟨l, b, xs, zs, rfl, rfl, hH, hB, hz, q⟩ := h
 cases rx
 obtain ⟨u, rfl, ru⟩ := rv.one
 cases ru
 obtain ⟨z, its, n, r, hl, e⟩ := I.lstM hH
 obtain ⟨its2, r2, ⟨o2, e2, hc2, n2, hd2⟩, z2⟩ := I.tuple (SqT.of hB)
 have hl2 := r2.length
 have hsz : its.toArray.size + its2.toArray.size <= sizeLine := by rw [List.size_toArray, List.size_toArray]; omega
 have hlong : ¬ (!its.toArray.isEmpty && Builtin.List.listTooLong (its.toArray.size + its2.toArray.size)) = true := by
  rw [notLongL hsz, Bool.and_false]
  exact Bool.false_ne_true
 obtain ⟨oc, od, odt, osl⟩ := o2
 simp only at hc2 hd2
 subst hc2 hd2
 refine call_meets F.slot_list_extend ⟨_, e, rfl⟩ F.entry_list_extend (F.args_list_extend_2 _ _)
  (extend_tup l its.toArray n b its2.toArray n2 od osl hlong (by rw [List.size_toArray]; omega) (by omega)) ⟨e, e2, ?_⟩
 refine ⟨.non, _, I.lset (its' := its ++ its2) hH e (by simp) (r.append r2) ?_, rfl, q⟩
 rw [List.length_append]
 omega
end
section
open PySem.MeetsSeq PySem.SeqAt
open AutoSeq1 (wpAny_loadPart' size_inserted)
abbrev lObj (xs : Array Value) (n : Nat) : Obj := { cls := .type "list", dict := none, data := .seq xs n, slots := #[] }
abbrev cutAt (l : Addr) (j : Nat) (s : Shared) : Shared := { s with heap := s.heap.update l (Obj.mapSeq fun zs => zs.eraseIdxIfInBounds j) }
theorem remove_from (l : Addr) (xs : Array Value) (n : Nat) (x : Value) (same : Nat -> Bool) (j : Nat) (jl : j < xs.size) (jt : same j = true) (c1 : xs.size <= sizeLine) (before : ∀ m, m < j -> same m = false) (left : Nat) :
  ∀ i : Nat, j - i = left -> i <= j -> Meets (Builtin.«list.remove.loop» ⟨[.ref l, x, rawInt i], []⟩)
   (fun A R s => s.heap.get? l = some (lObj xs n) /\ (∀ m (hm : m < xs.size), m <= j -> EqAt A.in1 s xs[m] x (same m)) /\ R (.ok (.ret .none)) (cutAt l j s)) := by
 induction left with
 | zero =>
  intro i e1 e2 P0 w0 A0 R0 s0 ⟨hl, hq, fin⟩
  obtain ⟨a1, a2, a3, a4, a5⟩ := s0
  obtain rfl : i = j := by omega
  wp_walk using wpAny_loadPart' hl
  rw [show xs[((i : Nat) : Int).toNat]? = some xs[i] by simp [jl]]
  refine wpAny_bind (hq _ jl (Nat.le_refl _) P0 w0 _ _ ?_)
  rw [jt]
  have c2 : (xs.eraseIdxIfInBounds i).size <= sizeLine + 1 := by have := size_erased xs i; omega
  wp_walk using (wpAny_updateSeq hl rfl (hz := c1) (_hz' := c2)), wpAny_loadPart' hl
  simpa using fin
 | succ left ih =>
  intro i e1 e2 P0 w0 A0 R0 s0 ⟨hl, hq, fin⟩
  obtain ⟨a1, a2, a3, a4, a5⟩ := s0
  have il : i < xs.size := by omega
  wp_walk using wpAny_loadPart' hl
  rw [show xs[((i : Nat) : Int).toNat]? = some xs[i] by simp [il]]
  refine wpAny_bind (hq _ il e2 P0 w0 _ _ ?_)
  rw [before i (by omega)]
  wp_walk
  rw [show (i : Int) + 1 = ((i + 1 : Nat) : Int) from rfl]
  refine ⟨plainId_quiet plain_remove_loop _, codeAny_builtin entry_remove_loop ?_⟩
  rw [Around.under_plainId plain_remove_loop]
  exact ih (i + 1) (by omega) (by omega) P0 w0 A0 R0 _ ⟨hl, hq, fin⟩
theorem list_removeAt (l : Addr) (xs : Array Value) (n : Nat) (x : Value) (same : Nat -> Bool) (j : Nat) (jl : j < xs.size) (jt : same j = true) (before : ∀ m, m < j -> same m = false) (c1 : xs.size <= sizeLine) :
  Meets (Builtin.«list.remove» ⟨[.ref l, x], []⟩) (fun A R s => s.heap.get? l = some (lObj xs n) /\ (∀ m (hm : m < xs.size), m <= j -> EqAt A.in1 s xs[m] x (same m)) /\ R (.ok (.ret .none)) (cutAt l j s)) := by
 intro P0 w0 A0 R0 s0 ⟨hl, hq, fin⟩
 obtain ⟨a1, a2, a3, a4, a5⟩ := s0
 wp_walk using wpAny_loadPart' hl
 refine ⟨plainId_quiet plain_remove_loop _, codeAny_builtin entry_remove_loop ?_⟩
 rw [Around.under_plainId plain_remove_loop]
 exact remove_from l xs n x same j jl jt c1 before _ 0 rfl (Nat.zero_le _) P0 w0 A0 R0 _ ⟨hl, hq, fin⟩
end
section
variable {X : Cx}
def rRemoveL : V -> List V -> Hp -> VK -> Prop := fun x vs H Q => ∃ (l a : Addr) (ps : List (Addr × List Int)) (j : Nat) (ns : List Int), x = .ref l /\ vs = [.ref a] /\ H l = some (.lst (ps.map fun p => V.ref p.1)) /\
 (∀ p ∈ ps, H p.1 = some (.lst (p.2.map V.int))) /\ ps[j]? = some (a, ns) /\ (∀ m p, m < j -> ps[m]? = some p -> p.2 ≠ ns) /\ Q .non (upd H l (.lst ((ps.eraseIdx j).map fun p => V.ref p.1)))
theorem all_range_eq : ∀ (xs ys : List Int), xs.length = ys.length -> xs ≠ ys -> ((List.range xs.length).all fun i => xs.getD i 0 == ys.getD i 0) = false
 | [], [], _, h => absurd rfl h
 | [], _ :: _, h, _ => by cases h
 | _ :: _, [], h, _ => by cases h
 | x :: xs, y :: ys, hl, hne => by
  rw [List.length_cons, List.range_succ_eq_map, List.all_cons, List.all_map]
  by_cases e : x = y
  ·have : xs ≠ ys := fun z => hne (by rw [e, z])
   have ih := all_range_eq xs ys (by simpa using hl) this
   have : ((List.range xs.length).all ((fun i => (x :: xs).getD i 0 == (y :: ys).getD i 0) ∘ Nat.succ)) = ((List.range xs.length).all fun i => xs.getD i 0 == ys.getD i 0) := rfl
   rw [this, ih, Bool.and_false]
  ·have : ((x :: xs).getD 0 0 == (y :: ys).getD 0 0) = false := by
    show (x == y) = false
    exact beq_eq_false_iff_ne.mpr e
   rw [this, Bool.false_and]
theorem map_erase {α β : Type} (f : α -> β) : ∀ (l : List α) (j : Nat), (l.eraseIdx j).map f = (l.map f).eraseIdx j
 | [], _ => by simp
 | a :: r, 0 => rfl
 | a :: r, j + 1 => congrArg (f a :: ·) (map_erase f r j)
theorem mt_removeL (hu : X.A.units + 4 < cLine) : MtM X "list.remove" rRemoveL := by
 intro pins s σ H x vs v us Q I rx rv h
 obtain ⟨l, a, ps, j, ns, rfl, rfl, hH, hps, hj, hno, q⟩ := h
 cases rx
 obtain ⟨u, rfl, ru⟩ := rv.one
 cases ru
 obtain ⟨z, its, n, r, hl, e⟩ := I.lstM hH
 have ei : its = ps.map fun p => Value.ref p.1 := by
  have := refs_at (ps := ps.map (·.1)) (us := its) (by rw [List.map_map]; exact r)
  rw [this, List.map_map]
  rfl
 have hjl : j < ps.length := (List.getElem?_eq_some_iff.mp hj).1
 have hil : its.length = ps.length := by rw [ei, List.length_map]
 have hat : ∀ (m : Nat) (hm : m < ps.length), its.toArray[m]? = some (Value.ref ps[m].1) := fun m hm => by
  rw [ei]
  simp [hm]
 have hjv : ps[j] = (a, ns) := (List.getElem?_eq_some_iff.mp hj).2
 refine call_meets F.slot_list_remove ⟨_, e, rfl⟩ F.entry_list_remove (F.args_list_remove_2 _ _)
  (list_removeAt l its.toArray n (.ref a) (fun m => decide (m = j)) j (by rw [List.size_toArray]; omega) (by simp) (fun m hm => by simp; omega) (by rw [List.size_toArray]; rw [List.length_map] at z; omega)) ⟨e, fun m hm hmj => ?_, ?_⟩
 ·have hm' : m < ps.length := by rw [List.size_toArray] at hm; omega
  have e1 : its.toArray[m] = Value.ref ps[m].1 := by
   have := hat m hm'
   rw [Array.getElem?_eq_getElem hm] at this
   exact Option.some.inj this
  rw [e1]
  by_cases hmj' : m = j
  ·subst hmj'
   rw [hjv, decide_eq_true rfl]
   exact SeqAt.EqAt.same _
  ·rw [decide_eq_false hmj']
   have hne := hno m ps[m] (by omega) (List.getElem?_eq_getElem hm')
   have h1 := hps ps[m] (List.getElem_mem hm')
   have h2 := hps _ (List.mem_of_getElem? hj)
   obtain ⟨its1, r1, p1, _⟩ := I.list (SqL.of h1)
   obtain ⟨its2, r2, p2, _⟩ := I.list (SqL.of h2)
   have nea : ps[m].1 ≠ a := fun ea => hne (by
    rw [ea] at h1
    have h3 := h1.symm.trans h2
    have h4 := HO.lst.inj (Option.some.inj h3)
    exact List.map_inj_right (f := V.int) (fun x y e => by injection e) |>.mp h4)
   refine SeqAt.EqAt.of_refs nea ?_
   have l1 : ps[m].2.length = its1.length := by have := r1.length; rwa [List.length_map] at this
   have l2 : ns.length = its2.length := by have := r2.length; rwa [List.length_map] at this
   by_cases hle : ps[m].2.length = ns.length
   ·have hi1 := r1.ints
    have hi2 := r2.ints
    have key := SeqAt.RcAt.lists (A := X.A.in1) (s := s) (e := fun i => (ps[m].2.getD i 0 == ns.getD i 0)) p1.isList p2.isList (by simp; omega) (by show X.A.units + 1 < cLine; omega) (fun k h1 h2 => ?_)
    ·have hsz : its1.toArray.size = ps[m].2.length := by rw [List.size_toArray, l1]
     rw [hsz, all_range_eq _ _ hle hne] at key
     exact key
    ·obtain ⟨t1, e1⟩ := hi1.int_at k its1[k] (List.getElem?_eq_getElem (by simpa using h1))
     obtain ⟨t2, e2⟩ := hi2.int_at k its2[k] (List.getElem?_eq_getElem (by simpa using h2))
     have e1' : its1.toArray[k] = Value.int (ps[m].2.getD k 0) t1 := by simpa using e1
     have e2' : its2.toArray[k] = Value.int (ns.getD k 0) t2 := by simpa using e2
     rw [e1', e2']
     exact (MeetsSeq.EqGives.int _ _ _ _).at _ _
   ·exact SeqAt.RcAt.lists_lengths (A := X.A.in1) (s := s) p1.isList p2.isList (by simp [bne_iff_ne]; omega) (by show X.A.units + 1 < cLine; omega)
 ·refine ⟨.non, _, I.lset (ys := (ps.eraseIdx j).map fun p => V.ref p.1) (its' := its.eraseIdx j) hH e ?_ ?_ ?_, rfl, q⟩
  ·simp [Array.eraseIdxIfInBounds]
   intro h
   omega
  ·rw [map_erase]
   exact r.eraseIdx j
  ·rw [List.length_map]
   rw [List.length_map] at z
   exact Nat.le_trans (len_erase _ _) z
def ddLen (ns : List Int) : Nat := (ns.foldl step_dedup []).length
def rSetOf (K : PySem.W.Frag) : List V -> Hp -> VK -> Prop := fun vs H Q => ∃ (a : Addr) (ns : List Int), vs = [V.ref a] /\ SqL K H a (ns.map V.int) /\ ns.length + 1 < 4096 /\ ∀ (S : Int -> Bool) (p : Addr), H p = none -> Q (.ref p) (upd H p (.set S (ddLen ns)))
theorem range_getD : ∀ ns : List Int, (List.range ns.length).map (fun i => ns.getD i 0) = ns
 | [] => rfl
 | a :: r => by
  rw [List.length_cons, List.range_succ_eq_map, List.map_cons, List.map_map]
  exact congrArg (a :: ·) (range_getD r)
theorem cr_set (hc : X.calm = true) : CallR X (.type "set") (rSetOf X.K) := by
 intro pins s σ H vs us Q I r h
 obtain ⟨a, ns, rfl, hs, hb, q⟩ := h
 obtain ⟨its, rv, hl, _⟩ := I.list hs
 rw [Vals.ref1 r]
 have hi := rv.ints
 have hln := rv.length
 rw [List.length_map] at hln
 refine call_set_list (ns := ns) (I.ok.hd hc) hl.isList (by simpa using hi) (by rw [List.size_toArray]; show its.length + 1 < 4096; omega) fun h' tk hS hk => ?_
 have e : firstMet (fun i => ns.getD i 0) its.toArray.size = ns.foldl step_dedup [] := by
  unfold firstMet
  rw [List.size_toArray, <- hln, range_getD]
 rw [e] at hS
 have hf : H s.heap.objs.size = none := I.hok.fresh (Nat.le_refl _)
 exact ⟨.ref s.heap.objs.size, _, I.laid (o := .set _ (ddLen ns)) (fun b o q => hk b o (Heap.lt_size q) q) (Nat.le_refl _) (show h'.SetOf (intKind X.prog X.w) s.heap.objs.size _ (ddLen ns) from hS), rfl, q _ _ hf⟩
theorem cr_lenS : CallR X (.builtin "len") (fun xs H Q => ∃ p S n, xs = [V.ref p] /\ H p = some (.set S n) /\ Q (.int n) H) := by
 intro pins s σ H vs us Q I r h
 obtain ⟨p, S, n, rfl, hp, q⟩ := h
 rw [Vals.ref1 r]
 obtain ⟨o, es, ep, t, ho, hex, hd, _, _, hb, hf, hn⟩ := I.hok p _ hp
 subst hn
 exact call_len_set ho hex hd hf (by have : es.size < 4096 := hb; omega) ⟨.int es.size, H, I.tok _, ⟨_, rfl⟩, q⟩
end
end Mile
namespace Mile
open PySem PySem.Spec PyProof.Rows L2
open Vbahaq (Lots put takeDay held Draw drawn)
theorem upd_self {G : Hp} {d : Addr} {u : HO} (h : G d = some u) : upd G d u = G := by
 funext b
 by_cases e : b = d
 ·rw [e, upd_same, h]
 ·rw [upd_ne e]
theorem upd_comm {G : Hp} {a b : Addr} {x y : HO} (h : a ≠ b) : upd (upd G a x) b y = upd (upd G b y) a x := by
 funext c
 by_cases e : c = b
 ·subst e
  rw [upd_same, upd_ne (Ne.symm h), upd_same]
 ·rw [upd_ne e]
  by_cases e2 : c = a
  ·subst e2
   rw [upd_same, upd_same]
  ·rw [upd_ne e2, upd_ne e2, upd_ne e]
theorem _root_.L2.Same.upd_new {H G : Hp} (h : Same H G) {p : Addr} {o : HO} (hp : H p = none) : Same H (upd G p o) := fun b u e => by
 rw [upd_ne (ne_of_none e hp)]
 exact h b u e
theorem for_enum {K : PySem.W.Frag} {a : Addr} {xs : List V} {g : TG} {tb : TS} {D : Ends} {σ : L2.St} {H : Hp} (Pv : Nat -> L2.St -> Hp -> Prop) (h0 : Pv 0 σ H) (hl : ∀ i σ H, i <= xs.length -> Pv i σ H -> SqL K H a xs)
  (hs : ∀ i x σ H T, xs[i]? = some x -> Pv i σ H -> H T = none -> g (.ref T) σ (upd H T (.tup [.int (i : Nat), x])) fun σ2 H2 => tb { D with nx := Pv (i + 1), ct := Pv (i + 1), bk := D.nx } σ2 H2) (hd : ∀ σ H, Pv xs.length σ H -> D.nx σ H) :
  ∃ W : Nat -> Nat -> L2.St -> Hp -> Prop, (∃ m, W 0 m σ H) /\ ∀ i m σ H, W i m σ H ->
   ((Ite K a).stop i H /\ D.nx σ H) \/ ((Ite K a).go i H /\ ∃ N : L2.St -> Hp -> Prop, (∀ σ' H', N σ' H' -> ∃ m', m' < m /\ W (i + 1) m' σ' H') /\ ∀ x H', (Ite K a).yld i H x H' -> g x σ H' fun σ2 H2 => tb { D with nx := N, ct := N, bk := D.nx } σ2 H2) := by
 refine ⟨fun i m σ H => m = xs.length - i /\ i <= xs.length /\ Pv i σ H, ⟨xs.length, by simp, Nat.zero_le _, h0⟩, ?_⟩
 rintro i m σ H ⟨rfl, hi, p⟩
 have q := hl i σ H hi p
 by_cases hlt : i < xs.length
 ·refine .inr ⟨⟨xs, xs[i], q, by simp [hlt]⟩, Pv (i + 1), fun σ' H' p' => ⟨xs.length - (i + 1), by omega, rfl, hlt, p'⟩, fun x H' y => ?_⟩
  obtain ⟨T, y', rfl, hT, rfl, hy⟩ := y
  exact hs i y' σ H T (hy xs q) p hT
 ·have e : i = xs.length := by omega
  subst e
  exact .inl ⟨⟨xs, q, Nat.le_refl _⟩, hd σ H p⟩
theorem for_keys {d : Addr} {o : Obj} {kvs : List (Key × V)} {g : TG} {tb : TS} {D : Ends} {σ : L2.St} {H : Hp} (Pv : Nat -> L2.St -> Hp -> Prop) (h0 : Pv 0 σ H) (hl : ∀ i σ H, i <= kvs.length -> Pv i σ H -> H d = some (.frz o (.dK kvs)))
  (hs : ∀ i k v σ H, kvs[i]? = some (k, v) -> Pv i σ H -> g (kV k) σ H fun σ2 H2 => tb { D with nx := Pv (i + 1), ct := Pv (i + 1), bk := D.nx } σ2 H2) (hd : ∀ σ H, Pv kvs.length σ H -> D.nx σ H) :
  ∃ W : Nat -> Nat -> L2.St -> Hp -> Prop, (∃ m, W 0 m σ H) /\ ∀ i m σ H, W i m σ H ->
   ((Itk d o kvs).stop i H /\ D.nx σ H) \/ ((Itk d o kvs).go i H /\ ∃ N : L2.St -> Hp -> Prop, (∀ σ' H', N σ' H' -> ∃ m', m' < m /\ W (i + 1) m' σ' H') /\ ∀ x H', (Itk d o kvs).yld i H x H' -> g x σ H' fun σ2 H2 => tb { D with nx := N, ct := N, bk := D.nx } σ2 H2) := by
 refine ⟨fun i m σ H => m = kvs.length - i /\ i <= kvs.length /\ Pv i σ H, ⟨kvs.length, by simp, Nat.zero_le _, h0⟩, ?_⟩
 rintro i m σ H ⟨rfl, hi, p⟩
 have q := hl i σ H hi p
 by_cases hlt : i < kvs.length
 ·refine .inr ⟨⟨q, hlt⟩, Pv (i + 1), fun σ' H' p' => ⟨kvs.length - (i + 1), by omega, rfl, hlt, p'⟩, fun x H' y => ?_⟩
  obtain ⟨rfl, k, v, hk, rfl⟩ := y
  exact hs i k v σ _ hk p
 ·have e : i = kvs.length := by omega
  subst e
  exact .inl ⟨⟨q, Nat.le_refl _⟩, hd σ H p⟩
structure Hd where
 owner : Nat
 t : Addr
 la : Addr
 k : List (Nat × Nat)
 l : Lots
structure HoldAt (H : Hp) (a : Addr) (hs : List Hd) : Prop where
 lst : H a = some (.lst (hs.map fun h => V.ref h.t))
 tup : ∀ h ∈ hs, H h.t = some (.tup [.int h.owner, .ref h.la])
 lots : ∀ h ∈ hs, H h.la = some (.dK (lk h.k))
def totH (hs : List Hd) : Nat := (hs.map fun h => held h.k).sum
theorem at_map {α β : Type} {f : α -> β} {l : List α} {i : Nat} {y : β} (h : (l.map f)[i]? = some y) : ∃ x, l[i]? = some x /\ y = f x := by
 rw [List.getElem?_map] at h
 cases e : l[i]? with
 | none => rw [e] at h; cases h
 | some x => rw [e] at h; exact ⟨x, rfl, (Option.some.inj h).symm⟩
theorem take_at {α : Type} : ∀ {l : List α} {i : Nat} {x : α}, l[i]? = some x -> l.take (i + 1) = l.take i ++ [x]
 | [], i, x, h => by simp at h
 | a :: l, 0, x, h => by
  have e : a = x := Option.some.inj h
  subst e
  rfl
 | a :: l, i + 1, x, h => by
  have ih := take_at (l := l) (i := i) (x := x) h
  rw [List.take_succ_cons, List.take_succ_cons, ih]
  rfl
theorem sum_append_one (l : List Nat) (n : Nat) : (l ++ [n]).sum = l.sum + n := by
 rw [List.sum_append]
 simp
theorem held_lk (k : List (Nat × Nat)) : (lk k).map (·.2) = ((k.map fun p => (p.2 : Int)).map V.int) := by
 unfold lk
 rw [List.map_map, List.map_map]
 rfl
theorem sum_cast : ∀ k : List (Nat × Nat), (k.map fun p => (p.2 : Int)).sum = ((held k : Nat) : Int)
 | [] => rfl
 | p :: r => by
  rw [List.map_cons, List.sum_cons, sum_cast r, show held (p :: r) = p.2 + held r from rfl]
  omega
structure Txt0 (mg : Str -> Option Value) : Prop where
 sum : mg "sum" = none
 sorted : mg "sorted" = none
 min : mg "min" = none
 enum : mg "enumerate" = none
section
variable {P : Program} {w : World} {K : PySem.W.Frag} {mg : Str -> Option Value} {base : Heap}
def spCount : Sp := fun vs H Q _ => ∃ (a : Addr) (hs : List Hd), vs = [.ref a] /\ HoldAt H a hs /\ Q (.int (totH hs : Nat)) H
theorem scCount : FnScope ["holdings", "miles", "owner", "lots"] ["holdings"] (defScope sCount) := ⟨rfl, rfl, rfl, by decide +kernel, rfl, by decide +kernel, by decide +kernel⟩
theorem ok_count {f : Addr} {fd : FuncData} (F : Fun K "count_miles" "count_miles" sCount f fd) (T : Txt0 mg) : FnOk P w K mg base CX0 1 f fd ["holdings"] spCount := by
 refine F.ok scCount (fun vs H Q E h => ?_) (fun cdv A outer s H vs Q E hr h => ?_)
 ·obtain ⟨a, hs, rfl, _⟩ := h
  rfl
 ·obtain ⟨a, hs, rfl, hh, q⟩ := h
  have nd := scCount.nd
  refine ⟨_, pss_cons (ps_set (i := 1) nd rfl (Or.inl rfl) pe_int)
   (pss_cons (ps_for PassesOwn.never rfl (pi_list (pv 0)) (pg_tup rfl (pgs_cons (pg_name (i := 2) nd rfl (Or.inl rfl)) (pgs_cons (pg_name (i := 3) nd rfl (Or.inl rfl)) pgs_nil)))
    (pss_one (ps_aug (i := 1) nd rfl (Or.inl rfl) (pe_sumV rfl rfl T.sum (pv 3)) ip_add)))
   (pss_one (ps_ret (pv 1)))), ?_⟩
  refine ⟨_, rfl, a, rfl, ⟨_, SqL.of hh.lst⟩, for_list (K := K) (a := a) (xs := hs.map fun h => V.ref h.t) (fun i σ H' => H' = H /\ ∃ v2 v3, σ = [some (.ref a), some (.int (totH (hs.take i) : Nat)), v2, v3])
   ⟨rfl, none, none, rfl⟩ (fun i σ H' _ ⟨e, _⟩ => by rw [e]; exact SqL.of hh.lst) ?_ ?_⟩
  ·rintro i y σ H' hi ⟨rfl, v2, v3, rfl⟩
   obtain ⟨h, hx, rfl⟩ := at_map hi
   have hm := List.mem_of_getElem? hx
   refine ⟨h.t, _, rfl, SqT.of (hh.tup h hm), rfl, _, _, rfl, _, _, rfl, rfl, ?_⟩
   refine ⟨_, rfl, _, rfl, h.la, _, _, rfl, hh.lots h hm, held_lk h.k, _, _, rfl, rfl, rfl, some (.int h.owner), some (.ref h.la), ?_⟩
   rw [sum_cast]
   have e : totH (hs.take (i + 1)) = totH (hs.take i) + held h.k := by
    unfold totH
    rw [take_at hx, List.map_append, List.map_cons, List.map_nil, sum_append_one]
   rw [e]
   rfl
  ·rintro σ H' ⟨rfl, v2, v3, rfl⟩
   rw [List.length_map, List.take_length]
   exact ⟨_, rfl, q⟩
end
abbrev Z2 := List (Addr × (Int × Int))
structure PairsAt (H : Hp) (a : Addr) (Z : Z2) : Prop where
 lst : H a = some (.lst (Z.map fun z => V.ref z.1))
 tup : ∀ z ∈ Z, H z.1 = some (.tup [.int z.2.1, .int z.2.2])
def daysOf (i : Nat) (h : Hd) : List (Int × Int) := h.k.map fun p => ((p.1 : Int), (i : Int))
def flatI : Nat -> List Hd -> List (Int × Int)
 | _, [] => []
 | i, h :: r => daysOf i h ++ flatI (i + 1) r
theorem flatI_snoc : ∀ (i : Nat) (hs : List Hd) (h : Hd), flatI i (hs ++ [h]) = flatI i hs ++ daysOf (i + hs.length) h
 | i, [], h => by
  show daysOf i h ++ [] = [] ++ daysOf (i + 0) h
  rw [List.append_nil, List.nil_append, Nat.add_zero]
 | i, g :: r, h => by
  show daysOf i g ++ flatI (i + 1) (r ++ [h]) = daysOf i g ++ flatI (i + 1) r ++ daysOf (i + (r.length + 1)) h
  rw [flatI_snoc (i + 1) r h, List.append_assoc, Nat.add_right_comm, Nat.add_assoc]
def lotCount (hs : List Hd) : Nat := (hs.map fun h => h.k.length).sum
theorem flatI_length : ∀ (i : Nat) (hs : List Hd), (flatI i hs).length = lotCount hs
 | _, [] => rfl
 | i, h :: r => by
  show (daysOf i h ++ flatI (i + 1) r).length = h.k.length + lotCount r
  rw [List.length_append, flatI_length (i + 1) r]
  unfold daysOf
  rw [List.length_map]
theorem lotCount_take {hs : List Hd} : ∀ i, lotCount (hs.take i) <= lotCount hs := fun i => by
 have e : lotCount hs = lotCount (hs.take i) + lotCount (hs.drop i) := by
  unfold lotCount
  rw [<- List.sum_append, <- List.map_append, List.take_append_drop]
 omega
section
variable {P : Program} {w : World} {K : PySem.W.Frag} {mg : Str -> Option Value} {base : Heap}
def spOrder : Sp := fun vs H Q _ => ∃ (a : Addr) (hs : List Hd), vs = [.ref a] /\ HoldAt H a hs /\ lotCount hs < sizeLine /\
 ∀ (H' : Hp) (p : Addr) (Z : Z2), Same H H' -> H p = none -> PairsAt H' p Z -> (Z.map (·.2)).Perm (flatI 0 hs) -> Z.Pairwise (fun x y => lexLe x.2 y.2) -> Q (.ref p) H'
theorem scOrder : FnScope ["holdings", "order", "index", "holding", "last_day"] ["holdings"] (defScope sOrder) := ⟨rfl, rfl, rfl, by decide +kernel, rfl, by decide +kernel, by decide +kernel⟩
theorem ok_order {f : Addr} {fd : FuncData} (F : Fun K "oldest_first" "oldest_first" sOrder f fd) (T : Txt0 mg) : FnOk P w K mg base CX0 1 f fd ["holdings"] spOrder := by
 refine F.ok scOrder (fun vs H Q E h => ?_) (fun cdv A outer s H vs Q E hr h => ?_)
 ·obtain ⟨a, hs, rfl, _⟩ := h
  rfl
 ·obtain ⟨a, hs, rfl, hh, hcnt, k⟩ := h
  have nd := scOrder.nd
  refine ⟨_, pss_cons (ps_set (i := 1) nd rfl (Or.inl rfl) (pe_lst pa_nil))
   (pss_cons (ps_for PassesOwn.never rfl (pi_enum rfl T.enum (pa_cons (pv 0) pa_nil)) (pg_tup rfl (pgs_cons (pg_name (i := 2) nd rfl (Or.inl rfl)) (pgs_cons (pg_name (i := 3) nd rfl (Or.inl rfl)) pgs_nil)))
    (pss_one (ps_lock (ps_for PassesOwn.never rfl (pi_keys (pe_ix ix_tup (pv 3) pe_int (fun _ _ => rfl))) (pg_name (i := 4) nd rfl (Or.inl rfl))
     (pss_one (ps_expr (pe_bm PySem.F.plainAttrs_list PySem.F.slot_list_append PySem.F.type_list_append mt_append (pv 1) (pa_cons (pe_tup (pa_cons (pv 4) (pa_cons (pv 2) pa_nil))) pa_nil))))))))
   (pss_one (ps_ret (pe_callB cr_sortedT (by rfl) T.sorted PyProof.Rows.boot_sorted (pa_cons (pv 1) pa_nil))))), ?_⟩
  refine ⟨Nat.zero_le _, fun p hp => ?_⟩
  have s0 : Same H (upd H p (.lst [])) := (Same.refl H).upd_new hp
  refine ⟨_, rfl, a, _, rfl, SqL.of (s0 _ _ hh.lst), for_enum (K := K) (a := a) (xs := hs.map fun h => V.ref h.t) (fun i σ H' => Same H H' /\ (∃ Z : Z2, PairsAt H' p Z /\ Z.map (·.2) = flatI 0 (hs.take i)) /\ ∃ v2 v3 v4, σ = [some (.ref a), some (.ref p), v2, v3, v4])
   ⟨s0, ⟨[], ⟨upd_same, fun z hz => by cases hz⟩, rfl⟩, none, none, none, rfl⟩ (fun i σ H' _ ⟨e, _⟩ => SqL.of (e _ _ hh.lst)) ?_ ?_⟩
  ·rintro i y σ H1 T1 hi ⟨s1, ⟨Z, hZ, eZ⟩, v2, v3, v4, rfl⟩ hT1
   obtain ⟨h, hx, rfl⟩ := at_map hi
   have hm := List.mem_of_getElem? hx
   have s2 : Same H (upd H1 T1 (.tup [.int (i : Nat), V.ref h.t])) := s1.upd_new (s1.free hT1)
   have hlt : i < hs.length := (List.getElem?_eq_some_iff.mp hx).1
   have nla : h.la ≠ T1 := ne_of_none (s1 _ _ (hh.lots h hm)) hT1
   have npT : p ≠ T1 := ne_of_none hZ.lst hT1
   have npl : p ≠ h.la := fun e => by
    have := hh.lots h hm
    rw [<- e, hp] at this
    cases this
   refine ⟨T1, _, rfl, SqT.of upd_same, rfl, _, _, rfl, _, _, rfl, rfl, ?_⟩
   refine ⟨h.la, .dK (lk h.k), s2 _ _ (hh.lots h hm), True.intro, fun od => ?_⟩
   have hht : (upd (upd H1 T1 (.tup [.int (i : Nat), V.ref h.t])) h.la (.frz od (.dK (lk h.k)))) h.t = some (.tup [.int h.owner, .ref h.la]) := by
    rw [upd_ne (ne_of (hh.tup h hm) (hh.lots h hm) (by intro q; cases q))]
    exact s2 _ _ (hh.tup h hm)
   refine ⟨_, rfl, h.t, _, _, _, rfl, rfl, SqT.of hht, atI_nat (j := 1) rfl, h.la, od, rfl, .inl ⟨_, upd_same, for_keys (d := h.la) (o := od) (kvs := lk h.k)
    (fun j σ H' => (∃ G : Hp, H' = upd G h.la (.frz od (.dK (lk h.k))) /\ Same H G /\ ∃ Z : Z2, PairsAt G p Z /\ Z.map (·.2) = flatI 0 (hs.take i) ++ (daysOf i h).take j) /\ ∃ v4, σ = [some (.ref a), some (.ref p), some (.int (i : Nat)), some (.ref h.t), v4])
    ⟨⟨_, rfl, s2, Z, ⟨by rw [upd_ne npT]; exact hZ.lst, fun z hz => by rw [upd_ne (ne_of_none (hZ.tup z hz) hT1)]; exact hZ.tup z hz⟩, by rw [eZ, List.take_zero, List.append_nil]⟩, v4, rfl⟩
    (fun j σ H' _ ⟨⟨G, e, _⟩, _⟩ => by rw [e]; exact upd_same) ?_ ?_⟩⟩
   ·rintro j kk vv σ H' hj ⟨⟨G, rfl, sG, Z2, hZ2, eZ2⟩, v4', rfl⟩
    obtain ⟨pr, hpr, e⟩ := at_map hj
    cases e
    have gla : G h.la = some (.dK (lk h.k)) := sG _ _ (hh.lots h hm)
    have ndl : ∀ b xs, G b = some (.tup xs) -> b ≠ h.la := fun b xs e => ne_of e gla (by intro q; cases q)
    have pl : (upd G h.la (.frz od (.dK (lk h.k)))) p = some (.lst (Z2.map fun z => V.ref z.1)) := by rw [upd_ne npl]; exact hZ2.lst
    have hlen : Z2.length < sizeLine := by
     have e1 : Z2.length = (Z2.map (·.2)).length := by rw [List.length_map]
     rw [e1, eZ2, List.length_append, flatI_length]
     have e2 : lotCount (hs.take (i + 1)) = lotCount (hs.take i) + h.k.length := by
      unfold lotCount
      rw [take_at hx, List.map_append, List.map_cons, List.map_nil, sum_append_one]
     have e3 := lotCount_take (hs := hs) (i + 1)
     have e4 : ((daysOf i h).take j).length <= h.k.length := by
      rw [List.length_take]
      unfold daysOf
      rw [List.length_map]
      omega
     omega
    refine ⟨_, rfl, .inl ⟨rfl, _, SqL.of pl⟩, ?_⟩
    refine ⟨_, rfl, _, rfl, (by show 2 <= sizeLine; decide), fun t ht => ?_⟩
    have npt : p ≠ t := ne_of_none pl ht
    have nlt : h.la ≠ t := ne_of_none (upd_same : (upd G h.la (.frz od (.dK (lk h.k)))) h.la = _) ht
    have gt : G t = none := by rw [upd_ne (Ne.symm nlt)] at ht; exact ht
    refine ⟨p, _, _, rfl, rfl, by rw [upd_ne npt]; exact pl, by rw [List.length_map]; exact hlen, ?_⟩
    refine ⟨⟨upd (upd G t (.tup [kV (Sum.inl (pr.1 : Int)), V.int (i : Nat)])) p (.lst (Z2.map (fun z => V.ref z.1) ++ [V.ref t])), ?_, (sG.upd_new (sG.free gt)).upd_new hp, Z2 ++ [(t, ((pr.1 : Int), (i : Int)))], ⟨?_, fun z hz => ?_⟩, ?_⟩, _, rfl⟩
    ·rw [upd_comm nlt, upd_comm (G := upd G t _) (Ne.symm npl)]
    ·rw [upd_same, List.map_append]
     rfl
    ·rcases List.mem_append.mp hz with hz | hz
     ·have e1 := hZ2.tup z hz
      rw [upd_ne (fun q => by rw [q, hZ2.lst] at e1; cases e1), upd_ne (ne_of_none e1 gt)]
      exact e1
     ·rw [List.mem_singleton.mp hz, upd_ne (Ne.symm npt), upd_same]
      rfl
    ·have e5 : (daysOf i h)[j]? = some ((pr.1 : Int), (i : Int)) := by
      unfold daysOf
      rw [List.getElem?_map, hpr]
      rfl
     rw [List.map_append, eZ2, take_at e5, List.append_assoc]
     rfl
   ·rintro σ H' ⟨⟨G, rfl, sG, Z2, hZ2, eZ2⟩, v4', rfl⟩
    refine ⟨upd_same, ?_⟩
    rw [upd_upd, upd_self (sG _ _ (hh.lots h hm))]
    refine ⟨sG, ⟨Z2, hZ2, ?_⟩, _, _, _, rfl⟩
    rw [eZ2, take_at hx, flatI_snoc, List.length_take, Nat.min_eq_left (Nat.le_of_lt hlt), Nat.zero_add, List.length_map]
    refine congrArg _ (List.take_of_length_le ?_)
    unfold daysOf
    rw [List.length_map]
    exact Nat.le_refl _
  ·rintro σ H1 ⟨s1, ⟨Z, hZ, eZ⟩, v2, v3, v4, rfl⟩
   rw [List.length_map, List.take_length] at eZ
   refine ⟨_, rfl, p, Z, rfl, SqL.of hZ.lst, hZ.tup, fun Z' q pz pw hq => ?_⟩
   refine k _ q Z' (s1.upd_new (s1.free hq)) (s1.free hq) ⟨upd_same, fun z hz => ?_⟩ ?_ pw
   ·have e1 := hZ.tup z (pz.mem_iff.mp hz)
    rw [upd_ne (ne_of_none e1 hq)]
    exact e1
   ·rw [<- eZ]
    exact pz.map _
end
def Cal (P : Program) (w : World) (K : PySem.W.Frag) (mg : Str -> Option Value) (base : Heap) (x : Str) (n : Nat) (ps : List Str) (sp : Sp) : Prop :=
 ∃ (f : Addr) (fd : FuncData), mg x = some (.ref f) /\ PySem.W.keepIn K (.ref f) = true /\ Binds K fd ps [] /\ FnOk P w K mg base CX0 n f fd ps sp
theorem pe_cal {X : Cx} {x : Str} {n : Nat} {ps : List Str} {sp : Sp} {e : Expr} {es : List Expr} {t : TA} {p pos : Pos} (C : Cal X.prog X.w X.K X.mg X.base x n ps sp) (hr : Room n X.A) (hg : Gl X x) (ha : PA X (e :: es) t)
  (hdb : (x == ("__debug__" : Str)) = false := by decide) (he : starEach (e :: es) X.env = (false, eval e X.env) :: starEach es X.env := by rfl) (hpl : (backTo pos (starEach es X.env)).any (·.1) = false := by rfl) :
  PE X (.Call (.Name x p) (e :: es) [] pos) (tCall sp [] E0 t) := by
 obtain ⟨f, fd, hm, hk, hb, ok⟩ := C
 exact pe_call ok hr hg hm hk hb .nil pass0 ha hdb he hpl
def handOf (hs : List Hd) : Hand := hs.map fun h => (h.owner, h.l)
theorem perm_tagged : ∀ (i : Nat) (hs : List Hd), (∀ h ∈ hs, h.k.Perm h.l) -> (flatI i hs).Perm ((tagged i (handOf hs)).map fun t => ((t.1 : Int), (t.2.1 : Int)))
 | i, [], _ => .refl _
 | i, h :: r, hh => by
  show (daysOf i h ++ flatI (i + 1) r).Perm (((h.l.map fun x => (x.1, i, x.2)) ++ tagged (i + 1) (handOf r)).map fun t => ((t.1 : Int), (t.2.1 : Int)))
  rw [List.map_append, List.map_map]
  exact ((hh h List.mem_cons_self).map _).append (perm_tagged (i + 1) r fun g hg => hh g (List.mem_cons_of_mem _ hg))
theorem order_eq {Z : Z2} {hs : List Hd} (hh : ∀ h ∈ hs, h.k.Perm h.l /\ Srt h.l) (p : (Z.map (·.2)).Perm (flatI 0 hs)) (pw : Z.Pairwise fun x y => lexLe x.2 y.2) :
  Z.map (·.2) = (tagL (handOf hs)).map fun t => ((t.1 : Int), (t.2.1 : Int)) := by
 refine sorted_unique (R := lexLe) (fun a b h1 h2 => ?_) ((p.trans (perm_tagged 0 hs fun h hm => (hh h hm).1)).trans ((sortL_perm _).symm.map _)) ?_ ?_
 ·unfold lexLe at h1 h2
  exact Prod.ext (by omega) (by omega)
 ·rw [List.pairwise_map]
  exact pw
 ·rw [List.pairwise_map]
  refine (tagL_Lx (hs := handOf hs) fun g hg => ?_).imp fun {x y} q => ?_
  ·obtain ⟨h, hm, rfl⟩ := List.mem_map.mp hg
   exact (hh h hm).2
  ·unfold Lx at q
   unfold lexLe
   show (x.1 : Int) < y.1 \/ ((x.1 : Int) = y.1 /\ (x.2.1 : Int) <= y.2.1)
   omega
theorem tagL_at {hs : List Hd} {j d i n : Nat} (h : (tagL (handOf hs))[j]? = some (d, i, n)) : ∃ g, hs[i]? = some g /\ (d, n) ∈ g.l := by
 have hm := (sortL_perm _).mem_iff.mp (List.mem_of_getElem? h)
 obtain ⟨j', g, e1, e2, e3⟩ := tagged_place hm
 have e2' : i = j' := by
  have : i = 0 + j' := e2
  omega
 subst e2'
 obtain ⟨h0, e4, rfl⟩ := at_map (l := hs) (f := fun h => (h.owner, h.l)) e1
 exact ⟨h0, e4, e3⟩
theorem tagL_length (hs : List Hd) (hh : ∀ h ∈ hs, h.k.Perm h.l) : (tagL (handOf hs)).length = lotCount hs := by
 have e := (perm_tagged 0 hs hh).length_eq
 rw [flatI_length, List.length_map] at e
 rw [e]
 exact (sortL_perm _).length_eq
abbrev drawV (d : Draw) : List V := [.int d.id, .int d.day, .int d.n]
structure DrawsZ (H : Hp) (q : Addr) (Z : List (Addr × Draw)) : Prop where
 lst : H q = some (.lst (Z.map fun z => V.ref z.1))
 tup : ∀ z ∈ Z, H z.1 = some (.tup (drawV z.2))
def DrawsAt (H : Hp) (q : Addr) (ds : List Draw) : Prop := ∃ Z, DrawsZ H q Z /\ Z.map (·.2) = ds
def KeptBut (H H' : Hp) (las : List Addr) : Prop := ∀ b o, H b = some o -> b ∉ las -> H' b = some o
structure HandOk (hs : List Hd) : Prop where
 lots : ∀ h ∈ hs, h.k.Perm h.l /\ Srt h.l
 own : (hs.map (·.owner)).Nodup
 las : (hs.map (·.la)).Nodup
 few : lotCount hs < sizeLine
theorem HandOk.two {hs : List Hd} (o : HandOk hs) {h g : Hd} (hh : h ∈ hs) (hg : g ∈ hs) (e : h.owner = g.owner \/ h.la = g.la) : h = g := by
 obtain ⟨i, hi⟩ := List.getElem?_of_mem hh
 obtain ⟨j, hj⟩ := List.getElem?_of_mem hg
 have : i = j := by
  rcases e with e | e
  ·exact nd_ix o.own (x := h.owner) (by rw [List.getElem?_map, hi]; rfl) (by rw [List.getElem?_map, hj, e]; rfl)
  ·exact nd_ix o.las (x := h.la) (by rw [List.getElem?_map, hi]; rfl) (by rw [List.getElem?_map, hj, e]; rfl)
 subst this
 exact Option.some.inj (hi.symm.trans hj)
theorem len_le_sum {hs : List Hd} {h : Hd} (hm : h ∈ hs) : h.k.length <= lotCount hs := by
 unfold lotCount
 induction hs with
 | nil => cases hm
 | cons g r ih =>
  rw [List.map_cons, List.sum_cons]
  rcases List.mem_cons.mp hm with e | hm
  ·subst e; omega
  ·have := ih hm; omega
structure Txt1 (P : Program) (w : World) (K : PySem.W.Frag) (mg : Str -> Option Value) (base : Heap) : Prop extends Txt0 mg where
 order : Cal P w K mg base "oldest_first" 1 ["holdings"] spOrder
 take : Cal P w K mg base "take_miles" 1 ["lots", "last_day", "miles"] spTake
section
variable {P : Program} {w : World} {K : PySem.W.Frag} {mg : Str -> Option Value} {base : Heap}
def spOldest : Sp := fun vs H Q _ => ∃ (a : Addr) (hs : List Hd) (c : Nat), vs = [.ref a, .int c] /\ HoldAt H a hs /\ HandOk hs /\
 ∀ (H' : Hp) (q : Addr), KeptBut H H' (hs.map (·.la)) -> H q = none -> DrawsAt H' q (drawn c (handL (handOf hs))) -> (∀ h ∈ hs, LotsAt H' h.la (payL h.owner (drawn c (handL (handOf hs))) h.l)) -> Q (.ref q) H'
theorem scOldest : FnScope ["holdings", "wanted", "draws", "missing", "last_day", "index", "owner", "lots", "miles"] ["holdings", "wanted"] (defScope sOldest) := ⟨rfl, rfl, rfl, by decide +kernel, rfl, by decide +kernel, by decide +kernel⟩
structure Turned (H : Hp) (hs : List Hd) (c i : Nat) (q : Addr) (ds : List Draw) (miss : Nat) (H' : Hp) : Prop where
 kept : KeptBut H H' (hs.map (·.la))
 draws : DrawsAt H' q ds
 lots : ∀ h ∈ hs, LotsAt H' h.la (payL h.owner ds h.l)
 spec : drawn c (handL (handOf hs)) = ds ++ drawn miss ((handL (handOf hs)).drop i)
 rest : ∀ j d x n h, i <= j -> (tagL (handOf hs))[j]? = some (d, x, n) -> hs[x]? = some h -> (d, n) ∈ payL h.owner ds h.l
 len : ds.length <= i
theorem ok_oldest {f : Addr} {fd : FuncData} (F : Fun K "take_oldest" "take_oldest" sOldest f fd) (T : Txt1 P w K mg base) : FnOk P w K mg base CX0 2 f fd ["holdings", "wanted"] spOldest := by
 refine F.ok scOldest (fun vs H Q E h => ?_) (fun cdv A outer s H vs Q E hr h => ?_)
 ·obtain ⟨a, hs, c, rfl, _⟩ := h
  rfl
 ·obtain ⟨a, hs, c, rfl, hh, ho, k⟩ := h
  have nd := scOldest.nd
  have hu := hu_of hr
  refine ⟨_, pss_cons (ps_set (i := 2) nd rfl (Or.inl rfl) (pe_lst pa_nil))
   (pss_cons (ps_set (i := 3) nd rfl (Or.inl rfl) (pv 1))
   (pss_cons (ps_for PassesOwn.never rfl (pi_list (pe_cal T.order hr rfl (pa_cons (pv 0) pa_nil))) (pg_tup rfl (pgs_cons (pg_name (i := 4) nd rfl (Or.inl rfl)) (pgs_cons (pg_name (i := 5) nd rfl (Or.inl rfl)) pgs_nil)))
    (pss_cons (ps_if (pt_cmpR op_eq (pv 3) pe_int (nomark _)) (pss_one ps_break) pss_nil)
    (pss_cons (ps_set (i := 6) nd rfl (Or.inl rfl) (pe_ix ix_tup (pe_ix ix_list (pv 0) (pv 5) (fun _ _ => rfl)) pe_int (fun _ _ => rfl)))
    (pss_cons (ps_set (i := 7) nd rfl (Or.inl rfl) (pe_ix ix_tup (pe_ix ix_list (pv 0) (pv 5) (fun _ _ => rfl)) pe_int (fun _ _ => rfl)))
    (pss_cons (ps_set (i := 8) nd rfl (Or.inl rfl) (pe_callB (call_min2 rfl) (by rfl) T.min PyProof.Rows.boot_min (pa_cons (pv 3) (pa_cons (pe_dget hu (pv 7) (pv 4) (fun _ _ => rfl)) pa_nil))))
    (pss_cons (ps_expr (pe_cal T.take hr rfl (pa_cons (pv 7) (pa_cons (pv 4) (pa_cons (pv 8) pa_nil)))))
    (pss_cons (ps_expr (pe_bm PySem.F.plainAttrs_list PySem.F.slot_list_append PySem.F.type_list_append mt_append (pv 2) (pa_cons (pe_tup (pa_cons (pv 6) (pa_cons (pv 4) (pa_cons (pv 8) pa_nil)))) pa_nil)))
    (pss_one (ps_aug (i := 3) nd rfl (Or.inl rfl) (pv 8) ip_sub)))))))))
   (pss_one (ps_ret (pv 2))))), ?_⟩
  refine ⟨Nat.zero_le _, fun q hq => ⟨_, rfl, ?_⟩⟩
  have s0 : Same H (upd H q (.lst [])) := (Same.refl H).upd_new hq
  refine ⟨_, rfl, a, hs, rfl, ⟨s0 _ _ hh.lst, fun h hm => s0 _ _ (hh.tup h hm), fun h hm => s0 _ _ (hh.lots h hm)⟩, ho.few, fun H0 p0 Z s1 hp0 hZ pZ wZ => ?_⟩
  have eZ := order_eq ho.lots pZ wZ
  have lenZ : Z.length = (tagL (handOf hs)).length := by
   have := congrArg List.length eZ
   rwa [List.length_map, List.length_map] at this
  have nla : ∀ h ∈ hs, ∀ b o, H b = some o -> (∀ kvs, o ≠ .dK kvs) -> b ≠ h.la := fun h hm b o e ne => ne_of e (hh.lots h hm) (ne _)
  have nal : a ∉ hs.map (·.la) := fun m => by
   obtain ⟨h, hm, e⟩ := List.mem_map.mp m
   exact nla h hm a _ hh.lst (fun _ z => by cases z) e.symm
  have s01 : Same H H0 := s0.trans s1
  have nq : ∀ h ∈ hs, q ≠ h.la := fun h hm e => by
   have := hh.lots h hm
   rw [<- e, hq] at this
   cases this
  have nZ : ∀ z ∈ Z, ∀ h ∈ hs, z.1 ≠ h.la := fun z hz h hm => ne_of (hZ.tup z hz) (s01 _ _ (hh.lots h hm)) (by intro w; cases w)
  have np : ∀ h ∈ hs, p0 ≠ h.la := fun h hm e => by
   have := s0 _ _ (hh.lots h hm)
   rw [<- e, hp0] at this
   cases this
  have npq : p0 ≠ q := fun e => by
   rw [e, upd_same] at hp0
   cases hp0
  refine ⟨p0, rfl, ⟨_, SqL.of hZ.lst⟩, for_list (K := K) (a := p0) (xs := Z.map fun z => V.ref z.1)
   (fun i σ H' => ∃ ds miss, Turned H hs c i q ds miss H' /\ PairsAt H' p0 Z /\ ∃ v4 v5 v6 v7 v8, σ = [some (.ref a), some (.int (c : Nat)), some (.ref q), some (.int (miss : Nat)), v4, v5, v6, v7, v8])
   ⟨[], c, ⟨fun b o e _ => s01 _ _ e, ⟨[], ⟨s1 _ _ upd_same, fun z hz => by cases hz⟩, rfl⟩, fun h hm => ⟨h.k, s01 _ _ (hh.lots h hm), (ho.lots h hm).1⟩, rfl,
    fun j d x n h _ e1 e2 => by
     obtain ⟨g, e3, e4⟩ := tagL_at e1
     rw [e2] at e3
     cases e3
     exact e4, Nat.zero_le _⟩, hZ, none, none, none, none, none, rfl⟩ (fun i σ H' _ ⟨_, _, _, hp, _⟩ => SqL.of hp.lst) ?_ ?_⟩
  ·rintro i y σ H1 hi ⟨ds, miss, R, hp, v4, v5, v6, v7, v8, rfl⟩
   obtain ⟨z, hz, rfl⟩ := at_map hi
   have hzm := List.mem_of_getElem? hz
   have hil : i < Z.length := (List.getElem?_eq_some_iff.mp hz).1
   obtain ⟨⟨d, x, n⟩, ht⟩ : ∃ t, (tagL (handOf hs))[i]? = some t := ⟨_, List.getElem?_eq_getElem (by omega)⟩
   have ez : z.2 = ((d : Int), (x : Int)) := by
    have e1 : (Z.map (·.2))[i]? = some z.2 := by rw [List.getElem?_map, hz]; rfl
    rw [eZ, List.getElem?_map, ht] at e1
    exact (Option.some.inj e1).symm
   obtain ⟨h, hx, hdn⟩ := tagL_at ht
   have hm := List.mem_of_getElem? hx
   have hrest := R.rest i d x n h (Nat.le_refl _) ht hx
   have hzt := hp.tup z hzm
   rw [ez] at hzt
   refine ⟨z.1, _, rfl, SqT.of hzt, rfl, _, _, rfl, _, _, rfl, rfl, ?_⟩
   refine ⟨_, rfl, rfl, _, rfl, ite2 (fun c0 => ?_) (fun c0 => ?_)⟩
   ·have m0 : miss = 0 := by
     have e := of_decide_eq_true c0
     injection e with e
     omega
    refine ⟨_, rfl, ?_⟩
    have e : drawn c (handL (handOf hs)) = ds := by
     rw [R.spec, m0, drawn_zero, List.append_nil]
    rw [e] at k
    exact k H1 q R.kept hq R.draws R.lots
   ·have m0 : miss ≠ 0 := fun e => c0 (decide_eq_true (by rw [e]; rfl))
    have hal : H1 a = some (.lst (hs.map fun h => V.ref h.t)) := R.kept _ _ hh.lst nal
    have hat : H1 h.t = some (.tup [.int h.owner, .ref h.la]) := R.kept _ _ (hh.tup h hm) fun m => by
     obtain ⟨g, gm, e⟩ := List.mem_map.mp m
     exact nla g gm h.t _ (hh.tup h hm) (fun _ z => by cases z) e.symm
    obtain ⟨kk, hk, pk⟩ := R.lots h hm
    have sk : Srt (payL h.owner ds h.l) := payL_srt _ _ (ho.lots h hm).2
    have ndk : (kk.map (·.1)).Nodup := (pk.map _).nodup_iff.mpr sk.nodup
    have hkm : (d, n) ∈ kk := pk.mem_iff.mpr hrest
    have hklen : kk.length < sizeLine := by
     have e1 := pk.length_eq
     have e2 := payL_len h.owner ds (l := h.l)
     have e3 := (ho.lots h hm).1.length_eq
     have e4 := len_le_sum hm
     have e5 := ho.few
     omega
    have hv : valV (lk kk) (Sum.inl (d : Int)) = some (V.int (n : Int)) := by
     rw [valV_lk, lookD_of_mem ndk hkm]
     rfl
    refine ⟨_, rfl, _, rfl, a, _, _, _, rfl, rfl, SqL.of hal, atI_nat (j := x) (by rw [List.getElem?_map, hx]; rfl), h.t, _, _, _, rfl, rfl, SqT.of hat, atI_nat (j := 0) rfl, ?_⟩
    refine ⟨_, rfl, _, rfl, a, _, _, _, rfl, rfl, SqL.of hal, atI_nat (j := x) (by rw [List.getElem?_map, hx]; rfl), h.t, _, _, _, rfl, rfl, SqT.of hat, atI_nat (j := 1) rfl, ?_⟩
    refine ⟨_, rfl, _, rfl, _, rfl, h.la, _, rfl, (by have := DGet.k (k := Sum.inl (d : Int)) hk; rw [hv] at this; exact this), _, _, rfl, ?_⟩
    have emin : (if (n : Int) < (miss : Int) then (n : Int) else (miss : Int)) = ((min miss n : Nat) : Int) := by
     by_cases e : (n : Int) < (miss : Int)
     ·rw [if_pos e]; omega
     ·rw [if_neg e]; omega
    rw [emin]
    refine ⟨_, rfl, _, rfl, _, rfl, h.la, kk, d, min miss n, n, rfl, hk, ndk, hklen, hkm, Nat.min_le_right _ _, ?_⟩
    obtain ⟨W, hW, eW⟩ := R.draws
    have hql : H1 q = some (.lst (W.map fun z => V.ref z.1)) := hW.lst
    have nqh : q ≠ h.la := nq h hm
    have hql2 : (upd H1 h.la (.dK (lk (takenD kk d (min miss n) n)))) q = some (.lst (W.map fun z => V.ref z.1)) := by rw [upd_ne nqh]; exact hql
    refine ⟨_, rfl, .inl ⟨rfl, _, SqL.of hql2⟩, _, rfl, _, rfl, _, rfl, (by show 3 <= sizeLine; decide), fun t htn => ?_⟩
    have nqt : q ≠ t := ne_of_none hql2 htn
    have nlt : h.la ≠ t := ne_of_none (upd_same : (upd H1 h.la (.dK (lk (takenD kk d (min miss n) n)))) h.la = _) htn
    have gt : H1 t = none := by rw [upd_ne (Ne.symm nlt)] at htn; exact htn
    refine ⟨q, _, _, rfl, rfl, by rw [upd_ne nqt]; exact hql2, ?_, ?_⟩
    ·rw [List.length_map]
     have e1 : W.length = ds.length := by rw [<- eW, List.length_map]
     have e2 := R.len
     have e3 := tagL_length hs fun h hm => (ho.lots h hm).1
     have e4 := ho.few
     omega
    ·refine ⟨_, rfl, _, rfl, _, _, rfl, rfl, ?_⟩
     have emis : (miss : Int) - ((min miss n : Nat) : Int) = ((miss - min miss n : Nat) : Int) := by omega
     show ∃ ds miss, _
     refine ⟨ds ++ [{ id := h.owner, day := d, n := min miss n }], miss - min miss n, ⟨?_, ?_, ?_, ?_, ?_, ?_⟩, ⟨?_, ?_⟩, _, _, _, _, _, by rw [<- emis]; rfl⟩
     ·intro b o e hb
      have e1 := R.kept b o e hb
      have n1 : b ≠ h.la := fun z => hb (List.mem_map.mpr ⟨h, hm, z.symm⟩)
      have n2 : b ≠ q := ne_of_none e hq
      rw [upd_ne n2, upd_ne (ne_of_none e1 gt), upd_ne n1]
      exact e1
     ·refine ⟨W ++ [(t, { id := h.owner, day := d, n := min miss n })], ⟨?_, fun z hz => ?_⟩, by rw [List.map_append, eW]; rfl⟩
      ·rw [upd_same, List.map_append]
       rfl
      ·rcases List.mem_append.mp hz with hz | hz
       ·have e1 := hW.tup z hz
        rw [upd_ne (ne_of e1 hql (by intro w; cases w)), upd_ne (ne_of_none e1 gt), upd_ne (ne_of e1 hk (by intro w; cases w))]
        exact e1
       ·rw [List.mem_singleton.mp hz, upd_ne (Ne.symm nqt), upd_same]
     ·intro g gm
      rw [payL_snoc]
      have n2 : g.la ≠ q := fun e => nq g gm e.symm
      obtain ⟨kg, hkg, pg⟩ := R.lots g gm
      by_cases e : h = g
      ·subst e
       rw [if_pos rfl]
       refine ⟨takenD kk d (min miss n) n, by rw [upd_ne n2, upd_ne nlt, upd_same], ?_⟩
       exact takenD_perm pk sk hrest (Nat.min_le_right _ _)
      ·have no : ¬ h.owner = g.owner := fun z => e (ho.two hm gm (.inl z))
       have nl : g.la ≠ h.la := fun z => e (ho.two hm gm (.inr z.symm))
       rw [if_neg no]
       refine ⟨kg, ?_, pg⟩
       rw [upd_ne n2, upd_ne (ne_of_none hkg gt), upd_ne nl]
       exact hkg
     ·rw [R.spec, List.append_assoc]
      refine congrArg _ ?_
      have eh : (handL (handOf hs))[i]? = some (d, h.owner, n) := by
       rw [handL_tag, List.getElem?_map, ht]
       show some (d, ownerAt (handOf hs) x, n) = _
       unfold ownerAt handOf
       rw [List.getElem?_map, hx]
       rfl
      have ed : (handL (handOf hs)).drop i = (d, h.owner, n) :: (handL (handOf hs)).drop (i + 1) := by
       obtain ⟨l1, e1⟩ := List.getElem?_eq_some_iff.mp eh
       rw [List.drop_eq_getElem_cons l1, e1]
      rw [ed, drawn_cons m0]
      rfl
     ·intro j d' x' n' g hj e1 e2
      have e3 := R.rest j d' x' n' g (by omega) e1 e2
      rw [payL_snoc]
      by_cases e : h.owner = g.owner
      ·rw [if_pos e]
       have ehg := ho.two hm (List.mem_of_getElem? e2) (.inl e)
       subst ehg
       have exx : x = x' := nd_ix ho.own (x := h.owner) (by rw [List.getElem?_map, hx]; rfl) (by rw [List.getElem?_map, e2]; rfl)
       subst exx
       refine takeDay_other (fun ed => ?_) e3
       subst ed
       have pw := tagL_Lx (hs := handOf hs) fun g hg => by
        obtain ⟨h0, hm0, rfl⟩ := List.mem_map.mp hg
        exact (ho.lots h0 hm0).2
       obtain ⟨l1, q1⟩ := List.getElem?_eq_some_iff.mp ht
       obtain ⟨l2, q2⟩ := List.getElem?_eq_some_iff.mp e1
       have := List.pairwise_iff_getElem.mp pw i j l1 l2 (by omega)
       rw [q1, q2] at this
       unfold Lx at this
       simp at this
      ·rw [if_neg e]
       exact e3
     ·rw [List.length_append, List.length_singleton]
      have := R.len
      omega
     ·have n1 := np h hm
      rw [upd_ne npq, upd_ne (ne_of_none hp.lst gt), upd_ne n1]
      exact hp.lst
     ·intro z' hz'
      have e1 := hp.tup z' hz'
      rw [upd_ne (ne_of e1 hql (by intro w; cases w)), upd_ne (ne_of_none e1 gt), upd_ne (nZ z' hz' h hm)]
      exact e1
  ·rintro σ H1 ⟨ds, miss, R, hp, v4, v5, v6, v7, v8, rfl⟩
   refine ⟨_, rfl, ?_⟩
   have el : (handL (handOf hs)).drop (Z.map fun z => V.ref z.1).length = [] := by
    apply List.drop_of_length_le
    rw [handL_tag, List.length_map, List.length_map, lenZ]
    exact Nat.le_refl _
   have e : drawn c (handL (handOf hs)) = ds := by
    rw [R.spec, el, drawn_nil, List.append_nil]
   rw [e] at k
   exact k H1 q R.kept hq R.draws R.lots
end
end Mile
namespace Mile
open PySem PySem.Spec PyProof.Rows L2
open Vbahaq (Lots put takeDay held Draw drawn Member Award State Rules)
abbrev natV (n : Nat) : V := .int (n : Int)
structure Cs where
 M : Addr
 A : Addr
 H : Addr
structure ML where
 a : Addr
 dx : Addr
 la : Addr
 pa : Addr
structure AL where
 a : Addr
 dx : Addr
 dl : Addr
structure HL where
 h : Addr
 dh : Addr
 am : Addr
 aw : Addr
 ap : Addr
 ab : Addr
 as_ : Addr
 ms : List (ML × Member)
 ps : List (Addr × List Nat)
 ws : List (AL × Award)
def memF (r : ML) : List (Str × V) := [("lots", .ref r.la), ("points", .ref r.pa)]
def awF (r : AL) (w : Award) : List (Str × V) := [("asker", natV w.id), ("draws", .ref r.dl)]
def houseF (L : HL) (s : State) : List (Str × V) :=
 [("today", natV s.today), ("life", natV s.rules.life), ("bonuses", .ref L.ab), ("steps", .ref L.as_), ("members", .ref L.am), ("pools", .ref L.ap), ("awards", .ref L.aw),
  ("earned", natV s.earned), ("spent", natV s.spent), ("returned", natV s.returned), ("run_out", natV s.runOut)]
structure PtsZ (H : Hp) (q : Addr) (Z : List (Addr × (Nat × Nat))) : Prop where
 lst : H q = some (.lst (Z.map fun z => V.ref z.1))
 tup : ∀ z ∈ Z, H z.1 = some (.tup [natV z.2.1, natV z.2.2])
def PtsAt (H : Hp) (q : Addr) (ps : List (Nat × Nat)) : Prop := ∃ Z, PtsZ H q Z /\ Z.map (·.2) = ps
structure MemAt (C : Cs) (H : Hp) (r : ML) (m : Member) : Prop where
 ins : H r.a = some (.ins C.M r.dx (memF r))
 lots : LotsAt H r.la m.lots
 pts : PtsAt H r.pa m.points
structure AwAt (C : Cs) (H : Hp) (r : AL) (w : Award) : Prop where
 ins : H r.a = some (.ins C.A r.dx (awF r w))
 draws : DrawsAt H r.dl w.draws
def memK (r : ML × Member) : Key × V := (Sum.inl (r.2.id : Int), .ref r.1.a)
def awK (r : AL × Award) : Key × V := (Sum.inl (r.2.booking : Int), .ref r.1.a)
def HL.las (L : HL) : List Addr := L.ms.map fun r => r.1.la
def HL.pas (L : HL) : List Addr := L.ms.map fun r => r.1.pa
def HL.mas (L : HL) : List Addr := L.ms.map fun r => r.1.a
def HL.dicts (L : HL) : List Addr := L.am :: L.aw :: L.las
def HL.lists (L : HL) : List Addr := L.ap :: L.ab :: L.as_ :: (L.pas ++ (L.ps.map (·.1) ++ L.ws.map fun r => r.1.dl))
def HL.muts (L : HL) : List Addr := L.h :: L.ap :: (L.dicts ++ (L.pas ++ L.mas))
structure HouseAt (C : Cs) (H : Hp) (L : HL) (s : State) : Prop where
 hm : L.ms.map (·.2) = s.members
 hp : L.ps.map (·.2) = s.pools
 hw : L.ws.map (·.2) = s.awards
 house : H L.h = some (.ins C.H L.dh (houseF L s))
 mem : H L.am = some (.dK (L.ms.map memK))
 aws : H L.aw = some (.dK (L.ws.map awK))
 pools : H L.ap = some (.lst (L.ps.map fun p => V.ref p.1))
 bon : H L.ab = some (.lst (s.rules.bonus.map natV))
 stp : H L.as_ = some (.lst (s.rules.steps.map natV))
 member : ∀ r ∈ L.ms, MemAt C H r.1 r.2
 pool : ∀ p ∈ L.ps, H p.1 = some (.lst (p.2.map natV))
 award : ∀ r ∈ L.ws, AwAt C H r.1 r.2
 ndD : L.dicts.Nodup
 ndL : L.lists.Nodup
theorem hF_today (L : HL) (s : State) : (houseF L s).lookup ("today" : Str) = some (natV s.today) := rfl
theorem hF_life (L : HL) (s : State) : (houseF L s).lookup ("life" : Str) = some (natV s.rules.life) := rfl
theorem hF_bonuses (L : HL) (s : State) : (houseF L s).lookup ("bonuses" : Str) = some (.ref L.ab) := rfl
theorem hF_steps (L : HL) (s : State) : (houseF L s).lookup ("steps" : Str) = some (.ref L.as_) := rfl
theorem hF_members (L : HL) (s : State) : (houseF L s).lookup ("members" : Str) = some (.ref L.am) := rfl
theorem hF_pools (L : HL) (s : State) : (houseF L s).lookup ("pools" : Str) = some (.ref L.ap) := rfl
theorem hF_awards (L : HL) (s : State) : (houseF L s).lookup ("awards" : Str) = some (.ref L.aw) := rfl
theorem hF_earned (L : HL) (s : State) : (houseF L s).lookup ("earned" : Str) = some (natV s.earned) := rfl
theorem hF_spent (L : HL) (s : State) : (houseF L s).lookup ("spent" : Str) = some (natV s.spent) := rfl
theorem hF_returned (L : HL) (s : State) : (houseF L s).lookup ("returned" : Str) = some (natV s.returned) := rfl
theorem hF_run_out (L : HL) (s : State) : (houseF L s).lookup ("run_out" : Str) = some (natV s.runOut) := rfl
theorem mF_lots (r : ML) : (memF r).lookup ("lots" : Str) = some (.ref r.la) := rfl
theorem mF_points (r : ML) : (memF r).lookup ("points" : Str) = some (.ref r.pa) := rfl
def TupsStay (H H' : Hp) : Prop := ∀ b xs, H b = some (.tup xs) -> H' b = some (.tup xs)
theorem LotsAt.keep {H H' : Hp} {a : Addr} {l : Lots} (h : LotsAt H a l) (k : ∀ o, H a = some o -> H' a = some o) : LotsAt H' a l := by
 obtain ⟨kk, e, p⟩ := h
 exact ⟨kk, k _ e, p⟩
theorem PtsAt.keep {H H' : Hp} {q : Addr} {ps : List (Nat × Nat)} (h : PtsAt H q ps) (k : ∀ o, H q = some o -> H' q = some o) (kt : TupsStay H H') : PtsAt H' q ps := by
 obtain ⟨Z, hZ, e⟩ := h
 exact ⟨Z, ⟨k _ hZ.lst, fun z hz => kt _ _ (hZ.tup z hz)⟩, e⟩
theorem DrawsAt.keep {H H' : Hp} {q : Addr} {ds : List Draw} (h : DrawsAt H q ds) (k : ∀ o, H q = some o -> H' q = some o) (kt : TupsStay H H') : DrawsAt H' q ds := by
 obtain ⟨Z, hZ, e⟩ := h
 exact ⟨Z, ⟨k _ hZ.lst, fun z hz => kt _ _ (hZ.tup z hz)⟩, e⟩
theorem MemAt.keep {C : Cs} {H H' : Hp} {r : ML} {m : Member} (h : MemAt C H r m) (k1 : ∀ o, H r.a = some o -> H' r.a = some o) (k2 : ∀ o, H r.la = some o -> H' r.la = some o) (k3 : ∀ o, H r.pa = some o -> H' r.pa = some o) (kt : TupsStay H H') : MemAt C H' r m :=
 ⟨k1 _ h.ins, h.lots.keep k2, h.pts.keep k3 kt⟩
theorem AwAt.keep {C : Cs} {H H' : Hp} {r : AL} {w : Award} (h : AwAt C H r w) (k1 : ∀ o, H r.a = some o -> H' r.a = some o) (k2 : ∀ o, H r.dl = some o -> H' r.dl = some o) (kt : TupsStay H H') : AwAt C H' r w :=
 ⟨k1 _ h.ins, h.draws.keep k2 kt⟩
section
variable {C : Cs} {H H' : Hp} {L : HL} {s : State}
theorem HouseAt.la_dict (h : HouseAt C H L s) {b : Addr} (hb : b ∈ L.las) : ∃ kvs, H b = some (.dK kvs) := by
 obtain ⟨r, hr, rfl⟩ := List.mem_map.mp hb
 obtain ⟨k, e, _⟩ := (h.member r hr).lots
 exact ⟨_, e⟩
theorem HouseAt.pa_list (h : HouseAt C H L s) {b : Addr} (hb : b ∈ L.pas) : ∃ xs, H b = some (.lst xs) := by
 obtain ⟨r, hr, rfl⟩ := List.mem_map.mp hb
 obtain ⟨Z, e, _⟩ := (h.member r hr).pts
 exact ⟨_, e.lst⟩
theorem HouseAt.dict_at (h : HouseAt C H L s) {b : Addr} (hb : b ∈ L.dicts) : ∃ kvs, H b = some (.dK kvs) := by
 rcases List.mem_cons.mp hb with e | hb
 ·rw [e]; exact ⟨_, h.mem⟩
 ·rcases List.mem_cons.mp hb with e | hb
  ·rw [e]; exact ⟨_, h.aws⟩
  ·exact h.la_dict hb
theorem HouseAt.list_at (h : HouseAt C H L s) {b : Addr} (hb : b ∈ L.lists) : ∃ xs, H b = some (.lst xs) := by
 rcases List.mem_cons.mp hb with e | hb
 ·rw [e]; exact ⟨_, h.pools⟩
 ·rcases List.mem_cons.mp hb with e | hb
  ·rw [e]; exact ⟨_, h.bon⟩
  ·rcases List.mem_cons.mp hb with e | hb
   ·rw [e]; exact ⟨_, h.stp⟩
   ·rcases List.mem_append.mp hb with hb | hb
    ·exact h.pa_list hb
    ·rcases List.mem_append.mp hb with hb | hb
     ·obtain ⟨p, hp, rfl⟩ := List.mem_map.mp hb
      exact ⟨_, h.pool p hp⟩
     ·obtain ⟨r, hr, rfl⟩ := List.mem_map.mp hb
      obtain ⟨Z, e, _⟩ := (h.award r hr).draws
      exact ⟨_, e.lst⟩
theorem ins_ne {C : Cs} {L : HL} {s : State} {D dx : Addr} {fs : List (Str × V)} (hl : fs.length < 11) : HO.ins D dx fs ≠ HO.ins C.H L.dh (houseF L s) := by
 intro q
 injection q with _ _ q
 rw [q] at hl
 exact absurd hl (by show ¬ 11 < 11; decide)
theorem HouseAt.mem_ne (h : HouseAt C H L s) {r : ML × Member} (hr : r ∈ L.ms) : r.1.a ≠ L.h := ne_of (h.member r hr).ins h.house (ins_ne (by show 2 < 11; decide))
theorem HouseAt.aw_ne (h : HouseAt C H L s) {r : AL × Award} (hr : r ∈ L.ws) : r.1.a ≠ L.h := ne_of (h.award r hr).ins h.house (ins_ne (by show 2 < 11; decide))
theorem HL.pa_in {L : HL} {b : Addr} (h : b ∈ L.pas) : b ∈ L.lists := List.mem_cons_of_mem _ (List.mem_cons_of_mem _ (List.mem_cons_of_mem _ (List.mem_append_left _ h)))
theorem HL.ps_in {L : HL} {p : Addr × List Nat} (h : p ∈ L.ps) : p.1 ∈ L.lists := List.mem_cons_of_mem _ (List.mem_cons_of_mem _ (List.mem_cons_of_mem _ (List.mem_append_right _ (List.mem_append_left _ (List.mem_map.mpr ⟨p, h, rfl⟩)))))
theorem HL.dl_in {L : HL} {r : AL × Award} (h : r ∈ L.ws) : r.1.dl ∈ L.lists := List.mem_cons_of_mem _ (List.mem_cons_of_mem _ (List.mem_cons_of_mem _ (List.mem_append_right _ (List.mem_append_right _ (List.mem_map.mpr ⟨r, h, rfl⟩)))))
theorem HL.ap_in {L : HL} : L.ap ∈ L.lists := List.mem_cons_self
theorem HL.ab_in {L : HL} : L.ab ∈ L.lists := List.mem_cons_of_mem _ List.mem_cons_self
theorem HL.as_in {L : HL} : L.as_ ∈ L.lists := List.mem_cons_of_mem _ (List.mem_cons_of_mem _ List.mem_cons_self)
theorem HouseAt.pas_off (h : HouseAt C H L s) : L.ap ∉ L.pas /\ L.ab ∉ L.pas /\ L.as_ ∉ L.pas /\ (∀ p ∈ L.ps, p.1 ∉ L.pas) /\ ∀ r ∈ L.ws, r.1.dl ∉ L.pas := by
 have nd : (L.ap :: L.ab :: L.as_ :: (L.pas ++ (L.ps.map (·.1) ++ L.ws.map fun r => r.1.dl))).Nodup := h.ndL
 obtain ⟨n1, nd⟩ := List.nodup_cons.mp nd
 obtain ⟨n2, nd⟩ := List.nodup_cons.mp nd
 obtain ⟨n3, nd⟩ := List.nodup_cons.mp nd
 obtain ⟨_, _, n4⟩ := List.nodup_append.mp nd
 refine ⟨fun m => n1 ?_, fun m => n2 ?_, fun m => n3 ?_, fun p hp m => ?_, fun r hr m => ?_⟩
 ·exact List.mem_cons_of_mem _ (List.mem_cons_of_mem _ (List.mem_append_left _ m))
 ·exact List.mem_cons_of_mem _ (List.mem_append_left _ m)
 ·exact List.mem_append_left _ m
 ·exact n4 _ m _ (List.mem_append_left _ (List.mem_map.mpr ⟨p, hp, rfl⟩)) rfl
 ·exact n4 _ m _ (List.mem_append_right _ (List.mem_map.mpr ⟨r, hr, rfl⟩)) rfl
theorem HouseAt.ap_off (h : HouseAt C H L s) : L.ab ≠ L.ap /\ L.as_ ≠ L.ap /\ (∀ r ∈ L.ms, r.1.pa ≠ L.ap) /\ (∀ p ∈ L.ps, p.1 ≠ L.ap) /\ ∀ r ∈ L.ws, r.1.dl ≠ L.ap := by
 have nd : (L.ap :: L.ab :: L.as_ :: (L.pas ++ (L.ps.map (·.1) ++ L.ws.map fun r => r.1.dl))).Nodup := h.ndL
 obtain ⟨n1, _⟩ := List.nodup_cons.mp nd
 refine ⟨fun e => n1 ?_, fun e => n1 ?_, fun r hr e => n1 ?_, fun p hp e => n1 ?_, fun r hr e => n1 ?_⟩
 ·rw [<- e]; exact List.mem_cons_self
 ·rw [<- e]; exact List.mem_cons_of_mem _ List.mem_cons_self
 ·rw [<- e]; exact List.mem_cons_of_mem _ (List.mem_cons_of_mem _ (List.mem_append_left _ (List.mem_map.mpr ⟨r, hr, rfl⟩)))
 ·rw [<- e]; exact List.mem_cons_of_mem _ (List.mem_cons_of_mem _ (List.mem_append_right _ (List.mem_append_left _ (List.mem_map.mpr ⟨p, hp, rfl⟩))))
 ·rw [<- e]; exact List.mem_cons_of_mem _ (List.mem_cons_of_mem _ (List.mem_append_right _ (List.mem_append_right _ (List.mem_map.mpr ⟨r, hr, rfl⟩))))
theorem HouseAt.las_off (h : HouseAt C H L s) : L.am ∉ L.las /\ L.aw ∉ L.las /\ L.am ≠ L.aw := by
 have nd : (L.am :: L.aw :: L.las).Nodup := h.ndD
 obtain ⟨n1, nd⟩ := List.nodup_cons.mp nd
 obtain ⟨n2, _⟩ := List.nodup_cons.mp nd
 exact ⟨fun m => n1 (List.mem_cons_of_mem _ m), n2, fun e => n1 (by rw [e]; exact List.mem_cons_self)⟩
structure Mv (C : Cs) (H : Hp) (L : HL) (H' : Hp) (L' : HL) (s' : State) : Prop where
 at_ : HouseAt C H' L' s'
 hh : L'.h = L.h
 lists : ∀ b ∈ L'.lists, b ∈ L.lists \/ H b = none
 muts : ∀ b ∈ L'.muts, b ∈ L.muts \/ H b = none
 kept : KeptBut H H' L.muts
 trk : ∀ b o, H b = some o -> ∃ o', H' b = some o'
theorem Mv.trans {H1 H2 : Hp} {L1 L2 : HL} {s1 s2 : State} (a : Mv C H L H1 L1 s1) (b : Mv C H1 L1 H2 L2 s2) : Mv C H L H2 L2 s2 where
 at_ := b.at_
 hh := b.hh.trans a.hh
 lists := fun x hx => by
  rcases b.lists x hx with h | h
  ·exact a.lists x h
  ·right
   cases e : H x with
   | none => rfl
   | some o =>
    obtain ⟨o', e'⟩ := a.trk x o e
    rw [h] at e'
    cases e'
 muts := fun x hx => by
  rcases b.muts x hx with h | h
  ·exact a.muts x h
  ·right
   cases e : H x with
   | none => rfl
   | some o =>
    obtain ⟨o', e'⟩ := a.trk x o e
    rw [h] at e'
    cases e'
 kept := fun x o e hx => b.kept x o (a.kept x o e hx) fun m => by
  rcases a.muts x m with h | h
  ·exact hx h
  ·rw [h] at e; cases e
 trk := fun x o e => by
  obtain ⟨o', e'⟩ := a.trk x o e
  exact b.trk x o' e'
theorem HouseAt.same (h : HouseAt C H L s) (k : Same H H') : HouseAt C H' L s where
 hm := h.hm
 hp := h.hp
 hw := h.hw
 house := k _ _ h.house
 mem := k _ _ h.mem
 aws := k _ _ h.aws
 pools := k _ _ h.pools
 bon := k _ _ h.bon
 stp := k _ _ h.stp
 member := fun r hr => (h.member r hr).keep (fun o => k _ o) (fun o => k _ o) (fun o => k _ o) fun b xs => k b _
 pool := fun p hp => k _ _ (h.pool p hp)
 award := fun r hr => (h.award r hr).keep (fun o => k _ o) (fun o => k _ o) fun b xs => k b _
 ndD := h.ndD
 ndL := h.ndL
theorem HouseAt.mv (h : HouseAt C H L s) (k : Same H H') : Mv C H L H' L s := ⟨h.same k, rfl, fun _ => .inl, fun _ => .inl, fun b o e _ => k b o e, fun b o e => ⟨o, k b o e⟩⟩
theorem Mv.new {H1 : Hp} {L1 : HL} {s1 : State} (a : Mv C H L H1 L1 s1) {p : Addr} {o : HO} (hp : H1 p = none) : Mv C H L (upd H1 p o) L1 s1 := a.trans (a.at_.mv ((Same.refl H1).upd_new hp))
theorem Mv.fresh {H1 : Hp} {L1 : HL} {s1 : State} (a : Mv C H L H1 L1 s1) {p : Addr} (hp : H1 p = none) : H p = none /\ p ∉ L1.lists := by
 refine ⟨?_, fun m => ?_⟩
 ·cases e : H p with
  | none => rfl
  | some o =>
   obtain ⟨o', e'⟩ := a.trk p o e
   rw [hp] at e'
   cases e'
 ·obtain ⟨xs, e⟩ := a.at_.list_at m
  rw [hp] at e
  cases e
theorem HouseAt.off (h : HouseAt C H L s) {z : Addr} {xs ys : List V} (hz : H z = some (.lst xs)) (hn : z ∉ L.lists) : HouseAt C (upd H z (.lst ys)) L s := by
 have k : ∀ b o, H b = some o -> (∀ zs, o ≠ .lst zs) -> (upd H z (.lst ys)) b = some o := fun b o e ne => by
  rw [upd_ne (ne_of e hz (ne _))]
  exact e
 have kl : ∀ b, b ∈ L.lists -> ∀ o, H b = some o -> (upd H z (.lst ys)) b = some o := fun b hb o e => by
  rw [upd_ne (fun q => hn (by rw [<- q]; exact hb))]
  exact e
 have kt : TupsStay H (upd H z (.lst ys)) := fun b xs e => k b _ e fun _ q => by cases q
 exact
 {hm := h.hm
  hp := h.hp
  hw := h.hw
  house := k _ _ h.house fun _ q => by cases q
  mem := k _ _ h.mem fun _ q => by cases q
  aws := k _ _ h.aws fun _ q => by cases q
  pools := kl _ HL.ap_in _ h.pools
  bon := kl _ HL.ab_in _ h.bon
  stp := kl _ HL.as_in _ h.stp
  member := fun r hr => by
   have m := h.member r hr
   refine m.keep (fun o e => ?_) (fun o e => ?_) (fun o e => kl _ (HL.pa_in (List.mem_map.mpr ⟨r, hr, rfl⟩)) o e) kt
   ·rw [m.ins] at e; cases e; exact k _ _ m.ins fun _ q => by cases q
   ·obtain ⟨kk, e2, _⟩ := m.lots
    rw [e2] at e; cases e; exact k _ _ e2 fun _ q => by cases q
  pool := fun p hp => kl _ (HL.ps_in hp) _ (h.pool p hp)
  award := fun r hr => by
   have m := h.award r hr
   refine m.keep (fun o e => ?_) (fun o e => kl _ (HL.dl_in hr) o e) kt
   rw [m.ins] at e; cases e; exact k _ _ m.ins fun _ q => by cases q
  ndD := h.ndD
  ndL := h.ndL }
theorem Mv.off {H1 : Hp} {L1 : HL} {s1 : State} (a : Mv C H L H1 L1 s1) {z : Addr} {xs ys : List V} (hz : H1 z = some (.lst xs)) (hn : z ∉ L1.lists) (hf : H z = none) : Mv C H L (upd H1 z (.lst ys)) L1 s1 where
 at_ := a.at_.off hz hn
 hh := a.hh
 lists := a.lists
 muts := a.muts
 kept := fun b o e hb => by
  rw [upd_ne (ne_of_none e hf)]
  exact a.kept b o e hb
 trk := fun b o e => by
  rw [upd_ne (ne_of_none e hf)]
  exact a.trk b o e
def setLots (f : Member -> Lots) (s : State) : State := { s with members := s.members.map fun m => { m with lots := f m } }
def HL.withLots (L : HL) (f : Member -> Lots) : HL := { L with ms := L.ms.map fun r => (r.1, { r.2 with lots := f r.2 }) }
theorem HL.wl_las (L : HL) (f : Member -> Lots) : (L.withLots f).las = L.las := by
 unfold HL.las HL.withLots
 rw [List.map_map]
 rfl
theorem HL.wl_pas (L : HL) (f : Member -> Lots) : (L.withLots f).pas = L.pas := by
 unfold HL.pas HL.withLots
 rw [List.map_map]
 rfl
theorem HL.wl_lists (L : HL) (f : Member -> Lots) : (L.withLots f).lists = L.lists := by
 unfold HL.lists
 rw [HL.wl_pas]
 rfl
theorem HL.wl_dicts (L : HL) (f : Member -> Lots) : (L.withLots f).dicts = L.dicts := by
 unfold HL.dicts
 rw [HL.wl_las]
 rfl
theorem HL.wl_mas (L : HL) (f : Member -> Lots) : (L.withLots f).mas = L.mas := by
 unfold HL.mas HL.withLots
 rw [List.map_map]
 rfl
theorem HL.wl_muts (L : HL) (f : Member -> Lots) : (L.withLots f).muts = L.muts := by
 unfold HL.muts
 rw [HL.wl_pas, HL.wl_dicts, HL.wl_mas]
 rfl
theorem HouseAt.setLots (h : HouseAt C H L s) (f : Member -> Lots) (kp : KeptBut H H' L.las) (hl : ∀ r ∈ L.ms, LotsAt H' r.1.la (f r.2)) : Mv C H L H' (L.withLots f) (Mile.setLots f s) := by
 have k : ∀ b o, H b = some o -> (∀ kvs, o ≠ .dK kvs) -> H' b = some o := fun b o e ne => kp b o e fun m => by
  obtain ⟨kvs, e2⟩ := h.la_dict m
  rw [e] at e2
  exact ne kvs (Option.some.inj e2)
 have kt : TupsStay H H' := fun b xs e => k b _ e fun _ q => by cases q
 obtain ⟨o1, o2, _⟩ := h.las_off
 refine ⟨?_, rfl, fun b hb => .inl (by rw [HL.wl_lists] at hb; exact hb), fun b hb => .inl (by rw [HL.wl_muts] at hb; exact hb), fun b o e hb => kp b o e fun m => hb ?_, fun b o e => ?_⟩
 ·exact
  {hm := by
    show (L.ms.map fun r => (r.1, ({ r.2 with lots := f r.2 } : Member))).map (·.2) = s.members.map fun m => ({ m with lots := f m } : Member)
    rw [List.map_map, <- h.hm, List.map_map]
    rfl
   hp := h.hp
   hw := h.hw
   house := k _ _ h.house fun _ q => by cases q
   mem := by
    have e := kp _ _ h.mem o1
    show H' L.am = some (.dK ((L.ms.map fun r => (r.1, ({ r.2 with lots := f r.2 } : Member))).map memK))
    rw [List.map_map]
    exact e
   aws := kp _ _ h.aws o2
   pools := k _ _ h.pools fun _ q => by cases q
   bon := k _ _ h.bon fun _ q => by cases q
   stp := k _ _ h.stp fun _ q => by cases q
   member := fun r hr => by
    obtain ⟨r0, h0, rfl⟩ := List.mem_map.mp hr
    have m := h.member r0 h0
    exact ⟨k _ _ m.ins (fun _ q => by cases q), hl r0 h0, m.pts.keep (fun o e => by
     obtain ⟨Z, hZ, _⟩ := m.pts
     have e2 := hZ.lst
     rw [e2] at e; cases e; exact k _ _ e2 fun _ q => by cases q) kt⟩
   pool := fun p hp => k _ _ (h.pool p hp) fun _ q => by cases q
   award := fun r hr => by
    have m := h.award r hr
    exact ⟨k _ _ m.ins (fun _ q => by cases q), m.draws.keep (fun o e => by
     obtain ⟨Z, hZ, _⟩ := m.draws
     have e2 := hZ.lst
     rw [e2] at e; cases e; exact k _ _ e2 fun _ q => by cases q) kt⟩
   ndD := by rw [HL.wl_dicts]; exact h.ndD
   ndL := by rw [HL.wl_lists]; exact h.ndL }
 ·exact List.mem_cons_of_mem _ (List.mem_cons_of_mem _ (List.mem_append_left _ (List.mem_cons_of_mem _ (List.mem_cons_of_mem _ m))))
 ·by_cases m : b ∈ L.las
  ·obtain ⟨r, hr, rfl⟩ := List.mem_map.mp m
   obtain ⟨kk, e2, _⟩ := hl r hr
   exact ⟨_, e2⟩
  ·exact ⟨o, kp b o e m⟩
def setPts (f : Member -> List (Nat × Nat)) (s : State) : State := { s with members := s.members.map fun m => { m with points := f m } }
def HL.withPts (L : HL) (f : Member -> List (Nat × Nat)) : HL := { L with ms := L.ms.map fun r => (r.1, { r.2 with points := f r.2 }) }
theorem HL.wp_las (L : HL) (f : Member -> List (Nat × Nat)) : (L.withPts f).las = L.las := by
 unfold HL.las HL.withPts
 rw [List.map_map]
 rfl
theorem HL.wp_pas (L : HL) (f : Member -> List (Nat × Nat)) : (L.withPts f).pas = L.pas := by
 unfold HL.pas HL.withPts
 rw [List.map_map]
 rfl
theorem HL.wp_lists (L : HL) (f : Member -> List (Nat × Nat)) : (L.withPts f).lists = L.lists := by
 unfold HL.lists
 rw [HL.wp_pas]
 rfl
theorem HL.wp_dicts (L : HL) (f : Member -> List (Nat × Nat)) : (L.withPts f).dicts = L.dicts := by
 unfold HL.dicts
 rw [HL.wp_las]
 rfl
theorem HL.wp_mas (L : HL) (f : Member -> List (Nat × Nat)) : (L.withPts f).mas = L.mas := by
 unfold HL.mas HL.withPts
 rw [List.map_map]
 rfl
theorem HL.wp_muts (L : HL) (f : Member -> List (Nat × Nat)) : (L.withPts f).muts = L.muts := by
 unfold HL.muts
 rw [HL.wp_pas, HL.wp_dicts, HL.wp_mas]
 rfl
theorem HouseAt.setPts (h : HouseAt C H L s) (f : Member -> List (Nat × Nat)) (kp : KeptBut H H' L.pas) (hl : ∀ r ∈ L.ms, PtsAt H' r.1.pa (f r.2)) : Mv C H L H' (L.withPts f) (Mile.setPts f s) := by
 have k : ∀ b o, H b = some o -> (∀ xs, o ≠ .lst xs) -> H' b = some o := fun b o e ne => kp b o e fun m => by
  obtain ⟨xs, e2⟩ := h.pa_list m
  rw [e] at e2
  exact ne xs (Option.some.inj e2)
 have kt : TupsStay H H' := fun b xs e => k b _ e fun _ q => by cases q
 obtain ⟨o1, o2, o3, o4, o5⟩ := h.pas_off
 refine ⟨?_, rfl, fun b hb => .inl (by rw [HL.wp_lists] at hb; exact hb), fun b hb => .inl (by rw [HL.wp_muts] at hb; exact hb), fun b o e hb => kp b o e fun m => hb ?_, fun b o e => ?_⟩
 ·exact
  {hm := by
    show (L.ms.map fun r => (r.1, ({ r.2 with points := f r.2 } : Member))).map (·.2) = s.members.map fun m => ({ m with points := f m } : Member)
    rw [List.map_map, <- h.hm, List.map_map]
    rfl
   hp := h.hp
   hw := h.hw
   house := k _ _ h.house fun _ q => by cases q
   mem := by
    have e := k _ _ h.mem fun _ q => by cases q
    show H' L.am = some (.dK ((L.ms.map fun r => (r.1, ({ r.2 with points := f r.2 } : Member))).map memK))
    rw [List.map_map]
    exact e
   aws := k _ _ h.aws fun _ q => by cases q
   pools := kp _ _ h.pools o1
   bon := kp _ _ h.bon o2
   stp := kp _ _ h.stp o3
   member := fun r hr => by
    obtain ⟨r0, h0, rfl⟩ := List.mem_map.mp hr
    have m := h.member r0 h0
    exact ⟨k _ _ m.ins (fun _ q => by cases q), m.lots.keep (fun o e => by
     obtain ⟨kk, e2, _⟩ := m.lots
     rw [e2] at e; cases e; exact k _ _ e2 fun _ q => by cases q), hl r0 h0⟩
   pool := fun p hp => kp _ _ (h.pool p hp) (o4 p hp)
   award := fun r hr => by
    have m := h.award r hr
    exact ⟨k _ _ m.ins (fun _ q => by cases q), m.draws.keep (fun o e => kp _ o e (o5 r hr)) kt⟩
   ndD := by rw [HL.wp_dicts]; exact h.ndD
   ndL := by rw [HL.wp_lists]; exact h.ndL }
 ·exact List.mem_cons_of_mem _ (List.mem_cons_of_mem _ (List.mem_append_right _ (List.mem_append_left _ m)))
 ·by_cases m : b ∈ L.pas
  ·obtain ⟨r, hr, rfl⟩ := List.mem_map.mp m
   obtain ⟨Z, e2, _⟩ := hl r hr
   exact ⟨_, e2.lst⟩
  ·exact ⟨o, kp b o e m⟩
theorem HouseAt.setNum (h : HouseAt C H L s) {s' : State} (e1 : s'.members = s.members) (e2 : s'.pools = s.pools) (e3 : s'.awards = s.awards) (e4 : s'.rules.bonus = s.rules.bonus) (e5 : s'.rules.steps = s.rules.steps) :
  Mv C H L (upd H L.h (.ins C.H L.dh (houseF L s'))) L s' := by
 have k : ∀ b o, H b = some o -> b ≠ L.h -> (upd H L.h (.ins C.H L.dh (houseF L s'))) b = some o := fun b o e ne => by
  rw [upd_ne ne]
  exact e
 have kd : ∀ b kvs, H b = some (.dK kvs) -> (upd H L.h (.ins C.H L.dh (houseF L s'))) b = some (.dK kvs) := fun b kvs e => k b _ e (ne_of e h.house (by intro q; cases q))
 have kl : ∀ b kvs, H b = some (.lst kvs) -> (upd H L.h (.ins C.H L.dh (houseF L s'))) b = some (.lst kvs) := fun b kvs e => k b _ e (ne_of e h.house (by intro q; cases q))
 have kt : TupsStay H (upd H L.h (.ins C.H L.dh (houseF L s'))) := fun b xs e => k b _ e (ne_of e h.house (by intro q; cases q))
 refine ⟨?_, rfl, fun _ => .inl, fun _ => .inl, fun b o e hb => k b o e fun q => hb (by rw [q]; exact List.mem_cons_self), fun b o e => ?_⟩
 ·exact
  {hm := by rw [e1]; exact h.hm
   hp := by rw [e2]; exact h.hp
   hw := by rw [e3]; exact h.hw
   house := upd_same
   mem := kd _ _ h.mem
   aws := kd _ _ h.aws
   pools := kl _ _ h.pools
   bon := by rw [e4]; exact kl _ _ h.bon
   stp := by rw [e5]; exact kl _ _ h.stp
   member := fun r hr => by
    have m := h.member r hr
    refine m.keep (fun o e => k _ o e (h.mem_ne hr)) (fun o e => ?_) (fun o e => ?_) kt
    ·obtain ⟨kk, e2, _⟩ := m.lots
     rw [e2] at e; cases e; exact kd _ _ e2
    ·obtain ⟨Z, hZ, _⟩ := m.pts
     rw [hZ.lst] at e; cases e; exact kl _ _ hZ.lst
   pool := fun p hp => kl _ _ (h.pool p hp)
   award := fun r hr => by
    have m := h.award r hr
    refine m.keep (fun o e => k _ o e (h.aw_ne hr)) (fun o e => ?_) kt
    obtain ⟨Z, hZ, _⟩ := m.draws
    rw [hZ.lst] at e; cases e; exact kl _ _ hZ.lst
   ndD := h.ndD
   ndL := h.ndL }
 ·by_cases q : b = L.h
  ·rw [q]; exact ⟨_, upd_same⟩
  ·exact ⟨o, k b o e q⟩
end
abbrev sInitM : Stmt := inClass (top 25) 0
abbrev sInitA : Stmt := inClass (top 26) 0
abbrev sInitH : Stmt := inClass (top 27) 0
structure TxtC (K : PySem.W.Frag) (mg : Str -> Option Value) (C : Cs) : Prop where
 clM : Cls K C.M
 clA : Cls K C.A
 clH : Cls K C.H
 mL : NoAttr K C.M "lots"
 mP : NoAttr K C.M "points"
 aA : NoAttr K C.A "asker"
 aD : NoAttr K C.A "draws"
 hT : NoAttr K C.H "today"
 hL : NoAttr K C.H "life"
 hB : NoAttr K C.H "bonuses"
 hS : NoAttr K C.H "steps"
 hM : NoAttr K C.H "members"
 hP : NoAttr K C.H "pools"
 hA : NoAttr K C.H "awards"
 hE : NoAttr K C.H "earned"
 hSp : NoAttr K C.H "spent"
 hR : NoAttr K C.H "returned"
 hO : NoAttr K C.H "run_out"
theorem upd_three {G : Hp} {p x : Addr} {o1 ox o2 : HO} (h : x ≠ p) : upd (upd (upd G p o1) x ox) p o2 = upd (upd G x ox) p o2 := by
 rw [upd_comm (G := G) (Ne.symm h), upd_upd]
section
variable {P : Program} {w : World} {K : PySem.W.Frag} {mg : Str -> Option Value} {base : Heap} {C : Cs}
def spInitM (C : Cs) : Sp := fun vs H Q _ => ∃ (p dx : Addr), vs = [.ref p] /\ H p = some (.ins C.M dx []) /\
 ∀ (H' : Hp) (la pa : Addr), H la = none -> H pa = none -> la ≠ pa -> H' = upd (upd (upd H la (.dK [])) pa (.lst [])) p (.ins C.M dx (memF ⟨p, dx, la, pa⟩)) -> Q .non H'
theorem scIM : FnScope ["self"] ["self"] (defScope sInitM) := ⟨rfl, rfl, rfl, by decide +kernel, rfl, by decide +kernel, by decide +kernel⟩
theorem ok_initM {f : Addr} {fd : FuncData} (F : Fun K "__init__" "Member.__init__" sInitM f fd) (T : TxtC K mg C) : FnOk P w K mg base CX0 1 f fd ["self"] (spInitM C) := by
 refine F.ok scIM (fun vs H Q E h => ?_) (fun cdv A outer s H vs Q E hr h => ?_)
 ·obtain ⟨p, dx, rfl, _⟩ := h
  rfl
 ·obtain ⟨p, dx, rfl, hp, k⟩ := h
  refine ⟨_, pss_cons (ps_fld (pv 0) pe_dnewK rfl) (pss_one (ps_fld (pv 0) (pe_lst pa_nil) rfl)), ?_⟩
  intro la hla
  have n1 : la ≠ p := Ne.symm (ne_of_none hp hla)
  refine ⟨_, rfl, p, C.M, dx, [], rfl, by rw [upd_ne (Ne.symm n1)]; exact hp, T.clM, T.mL, (by show 0 < 1000; decide), ?_⟩
  refine ⟨Nat.zero_le _, fun pa hpa => ?_⟩
  have n2 : pa ≠ p := fun e => by rw [e, upd_same] at hpa; cases hpa
  have n3 : la ≠ pa := fun e => by rw [<- e, upd_ne n1, upd_same] at hpa; cases hpa
  have hpa' : H pa = none := by rw [upd_ne n2, upd_ne (Ne.symm n3)] at hpa; exact hpa
  refine ⟨_, rfl, p, C.M, dx, _, rfl, by rw [upd_ne (Ne.symm n2), upd_same], T.clM, T.mP, (by show 1 < 1000; decide), ?_⟩
  refine k _ la pa hla hpa' n3 ?_
  rw [upd_three n2]
  rfl
def spInitA (C : Cs) : Sp := fun vs H Q _ => ∃ (p dx dl : Addr) (i : Nat), vs = [.ref p, natV i, .ref dl] /\ H p = some (.ins C.A dx []) /\
 Q .non (upd H p (.ins C.A dx [("asker", natV i), ("draws", .ref dl)]))
theorem scIA : FnScope ["self", "asker", "draws"] ["self", "asker", "draws"] (defScope sInitA) := ⟨rfl, rfl, rfl, by decide +kernel, rfl, by decide +kernel, by decide +kernel⟩
theorem ok_initA {f : Addr} {fd : FuncData} (F : Fun K "__init__" "Award.__init__" sInitA f fd) (T : TxtC K mg C) : FnOk P w K mg base CX0 1 f fd ["self", "asker", "draws"] (spInitA C) := by
 refine F.ok scIA (fun vs H Q E h => ?_) (fun cdv A outer s H vs Q E hr h => ?_)
 ·obtain ⟨p, dx, dl, i, rfl, _⟩ := h
  rfl
 ·obtain ⟨p, dx, dl, i, rfl, hp, k⟩ := h
  refine ⟨_, pss_cons (ps_fld (pv 0) (pv 1) rfl) (pss_one (ps_fld (pv 0) (pv 2) rfl)), ?_⟩
  refine ⟨_, rfl, _, rfl, p, C.A, dx, [], rfl, hp, T.clA, T.aA, (by show 0 < 1000; decide), ?_⟩
  refine ⟨_, rfl, _, rfl, p, C.A, dx, _, rfl, upd_same, T.clA, T.aD, (by show 1 < 1000; decide), ?_⟩
  rw [upd_upd]
  exact k
def newL (p dx ab as_ am ap aw : Addr) : HL := ⟨p, dx, am, aw, ap, ab, as_, [], [], []⟩
def spInitH (C : Cs) : Sp := fun vs H Q _ => ∃ (p dx : Addr), vs = [.ref p] /\ H p = some (.ins C.H dx []) /\
 ∀ (H' : Hp) (L : HL), L.h = p -> HouseAt C H' L Vbahaq.start -> (∀ b ∈ L.lists, H b = none) -> (∀ b ∈ L.muts, b = p \/ H b = none) -> (∀ b o, H b = some o -> b ≠ p -> H' b = some o) -> Q .non H'
theorem scIH : FnScope ["self"] ["self"] (defScope sInitH) := ⟨rfl, rfl, rfl, by decide +kernel, rfl, by decide +kernel, by decide +kernel⟩
theorem ok_initH {f : Addr} {fd : FuncData} (F : Fun K "__init__" "House.__init__" sInitH f fd) (T : TxtC K mg C) : FnOk P w K mg base CX0 1 f fd ["self"] (spInitH C) := by
 refine F.ok scIH (fun vs H Q E h => ?_) (fun cdv A outer s H vs Q E hr h => ?_)
 ·obtain ⟨p, dx, rfl, _⟩ := h
  rfl
 ·obtain ⟨p, dx, rfl, hp, k⟩ := h
  refine ⟨_, pss_cons (ps_fld (pv 0) pe_int rfl) (pss_cons (ps_fld (pv 0) pe_int rfl)
   (pss_cons (ps_fld (pv 0) (pe_lst (pa_cons pe_int (pa_cons pe_int (pa_cons pe_int (pa_cons pe_int pa_nil))))) rfl)
   (pss_cons (ps_fld (pv 0) (pe_lst (pa_cons pe_int (pa_cons pe_int (pa_cons pe_int pa_nil)))) rfl)
   (pss_cons (ps_fld (pv 0) pe_dnewK rfl) (pss_cons (ps_fld (pv 0) (pe_lst pa_nil) rfl) (pss_cons (ps_fld (pv 0) pe_dnewK rfl)
   (pss_cons (ps_fld (pv 0) pe_int rfl) (pss_cons (ps_fld (pv 0) pe_int rfl) (pss_cons (ps_fld (pv 0) pe_int rfl) (pss_one (ps_fld (pv 0) pe_int rfl))))))))))), ?_⟩
  refine ⟨_, rfl, p, C.H, dx, [], rfl, hp, T.clH, T.hT, (by show 0 < 1000; decide), ?_⟩
  refine ⟨_, rfl, p, C.H, dx, _, rfl, upd_same, T.clH, T.hL, (by show 1 < 1000; decide), ?_⟩
  rw [upd_upd]
  refine ⟨(by show 4 <= sizeLine; decide), fun ab hab => ?_⟩
  have b1 : ab ≠ p := fun e => by rw [e, upd_same] at hab; cases hab
  have hab' : H ab = none := by rw [upd_ne b1] at hab; exact hab
  refine ⟨_, rfl, p, C.H, dx, _, rfl, by rw [upd_ne (Ne.symm b1), upd_same], T.clH, T.hB, (by show 2 < 1000; decide), ?_⟩
  rw [upd_three b1]
  refine ⟨(by show 3 <= sizeLine; decide), fun as_ has => ?_⟩
  have c1 : as_ ≠ p := fun e => by rw [e, upd_same] at has; cases has
  rw [upd_ne c1] at has
  have c2 : as_ ≠ ab := fun e => by rw [e, upd_same] at has; cases has
  have has' : H as_ = none := by rw [upd_ne c2] at has; exact has
  refine ⟨_, rfl, p, C.H, dx, _, rfl, by rw [upd_ne (Ne.symm c1), upd_same], T.clH, T.hS, (by show 3 < 1000; decide), ?_⟩
  rw [upd_three c1]
  intro am ham
  have d1 : am ≠ p := fun e => by rw [e, upd_same] at ham; cases ham
  rw [upd_ne d1] at ham
  have d2 : am ≠ as_ := fun e => by rw [e, upd_same] at ham; cases ham
  rw [upd_ne d2] at ham
  have d3 : am ≠ ab := fun e => by rw [e, upd_same] at ham; cases ham
  have ham' : H am = none := by rw [upd_ne d3] at ham; exact ham
  refine ⟨_, rfl, p, C.H, dx, _, rfl, by rw [upd_ne (Ne.symm d1), upd_same], T.clH, T.hM, (by show 4 < 1000; decide), ?_⟩
  rw [upd_three d1]
  refine ⟨Nat.zero_le _, fun ap hap => ?_⟩
  have e1 : ap ≠ p := fun e => by rw [e, upd_same] at hap; cases hap
  rw [upd_ne e1] at hap
  have e2 : ap ≠ am := fun e => by rw [e, upd_same] at hap; cases hap
  rw [upd_ne e2] at hap
  have e3 : ap ≠ as_ := fun e => by rw [e, upd_same] at hap; cases hap
  rw [upd_ne e3] at hap
  have e4 : ap ≠ ab := fun e => by rw [e, upd_same] at hap; cases hap
  have hap' : H ap = none := by rw [upd_ne e4] at hap; exact hap
  refine ⟨_, rfl, p, C.H, dx, _, rfl, by rw [upd_ne (Ne.symm e1), upd_same], T.clH, T.hP, (by show 5 < 1000; decide), ?_⟩
  rw [upd_three e1]
  intro aw haw
  have f1 : aw ≠ p := fun e => by rw [e, upd_same] at haw; cases haw
  rw [upd_ne f1] at haw
  have f2 : aw ≠ ap := fun e => by rw [e, upd_same] at haw; cases haw
  rw [upd_ne f2] at haw
  have f3 : aw ≠ am := fun e => by rw [e, upd_same] at haw; cases haw
  rw [upd_ne f3] at haw
  have f4 : aw ≠ as_ := fun e => by rw [e, upd_same] at haw; cases haw
  rw [upd_ne f4] at haw
  have f5 : aw ≠ ab := fun e => by rw [e, upd_same] at haw; cases haw
  have haw' : H aw = none := by rw [upd_ne f5] at haw; exact haw
  refine ⟨_, rfl, p, C.H, dx, _, rfl, by rw [upd_ne (Ne.symm f1), upd_same], T.clH, T.hA, (by show 6 < 1000; decide), ?_⟩
  rw [upd_three f1]
  refine ⟨_, rfl, p, C.H, dx, _, rfl, upd_same, T.clH, T.hE, (by show 7 < 1000; decide), ?_⟩
  rw [upd_upd]
  refine ⟨_, rfl, p, C.H, dx, _, rfl, upd_same, T.clH, T.hSp, (by show 8 < 1000; decide), ?_⟩
  rw [upd_upd]
  refine ⟨_, rfl, p, C.H, dx, _, rfl, upd_same, T.clH, T.hR, (by show 9 < 1000; decide), ?_⟩
  rw [upd_upd]
  refine ⟨_, rfl, p, C.H, dx, _, rfl, upd_same, T.clH, T.hO, (by show 10 < 1000; decide), ?_⟩
  rw [upd_upd]
  refine k _ (newL p dx ab as_ am ap aw) rfl ?_ (fun b hb => ?_) (fun b hb => ?_) (fun b o e hb => ?_)
  ·exact
   {hm := rfl
    hp := rfl
    hw := rfl
    house := upd_same
    mem := by
     show (upd _ p _) am = _
     rw [upd_ne d1, upd_ne (Ne.symm f3), upd_ne (Ne.symm e2), upd_same]
     rfl
    aws := by
     show (upd _ p _) aw = _
     rw [upd_ne f1, upd_same]
     rfl
    pools := by
     show (upd _ p _) ap = _
     rw [upd_ne e1, upd_ne (Ne.symm f2), upd_same]
     rfl
    bon := by
     show (upd _ p _) ab = _
     rw [upd_ne b1, upd_ne (Ne.symm f5), upd_ne (Ne.symm e4), upd_ne (Ne.symm d3), upd_ne (Ne.symm c2), upd_same]
     rfl
    stp := by
     show (upd _ p _) as_ = _
     rw [upd_ne c1, upd_ne (Ne.symm f4), upd_ne (Ne.symm e3), upd_ne (Ne.symm d2), upd_same]
     rfl
    member := fun r hr => by cases hr
    pool := fun r hr => by cases hr
    award := fun r hr => by cases hr
    ndD := by
     show [am, aw].Nodup
     simp [Ne.symm f3]
    ndL := by
     show [ap, ab, as_].Nodup
     simp [e4, e3, Ne.symm c2] }
  ·have hb' : b ∈ [ap, ab, as_] := hb
   simp at hb'
   rcases hb' with rfl | rfl | rfl
   ·exact hap'
   ·exact hab'
   ·exact has'
  ·have hb' : b ∈ [p, ap, am, aw] := hb
   simp at hb'
   rcases hb' with rfl | rfl | rfl | rfl
   ·exact .inl rfl
   ·exact .inr hap'
   ·exact .inr ham'
   ·exact .inr haw'
  ·rw [upd_ne hb, upd_ne (ne_of_none e haw'), upd_ne (ne_of_none e hap'), upd_ne (ne_of_none e ham'), upd_ne (ne_of_none e has'), upd_ne (ne_of_none e hab')]
   exact e
end
def GInt (mg : Str -> Option Value) (x : Str) (i : Int) : Prop := ∃ t, mg x = some (Value.int i t)
theorem pe_gint {X : Cx} {x : Str} {i : Int} {pos : Pos} (h : GInt X.mg x i) (hg : Gl X x) (hd : (x == ("__debug__" : Str)) = false := by decide) : PE X (.Name x pos) (tC (.int i)) := by
 obtain ⟨t, e⟩ := h
 exact pe_glob hg e ⟨t, rfl⟩ hd
def Answers (C : Cs) (H : Hp) (L : HL) (r : State × List Int) (Q : VK) : Prop :=
 ∀ (H' : Hp) (L' : HL) (p : Addr), Mv C H L H' L' r.1 -> H p = none -> H' p = some (.lst (r.2.map V.int)) -> p ∉ L'.lists -> Q (.ref p) H'
theorem Answers.lst {C : Cs} {H H1 : Hp} {L L1 : HL} {r : State × List Int} {Q : VK} (A : Answers C H L r Q) (m : Mv C H L H1 L1 r.1) {p : Addr} (hp : H1 p = none) {xs : List V} (e : xs = r.2.map V.int) : Q (.ref p) (upd H1 p (.lst xs)) := by
 obtain ⟨f1, f2⟩ := m.fresh hp
 exact A _ L1 p (m.new hp) f1 (by rw [upd_same, e]) f2
def findM (L : HL) (k : Nat) : Option (ML × Member) := L.ms.find? fun r => decide (r.2.id = k)
theorem valV_mem (ms : List (ML × Member)) (k : Nat) : valV (ms.map memK) (Sum.inl (k : Int)) = (ms.find? fun r => decide (r.2.id = k)).map fun r => V.ref r.1.a := by
 induction ms with
 | nil => rfl
 | cons r t ih =>
  rw [List.map_cons, List.find?_cons]
  by_cases h : r.2.id = k
  ·rw [valV_pos (p := memK r) (key_nat.mpr h)]
   simp [h, memK]
  ·rw [valV_neg (p := memK r) (fun e => h (key_nat.mp e)), ih]
   simp [h]
theorem findM_spec {C : Cs} {H : Hp} {L : HL} {s : State} (h : HouseAt C H L s) (k : Nat) : Vbahaq.memberOf s k = (findM L k).map (·.2) := by
 unfold Vbahaq.memberOf findM
 rw [<- h.hm, List.find?_map]
 refine congrArg _ (congrArg (fun f => List.find? f L.ms) ?_)
 funext r
 show (r.2.id == k) = decide (r.2.id = k)
 by_cases e : r.2.id = k
 ·rw [e]; simp
 ·simp [e]
theorem findM_some {L : HL} {k : Nat} {r : ML × Member} (h : findM L k = some r) : r ∈ L.ms /\ r.2.id = k := by
 unfold findM at h
 exact ⟨List.mem_of_find?_eq_some h, of_decide_eq_true (List.find?_some (p := fun r : ML × Member => decide (r.2.id = k)) h)⟩
theorem findM_of {L : HL} {k : Nat} (h : k ∈ L.ms.map fun r => r.2.id) : ∃ r, findM L k = some r := by
 obtain ⟨r, hr, e⟩ := List.mem_map.mp h
 unfold findM
 cases q : L.ms.find? fun r => decide (r.2.id = k) with
 | some r => exact ⟨r, rfl⟩
 | none =>
  have := List.find?_eq_none.mp q r hr
  simp [e] at this
theorem HouseAt.ids {C : Cs} {H : Hp} {L : HL} {s : State} (h : HouseAt C H L s) : (L.ms.map fun r => r.2.id) = s.members.map (·.id) := by
 rw [<- h.hm, List.map_map]
 rfl
theorem HouseAt.get {C : Cs} {H : Hp} {L : HL} {s : State} (h : HouseAt C H L s) (k : Nat) : DGet H L.am (.int (k : Int)) ((findM L k).map fun r => V.ref r.1.a) := by
 have := DGet.k (k := Sum.inl (k : Int)) h.mem
 rw [valV_mem] at this
 exact this
theorem inV_nat (k : Nat) (ns : List Nat) : inV (.int (k : Int)) (ns.map natV) = ns.contains k := by
 unfold inV
 rw [List.any_map, List.contains_eq_any_beq]
 refine congrArg (fun f => ns.any f) ?_
 funext n
 show ((n : Int) == (k : Int)) = (k == n)
 by_cases e : n = k
 ·rw [e]; simp
 ·have e1 : ¬ (n : Int) = (k : Int) := by omega
  have e2 : ¬ k = n := fun q => e q.symm
  rw [beq_eq_false_iff_ne.mpr e1, beq_eq_false_iff_ne.mpr e2]
theorem flat_nat (ns : List Nat) : (ns.map natV).all flatV = true := by
 rw [List.all_map]
 exact List.all_eq_true.mpr fun _ _ => rfl
abbrev sMakeP : Stmt := top 20
abbrev sEndP : Stmt := top 21
abbrev sPoolOf : Stmt := top 22
abbrev sHand : Stmt := top 23
theorem find_at {α : Type} {p : α -> Bool} : ∀ {l : List α} {i : Nat} {x : α}, (∀ y ∈ l.take i, p y = false) -> l[i]? = some x -> p x = true -> l.find? p = some x
 | [], i, x, _, h, _ => by simp at h
 | a :: r, 0, x, _, h, hp => by
  have e : a = x := Option.some.inj h
  subst e
  rw [List.find?_cons, hp]
 | a :: r, i + 1, x, hn, h, hp => by
  have ha : p a = false := hn a (by rw [List.take_succ_cons]; exact List.mem_cons_self)
  rw [List.find?_cons, ha]
  exact find_at (l := r) (i := i) (fun y hy => hn y (by rw [List.take_succ_cons]; exact List.mem_cons_of_mem _ hy)) h hp
def findP (L : HL) (k : Nat) : Option (Addr × List Nat) := L.ps.find? fun p => p.2.contains k
theorem findP_spec {C : Cs} {H : Hp} {L : HL} {s : State} (h : HouseAt C H L s) (k : Nat) : Vbahaq.poolOf s k = (findP L k).map (·.2) := by
 unfold Vbahaq.poolOf findP
 rw [<- h.hp, List.find?_map]
 rfl
def refOf : Option (Addr × List Nat) -> V
 | some p => .ref p.1
 | none => .non
section
variable {P : Program} {w : World} {K : PySem.W.Frag} {mg : Str -> Option Value} {base : Heap} {C : Cs}
def spPoolOf (C : Cs) : Sp := fun vs H Q _ => ∃ (L : HL) (s : State) (k : Nat), vs = [.ref L.h, natV k] /\ HouseAt C H L s /\ Q (refOf (findP L k)) H
theorem scPoolOf : FnScope ["house", "pooler", "pool"] ["house", "pooler"] (defScope sPoolOf) := ⟨rfl, rfl, rfl, by decide +kernel, rfl, by decide +kernel, by decide +kernel⟩
theorem ok_poolOf {f : Addr} {fd : FuncData} (F : Fun K "pool_of" "pool_of" sPoolOf f fd) (T : TxtC K mg C) : FnOk P w K mg base CX0 1 f fd ["house", "pooler"] (spPoolOf C) := by
 refine F.ok scPoolOf (fun vs H Q E h => ?_) (fun cdv A outer s H vs Q E hr h => ?_)
 ·obtain ⟨L, st, k, rfl, _⟩ := h
  rfl
 ·obtain ⟨L, st, k, rfl, hh, q⟩ := h
  have nd := scPoolOf.nd
  refine ⟨_, pss_cons (ps_for PassesOwn.never rfl (pi_list (pe_fld (pv 0) rfl)) (pg_name (i := 2) nd rfl (Or.inl rfl))
    (pss_one (ps_if (pt_cmpR op_in_seq (pv 1) (pv 2) (by with_unfolding_all rfl)) (pss_one (ps_ret (pv 2))) pss_nil)))
   (pss_one (ps_ret pe_non)), ?_⟩
  refine ⟨_, rfl, L.h, C.H, L.dh, _, _, rfl, hh.house, T.clH, T.hP, hF_pools _ _, L.ap, rfl, ⟨_, SqL.of hh.pools⟩, for_list (K := K) (a := L.ap) (xs := L.ps.map fun p => V.ref p.1)
   (fun i σ H' => H' = H /\ (∃ v2, σ = [some (.ref L.h), some (natV k), v2]) /\ ∀ p ∈ L.ps.take i, p.2.contains k = false)
   ⟨rfl, ⟨none, rfl⟩, fun p hp => by rw [List.take_zero] at hp; cases hp⟩ (fun i σ H' _ ⟨e, _⟩ => by rw [e]; exact SqL.of hh.pools) ?_ ?_⟩
  ·rintro i y σ H' hi ⟨rfl, ⟨v2, rfl⟩, hn⟩
   obtain ⟨p, hp, rfl⟩ := at_map hi
   have hm := List.mem_of_getElem? hp
   refine ⟨_, rfl, _, rfl, p.1, _, rfl, .inl (SqL.of (hh.pool p hm)), rfl, flat_nat _, _, rfl, ?_⟩
   show if inV (.int (k : Int)) (p.2.map natV) = true then _ else _
   rw [inV_nat]
   refine ite2 (fun c => ?_) (fun c => ?_)
   ·refine ⟨_, rfl, ?_⟩
    have e : findP L k = some p := find_at hn hp c
    rw [e] at q
    exact q
   ·refine ⟨rfl, ⟨_, rfl⟩, fun p' hp' => ?_⟩
    rw [take_at hp] at hp'
    rcases List.mem_append.mp hp' with z | z
    ·exact hn p' z
    ·rw [List.mem_singleton.mp z]
     exact Bool.eq_false_iff.mpr c
  ·rintro σ H' ⟨rfl, ⟨v2, rfl⟩, hn⟩
   rw [List.length_map, List.take_length] at hn
   have e : findP L k = none := List.find?_eq_none.mpr fun p hp => by rw [hn p hp]; exact Bool.false_ne_true
   rw [e] at q
   exact q
end
structure TxtP (P : Program) (w : World) (K : PySem.W.Frag) (mg : Str -> Option Value) (base : Heap) (C : Cs) : Prop extends TxtC K mg C where
 poolOf : Cal P w K mg base "pool_of" 1 ["house", "pooler"] (spPoolOf C)
theorem tYes_of {σ : L2.St} {H : Hp} {A B : Hp -> Prop} (h : A H) : tYes σ H fun b H3 => if b = true then A H3 else B H3 := by
 show if true = true then A H else B H
 rw [if_pos rfl]
 exact h
def OfMem (L : HL) (h : Hd) : Prop := ∃ r ∈ L.ms, r.2.id = h.owner /\ r.1.la = h.la /\ h.l = r.2.lots /\ h.k.Perm h.l
section
variable {P : Program} {w : World} {K : PySem.W.Frag} {mg : Str -> Option Value} {base : Heap} {C : Cs}
def spHand (C : Cs) : Sp := fun vs H Q _ => ∃ (L : HL) (s : State) (k : Nat), vs = [.ref L.h, natV k] /\ HouseAt C H L s /\ (∀ o ∈ Vbahaq.handOf s k, ∃ r, findM L o = some r) /\ (Vbahaq.handOf s k).length < 1000 /\
 ∀ (H' : Hp) (a : Addr) (hs : List Hd), Same H H' -> H a = none -> HoldAt H' a hs -> hs.map (·.owner) = Vbahaq.handOf s k -> (∀ h ∈ hs, OfMem L h) -> Q (.ref a) H'
theorem scHand : FnScope ["house", "asker", "pool", "owners", "owner"] ["house", "asker"] (defScope sHand) := ⟨rfl, rfl, rfl, by decide +kernel, rfl, by decide +kernel, by decide +kernel⟩
theorem ok_hand {f : Addr} {fd : FuncData} (F : Fun K "at_hand" "at_hand" sHand f fd) (T : TxtP P w K mg base C) : FnOk P w K mg base CX0 2 f fd ["house", "asker"] (spHand C) := by
 refine F.ok scHand (fun vs H Q E h => ?_) (fun cdv A outer s H vs Q E hr h => ?_)
 ·obtain ⟨L, st, k, rfl, _⟩ := h
  rfl
 ·obtain ⟨L, st, k, rfl, hh, hown, hfew, q⟩ := h
  have nd := scHand.nd
  have hu := hu_of hr
  refine ⟨_, pss_cons (ps_set (i := 2) nd rfl (Or.inl rfl) (pe_cal T.poolOf hr rfl (pa_cons (pv 0) (pa_cons (pv 1) pa_nil))))
   (pss_cons (ps_set (i := 3) nd rfl (Or.inl rfl) (pe_ifExp (pt_cmp (pc_isN (pv 2))) (pe_lst (pa_cons (pv 1) pa_nil)) (pv 2)))
   (pss_one (ps_ret (pe_lc (own := [("owner", 4)]) (te := tTup (tCons (tVar 4) (tCons (tFld K (tDGet (tFld K (tVar 0) "members") (tVar 4)) "lots") tNil))) rfl nd (pi_list (pv 3)) (blkOk_by (by rfl))
    (fun _ _ _ _ _ => pg_name (i := 4) nd rfl (Or.inl rfl)) (fun _ _ _ _ _ => pts_nil)
    (fun _ _ _ _ _ => pe_tup (pa_cons (pv 4) (pa_cons (pe_fld (pe_dget hu (pe_fld (pv 0) rfl) (pv 4) (fun _ _ => rfl)) rfl) pa_nil))))))), ?_⟩
  refine ⟨_, rfl, _, rfl, L, st, k, rfl, hh, ?_⟩
  have main : ∀ (H1 : Hp) (a : Addr) (v2 : V), Same H H1 -> SqL K H1 a ((Vbahaq.handOf st k).map natV) -> (tRet (tLc (iList K (tVar 3)) (gName 4) tYes
    (tTup (tCons (tVar 4) (tCons (tFld K (tDGet (tFld K (tVar 0) "members") (tVar 4)) "lots") tNil))) ([("owner", 4)].map (·.2)))) { nx := fun _ H' => Q .non H', rt := Q }
    [some (.ref L.h), some (natV k), some v2, some (.ref a), none] H1 := by
   intro H1 a v2 s1 ha
   refine ⟨_, rfl, a, rfl, ⟨_, ha⟩, fun D hD => lc_list (K := K) (a := a) (xs := (Vbahaq.handOf st k).map natV)
    (fun i H' => Same H1 H' /\ ∃ hs : List Hd, HoldAt H' D hs /\ hs.map (·.owner) = (Vbahaq.handOf st k).take i /\ ∀ h ∈ hs, OfMem L h)
    ⟨(Same.refl H1).upd_new hD, [], ⟨upd_same, fun h hm => (by cases hm), fun h hm => (by cases hm)⟩, rfl, fun h hm => (by cases hm)⟩ (fun i H' _ ⟨e, _⟩ => e.seq ha) ?_ ?_⟩
   ·rintro i y H2 hi ⟨s2, hs, hho, eo, hof⟩
    obtain ⟨o, ho, rfl⟩ := at_map hi
    obtain ⟨r, hr⟩ := hown o (List.mem_of_getElem? ho)
    obtain ⟨hrm, hid⟩ := findM_some hr
    have s12 := s1.trans s2
    have hh2 := hh.same s12
    have mm := hh2.member r hrm
    obtain ⟨kk, hk, pk⟩ := mm.lots
    refine ⟨rfl, ?_⟩
    refine tYes_of ?_
    refine ⟨_, rfl, ⟨_, rfl, L.h, C.H, L.dh, _, _, rfl, hh2.house, T.clH, T.hM, hF_members _ _, _, rfl, L.am, _, rfl, (by have := hh2.get o; rw [hr] at this; exact this), r.1.a, C.M, r.1.dx, _, _, rfl, mm.ins, T.clM, T.mL, mF_lots _, ?_⟩⟩
    refine ⟨(by show 2 <= sizeLine; decide), fun t ht => ?_⟩
    have ndt : D ≠ t := ne_of_none hho.lst ht
    refine ⟨_, by rw [upd_ne ndt]; exact hho.lst, ?_, ?_⟩
    ·have e1 : hs.length = ((Vbahaq.handOf st k).take i).length := by rw [<- eo, List.length_map]
     rw [List.length_map, e1, List.length_take]
     exact Nat.lt_of_le_of_lt (Nat.min_le_right _ _) (Nat.lt_trans hfew (by decide))
    ·have fD : H1 D = none := hD
     have ft : H1 t = none := s2.free ht
     refine ⟨(s2.upd_new ft).upd_new fD, hs ++ [⟨o, t, r.1.la, kk, r.2.lots⟩], ⟨?_, ?_, ?_⟩, ?_, ?_⟩
     ·rw [upd_same, List.map_append]
      rfl
     ·intro h hm
      rcases List.mem_append.mp hm with hm | hm
      ·have e1 := hho.tup h hm
       rw [upd_ne (ne_of e1 hho.lst (by intro z; cases z)), upd_ne (ne_of_none e1 ht)]
       exact e1
      ·rw [List.mem_singleton.mp hm, upd_ne (Ne.symm ndt), upd_same]
     ·intro h hm
      rcases List.mem_append.mp hm with hm | hm
      ·have e1 := hho.lots h hm
       rw [upd_ne (ne_of e1 hho.lst (by intro z; cases z)), upd_ne (ne_of_none e1 ht)]
       exact e1
      ·rw [List.mem_singleton.mp hm, upd_ne (ne_of hk hho.lst (by intro z; cases z)), upd_ne (ne_of_none hk ht)]
       exact hk
     ·rw [List.map_append, eo, take_at ho]
      rfl
     ·intro h hm
      rcases List.mem_append.mp hm with hm | hm
      ·exact hof h hm
      ·rw [List.mem_singleton.mp hm]
       exact ⟨r, hrm, hid, rfl, rfl, pk⟩
   ·rintro H2 ⟨s2, hs, hho, eo, hof⟩
    rw [List.length_map, List.take_length] at eo
    exact q H2 D hs (s1.trans s2) (s1.free hD) hho eo hof
  have e := findP_spec hh k
  cases ef : findP L k with
  | none =>
   rw [ef] at e
   have eh : Vbahaq.handOf st k = [k] := by unfold Vbahaq.handOf; rw [e]; rfl
   refine ⟨_, rfl, _, rfl, ?_⟩
   refine iteT ?_
   refine ⟨_, rfl, (by show 1 <= sizeLine; decide), fun a ha => ?_⟩
   refine main _ a .non ((Same.refl H).upd_new ha) (SqL.of ?_)
   rw [upd_same, eh]
   rfl
  | some p =>
   rw [ef] at e
   have eh : Vbahaq.handOf st k = p.2 := by unfold Vbahaq.handOf; rw [e]; rfl
   have pm : p ∈ L.ps := List.mem_of_find?_eq_some ef
   refine ⟨_, rfl, _, rfl, ?_⟩
   refine iteF ?_
   refine ⟨_, rfl, ?_⟩
   refine main _ p.1 (.ref p.1) (Same.refl H) (SqL.of ?_)
   rw [eh]
   exact hh.pool p pm
end
theorem lc_pure {K : PySem.W.Frag} {a D : Addr} {ns : List Nat} {te : TE} {vs : List Nat} {σ : L2.St} {H1 : Hp} {i0 : Nat} {Qd : Hp -> Prop} (F : Nat -> V) (ha : SqL K H1 a (ns.map natV)) (hfew : ns.length < sizeLine) (hD : H1 D = none)
  (hw : ∀ x : V, wipe ((wipe σ vs).set i0 (some x)) vs = wipe σ vs) (he : ∀ k ∈ ns, ∀ H', Same H1 H' -> ∀ Q : VK, Q (F k) H' -> te ((wipe σ vs).set i0 (some (natV k))) H' Q) (hd : ∀ H', Same H1 H' -> H' D = some (.lst (ns.map F)) -> Qd H') :
  ∃ W : Nat -> Nat -> Hp -> Prop, (∃ m, W 0 m (upd H1 D (.lst []))) /\ ∀ i m H, W i m H ->
   ((Itl K a).stop i H /\ Qd H) \/ ((Itl K a).go i H /\ ∃ Nx : Hp -> Prop, (∀ H', Nx H' -> ∃ m', m' < m /\ W (i + 1) m' H') /\ ∀ x H', (Itl K a).yld i H x H' -> gName i0 x (wipe σ vs) H' fun σ2 H2 => wipe σ2 vs = wipe σ vs /\ tYes σ2 H2 fun b H3 =>
    if b = true then te σ2 H3 fun y H4 => ∃ acc, H4 D = some (.lst acc) /\ acc.length < sizeLine /\ Nx (upd H4 D (.lst (acc ++ [y]))) else Nx H3) := by
 refine lc_list (K := K) (a := a) (xs := ns.map natV) (fun i H' => Same H1 H' /\ H' D = some (.lst ((ns.take i).map F))) ⟨(Same.refl H1).upd_new hD, upd_same⟩ (fun i H' _ ⟨e, _⟩ => e.seq ha) ?_ ?_
 ·rintro i y H2 hi ⟨s2, hl⟩
  obtain ⟨k, hk, rfl⟩ := at_map hi
  refine ⟨hw _, tYes_of (he k (List.mem_of_getElem? hk) H2 s2 _ ⟨_, hl, ?_, s2.upd_new hD, ?_⟩)⟩
  ·rw [List.length_map, List.length_take]
   exact Nat.lt_of_le_of_lt (Nat.min_le_right _ _) hfew
  ·rw [upd_same, take_at hk, List.map_append]
   rfl
 ·rintro H2 ⟨s2, hl⟩
  rw [List.length_map, List.take_length] at hl
  exact hd H2 s2 hl
theorem dd_len : ∀ (l acc : List Int), (l.foldl step_dedup acc).length <= acc.length + l.length /\ ((l.foldl step_dedup acc).length = acc.length + l.length ↔ l.Nodup /\ ∀ x ∈ l, x ∉ acc)
 | [], acc => ⟨Nat.le_refl _, ⟨fun _ => ⟨List.nodup_nil, fun x hx => by cases hx⟩, fun _ => rfl⟩⟩
 | v :: r, acc => by
  rw [List.foldl_cons, List.length_cons]
  by_cases m : acc.any (· == v) = true
  ·rw [show step_dedup acc v = acc from if_pos m]
   have hm : v ∈ acc := by
    obtain ⟨x, hx, e⟩ := List.any_eq_true.mp m
    rw [<- eq_of_beq e]
    exact hx
   obtain ⟨h1, h2⟩ := dd_len r acc
   exact ⟨by omega, ⟨fun e => by omega, fun e => absurd hm (e.2 v List.mem_cons_self)⟩⟩
  ·rw [show step_dedup acc v = acc ++ [v] from if_neg m]
   have hm : v ∉ acc := fun q => m (List.any_eq_true.mpr ⟨v, q, beq_self_eq_true v⟩)
   obtain ⟨h1, h2⟩ := dd_len r (acc ++ [v])
   rw [List.length_append, List.length_singleton] at h1 h2
   refine ⟨by omega, ?_⟩
   rw [show acc.length + (r.length + 1) = acc.length + 1 + r.length by omega, h2, List.nodup_cons]
   constructor
   ·rintro ⟨n, q⟩
    refine ⟨⟨fun hv => q v hv (List.mem_append_right _ (List.mem_singleton.mpr rfl)), n⟩, fun x hx => ?_⟩
    rcases List.mem_cons.mp hx with e | hx
    ·rw [e]; exact hm
    ·exact fun z => q x hx (List.mem_append_left _ z)
   ·rintro ⟨⟨n1, n2⟩, q⟩
    refine ⟨n2, fun x hx z => ?_⟩
    rcases List.mem_append.mp z with z | z
    ·exact q x (List.mem_cons_of_mem _ hx) z
    ·rw [List.mem_singleton.mp z] at hx
     exact n1 hx
theorem distinct_iff : ∀ l : List Nat, Vbahaq.distinct l = true ↔ l.Nodup
 | [] => ⟨fun _ => List.nodup_nil, fun _ => rfl⟩
 | x :: r => by
  show (!r.contains x && Vbahaq.distinct r) = true ↔ _
  rw [Bool.and_eq_true, distinct_iff r, List.nodup_cons]
  simp
theorem twice_iff (ids : List Nat) : (ddLen (ids.map fun (n : Nat) => (n : Int)) < ids.length) ↔ Vbahaq.distinct ids = false := by
 obtain ⟨h1, h2⟩ := dd_len (ids.map fun (n : Nat) => (n : Int)) []
 rw [List.length_map, List.length_nil, Nat.zero_add] at h1 h2
 have h3 : (ids.map fun (n : Nat) => (n : Int)).Nodup ↔ ids.Nodup := by
  rw [List.nodup_iff_pairwise_ne, List.nodup_iff_pairwise_ne, List.pairwise_map]
  constructor
  ·exact fun h => h.imp fun q e => q (by rw [e])
  ·exact fun h => h.imp fun q e => q (by omega)
 have h4 : ddLen (ids.map fun (n : Nat) => (n : Int)) = ids.length ↔ ids.Nodup := by
  show ((ids.map fun (n : Nat) => (n : Int)).foldl step_dedup []).length = ids.length ↔ _
  rw [h2, h3]
  exact ⟨fun h => h.1, fun h => ⟨h, fun x _ z => by cases z⟩⟩
 have h5 : ddLen (ids.map fun (n : Nat) => (n : Int)) <= ids.length := h1
 rw [<- Bool.not_eq_true, distinct_iff, <- h4]
 omega
section
variable {C : Cs} {H H1 : Hp} {L : HL} {s : State}
def HL.withPools (L : HL) (ps : List (Addr × List Nat)) : HL := { L with ps := ps }
theorem HouseAt.setPools (h : HouseAt C H L s) (k : Same H H1) (ps : List (Addr × List Nat)) (hps : ∀ p ∈ ps, H1 p.1 = some (.lst (p.2.map natV))) (nd : (L.withPools ps).lists.Nodup) (fr : ∀ p ∈ ps, p ∈ L.ps \/ H p.1 = none) :
  Mv C H L (upd H1 L.ap (.lst (ps.map fun p => V.ref p.1))) (L.withPools ps) { s with pools := ps.map (·.2) } := by
 have kk : ∀ b o, H b = some o -> b ≠ L.ap -> (upd H1 L.ap (.lst (ps.map fun p => V.ref p.1))) b = some o := fun b o e ne => by
  rw [upd_ne ne]
  exact k b o e
 have kn : ∀ b o, H b = some o -> (∀ xs, o ≠ .lst xs) -> (upd H1 L.ap (.lst (ps.map fun p => V.ref p.1))) b = some o := fun b o e ne => kk b o e (ne_of e h.pools (ne _))
 have kt : TupsStay H (upd H1 L.ap (.lst (ps.map fun p => V.ref p.1))) := fun b xs e => kn b _ e fun _ q => by cases q
 obtain ⟨o1, o2, o3, o4, o5⟩ := h.ap_off
 refine ⟨?_, rfl, fun b hb => ?_, fun b hb => .inl hb, fun b o e hb => kk b o e fun q => hb (by rw [q]; exact List.mem_cons_of_mem _ List.mem_cons_self), fun b o e => ?_⟩
 ·exact
  {hm := h.hm
   hp := rfl
   hw := h.hw
   house := kn _ _ h.house fun _ q => by cases q
   mem := kn _ _ h.mem fun _ q => by cases q
   aws := kn _ _ h.aws fun _ q => by cases q
   pools := upd_same
   bon := kk _ _ h.bon o1
   stp := kk _ _ h.stp o2
   member := fun r hr => by
    have m := h.member r hr
    refine m.keep (fun o e => ?_) (fun o e => ?_) (fun o e => kk _ o e (o3 r hr)) kt
    ·rw [m.ins] at e; cases e; exact kn _ _ m.ins fun _ q => by cases q
    ·obtain ⟨kk2, e2, _⟩ := m.lots
     rw [e2] at e; cases e; exact kn _ _ e2 fun _ q => by cases q
   pool := fun p hp => by
    rw [upd_ne]
    ·exact hps p hp
    ·rcases fr p hp with q | q
     ·exact o4 p q
     ·exact fun e => by rw [e, h.pools] at q; cases q
   award := fun r hr => by
    have m := h.award r hr
    refine m.keep (fun o e => ?_) (fun o e => kk _ o e (o5 r hr)) kt
    rw [m.ins] at e; cases e; exact kn _ _ m.ins fun _ q => by cases q
   ndD := h.ndD
   ndL := nd }
 ·have hb' : b ∈ L.ap :: L.ab :: L.as_ :: (L.pas ++ (ps.map (·.1) ++ L.ws.map fun r => r.1.dl)) := hb
  rcases List.mem_cons.mp hb' with e | hb'
  ·left; rw [e]; exact HL.ap_in
  ·rcases List.mem_cons.mp hb' with e | hb'
   ·left; rw [e]; exact HL.ab_in
   ·rcases List.mem_cons.mp hb' with e | hb'
    ·left; rw [e]; exact HL.as_in
    ·rcases List.mem_append.mp hb' with hb' | hb'
     ·left; exact HL.pa_in hb'
     ·rcases List.mem_append.mp hb' with hb' | hb'
      ·obtain ⟨p, hp, rfl⟩ := List.mem_map.mp hb'
       rcases fr p hp with q | q
       ·left; exact HL.ps_in q
       ·exact .inr q
      ·obtain ⟨r, hr, rfl⟩ := List.mem_map.mp hb'
       left; exact HL.dl_in hr
 ·by_cases q : b = L.ap
  ·rw [q]; exact ⟨_, upd_same⟩
  ·exact ⟨o, kk b o e q⟩
theorem HL.lists_perm (L : HL) (n : Addr) (ids : List Nat) : (L.withPools (L.ps ++ [(n, ids)])).lists.Perm (n :: L.lists) := by
 show (L.ap :: L.ab :: L.as_ :: (L.pas ++ ((L.ps ++ [(n, ids)]).map (·.1) ++ L.ws.map fun r => r.1.dl))).Perm (n :: L.ap :: L.ab :: L.as_ :: (L.pas ++ (L.ps.map (·.1) ++ L.ws.map fun r => r.1.dl)))
 have h1 : (L.pas ++ ((L.ps ++ [(n, ids)]).map (·.1) ++ L.ws.map fun r => r.1.dl)).Perm (n :: (L.pas ++ (L.ps.map (·.1) ++ L.ws.map fun r => r.1.dl))) := by
  rw [List.map_append, List.append_assoc, <- List.append_assoc L.pas, <- List.append_assoc L.pas]
  exact List.perm_middle
 refine (((h1.cons L.as_).cons L.ab).cons L.ap).trans ?_
 exact (((List.Perm.swap n L.as_ _).cons L.ab).trans (List.Perm.swap n L.ab _)).cons L.ap |>.trans (List.Perm.swap n L.ap _)
end
structure TxtQ (P : Program) (w : World) (K : PySem.W.Frag) (mg : Str -> Option Value) (base : Heap) (C : Cs) : Prop extends TxtP P w K mg base C where
 any : mg "any" = none
 len : mg "len" = none
 set : mg "set" = none
 list : mg "list" = none
 noMember : GInt mg "NO_MEMBER" (-3)
 wrongPool : GInt mg "WRONG_POOL" (-9)
 full : GInt mg "FULL" (-6)
 mostPools : GInt mg "MOST_POOLS" 8
theorem any_map_not {ids : List Nat} {f : Nat -> Bool} : ((ids.map fun k => !f k).any id) = !(ids.all f) := by
 induction ids with
 | nil => rfl
 | cons a r ih =>
  rw [List.map_cons, List.any_cons, ih, List.all_cons]
  cases f a <;> simp
theorem HouseAt.isMem {C : Cs} {H : Hp} {L : HL} {s : State} (h : HouseAt C H L s) (k : Nat) : (Vbahaq.memberOf s k).isSome = (findM L k).isSome := by
 rw [findM_spec h k]
 cases findM L k <;> rfl
theorem HouseAt.isPool {C : Cs} {H : Hp} {L : HL} {s : State} (h : HouseAt C H L s) (k : Nat) : (Vbahaq.poolOf s k).isSome = !decide (refOf (findP L k) = V.non) := by
 rw [findP_spec h k]
 cases findP L k <;> rfl
theorem filter_first {α : Type} {q : α -> Bool} : ∀ {l : List α} {j : Nat} {x : α}, l[j]? = some x -> q x = true -> (∀ m y, l[m]? = some y -> q y = true -> m = j) -> (l.filter fun y => !q y) = l.eraseIdx j
 | [], j, x, h, _, _ => by simp at h
 | a :: r, 0, x, h, hq, hu => by
  have e : a = x := Option.some.inj h
  subst e
  rw [List.filter_cons, hq]
  show r.filter _ = r
  refine List.filter_eq_self.mpr fun y hy => ?_
  obtain ⟨m, hm⟩ := List.getElem?_of_mem hy
  cases e : q y with
  | false => rfl
  | true => exact absurd (hu (m + 1) y hm e) (by omega)
 | a :: r, j + 1, x, h, hq, hu => by
  have ha : q a = false := by
   cases e : q a with
   | false => rfl
   | true => exact absurd (hu 0 a rfl e) (by omega)
  rw [List.filter_cons, ha]
  show a :: r.filter _ = a :: r.eraseIdx j
  rw [filter_first (l := r) (j := j) h hq fun m y hm hy => by have := hu (m + 1) y hm hy; omega]
section
variable {P : Program} {w : World} {K : PySem.W.Frag} {mg : Str -> Option Value} {base : Heap} {C : Cs}
def spMakeP (C : Cs) : Sp := fun vs H Q _ => ∃ (L : HL) (s : State) (a : Addr) (ids : List Nat), vs = [.ref L.h, .ref a] /\ HouseAt C H L s /\ H a = some (.lst (ids.map natV)) /\ ids.length <= 6 /\ s.pools.length <= 8 /\ Answers C H L (Vbahaq.step s (.pool ids)) Q
theorem scMakeP : FnScope ["house", "poolers", "pooler"] ["house", "poolers"] (defScope sMakeP) := ⟨rfl, rfl, rfl, by decide +kernel, rfl, by decide +kernel, by decide +kernel⟩
theorem ok_makeP {f : Addr} {fd : FuncData} (F : Fun K "make_pool" "make_pool" sMakeP f fd) (T : TxtQ P w K mg base C) : FnOk P w K mg base CX0 2 f fd ["house", "poolers"] (spMakeP C) := by
 refine F.ok scMakeP (fun vs H Q E h => ?_) (fun cdv A outer s H vs Q E hr h => ?_)
 ·obtain ⟨L, st, a, ids, rfl, _⟩ := h
  rfl
 ·obtain ⟨L, st, a, ids, rfl, hh, ha, hlen, hpl, q⟩ := h
  have nd := scMakeP.nd
  have hu := hu_of hr
  have hsz : ids.length < sizeLine := Nat.lt_of_le_of_lt hlen (by decide)
  refine ⟨_, pss_cons (ps_if (pt_val (pe_callB (cr_any rfl) (by rfl) T.any PyProof.Rows.boot_any (pa_cons (pe_lc (own := [("pooler", 2)]) (te := tDNotIn (tVar 2) (tFld K (tVar 0) "members")) rfl nd (pi_list (pv 1)) (blkOk_by (by rfl))
     (fun _ _ _ _ _ => pg_name (i := 2) nd rfl (Or.inl rfl)) (fun _ _ _ _ _ => pts_nil) (fun _ _ _ _ _ => pe_cmp (pc_dnotin hu (pv 2) (pe_fld (pv 0) rfl)))) pa_nil)))
    (pss_one (ps_ret (pe_lst (pa_cons (pe_gint T.noMember (by rfl)) pa_nil)))) pss_nil)
   (pss_cons (ps_if (pt_cmpR op_lt (pe_callB cr_lenS (by rfl) T.len PySem.boot_len (pa_cons (pe_callTy (cr_set rfl) (by rfl) T.set PyProof.Rows.boot_set (pa_cons (pv 1) pa_nil)) pa_nil)) (pe_callB call_len_seq (by rfl) T.len PySem.boot_len (pa_cons (pv 1) pa_nil)) (nomark _))
    (pss_one (ps_ret (pe_lst (pa_cons (pe_gint T.wrongPool (by rfl)) pa_nil)))) pss_nil)
   (pss_cons (ps_if (pt_val (pe_callB (cr_any rfl) (by rfl) T.any PyProof.Rows.boot_any (pa_cons (pe_lc (own := [("pooler", 2)]) (te := tNotN (tCall (spPoolOf C) [] E0 (tCons (tVar 0) (tCons (tVar 2) tNil)))) rfl nd (pi_list (pv 1)) (blkOk_by (by rfl))
     (fun _ _ _ _ _ => pg_name (i := 2) nd rfl (Or.inl rfl)) (fun _ _ _ _ _ => pts_nil) (fun _ _ _ _ _ => pe_cmp (pc_notN (pe_cal T.poolOf hr rfl (pa_cons (pv 0) (pa_cons (pv 2) pa_nil)))))) pa_nil)))
    (pss_one (ps_ret (pe_lst (pa_cons (pe_gint T.wrongPool (by rfl)) pa_nil)))) pss_nil)
   (pss_cons (ps_if (pt_cmpR op_ge (pe_callB call_len_seq (by rfl) T.len PySem.boot_len (pa_cons (pe_fld (pv 0) rfl) pa_nil)) (pe_gint T.mostPools (by rfl)) (nomark _))
    (pss_one (ps_ret (pe_lst (pa_cons (pe_gint T.full (by rfl)) pa_nil)))) pss_nil)
   (pss_cons (ps_expr (pe_bm PySem.F.plainAttrs_list PySem.F.slot_list_append PySem.F.type_list_append mt_append (pe_fld (pv 0) rfl) (pa_cons (pe_callTy call_list_of (by rfl) T.list PyProof.Rows.boot_list (pa_cons (pv 1) pa_nil)) pa_nil)))
   (pss_one (ps_ret (pe_lst (pa_cons pe_int pa_nil)))))))), ?_⟩
  refine ⟨_, rfl, a, rfl, ⟨_, SqL.of ha⟩, fun D hD => lc_pure (fun k => .bl (!(findM L k).isSome)) (SqL.of ha) hsz hD (fun _ => rfl) (fun k _ H' s1 R hR => ?_) fun H1 s1 hD1 => ?_⟩
  ·have h1 := hh.same s1
   refine ⟨_, rfl, _, rfl, L.h, C.H, L.dh, _, _, rfl, h1.house, T.clH, T.hM, hF_members _ _, L.am, _, rfl, h1.get k, ?_⟩
   cases e : findM L k with
   | none => rw [e] at hR; exact hR
   | some r => rw [e] at hR; exact hR
  ·have m1 := hh.mv s1
   have h1 := m1.at_
   have ha1 := s1 _ _ ha
   refine ⟨D, ids.map fun k => !(findM L k).isSome, rfl, SqL.of (by rw [hD1, List.map_map]; rfl), _, rfl, ?_⟩
   have q' := q
   unfold Vbahaq.step at q'
   dsimp only at q'
   have e1 : (ids.all fun k => (Vbahaq.memberOf st k).isSome) = ids.all fun k => (findM L k).isSome := congrArg (fun f => ids.all f) (funext fun k => hh.isMem k)
   rw [any_map_not]
   rw [e1] at q'
   by_cases c1 : (ids.all fun k => (findM L k).isSome) = false
   ·rw [if_pos c1] at q'
    rw [c1]
    refine iteT ?_
    refine ⟨(by show 1 <= sizeLine; decide), fun p hp => ?_⟩
    exact q'.lst m1 hp rfl
   ·rw [if_neg c1] at q'
    rw [eq_true_of_ne_false c1]
    refine iteF ?_
    refine ⟨_, rfl, a, ids.map fun (n : Nat) => (n : Int), rfl, SqL.of (by rw [ha1, List.map_map]; rfl), (by rw [List.length_map]; omega), fun S p hp => ?_⟩
    have s2 : Same H1 (upd H1 p (.set S (ddLen (ids.map fun (n : Nat) => (n : Int))))) := (Same.refl H1).upd_new hp
    have m2 := m1.new (o := .set S (ddLen (ids.map fun (n : Nat) => (n : Int)))) hp
    refine ⟨p, S, _, rfl, upd_same, _, rfl, a, _, rfl, .inl (SqL.of (s2 _ _ ha1)), _, _, rfl, rfl, _, rfl, ?_⟩
    rw [List.length_map]
    have e2 : (decide (((ddLen (ids.map fun (n : Nat) => (n : Int)) : Nat) : Int) < ((ids.length : Nat) : Int)) = true) ↔ Vbahaq.distinct ids = false := by
     rw [decide_eq_true_iff, <- twice_iff]
     omega
    by_cases c2 : Vbahaq.distinct ids = false
    ·rw [if_pos (Or.inl c2)] at q'
     refine ite2 (fun _ => ?_) (fun z => absurd (e2.mpr c2) z)
     refine ⟨(by show 1 <= sizeLine; decide), fun p2 hp2 => ?_⟩
     exact q'.lst m2 hp2 rfl
    ·refine ite2 (fun z => absurd (e2.mp z) c2) (fun _ => ?_)
     have h2 := m2.at_
     have ha2 := s2 _ _ ha1
     refine ⟨_, rfl, a, rfl, ⟨_, SqL.of ha2⟩, fun D2 hD2 => lc_pure (fun k => .bl (!decide (refOf (findP L k) = V.non))) (SqL.of ha2) hsz hD2 (fun _ => rfl) (fun k _ H' s3 R hR => ?_) fun H3 s3 hD3 => ?_⟩
     ·exact ⟨_, rfl, _, rfl, L, st, k, rfl, h2.same s3, hR⟩
     ·have m3 := m2.trans (h2.mv s3)
      have h3 := m3.at_
      refine ⟨D2, ids.map fun k => !decide (refOf (findP L k) = V.non), rfl, SqL.of (by rw [hD3, List.map_map]; rfl), _, rfl, ?_⟩
      have e3 : ((ids.map fun k => !decide (refOf (findP L k) = V.non)).any id) = ids.any fun k => (Vbahaq.poolOf st k).isSome := by
       rw [List.any_map]
       exact congrArg (fun f => ids.any f) (funext fun k => (hh.isPool k).symm)
      rw [e3]
      by_cases c3 : (ids.any fun k => (Vbahaq.poolOf st k).isSome) = true
      ·rw [if_pos (Or.inr c3)] at q'
       refine ite2 (fun _ => ?_) (fun z => absurd c3 z)
       refine ⟨(by show 1 <= sizeLine; decide), fun p2 hp2 => ?_⟩
       exact q'.lst m3 hp2 rfl
      ·rw [if_neg (fun z => z.elim c2 c3)] at q'
       refine ite2 (fun z => absurd z c3) (fun _ => ?_)
       have el : L.ps.length = st.pools.length := by rw [<- hh.hp, List.length_map]
       refine ⟨_, rfl, L.h, C.H, L.dh, _, _, rfl, h3.house, T.clH, T.hP, hF_pools _ _, L.ap, _, rfl, .inl (SqL.of h3.pools), _, _, rfl, rfl, _, rfl, ?_⟩
       rw [List.length_map, el]
       by_cases c4 : Vbahaq.POOLS <= st.pools.length
       ·rw [if_pos c4] at q'
        refine ite2 (fun _ => ?_) (fun z => absurd (decide_eq_true (by show (8 : Int) <= _; have : 8 <= st.pools.length := c4; omega)) z)
        refine ⟨(by show 1 <= sizeLine; decide), fun p2 hp2 => ?_⟩
        exact q'.lst m3 hp2 rfl
       ·rw [if_neg c4] at q'
        refine ite2 (fun z => absurd (of_decide_eq_true z) (by show ¬ (8 : Int) <= _; have : ¬ 8 <= st.pools.length := c4; omega)) (fun _ => ?_)
        refine ⟨_, rfl, L.h, C.H, L.dh, _, _, rfl, h3.house, T.clH, T.hP, hF_pools _ _, .inl ⟨rfl, _, SqL.of h3.pools⟩, ?_⟩
        refine ⟨_, rfl, a, _, rfl, .inl (SqL.of (s3 _ _ ha2)), fun n hn => ?_⟩
        have s4 : Same H3 (upd H3 n (.lst (ids.map natV))) := (Same.refl H3).upd_new hn
        refine ⟨L.ap, _, _, rfl, rfl, s4 _ _ h3.pools, (by rw [List.length_map, el]; exact Nat.lt_of_le_of_lt hpl (by decide)), ?_⟩
        have m4 := h3.setPools s4 (L.ps ++ [(n, ids)]) (fun p hp => ?_) ?_ (fun p hp => ?_)
        ·have m5 := m3.trans m4
         have ee : L.ps.map (fun p => V.ref p.1) ++ [V.ref n] = (L.ps ++ [(n, ids)]).map fun p => V.ref p.1 := by rw [List.map_append]; rfl
         rw [ee]
         refine ⟨(by show 1 <= sizeLine; decide), fun p2 hp2 => ?_⟩
         have es : ({ st with pools := (L.ps ++ [(n, ids)]).map (·.2) } : State) = { st with pools := st.pools ++ [ids] } := by
          rw [List.map_append, hh.hp]
          rfl
         rw [es] at m5
         exact q'.lst m5 hp2 rfl
        ·rcases List.mem_append.mp hp with hp | hp
         ·exact s4 _ _ (h3.pool p hp)
         ·rw [List.mem_singleton.mp hp, upd_same]
        ·refine (HL.lists_perm L n ids).nodup_iff.mpr (List.nodup_cons.mpr ⟨fun mm => ?_, hh.ndL⟩)
         obtain ⟨xs, ex⟩ := h3.list_at mm
         rw [hn] at ex
         cases ex
        ·rcases List.mem_append.mp hp with hp | hp
         ·exact .inl hp
         ·rw [List.mem_singleton.mp hp]
          exact .inr hn
def spEndP (C : Cs) : Sp := fun vs H Q _ => ∃ (L : HL) (s : State) (k : Nat), vs = [.ref L.h, natV k] /\ HouseAt C H L s /\ (s.pools.Pairwise fun p q => ∀ k ∈ p, k ∉ q) /\ Answers C H L (Vbahaq.step s (.unpool k)) Q
theorem scEndP : FnScope ["house", "pooler", "ended"] ["house", "pooler"] (defScope sEndP) := ⟨rfl, rfl, rfl, by decide +kernel, rfl, by decide +kernel, by decide +kernel⟩
theorem ok_endP {f : Addr} {fd : FuncData} (F : Fun K "end_pool" "end_pool" sEndP f fd) (T : TxtQ P w K mg base C) : FnOk P w K mg base CX0 2 f fd ["house", "pooler"] (spEndP C) := by
 refine F.ok scEndP (fun vs H Q E h => ?_) (fun cdv A outer s H vs Q E hr h => ?_)
 ·obtain ⟨L, st, k, rfl, _⟩ := h
  rfl
 ·obtain ⟨L, st, k, rfl, hh, hap, q⟩ := h
  have nd := scEndP.nd
  have hu4 : (A.deeper (envOfC "end_pool" (defScope sEndP) s.heap.objs.size f cdv)).units + 4 < cLine := Nat.lt_of_le_of_lt (Nat.add_le_add_left (by decide : 4 <= 64) _) hr.units
  refine ⟨_, pss_cons (ps_set (i := 2) nd rfl (Or.inl rfl) (pe_cal T.poolOf hr rfl (pa_cons (pv 0) (pa_cons (pv 1) pa_nil))))
   (pss_cons (ps_if (pt_cmp (pc_isN (pv 2))) (pss_one (ps_ret (pe_lst (pa_cons (pe_gint T.wrongPool (by rfl)) pa_nil)))) pss_nil)
   (pss_cons (ps_expr (pe_bm PySem.F.plainAttrs_list PySem.F.slot_list_remove PySem.F.type_list_remove (mt_removeL hu4) (pe_fld (pv 0) rfl) (pa_cons (pv 2) pa_nil)))
   (pss_one (ps_ret (pe_lst (pa_cons pe_int pa_nil)))))), ?_⟩
  refine ⟨_, rfl, _, rfl, L, st, k, rfl, hh, ?_⟩
  have q' := q
  unfold Vbahaq.step at q'
  dsimp only at q'
  have e := findP_spec hh k
  cases ef : findP L k with
  | none =>
   rw [ef] at e
   rw [e, if_pos (show (Option.map (fun x : Addr × List Nat => x.2) none).isNone = true from rfl)] at q'
   refine ⟨_, rfl, _, rfl, ?_⟩
   refine iteT ?_
   refine ⟨(by show 1 <= sizeLine; decide), fun p hp => ?_⟩
   exact q'.lst (hh.mv (Same.refl H)) hp rfl
  | some p =>
   rw [ef] at e
   rw [e, if_neg (by simp)] at q'
   refine ⟨_, rfl, _, rfl, ?_⟩
   refine iteF ?_
   have pm : p ∈ L.ps := List.mem_of_find?_eq_some ef
   have pk : p.2.contains k = true := List.find?_some (p := fun p : Addr × List Nat => p.2.contains k) ef
   obtain ⟨j, hj⟩ := List.getElem?_of_mem pm
   have only : ∀ m y, L.ps[m]? = some y -> y.2.contains k = true -> m = j := fun m y hm hy => by
    have hy' : k ∈ y.2 := by simpa using hy
    have hp' : k ∈ p.2 := by simpa using pk
    have pw : L.ps.Pairwise fun p q => ∀ k ∈ p.2, k ∉ q.2 := by
     have := hap
     rw [<- hh.hp, List.pairwise_map] at this
     exact this
    obtain ⟨l1, q1⟩ := List.getElem?_eq_some_iff.mp hm
    obtain ⟨l2, q2⟩ := List.getElem?_eq_some_iff.mp hj
    have := List.pairwise_iff_getElem.mp pw
    rcases Nat.lt_trichotomy m j with z | z | z
    ·have r := this m j l1 l2 z
     rw [q1, q2] at r
     exact absurd hp' (r k hy')
    ·exact z
    ·have r := this j m l2 l1 z
     rw [q1, q2] at r
     exact absurd hy' (r k hp')
   refine ⟨_, rfl, L.h, C.H, L.dh, _, _, rfl, hh.house, T.clH, T.hP, hF_pools _ _, .inl ⟨rfl, _, SqL.of hh.pools⟩, _, rfl, ?_⟩
   refine ⟨L.ap, p.1, L.ps.map fun p => (p.1, p.2.map fun (n : Nat) => (n : Int)), j, p.2.map fun (n : Nat) => (n : Int), rfl, rfl, by rw [hh.pools, List.map_map]; rfl, fun x hx => ?_, by rw [List.getElem?_map, hj]; rfl, fun m x hm hx => ?_, ?_⟩
   ·obtain ⟨y, hy, rfl⟩ := List.mem_map.mp hx
    show H y.1 = some (.lst ((y.2.map fun (n : Nat) => (n : Int)).map V.int))
    rw [hh.pool y hy, List.map_map]
    rfl
   ·obtain ⟨y, hy, rfl⟩ := at_map hx
    intro ee
    have ee' : y.2 = p.2 := by
     refine List.map_inj_right (f := fun (n : Nat) => (n : Int)) (fun a b z => ?_) |>.mp ee
     omega
    have := only m y hy (by rw [ee']; exact pk)
    omega
   ·have ee : ((L.ps.map fun p => (p.1, p.2.map fun (n : Nat) => (n : Int))).eraseIdx j).map (fun p => V.ref p.1) = (L.ps.eraseIdx j).map fun p => V.ref p.1 := by
     rw [<- map_erase, List.map_map]
     rfl
    rw [ee]
    have m1 := hh.setPools (Same.refl H) (L.ps.eraseIdx j) (fun x hx => hh.pool x (List.mem_of_mem_eraseIdx hx)) ?_ (fun x hx => .inl (List.mem_of_mem_eraseIdx hx))
    ·refine ⟨(by show 1 <= sizeLine; decide), fun p2 hp2 => ?_⟩
     have es : ({ st with pools := (L.ps.eraseIdx j).map (·.2) } : State) = { st with pools := st.pools.filter fun p => !p.contains k } := by
      rw [<- hh.hp, List.filter_map, <- filter_first (q := fun y : Addr × List Nat => y.2.contains k) hj pk only]
      rfl
     rw [es] at m1
     exact q'.lst m1 hp2 rfl
    ·refine List.Sublist.nodup ?_ hh.ndL
     show (L.ap :: L.ab :: L.as_ :: (L.pas ++ ((L.ps.eraseIdx j).map (·.1) ++ L.ws.map fun r => r.1.dl))).Sublist (L.ap :: L.ab :: L.as_ :: (L.pas ++ (L.ps.map (·.1) ++ L.ws.map fun r => r.1.dl)))
     exact ((((List.Sublist.refl _).append (((List.eraseIdx_sublist _ _).map _).append (List.Sublist.refl _))).cons₂ _).cons₂ _).cons₂ _
end
section
variable {C : Cs} {H H1 : Hp} {L : HL} {s : State}
def HL.addM (L : HL) (r : ML × Member) : HL := { L with ms := L.ms ++ [r] }
theorem HL.addM_lists (L : HL) (r : ML × Member) : (L.addM r).lists.Perm (r.1.pa :: L.lists) := by
 show (L.ap :: L.ab :: L.as_ :: (((L.ms ++ [r]).map fun r => r.1.pa) ++ (L.ps.map (·.1) ++ L.ws.map fun r => r.1.dl))).Perm (r.1.pa :: L.ap :: L.ab :: L.as_ :: (L.pas ++ (L.ps.map (·.1) ++ L.ws.map fun r => r.1.dl)))
 have h1 : (((L.ms ++ [r]).map fun r => r.1.pa) ++ (L.ps.map (·.1) ++ L.ws.map fun r => r.1.dl)).Perm (r.1.pa :: (L.pas ++ (L.ps.map (·.1) ++ L.ws.map fun r => r.1.dl))) := by
  rw [List.map_append, List.append_assoc]
  exact List.perm_middle
 refine (((h1.cons L.as_).cons L.ab).cons L.ap).trans ?_
 exact (((List.Perm.swap r.1.pa L.as_ _).cons L.ab).trans (List.Perm.swap r.1.pa L.ab _)).cons L.ap |>.trans (List.Perm.swap r.1.pa L.ap _)
theorem HL.addM_dicts (L : HL) (r : ML × Member) : (L.addM r).dicts.Perm (r.1.la :: L.dicts) := by
 show (L.am :: L.aw :: ((L.ms ++ [r]).map fun r => r.1.la)).Perm (r.1.la :: L.am :: L.aw :: L.las)
 have h1 : ((L.ms ++ [r]).map fun r => r.1.la).Perm (r.1.la :: L.las) := by
  rw [List.map_append]
  exact List.perm_append_singleton _ _
 exact ((h1.cons L.aw).cons L.am).trans (((List.Perm.swap r.1.la L.aw _).cons L.am).trans (List.Perm.swap r.1.la L.am _))
theorem HouseAt.addMember (h : HouseAt C H L s) (k : Same H H1) (r : ML × Member) (hr : MemAt C H1 r.1 r.2) (fl : H r.1.la = none) (fp : H r.1.pa = none) (fa : H r.1.a = none) :
  Mv C H L (upd H1 L.am (.dK ((L.ms ++ [r]).map memK))) (L.addM r) { s with members := s.members ++ [r.2] } := by
 have kk : ∀ b o, H1 b = some o -> b ≠ L.am -> (upd H1 L.am (.dK ((L.ms ++ [r]).map memK))) b = some o := fun b o e ne => by
  rw [upd_ne ne]
  exact e
 have h1 := h.same k
 have kn : ∀ b o, H1 b = some o -> (∀ kvs, o ≠ .dK kvs) -> (upd H1 L.am (.dK ((L.ms ++ [r]).map memK))) b = some o := fun b o e ne => kk b o e (ne_of e h1.mem (ne _))
 have kt : TupsStay H1 (upd H1 L.am (.dK ((L.ms ++ [r]).map memK))) := fun b xs e => kn b _ e fun _ q => by cases q
 obtain ⟨o1, o2, o3⟩ := h.las_off
 have nla : r.1.la ≠ L.am := fun e => by rw [e, h.mem] at fl; cases fl
 refine ⟨?_, rfl, fun b hb => ?_, fun b hb => ?_, fun b o e hb => kk b o (k b o e) fun q => hb (by rw [q]; exact List.mem_cons_of_mem _ (List.mem_cons_of_mem _ (List.mem_append_left _ List.mem_cons_self))), fun b o e => ?_⟩
 ·exact
  {hm := by
    show (L.ms ++ [r]).map (·.2) = s.members ++ [r.2]
    rw [List.map_append, h.hm]
    rfl
   hp := h.hp
   hw := h.hw
   house := kn _ _ h1.house fun _ q => by cases q
   mem := upd_same
   aws := kk _ _ h1.aws (Ne.symm o3)
   pools := kn _ _ h1.pools fun _ q => by cases q
   bon := kn _ _ h1.bon fun _ q => by cases q
   stp := kn _ _ h1.stp fun _ q => by cases q
   member := fun r' hr' => by
    have m : MemAt C H1 r'.1 r'.2 /\ r'.1.la ≠ L.am := by
     rcases List.mem_append.mp hr' with q | q
     ·exact ⟨h1.member r' q, fun e => o1 (by rw [<- e]; exact List.mem_map.mpr ⟨r', q, rfl⟩)⟩
     ·rw [List.mem_singleton.mp q]; exact ⟨hr, nla⟩
    obtain ⟨m, ml⟩ := m
    refine m.keep (fun o e => ?_) (fun o e => kk _ o e ml) (fun o e => ?_) kt
    ·rw [m.ins] at e; cases e; exact kn _ _ m.ins fun _ q => by cases q
    ·obtain ⟨Z, hZ, _⟩ := m.pts
     rw [hZ.lst] at e; cases e; exact kn _ _ hZ.lst fun _ q => by cases q
   pool := fun p hp => kn _ _ (h1.pool p hp) fun _ q => by cases q
   award := fun r' hr' => by
    have m := h1.award r' hr'
    refine m.keep (fun o e => ?_) (fun o e => ?_) kt
    ·rw [m.ins] at e; cases e; exact kn _ _ m.ins fun _ q => by cases q
    ·obtain ⟨Z, hZ, _⟩ := m.draws
     rw [hZ.lst] at e; cases e; exact kn _ _ hZ.lst fun _ q => by cases q
   ndD := (HL.addM_dicts L r).nodup_iff.mpr (List.nodup_cons.mpr ⟨fun mm => (by
    obtain ⟨_, e⟩ := h.dict_at mm
    rw [fl] at e; cases e), h.ndD⟩)
   ndL := (HL.addM_lists L r).nodup_iff.mpr (List.nodup_cons.mpr ⟨fun mm => (by
    obtain ⟨_, e⟩ := h.list_at mm
    rw [fp] at e; cases e), h.ndL⟩) }
 ·rcases List.mem_cons.mp ((HL.addM_lists L r).mem_iff.mp hb) with e | hb
  ·rw [e]; exact .inr fp
  ·exact .inl hb
 ·rcases List.mem_cons.mp hb with e | hb
  ·left; rw [e]; exact List.mem_cons_self
  ·rcases List.mem_cons.mp hb with e | hb
   ·left; rw [e]; exact List.mem_cons_of_mem _ List.mem_cons_self
   ·rcases List.mem_append.mp hb with hb | hb
    ·rcases List.mem_cons.mp ((HL.addM_dicts L r).mem_iff.mp hb) with e | hb
     ·rw [e]; exact .inr fl
     ·left; exact List.mem_cons_of_mem _ (List.mem_cons_of_mem _ (List.mem_append_left _ hb))
    ·rcases List.mem_append.mp hb with hb | hb
     ·have hb' : b ∈ (L.ms ++ [r]).map fun r => r.1.pa := hb
      rw [List.map_append] at hb'
      rcases List.mem_append.mp hb' with z | z
      ·left; exact List.mem_cons_of_mem _ (List.mem_cons_of_mem _ (List.mem_append_right _ (List.mem_append_left _ z)))
      ·rw [List.mem_singleton.mp z]; exact .inr fp
     ·have hb' : b ∈ (L.ms ++ [r]).map fun r => r.1.a := hb
      rw [List.map_append] at hb'
      rcases List.mem_append.mp hb' with z | z
      ·left; exact List.mem_cons_of_mem _ (List.mem_cons_of_mem _ (List.mem_append_right _ (List.mem_append_right _ z)))
      ·rw [List.mem_singleton.mp z]; exact .inr fa
 ·by_cases q : b = L.am
  ·rw [q]; exact ⟨_, upd_same⟩
  ·exact ⟨o, kk b o (k b o e) q⟩
def HL.withAws (L : HL) (ws : List (AL × Award)) : HL := { L with ws := ws }
theorem Mv.setAws {H0 : Hp} {L0 : HL} (a : Mv C H0 L0 H L s) (k : Same H H1) (ws : List (AL × Award)) (hws : ∀ r ∈ ws, AwAt C H1 r.1 r.2) (nd : (L.withAws ws).lists.Nodup) (fr : ∀ r ∈ ws, r ∈ L.ws \/ H0 r.1.dl = none) :
  Mv C H0 L0 (upd H1 L.aw (.dK (ws.map awK))) (L.withAws ws) { s with awards := ws.map (·.2) } := by
 have h := a.at_
 have h1 := h.same k
 have kk : ∀ b o, H1 b = some o -> b ≠ L.aw -> (upd H1 L.aw (.dK (ws.map awK))) b = some o := fun b o e ne => by
  rw [upd_ne ne]
  exact e
 have kn : ∀ b o, H1 b = some o -> (∀ kvs, o ≠ .dK kvs) -> (upd H1 L.aw (.dK (ws.map awK))) b = some o := fun b o e ne => kk b o e (ne_of e h1.aws (ne _))
 have kt : TupsStay H1 (upd H1 L.aw (.dK (ws.map awK))) := fun b xs e => kn b _ e fun _ q => by cases q
 obtain ⟨o1, o2, o3⟩ := h.las_off
 have awm : L.aw ∈ L.muts := List.mem_cons_of_mem _ (List.mem_cons_of_mem _ (List.mem_append_left _ (List.mem_cons_of_mem _ List.mem_cons_self)))
 refine ⟨?_, a.hh, fun b hb => ?_, fun b hb => a.muts b hb, fun b o e hb => kk b o (k b o (a.kept b o e hb)) fun q => ?_, fun b o e => ?_⟩
 ·exact
  {hm := h.hm
   hp := h.hp
   hw := rfl
   house := kn _ _ h1.house fun _ q => by cases q
   mem := kk _ _ h1.mem o3
   aws := upd_same
   pools := kn _ _ h1.pools fun _ q => by cases q
   bon := kn _ _ h1.bon fun _ q => by cases q
   stp := kn _ _ h1.stp fun _ q => by cases q
   member := fun r hr => by
    have m := h1.member r hr
    refine m.keep (fun o e => ?_) (fun o e => kk _ o e fun z => o2 (by rw [<- z]; exact List.mem_map.mpr ⟨r, hr, rfl⟩)) (fun o e => ?_) kt
    ·rw [m.ins] at e; cases e; exact kn _ _ m.ins fun _ q => by cases q
    ·obtain ⟨Z, hZ, _⟩ := m.pts
     rw [hZ.lst] at e; cases e; exact kn _ _ hZ.lst fun _ q => by cases q
   pool := fun p hp => kn _ _ (h1.pool p hp) fun _ q => by cases q
   award := fun r hr => by
    have m := hws r hr
    refine m.keep (fun o e => ?_) (fun o e => ?_) kt
    ·rw [m.ins] at e; cases e; exact kn _ _ m.ins fun _ q => by cases q
    ·obtain ⟨Z, hZ, _⟩ := m.draws
     rw [hZ.lst] at e; cases e; exact kn _ _ hZ.lst fun _ q => by cases q
   ndD := h.ndD
   ndL := nd }
 ·have hb' : b ∈ L.ap :: L.ab :: L.as_ :: (L.pas ++ (L.ps.map (·.1) ++ ws.map fun r => r.1.dl)) := hb
  rcases List.mem_cons.mp hb' with e | hb'
  ·rw [e]; exact a.lists _ HL.ap_in
  ·rcases List.mem_cons.mp hb' with e | hb'
   ·rw [e]; exact a.lists _ HL.ab_in
   ·rcases List.mem_cons.mp hb' with e | hb'
    ·rw [e]; exact a.lists _ HL.as_in
    ·rcases List.mem_append.mp hb' with hb' | hb'
     ·exact a.lists _ (HL.pa_in hb')
     ·rcases List.mem_append.mp hb' with hb' | hb'
      ·obtain ⟨p, hp, rfl⟩ := List.mem_map.mp hb'
       exact a.lists _ (HL.ps_in hp)
      ·obtain ⟨r, hr, rfl⟩ := List.mem_map.mp hb'
       rcases fr r hr with q | q
       ·exact a.lists _ (HL.dl_in q)
       ·exact .inr q
 ·rw [q] at hb e
  rcases a.muts _ awm with z | z
  ·exact hb z
  ·rw [z] at e; cases e
 ·obtain ⟨o', e'⟩ := a.trk b o e
  by_cases q : b = L.aw
  ·rw [q]; exact ⟨_, upd_same⟩
  ·exact ⟨o', kk b o' (k b o' e') q⟩
theorem HL.addA_lists (L : HL) (r : AL × Award) : (L.withAws (L.ws ++ [r])).lists.Perm (r.1.dl :: L.lists) := by
 show (L.ap :: L.ab :: L.as_ :: (L.pas ++ (L.ps.map (·.1) ++ (L.ws ++ [r]).map fun r => r.1.dl))).Perm (r.1.dl :: L.ap :: L.ab :: L.as_ :: (L.pas ++ (L.ps.map (·.1) ++ L.ws.map fun r => r.1.dl)))
 have h1 : (L.pas ++ (L.ps.map (·.1) ++ (L.ws ++ [r]).map fun r => r.1.dl)).Perm (r.1.dl :: (L.pas ++ (L.ps.map (·.1) ++ L.ws.map fun r => r.1.dl))) := by
  rw [List.map_append, <- List.append_assoc, <- List.append_assoc, <- List.append_assoc]
  exact List.perm_append_singleton _ _
 refine (((h1.cons L.as_).cons L.ab).cons L.ap).trans ?_
 exact (((List.Perm.swap r.1.dl L.as_ _).cons L.ab).trans (List.Perm.swap r.1.dl L.ab _)).cons L.ap |>.trans (List.Perm.swap r.1.dl L.ap _)
def HL.withRules (L : HL) (n1 n2 : Addr) : HL := { L with ab := n1, as_ := n2 }
theorem HouseAt.setRules (h : HouseAt C H L s) (k : Same H H1) {n1 n2 : Addr} {r : Rules} (f1 : H n1 = none) (f2 : H n2 = none) (ne : n1 ≠ n2) (h1 : H1 n1 = some (.lst (r.bonus.map natV))) (h2 : H1 n2 = some (.lst (r.steps.map natV))) :
  Mv C H L (upd H1 L.h (.ins C.H L.dh (houseF (L.withRules n1 n2) { s with rules := r }))) (L.withRules n1 n2) { s with rules := r } := by
 have g := h.same k
 have kk : ∀ b o, H1 b = some o -> b ≠ L.h -> (upd H1 L.h (.ins C.H L.dh (houseF (L.withRules n1 n2) { s with rules := r }))) b = some o := fun b o e ne => by
  rw [upd_ne ne]
  exact e
 have kd : ∀ b kvs, H1 b = some (.dK kvs) -> (upd H1 L.h (.ins C.H L.dh (houseF (L.withRules n1 n2) { s with rules := r }))) b = some (.dK kvs) := fun b kvs e => kk b _ e (ne_of e g.house (by intro q; cases q))
 have kl : ∀ b kvs, H1 b = some (.lst kvs) -> (upd H1 L.h (.ins C.H L.dh (houseF (L.withRules n1 n2) { s with rules := r }))) b = some (.lst kvs) := fun b kvs e => kk b _ e (ne_of e g.house (by intro q; cases q))
 have kt : TupsStay H1 (upd H1 L.h (.ins C.H L.dh (houseF (L.withRules n1 n2) { s with rules := r }))) := fun b xs e => kk b _ e (ne_of e g.house (by intro q; cases q))
 have off : ∀ n, H n = none -> n ∉ L.lists := fun n f m => by
  obtain ⟨_, e⟩ := h.list_at m
  rw [f] at e; cases e
 have nd : (L.ap :: L.ab :: L.as_ :: (L.pas ++ (L.ps.map (·.1) ++ L.ws.map fun r => r.1.dl))).Nodup := h.ndL
 refine ⟨?_, rfl, fun b hb => ?_, fun b hb => .inl hb, fun b o e hb => kk b o (k b o e) fun q => hb (by rw [q]; exact List.mem_cons_self), fun b o e => ?_⟩
 ·exact
  {hm := h.hm
   hp := h.hp
   hw := h.hw
   house := upd_same
   mem := kd _ _ g.mem
   aws := kd _ _ g.aws
   pools := kl _ _ g.pools
   bon := kl _ _ h1
   stp := kl _ _ h2
   member := fun r hr => by
    have m := g.member r hr
    refine m.keep (fun o e => kk _ o e (h.mem_ne hr)) (fun o e => ?_) (fun o e => ?_) kt
    ·obtain ⟨k2, e2, _⟩ := m.lots
     rw [e2] at e; cases e; exact kd _ _ e2
    ·obtain ⟨Z, hZ, _⟩ := m.pts
     rw [hZ.lst] at e; cases e; exact kl _ _ hZ.lst
   pool := fun p hp => kl _ _ (g.pool p hp)
   award := fun r hr => by
    have m := g.award r hr
    refine m.keep (fun o e => kk _ o e (h.aw_ne hr)) (fun o e => ?_) kt
    obtain ⟨Z, hZ, _⟩ := m.draws
    rw [hZ.lst] at e; cases e; exact kl _ _ hZ.lst
   ndD := h.ndD
   ndL := by
    show (L.ap :: n1 :: n2 :: (L.pas ++ (L.ps.map (·.1) ++ L.ws.map fun r => r.1.dl))).Nodup
    obtain ⟨a1, nd⟩ := List.nodup_cons.mp nd
    obtain ⟨_, nd⟩ := List.nodup_cons.mp nd
    obtain ⟨_, nd⟩ := List.nodup_cons.mp nd
    have in3 : ∀ b, b ∈ (L.pas ++ (L.ps.map (·.1) ++ L.ws.map fun r => r.1.dl)) -> b ∈ L.lists := fun b hb => List.mem_cons_of_mem _ (List.mem_cons_of_mem _ (List.mem_cons_of_mem _ hb))
    refine List.nodup_cons.mpr ⟨fun mm => ?_, List.nodup_cons.mpr ⟨fun mm => ?_, List.nodup_cons.mpr ⟨fun mm => off n2 f2 (in3 _ mm), nd⟩⟩⟩
    ·rcases List.mem_cons.mp mm with e | mm
     ·rw [<- e, h.pools] at f1; cases f1
     ·rcases List.mem_cons.mp mm with e | mm
      ·rw [<- e, h.pools] at f2; cases f2
      ·exact a1 (List.mem_cons_of_mem _ (List.mem_cons_of_mem _ mm))
    ·rcases List.mem_cons.mp mm with e | mm
     ·exact ne e
     ·exact off n1 f1 (in3 _ mm) }
 ·have hb' : b ∈ L.ap :: n1 :: n2 :: (L.pas ++ (L.ps.map (·.1) ++ L.ws.map fun r => r.1.dl)) := hb
  rcases List.mem_cons.mp hb' with e | hb'
  ·left; rw [e]; exact HL.ap_in
  ·rcases List.mem_cons.mp hb' with e | hb'
   ·rw [e]; exact .inr f1
   ·rcases List.mem_cons.mp hb' with e | hb'
    ·rw [e]; exact .inr f2
    ·left; exact List.mem_cons_of_mem _ (List.mem_cons_of_mem _ (List.mem_cons_of_mem _ hb'))
 ·by_cases q : b = L.h
  ·rw [q]; exact ⟨_, upd_same⟩
  ·exact ⟨o, kk b o (k b o e) q⟩
end
abbrev sRules : Stmt := top 38
abbrev sJoin : Stmt := top 39
abbrev sCounts : Stmt := top 40
abbrev sPoy : Stmt := top 41
abbrev sTier : Stmt := top 42
abbrev sEarn : Stmt := top 43
abbrev sGive : Stmt := top 44
def Ctor (P : Program) (w : World) (K : PySem.W.Frag) (mg : Str -> Option Value) (base : Heap) (x : Str) (c : Addr) (n : Nat) (ps : List Str) (sp : Sp) : Prop :=
 ∃ (f : Addr) (fd : FuncData), mg x = some (.ref c) /\ Mk K c f /\ Binds K fd ps [] /\ FnOk P w K mg base CX0 n f fd ps sp
theorem pe_ctor0 {X : Cx} {x : Str} {c : Addr} {n : Nat} {ps : List Str} {sp : Sp} {p pos : Pos} (C : Ctor X.prog X.w X.K X.mg X.base x c n ps sp) (hr : Room (n + 1) X.A) (hg : Gl X x) (hdb : (x == ("__debug__" : Str)) = false := by decide) :
  PE X (.Call (.Name x p) [] [] pos) (tMake c sp [] E0 tNil) := by
 obtain ⟨f, fd, hm, M, hb, ok⟩ := C
 exact pe_make0 M ok hr hg hm hb .nil pass0 hdb
theorem pe_ctor {X : Cx} {x : Str} {c : Addr} {n : Nat} {ps : List Str} {sp : Sp} {e : Expr} {es : List Expr} {t : TA} {p pos : Pos} (C : Ctor X.prog X.w X.K X.mg X.base x c n ps sp) (hr : Room (n + 1) X.A) (hg : Gl X x) (ha : PA X (e :: es) t) (hdb : (x == ("__debug__" : Str)) = false := by decide)
  (he : starEach (e :: es) X.env = (false, eval e X.env) :: starEach es X.env := by rfl) (hpl : (backTo pos (starEach es X.env)).any (·.1) = false := by rfl) :
  PE X (.Call (.Name x p) (e :: es) [] pos) (tMake c sp [] E0 t) := by
 obtain ⟨f, fd, hm, M, hb, ok⟩ := C
 exact pe_make M ok hr hg hm hb .nil pass0 ha hdb he hpl
def spCounts : Sp := fun vs H Q _ => ∃ (d t : Int), vs = [.int d, .int t] /\ Q (.bl (decide (t < d + 365))) H
theorem scCounts : FnScope ["day", "today"] ["day", "today"] (defScope sCounts) := ⟨rfl, rfl, rfl, by decide +kernel, rfl, by decide +kernel, by decide +kernel⟩
theorem ok_counts {P : Program} {w : World} {K : PySem.W.Frag} {mg : Str -> Option Value} {base : Heap} {f : Addr} {fd : FuncData} (F : Fun K "counts_on" "counts_on" sCounts f fd) (ty : GInt mg "YEAR" 365) : FnOk P w K mg base CX0 1 f fd ["day", "today"] spCounts := by
 refine F.ok scCounts (fun vs H Q E h => ?_) (fun cdv A outer s H vs Q E hr h => ?_)
 ·obtain ⟨d, t, rfl, _⟩ := h
  rfl
 ·obtain ⟨d, t, rfl, q⟩ := h
  refine ⟨_, pss_one (ps_ret (pe_cmpR op_gt (pe_op op_add (pv 0) (pe_gint ty (by rfl))) (pv 1) (nomark _))), ?_⟩
  exact ⟨_, rfl, _, _, rfl, rfl, _, rfl, _, _, rfl, rfl, q⟩
structure TxtM (P : Program) (w : World) (K : PySem.W.Frag) (mg : Str -> Option Value) (base : Heap) (C : Cs) : Prop extends TxtQ P w K mg base C where
 sum : mg "sum" = none
 min : mg "min" = none
 atOdds : GInt mg "AT_ODDS" (-5)
 there : GInt mg "THERE_ALREADY" (-4)
 mostMembers : GInt mg "MOST_MEMBERS" 30
 year : GInt mg "YEAR" 365
 counts : Cal P w K mg base "counts_on" 1 ["day", "today"] spCounts
 member : Ctor P w K mg base "Member" C.M 1 ["self"] (spInitM C)
section
variable {P : Program} {w : World} {K : PySem.W.Frag} {mg : Str -> Option Value} {base : Heap} {C : Cs}
def spRules (C : Cs) : Sp := fun vs H Q _ => ∃ (L : HL) (s : State) (a1 a2 : Addr) (r : Rules) (x y z : Nat), vs = [.ref L.h, natV r.life, .ref a1, .ref a2] /\ HouseAt C H L s /\ H a1 = some (.lst (r.bonus.map natV)) /\ H a2 = some (.lst (r.steps.map natV)) /\
 r.steps = [x, y, z] /\ Answers C H L (Vbahaq.step s (.rules r)) Q
theorem scRules : FnScope ["house", "life", "bonuses", "steps"] ["house", "life", "bonuses", "steps"] (defScope sRules) := ⟨rfl, rfl, rfl, by decide +kernel, rfl, by decide +kernel, by decide +kernel⟩
theorem ok_rules {f : Addr} {fd : FuncData} (F : Fun K "set_rules" "set_rules" sRules f fd) (T : TxtM P w K mg base C) : FnOk P w K mg base CX0 1 f fd ["house", "life", "bonuses", "steps"] (spRules C) := by
 refine F.ok scRules (fun vs H Q E h => ?_) (fun cdv A outer s H vs Q E hr h => ?_)
 ·obtain ⟨L, st, a1, a2, r, x, y, z, rfl, _⟩ := h
  rfl
 ·obtain ⟨L, st, a1, a2, r, x, y, z, rfl, hh, h1, h2, e3, q⟩ := h
  refine ⟨_, pss_cons (ps_if (PW.pt (pw_or (pt_cmpR op_ge (pe_ix ix_list (pv 3) pe_int (fun _ _ => rfl)) (pe_ix ix_list (pv 3) pe_int (fun _ _ => rfl)) (nomark _))
     (pw_or1 (pt_cmpR op_ge (pe_ix ix_list (pv 3) pe_int (fun _ _ => rfl)) (pe_ix ix_list (pv 3) pe_int (fun _ _ => rfl)) (nomark _)))))
    (pss_one (ps_ret (pe_lst (pa_cons (pe_gint T.atOdds (by rfl)) pa_nil)))) pss_nil)
   (pss_cons (ps_fld (pv 0) (pv 1) rfl)
   (pss_cons (ps_fld (pv 0) (pe_callTy call_list_of (by rfl) T.list PyProof.Rows.boot_list (pa_cons (pv 2) pa_nil)) rfl)
   (pss_cons (ps_fld (pv 0) (pe_callTy call_list_of (by rfl) T.list PyProof.Rows.boot_list (pa_cons (pv 3) pa_nil)) rfl)
   (pss_one (ps_ret (pe_lst (pa_cons pe_int pa_nil))))))), ?_⟩
  have h2' := h2
  rw [e3] at h2'
  have q' := q
  unfold Vbahaq.step at q'
  dsimp only at q'
  have er : Vbahaq.rising r.steps = (decide (x < y) && (decide (y < z) && true)) := by rw [e3]; rfl
  refine ⟨_, rfl, a2, _, _, _, rfl, rfl, SqL.of h2', atI_nat (j := 0) rfl, _, rfl, a2, _, _, _, rfl, rfl, SqL.of h2', atI_nat (j := 1) rfl, _, _, rfl, rfl, _, rfl, ?_⟩
  by_cases c1 : x < y
  ·refine ite2 (fun zz => absurd (of_decide_eq_true zz) (by show ¬ (y : Int) <= x; omega)) (fun _ => ?_)
   refine ⟨_, rfl, a2, _, _, _, rfl, rfl, SqL.of h2', atI_nat (j := 1) rfl, _, rfl, a2, _, _, _, rfl, rfl, SqL.of h2', atI_nat (j := 2) rfl, _, _, rfl, rfl, _, rfl, ?_⟩
   by_cases c2 : y < z
   ·refine ite2 (fun zz => absurd (of_decide_eq_true zz) (by show ¬ (z : Int) <= y; omega)) (fun _ => ?_)
    rw [er, decide_eq_true c1, decide_eq_true c2, if_neg (by simp)] at q'
    refine ⟨_, rfl, _, rfl, L.h, C.H, L.dh, _, rfl, hh.house, T.clH, T.hL, (by show 11 < 1000; decide), ?_⟩
    have na1 : a1 ≠ L.h := ne_of h1 hh.house (by intro zz; cases zz)
    have na2 : a2 ≠ L.h := ne_of h2 hh.house (by intro zz; cases zz)
    refine ⟨_, rfl, a1, _, rfl, .inl (SqL.of (by rw [upd_ne na1]; exact h1)), fun n1 hn1 => ?_⟩
    have b1 : n1 ≠ L.h := fun e => by rw [e, upd_same] at hn1; cases hn1
    have hn1' : H n1 = none := by rw [upd_ne b1] at hn1; exact hn1
    refine ⟨_, rfl, L.h, C.H, L.dh, _, rfl, by rw [upd_ne (Ne.symm b1), upd_same], T.clH, T.hB, (by show 11 < 1000; decide), ?_⟩
    rw [upd_three b1]
    have na2' : a2 ≠ n1 := ne_of_none h2 hn1'
    refine ⟨_, rfl, a2, _, rfl, .inl (SqL.of (by rw [upd_ne na2, upd_ne na2']; exact h2)), fun n2 hn2 => ?_⟩
    have c1 : n2 ≠ L.h := fun e => by rw [e, upd_same] at hn2; cases hn2
    rw [upd_ne c1] at hn2
    have c2 : n2 ≠ n1 := fun e => by rw [e, upd_same] at hn2; cases hn2
    have hn2' : H n2 = none := by rw [upd_ne c2] at hn2; exact hn2
    refine ⟨_, rfl, L.h, C.H, L.dh, _, rfl, by rw [upd_ne (Ne.symm c1), upd_same], T.clH, T.hS, (by show 11 < 1000; decide), ?_⟩
    rw [upd_three c1]
    have m := hh.setRules (H1 := upd (upd H n1 (.lst (r.bonus.map natV))) n2 (.lst (r.steps.map natV))) (((Same.refl H).upd_new hn1').upd_new hn2') hn1' hn2' (Ne.symm c2) (by rw [upd_ne (Ne.symm c2), upd_same]) upd_same
    refine ⟨(by show 1 <= sizeLine; decide), fun p hp => ?_⟩
    exact q'.lst m hp rfl
   ·refine ite2 (fun _ => ?_) (fun zz => absurd (decide_eq_true (by show (z : Int) <= y; omega)) zz)
    rw [er, decide_eq_false c2, Bool.false_and, Bool.and_false, if_pos rfl] at q'
    refine ⟨(by show 1 <= sizeLine; decide), fun p hp => ?_⟩
    exact q'.lst (hh.mv (Same.refl H)) hp rfl
  ·refine ite2 (fun _ => ?_) (fun zz => absurd (decide_eq_true (by show (y : Int) <= x; omega)) zz)
   rw [er, decide_eq_false c1, Bool.false_and, if_pos rfl] at q'
   show if true = true then _ else _
   rw [if_pos rfl]
   refine ⟨(by show 1 <= sizeLine; decide), fun p hp => ?_⟩
   exact q'.lst (hh.mv (Same.refl H)) hp rfl
def spJoin (C : Cs) : Sp := fun vs H Q _ => ∃ (L : HL) (s : State) (k : Nat), vs = [.ref L.h, natV k] /\ HouseAt C H L s /\ s.members.length <= 30 /\ Answers C H L (Vbahaq.step s (.join k)) Q
theorem scJoin : FnScope ["house", "newcomer"] ["house", "newcomer"] (defScope sJoin) := ⟨rfl, rfl, rfl, by decide +kernel, rfl, by decide +kernel, by decide +kernel⟩
theorem ok_join {f : Addr} {fd : FuncData} (F : Fun K "add_member" "add_member" sJoin f fd) (T : TxtM P w K mg base C) : FnOk P w K mg base CX0 3 f fd ["house", "newcomer"] (spJoin C) := by
 refine F.ok scJoin (fun vs H Q E h => ?_) (fun cdv A outer s H vs Q E hr h => ?_)
 ·obtain ⟨L, st, k, rfl, _⟩ := h
  rfl
 ·obtain ⟨L, st, k, rfl, hh, hlen, q⟩ := h
  have hu := hu_of hr
  refine ⟨_, pss_cons (ps_if (pt_cmp (pc_din hu (pv 1) (pe_fld (pv 0) rfl))) (pss_one (ps_ret (pe_lst (pa_cons (pe_gint T.there (by rfl)) pa_nil)))) pss_nil)
   (pss_cons (ps_if (pt_cmpR op_ge (pe_callB call_lenD (by rfl) T.len PySem.boot_len (pa_cons (pe_fld (pv 0) rfl) pa_nil)) (pe_gint T.mostMembers (by rfl)) (nomark _)) (pss_one (ps_ret (pe_lst (pa_cons (pe_gint T.full (by rfl)) pa_nil)))) pss_nil)
   (pss_cons (ps_dput hu (pe_fld (pv 0) rfl) (pv 1) (pe_ctor0 T.member hr rfl) rfl)
   (pss_one (ps_ret (pe_lst (pa_cons pe_int pa_nil)))))), ?_⟩
  have q' := q
  unfold Vbahaq.step at q'
  dsimp only at q'
  rw [hh.isMem k] at q'
  refine ⟨_, rfl, _, rfl, L.h, C.H, L.dh, _, _, rfl, hh.house, T.clH, T.hM, hF_members _ _, L.am, _, rfl, hh.get k, _, rfl, ?_⟩
  cases ef : findM L k with
  | some r =>
   rw [ef, if_pos (show (some r).isSome = true from rfl)] at q'
   refine iteT ?_
   refine ⟨(by show 1 <= sizeLine; decide), fun p hp => ?_⟩
   exact q'.lst (hh.mv (Same.refl H)) hp rfl
  | none =>
   rw [ef, if_neg (by simp)] at q'
   refine iteF ?_
   have el : L.ms.length = st.members.length := by rw [<- hh.hm, List.length_map]
   refine ⟨_, rfl, L.h, C.H, L.dh, _, _, rfl, hh.house, T.clH, T.hM, hF_members _ _, L.am, _, rfl, hh.mem, _, _, rfl, rfl, _, rfl, ?_⟩
   rw [List.length_map, el]
   by_cases c : Vbahaq.MEMBERS <= st.members.length
   ·rw [if_pos c] at q'
    refine ite2 (fun _ => ?_) (fun z => absurd (decide_eq_true (by show (30 : Int) <= _; have : 30 <= st.members.length := c; omega)) z)
    refine ⟨(by show 1 <= sizeLine; decide), fun p hp => ?_⟩
    exact q'.lst (hh.mv (Same.refl H)) hp rfl
   ·rw [if_neg c] at q'
    refine ite2 (fun z => absurd (of_decide_eq_true z) (by show ¬ (30 : Int) <= _; have : ¬ 30 <= st.members.length := c; omega)) (fun _ => ?_)
    intro x dx hx hdx hne
    refine ⟨x, dx, rfl, upd_same, fun H' la pa hla hpa hlp eH => ⟨rfl, ?_⟩⟩
    have nx : la ≠ x := fun e => by rw [e, upd_same] at hla; cases hla
    have nx2 : pa ≠ x := fun e => by rw [e, upd_same] at hpa; cases hpa
    rw [upd_ne nx] at hla
    rw [upd_ne nx2] at hpa
    have nd1 : la ≠ dx := fun e => by rw [e, upd_same] at hla; cases hla
    have nd2 : pa ≠ dx := fun e => by rw [e, upd_same] at hpa; cases hpa
    rw [upd_ne nd1] at hla
    rw [upd_ne nd2] at hpa
    have sm : Same H H' := fun b o e => by
     rw [eH, upd_ne (ne_of_none e hx), upd_ne (ne_of_none e hpa), upd_ne (ne_of_none e hla), upd_ne (ne_of_none e hx), upd_ne (ne_of_none e hdx)]
     exact e
    have ma : MemAt C H' ⟨x, dx, la, pa⟩ ⟨k, [], []⟩ := ⟨by rw [eH, upd_same], ⟨[], by
     show H' la = _
     rw [eH, upd_ne nx, upd_ne hlp, upd_same]
     rfl, List.Perm.refl _⟩, ⟨[], ⟨by
     show H' pa = _
     rw [eH, upd_ne nx2, upd_same]
     rfl, fun z hz => by cases hz⟩, rfl⟩⟩
    have h1 := hh.same sm
    refine ⟨_, rfl, L.h, C.H, L.dh, _, _, rfl, h1.house, T.clH, T.hM, hF_members _ _, _, rfl, L.am, _, rfl, DPut.k (k := Sum.inl (k : Int)) h1.mem (by rw [List.length_map, el]; exact Nat.lt_of_le_of_lt hlen (by decide)), ?_⟩
    have ev : valV (L.ms.map memK) (Sum.inl (k : Int)) = none := by
     rw [valV_mem]
     have : L.ms.find? (fun r => decide (r.2.id = k)) = none := ef
     rw [this]
     rfl
    have ep : putK (L.ms.map memK) (Sum.inl (k : Int)) (V.ref x) = (L.ms ++ [((⟨x, dx, la, pa⟩ : ML), (⟨k, [], []⟩ : Member))]).map memK := by
     rw [putK_new _ ev, List.map_append]
     rfl
    rw [ep]
    have m := hh.addMember sm (⟨x, dx, la, pa⟩, ⟨k, [], []⟩) ma hla hpa hx
    refine ⟨(by show 1 <= sizeLine; decide), fun p hp => ?_⟩
    exact q'.lst m hp rfl
end
theorem filter_take {α : Type} {p : α -> Bool} {l : List α} {i : Nat} {x : α} (h : l[i]? = some x) : (l.take (i + 1)).filter p = (l.take i).filter p ++ if p x = true then [x] else [] := by
 rw [take_at h, List.filter_append, List.filter_cons, List.filter_nil]
theorem sum_natI : ∀ l : List Nat, (l.map fun (n : Nat) => (n : Int)).sum = ((l.sum : Nat) : Int)
 | [] => rfl
 | n :: r => by
  rw [List.map_cons, List.sum_cons, sum_natI r, List.sum_cons]
  omega
section
variable {P : Program} {w : World} {K : PySem.W.Frag} {mg : Str -> Option Value} {base : Heap} {C : Cs}
def spPoy (C : Cs) : Sp := fun vs H Q _ => ∃ (L : HL) (s : State) (r : ML × Member), vs = [.ref L.h, .ref r.1.a] /\ HouseAt C H L s /\ r ∈ L.ms /\ r.2.points.length <= 1000 /\ ∀ H', Same H H' -> Q (natV (Vbahaq.pointsOf s r.2)) H'
theorem scPoy : FnScope ["house", "member", "day", "number"] ["house", "member"] (defScope sPoy) := ⟨rfl, rfl, rfl, by decide +kernel, rfl, by decide +kernel, by decide +kernel⟩
theorem ok_poy {f : Addr} {fd : FuncData} (F : Fun K "points_of_year" "points_of_year" sPoy f fd) (T : TxtM P w K mg base C) : FnOk P w K mg base CX0 2 f fd ["house", "member"] (spPoy C) := by
 refine F.ok scPoy (fun vs H Q E h => ?_) (fun cdv A outer s H vs Q E hr h => ?_)
 ·obtain ⟨L, st, r, rfl, _⟩ := h
  rfl
 ·obtain ⟨L, st, r, rfl, hh, hrm, hfew, q⟩ := h
  have nd := scPoy.nd
  have mm := hh.member r hrm
  obtain ⟨Z, hZ, eZ⟩ := mm.pts
  refine ⟨_, pss_one (ps_ret (pe_callB (cr_sum rfl) (by rfl) T.sum PyProof.Rows.boot_sum (pa_cons (pe_lc (own := [("day", 2), ("number", 3)]) (g := gTup K 2 (gCons (gName 2) (gCons (gName 3) gNil)))
    (tt := tB (tCall spCounts [] E0 (tCons (tVar 2) (tCons (tFld K (tVar 0) "today") tNil)))) (te := tVar 3) rfl nd (pi_list (pe_fld (pv 1) rfl)) (blkOk_by (by rfl))
    (fun _ _ _ _ _ => pg_tup rfl (pgs_cons (pg_name (i := 2) nd rfl (Or.inl rfl)) (pgs_cons (pg_name (i := 3) nd rfl (Or.inl rfl)) pgs_nil)))
    (fun _ _ _ _ _ => pts_one (pt_val (pe_cal T.counts hr rfl (pa_cons (pv 2) (pa_cons (pe_fld (pv 0) rfl) pa_nil))))) (fun _ _ _ _ _ => pv 3)) pa_nil))), ?_⟩
  refine ⟨_, rfl, r.1.a, C.M, r.1.dx, _, _, rfl, mm.ins, T.clM, T.mP, mF_points _, r.1.pa, rfl, ⟨_, SqL.of hZ.lst⟩, fun D hD => ?_⟩
  let p : (Addr × (Nat × Nat)) -> Bool := fun z => decide (st.today < z.2.1 + 365)
  refine lc_list (K := K) (a := r.1.pa) (xs := Z.map fun z => V.ref z.1) (fun i H' => Same H H' /\ H' D = some (.lst (((Z.take i).filter p).map fun z => natV z.2.2)))
   ⟨(Same.refl H).upd_new hD, upd_same⟩ (fun i H' _ ⟨e, _⟩ => SqL.of (e _ _ hZ.lst)) ?_ ?_
  ·rintro i y H2 hi ⟨s2, hl⟩
   obtain ⟨z, hz, rfl⟩ := at_map hi
   have hzm := List.mem_of_getElem? hz
   have h2 := hh.same s2
   refine ⟨z.1, _, rfl, SqT.of (s2 _ _ (hZ.tup z hzm)), rfl, _, _, rfl, _, _, rfl, rfl, ?_⟩
   refine ⟨rfl, ?_⟩
   refine ⟨_, rfl, _, rfl, L.h, C.H, L.dh, _, _, rfl, h2.house, T.clH, T.hT, hF_today _ _, _, _, rfl, _, rfl, ?_⟩
   have et : decide ((st.today : Int) < (z.2.1 : Int) + 365) = p z := by
    show _ = decide (st.today < z.2.1 + 365)
    by_cases c : st.today < z.2.1 + 365
    ·rw [decide_eq_true c, decide_eq_true (by omega)]
    ·rw [decide_eq_false c, decide_eq_false (by omega)]
   show if decide ((st.today : Int) < (z.2.1 : Int) + 365) = true then _ else _
   rw [et, filter_take hz]
   cases c : p z with
   | true =>
    rw [if_pos rfl, if_pos rfl]
    refine ⟨_, rfl, _, hl, ?_, s2.upd_new hD, ?_⟩
    ·rw [List.length_map]
     have l1 := List.length_filter_le p (Z.take i)
     have l2 : (Z.take i).length <= Z.length := by rw [List.length_take]; exact Nat.min_le_right _ _
     have l3 : Z.length = r.2.points.length := by rw [<- eZ, List.length_map]
     exact Nat.lt_of_le_of_lt (by omega : _ <= 1000) (by decide)
    ·rw [upd_same, List.map_append]
     rfl
   | false =>
    rw [if_neg Bool.false_ne_true, if_neg Bool.false_ne_true, List.append_nil]
    exact ⟨s2, hl⟩
  ·rintro H2 ⟨s2, hl⟩
   rw [List.length_map, List.take_length] at hl
   refine ⟨D, ((Z.filter p).map fun z => z.2.2).map fun (n : Nat) => (n : Int), rfl, SqL.of ?_, ?_⟩
   ·rw [hl, List.map_map, List.map_map]
    rfl
   ·rw [sum_natI]
    have e : ((Z.filter p).map fun z => z.2.2).sum = Vbahaq.pointsOf st r.2 := by
     unfold Vbahaq.pointsOf
     rw [<- eZ, List.filter_map, List.map_map]
     rfl
    rw [e]
    exact q H2 s2
structure TxtN (P : Program) (w : World) (K : PySem.W.Frag) (mg : Str -> Option Value) (base : Heap) (C : Cs) : Prop extends TxtM P w K mg base C where
 poy : Cal P w K mg base "points_of_year" 2 ["house", "member"] (spPoy C)
def spTier (C : Cs) : Sp := fun vs H Q _ => ∃ (L : HL) (s : State) (r : ML × Member), vs = [.ref L.h, .ref r.1.a] /\ HouseAt C H L s /\ r ∈ L.ms /\ r.2.points.length <= 1000 /\ s.rules.steps.length = 3 /\ ∀ H', Same H H' -> Q (natV (Vbahaq.tierOf s r.2)) H'
theorem scTier : FnScope ["house", "member", "points", "step"] ["house", "member"] (defScope sTier) := ⟨rfl, rfl, rfl, by decide +kernel, rfl, by decide +kernel, by decide +kernel⟩
theorem ok_tier {f : Addr} {fd : FuncData} (F : Fun K "tier_of" "tier_of" sTier f fd) (T : TxtN P w K mg base C) : FnOk P w K mg base CX0 3 f fd ["house", "member"] (spTier C) := by
 refine F.ok scTier (fun vs H Q E h => ?_) (fun cdv A outer s H vs Q E hr h => ?_)
 ·obtain ⟨L, st, r, rfl, _⟩ := h
  rfl
 ·obtain ⟨L, st, r, rfl, hh, hrm, hfew, hst, q⟩ := h
  have nd := scTier.nd
  refine ⟨_, pss_cons (ps_set (i := 2) nd rfl (Or.inr rfl) (pe_cal T.poy hr rfl (pa_cons (pv 0) (pa_cons (pv 1) pa_nil))))
   (pss_one (ps_ret (pe_callB call_len_seq (by rfl) T.len PySem.boot_len (pa_cons (pe_lc (own := [("step", 3)])
    (tt := tTest (tOp (rI0 fun i j => .bl (decide (i <= j))) (tVar 3) (tVar 2))) (te := tVar 3) rfl nd (pi_list (pe_fld (pv 0) rfl)) (blkOk_by (by rfl))
    (fun _ _ _ _ _ => pg_name (i := 3) nd rfl (Or.inl rfl))
    (fun _ _ _ _ _ => pts_one (pt_cmpR op_le (pv 3) (pv 2) (nomark _))) (fun _ _ _ _ _ => pv 3)) pa_nil)))), ?_⟩
  refine ⟨_, rfl, _, rfl, L, st, r, rfl, hh, hrm, hfew, fun H1 s1 => ?_⟩
  have h1 := hh.same s1
  let pp := Vbahaq.pointsOf st r.2
  let p : Nat -> Bool := fun t => decide (t <= pp)
  refine ⟨_, rfl, L.h, C.H, L.dh, _, _, rfl, h1.house, T.clH, T.hS, hF_steps _ _, L.as_, rfl, ⟨_, SqL.of h1.stp⟩, fun D hD => ?_⟩
  refine lc_list (K := K) (a := L.as_) (xs := st.rules.steps.map natV) (fun i H' => Same H1 H' /\ H' D = some (.lst (((st.rules.steps.take i).filter p).map natV)))
   ⟨(Same.refl H1).upd_new hD, upd_same⟩ (fun i H' _ ⟨e, _⟩ => SqL.of (e _ _ h1.stp)) ?_ ?_
  ·rintro i y H2 hi ⟨s2, hl⟩
   obtain ⟨z, hz, rfl⟩ := at_map hi
   refine ⟨rfl, ?_⟩
   refine ⟨_, rfl, _, rfl, _, _, rfl, rfl, _, rfl, ?_⟩
   have et : decide ((z : Int) <= (pp : Int)) = p z := by
    show _ = decide (z <= pp)
    by_cases c : z <= pp
    ·rw [decide_eq_true c, decide_eq_true (by omega)]
    ·rw [decide_eq_false c, decide_eq_false (by omega)]
   show if decide ((z : Int) <= (pp : Int)) = true then _ else _
   rw [et, filter_take hz]
   cases c : p z with
   | true =>
    rw [if_pos rfl, if_pos rfl]
    refine ⟨_, rfl, _, hl, ?_, s2.upd_new hD, ?_⟩
    ·rw [List.length_map]
     have l1 := List.length_filter_le p (st.rules.steps.take i)
     have l2 : (st.rules.steps.take i).length <= st.rules.steps.length := by rw [List.length_take]; exact Nat.min_le_right _ _
     exact Nat.lt_of_le_of_lt (by omega : _ <= 1000) (by decide)
    ·rw [upd_same, List.map_append]
     rfl
   | false =>
    rw [if_neg Bool.false_ne_true, if_neg Bool.false_ne_true, List.append_nil]
    exact ⟨s2, hl⟩
  ·rintro H2 ⟨s2, hl⟩
   rw [List.length_map, List.take_length] at hl
   refine ⟨D, _, rfl, .inl (SqL.of hl), ?_⟩
   rw [List.length_map]
   exact q H2 (s1.trans s2)
end
structure TxtE (P : Program) (w : World) (K : PySem.W.Frag) (mg : Str -> Option Value) (base : Heap) (C : Cs) : Prop extends TxtN P w K mg base C where
 tier : Cal P w K mg base "tier_of" 3 ["house", "member"] (spTier C)
 put : Cal P w K mg base "put_miles" 1 ["lots", "last_day", "miles"] spPut
 mostPairs : GInt mg "MOST_PAIRS" 60
 lastDay : GInt mg "LAST_OF_DAYS" 36524
section
variable {C : Cs} {H H' : Hp} {L : HL} {s : State}
theorem HouseAt.one (h : HouseAt C H L s) (nd : (s.members.map (·.id)).Nodup) {r r' : ML × Member} (hr : r ∈ L.ms) (hr' : r' ∈ L.ms) (e : r.2.id = r'.2.id \/ r.1.la = r'.1.la \/ r.1.pa = r'.1.pa) : r = r' := by
 obtain ⟨i, hi⟩ := List.getElem?_of_mem hr
 obtain ⟨j, hj⟩ := List.getElem?_of_mem hr'
 have n2 : L.las.Nodup := (List.nodup_cons.mp (List.nodup_cons.mp h.ndD).2).2
 have n3 : L.pas.Nodup := by
  have nd : (L.ap :: L.ab :: L.as_ :: (L.pas ++ (L.ps.map (·.1) ++ L.ws.map fun r => r.1.dl))).Nodup := h.ndL
  exact (List.nodup_append.mp (List.nodup_cons.mp (List.nodup_cons.mp (List.nodup_cons.mp nd).2).2).2).1
 have : i = j := by
  rcases e with e | e | e
  ·rw [<- h.ids] at nd
   exact nd_ix nd (x := r.2.id) (by rw [List.getElem?_map, hi]; rfl) (by rw [List.getElem?_map, hj, e]; rfl)
  ·exact nd_ix n2 (x := r.1.la) (by unfold HL.las; rw [List.getElem?_map, hi]; rfl) (by unfold HL.las; rw [List.getElem?_map, hj, e]; rfl)
  ·exact nd_ix n3 (x := r.1.pa) (by unfold HL.pas; rw [List.getElem?_map, hi]; rfl) (by unfold HL.pas; rw [List.getElem?_map, hj, e]; rfl)
 subst this
 exact Option.some.inj (hi.symm.trans hj)
def lotsOne (k : Nat) (l : Lots) : Member -> Lots := fun m => if m.id = k then l else m.lots
theorem HouseAt.oneLots (h : HouseAt C H L s) (nd : (s.members.map (·.id)).Nodup) {r : ML × Member} (hr : r ∈ L.ms) {kk : List (Nat × Nat)} {l : Lots} (p : kk.Perm l) :
  Mv C H L (upd H r.1.la (.dK (lk kk))) (L.withLots (lotsOne r.2.id l)) (Mile.setLots (lotsOne r.2.id l) s) := by
 refine h.setLots _ (fun b o e hb => ?_) (fun r' hr' => ?_)
 ·rw [upd_ne (fun z => hb (by rw [z]; exact List.mem_map.mpr ⟨r, hr, rfl⟩))]
  exact e
 ·unfold lotsOne
  by_cases e : r'.2.id = r.2.id
  ·have := h.one nd hr' hr (.inl e)
   subst this
   rw [if_pos rfl]
   exact ⟨kk, upd_same, p⟩
  ·rw [if_neg e]
   have nl : r'.1.la ≠ r.1.la := fun z => e (by rw [h.one nd hr' hr (.inr (.inl z))])
   exact (h.member r' hr').lots.keep fun o e2 => by rw [upd_ne nl]; exact e2
def ptsOne (k : Nat) (p : Nat × Nat) : Member -> List (Nat × Nat) := fun m => if m.id = k then m.points ++ [p] else m.points
theorem HouseAt.onePts (h : HouseAt C H L s) (nd : (s.members.map (·.id)).Nodup) {r : ML × Member} (hr : r ∈ L.ms) {Z : List (Addr × (Nat × Nat))} (hZ : PtsZ H r.1.pa Z) (eZ : Z.map (·.2) = r.2.points) {t : Addr} (ht : H t = none) (p : Nat × Nat) :
  Mv C H L (upd (upd H t (.tup [natV p.1, natV p.2])) r.1.pa (.lst (Z.map (fun z => V.ref z.1) ++ [V.ref t]))) (L.withPts (ptsOne r.2.id p)) (Mile.setPts (ptsOne r.2.id p) s) := by
 have npt : r.1.pa ≠ t := ne_of_none hZ.lst ht
 refine h.setPts _ (fun b o e hb => ?_) (fun r' hr' => ?_)
 ·rw [upd_ne (fun z => hb (by rw [z]; exact List.mem_map.mpr ⟨r, hr, rfl⟩)), upd_ne (ne_of_none e ht)]
  exact e
 ·unfold ptsOne
  by_cases e : r'.2.id = r.2.id
  ·have := h.one nd hr' hr (.inl e)
   subst this
   rw [if_pos rfl]
   refine ⟨Z ++ [(t, p)], ⟨by rw [upd_same, List.map_append]; rfl, fun z hz => ?_⟩, by rw [List.map_append, eZ]; rfl⟩
   rcases List.mem_append.mp hz with hz | hz
   ·have e1 := hZ.tup z hz
    rw [upd_ne (ne_of e1 hZ.lst (by intro q; cases q)), upd_ne (ne_of_none e1 ht)]
    exact e1
   ·rw [List.mem_singleton.mp hz, upd_ne (Ne.symm npt), upd_same]
  ·rw [if_neg e]
   have nl : r'.1.pa ≠ r.1.pa := fun z => e (by rw [h.one nd hr' hr (.inr (.inr z))])
   refine (h.member r' hr').pts.keep (fun o e2 => by rw [upd_ne nl, upd_ne (ne_of_none e2 ht)]; exact e2) fun b xs e2 => ?_
   rw [upd_ne (ne_of e2 hZ.lst (by intro q; cases q)), upd_ne (ne_of_none e2 ht)]
   exact e2
end
theorem tAnd_of {t u : TT} {σ : L2.St} {H : Hp} {Q : Bool -> Hp -> Prop} (c1 c2 : Bool) (h1 : ∀ R : Bool -> Hp -> Prop, R c1 H -> t σ H R) (h2 : ∀ R : Bool -> Hp -> Prop, R c2 H -> u σ H R) (q : Q (c1 && c2) H) : tAnd t u σ H Q := by
 refine h1 _ ?_
 cases c1 with
 | true => rw [if_pos rfl]; exact h2 _ q
 | false => rw [if_neg Bool.false_ne_true]; exact q
theorem tOr_of {t u : TT} {σ : L2.St} {H : Hp} {Q : Bool -> Hp -> Prop} (c1 c2 : Bool) (h1 : ∀ R : Bool -> Hp -> Prop, R c1 H -> t σ H R) (h2 : ∀ R : Bool -> Hp -> Prop, R c2 H -> u σ H R) (q : Q (c1 || c2) H) : tOr t u σ H Q := by
 refine h1 _ ?_
 cases c1 with
 | true => rw [if_pos rfl]; exact q
 | false => rw [if_neg Bool.false_ne_true]; exact h2 _ q
def tAndB (t u : TT) : TT := fun σ H Q => ∃ c1 c2 : Bool, (∀ R : Bool -> Hp -> Prop, R c1 H -> t σ H R) /\ (∀ R : Bool -> Hp -> Prop, R c2 H -> u σ H R) /\ Q (c1 && c2) H
def tOrB (t u : TT) : TT := fun σ H Q => ∃ c1 c2 : Bool, (∀ R : Bool -> Hp -> Prop, R c1 H -> t σ H R) /\ (∀ R : Bool -> Hp -> Prop, R c2 H -> u σ H R) /\ Q (c1 || c2) H
section
variable {X : Cx} {a b : Expr} {rest : List Expr} {pos : Pos} {tA tB' : TT}
theorem pw_andB (ha : PT X a tA) (hb : PW X (.BoolOp .And (b :: rest) pos) tB') : PW X (.BoolOp .And (a :: b :: rest) pos) (tAndB tA tB') := by
 intro wh pins s σ H Q I h
 obtain ⟨c1, c2, h1, h2, q⟩ := h
 exact pw_and ha hb wh pins s σ H Q I (tAnd_of c1 c2 h1 h2 q)
theorem pw_orB (ha : PT X a tA) (hb : PW X (.BoolOp .Or (b :: rest) pos) tB') : PW X (.BoolOp .Or (a :: b :: rest) pos) (tOrB tA tB') := by
 intro wh pins s σ H Q I h
 obtain ⟨c1, c2, h1, h2, q⟩ := h
 exact pw_or ha hb wh pins s σ H Q I (tOr_of c1 c2 h1 h2 q)
end
theorem mem_unique {s : State} (nd : (s.members.map (·.id)).Nodup) {x m : Member} (hx : x ∈ s.members) (hm : m ∈ s.members) (e : x.id = m.id) : x = m := by
 obtain ⟨i, hi⟩ := List.getElem?_of_mem hx
 obtain ⟨j, hj⟩ := List.getElem?_of_mem hm
 have : i = j := nd_ix nd (x := x.id) (by rw [List.getElem?_map, hi]; rfl) (by rw [List.getElem?_map, hj, e]; rfl)
 subst this
 exact Option.some.inj (hi.symm.trans hj)
theorem earn_eq0 {s : State} {m : Member} (nd : (s.members.map (·.id)).Nodup) (hm : m ∈ s.members) (nl : Lots) (e : Nat) :
  ({ setLots (lotsOne m.id nl) s with earned := e } : State) = Vbahaq.putM { s with earned := e } { m with lots := nl, points := m.points } := by
 unfold setLots Vbahaq.putM
 refine congrArg (fun z => ({ s with earned := e, members := z } : State)) (List.map_congr_left fun x hx => ?_)
 by_cases c : x.id = m.id
 ·have := mem_unique nd hx hm c
  subst this
  unfold lotsOne
  rw [if_pos rfl, if_pos rfl]
 ·unfold lotsOne
  rw [if_neg c, if_neg c]
theorem earn_eq {s : State} {m : Member} (nd : (s.members.map (·.id)).Nodup) (hm : m ∈ s.members) (nl : Lots) (e : Nat) (p : Nat × Nat) :
  setPts (ptsOne m.id p) ({ setLots (lotsOne m.id nl) s with earned := e } : State) = Vbahaq.putM { s with earned := e } { m with lots := nl, points := m.points ++ [p] } := by
 unfold setPts setLots Vbahaq.putM
 dsimp only
 rw [List.map_map]
 refine congrArg (fun z => ({ s with earned := e, members := z } : State)) (List.map_congr_left fun x hx => ?_)
 by_cases c : x.id = m.id
 ·have := mem_unique nd hx hm c
  subst this
  show ({ x with lots := lotsOne x.id nl x, points := ptsOne x.id p ({ x with lots := lotsOne x.id nl x } : Member) } : Member) = _
  unfold lotsOne ptsOne
  rw [if_pos rfl, if_pos rfl, if_pos rfl]
 ·show ({ x with lots := lotsOne m.id nl x, points := ptsOne m.id p ({ x with lots := lotsOne m.id nl x } : Member) } : Member) = _
  unfold lotsOne ptsOne
  rw [if_neg c, if_neg c, if_neg c]
theorem cred_int (m b : Nat) : ((m : Int) * (100 + (b : Int))) / 100 = ((m * (100 + b) / 100 : Nat) : Int) := by
 rw [show (100 : Int) + (b : Int) = ((100 + b : Nat) : Int) by omega, <- Int.natCast_mul]
 omega
theorem cred_pos {m b : Nat} (hm : 1 <= m) : 0 < m * (100 + b) / 100 := by
 have h1 : m * 100 <= m * (100 + b) := Nat.mul_le_mul_left _ (by omega)
 omega
theorem tier_le {s : State} {m : Member} (h : s.rules.steps.length = 3) : Vbahaq.tierOf s m <= 3 := by
 unfold Vbahaq.tierOf
 have := List.length_filter_le (fun t => decide (t <= Vbahaq.pointsOf s m)) s.rules.steps
 omega
theorem findM_in {C : Cs} {H : Hp} {L : HL} {s : State} (h : HouseAt C H L s) {r : ML × Member} (hr : r ∈ L.ms) : r.2 ∈ s.members := by
 rw [<- h.hm]
 exact List.mem_map.mpr ⟨r, hr, rfl⟩
section
variable {P : Program} {w : World} {K : PySem.W.Frag} {mg : Str -> Option Value} {base : Heap} {C : Cs}
def spEarn (C : Cs) : Sp := fun vs H Q _ => ∃ (L : HL) (s : State) (D : List Nat) (k miles pts : Nat), vs = [.ref L.h, natV k, natV miles, natV pts] /\ HouseAt C H L s /\ WF D s /\ D.length <= 1000 /\ 1 <= miles /\ miles <= 1000000 /\ Answers C H L (Vbahaq.step s (.earn k miles pts)) Q
theorem scEarn : FnScope ["house", "earner", "miles", "points", "member", "credited"] ["house", "earner", "miles", "points"] (defScope sEarn) := ⟨rfl, rfl, rfl, by decide +kernel, rfl, by decide +kernel, by decide +kernel⟩
theorem ok_earn {f : Addr} {fd : FuncData} (F : Fun K "earn_miles" "earn_miles" sEarn f fd) (T : TxtE P w K mg base C) : FnOk P w K mg base CX0 4 f fd ["house", "earner", "miles", "points"] (spEarn C) := by
 refine F.ok scEarn (fun vs H Q E h => ?_) (fun cdv A outer s H vs Q E hr h => ?_)
 ·obtain ⟨L, st, D, k, miles, pts, rfl, _⟩ := h
  rfl
 ·obtain ⟨L, st, D, k, miles, pts, rfl, hh, wf, hD, hm1, hm2, q⟩ := h
  have nd := scEarn.nd
  have hu := hu_of hr
  have hr1 : Room 1 _ := hr.mono (by decide)
  refine ⟨_, pss_cons (ps_if (pt_cmp (pc_dnotin hu (pv 1) (pe_fld (pv 0) rfl))) (pss_one (ps_ret (pe_lst (pa_cons (pe_gint T.noMember (by rfl)) pa_nil)))) pss_nil)
   (pss_cons (ps_set (i := 4) nd rfl (Or.inl rfl) (pe_dget hu (pe_fld (pv 0) rfl) (pv 1) (fun _ _ => rfl)))
   (pss_cons (ps_if (PW.pt (pw_andB (pt_cmpR op_gt (pv 3) pe_int (nomark _)) (pw_and1 (pt_cmpR op_ge (pe_callB call_len_seq (by rfl) T.len PySem.boot_len (pa_cons (pe_fld (pv 4) rfl) pa_nil)) (pe_gint T.mostPairs (by rfl)) (nomark _)))))
    (pss_one (ps_ret (pe_lst (pa_cons (pe_gint T.full (by rfl)) pa_nil)))) pss_nil)
   (pss_cons (ps_set (i := 5) nd rfl (Or.inl rfl) (pe_op op_fdiv (pe_op op_mul (pv 2) (pe_op op_add pe_int (pe_ix ix_list (pe_fld (pv 0) rfl) (pe_cal T.tier hr rfl (pa_cons (pv 0) (pa_cons (pv 4) pa_nil))) (fun _ _ => rfl)))) pe_int))
   (pss_cons (ps_expr (pe_cal T.put hr1 rfl (pa_cons (pe_fld (pv 4) rfl) (pa_cons (pe_callB (call_min2 rfl) (by rfl) T.min PyProof.Rows.boot_min (pa_cons (pe_op op_add (pe_fld (pv 0) rfl) (pe_fld (pv 0) rfl)) (pa_cons (pe_gint T.lastDay (by rfl)) pa_nil))) (pa_cons (pv 5) pa_nil)))))
   (pss_cons (ps_fldaug (pv 0) (pv 5) in_add)
   (pss_cons (ps_if (pt_cmpR op_gt (pv 3) pe_int (nomark _)) (pss_one (ps_expr (pe_bm PySem.F.plainAttrs_list PySem.F.slot_list_append PySem.F.type_list_append mt_append (pe_fld (pv 4) rfl) (pa_cons (pe_tup (pa_cons (pe_fld (pv 0) rfl) (pa_cons (pv 3) pa_nil))) pa_nil)))) pss_nil)
   (pss_one (ps_ret (pe_lst (pa_cons pe_int (pa_cons (pv 5) (pa_cons (pe_cal T.tier hr rfl (pa_cons (pv 0) (pa_cons (pv 4) pa_nil))) pa_nil)))))))))))), ?_⟩
  have q' := q
  unfold Vbahaq.step Vbahaq.onMember at q'
  dsimp only at q'
  rw [findM_spec hh k] at q'
  refine ⟨_, rfl, _, rfl, L.h, C.H, L.dh, _, _, rfl, hh.house, T.clH, T.hM, hF_members _ _, L.am, _, rfl, hh.get k, _, rfl, ?_⟩
  cases ef : findM L k with
  | none =>
   rw [ef] at q'
   refine iteT ?_
   refine ⟨(by show 1 <= sizeLine; decide), fun p hp => ?_⟩
   exact q'.lst (hh.mv (Same.refl H)) hp rfl
  | some r =>
   rw [ef] at q'
   dsimp only [Option.map_some] at q'
   refine iteF ?_
   obtain ⟨hrm, hid⟩ := findM_some ef
   have rin := findM_in hh hrm
   have mm := hh.member r hrm
   obtain ⟨Z, hZ, eZ⟩ := mm.pts
   have lZ : Z.length = r.2.points.length := by rw [<- eZ, List.length_map]
   have pfew := wf.pts r.2 rin
   refine ⟨_, rfl, L.h, C.H, L.dh, _, _, rfl, hh.house, T.clH, T.hM, hF_members _ _, _, rfl, L.am, _, rfl, (by have := hh.get k; rw [ef] at this; exact this), ?_⟩
   refine ⟨decide (0 < pts), decide (60 <= r.2.points.length), fun R hR => ?_, fun R hR => ?_, ?_⟩
   ·refine ⟨_, rfl, _, _, rfl, rfl, _, rfl, ?_⟩
    have e : decide ((0 : Int) < (pts : Int)) = decide (0 < pts) := by
     by_cases c : 0 < pts
     ·rw [decide_eq_true c, decide_eq_true (by omega)]
     ·rw [decide_eq_false c, decide_eq_false (by omega)]
    rw [e]
    exact hR
   ·refine ⟨_, rfl, r.1.a, C.M, r.1.dx, _, _, rfl, mm.ins, T.clM, T.mP, mF_points _, r.1.pa, _, rfl, .inl (SqL.of hZ.lst), _, _, rfl, rfl, _, rfl, ?_⟩
    have e : decide ((60 : Int) <= (((Z.map fun z => V.ref z.1).length : Nat) : Int)) = decide (60 <= r.2.points.length) := by
     rw [List.length_map, lZ]
     by_cases c : 60 <= r.2.points.length
     ·rw [decide_eq_true c, decide_eq_true (by omega)]
     ·rw [decide_eq_false c, decide_eq_false (by omega)]
    rw [e]
    exact hR
   ·have ec : ((decide (0 < pts) && decide (60 <= r.2.points.length)) = true) ↔ (0 < pts /\ Vbahaq.POINTS <= r.2.points.length) := by
     rw [Bool.and_eq_true, decide_eq_true_iff, decide_eq_true_iff]
     exact Iff.rfl
    by_cases full : 0 < pts /\ Vbahaq.POINTS <= r.2.points.length
    ·rw [if_pos full] at q'
     refine ite2 (fun _ => ?_) (fun z => absurd (ec.mpr full) z)
     refine ⟨(by show 1 <= sizeLine; decide), fun p hp => ?_⟩
     exact q'.lst (hh.mv (Same.refl H)) hp rfl
    ·rw [if_neg full] at q'
     refine ite2 (fun z => absurd (ec.mp z) full) (fun _ => ?_)
     obtain ⟨b, hb⟩ : ∃ b, st.rules.bonus[Vbahaq.tierOf st r.2]? = some b := ⟨_, List.getElem?_eq_getElem (by have := tier_le (m := r.2) wf.steps; rw [wf.bonus]; omega)⟩
     have eb : st.rules.bonus.getD (Vbahaq.tierOf st r.2) 0 = b := by rw [List.getD_eq_getElem?_getD, hb]; rfl
     refine ⟨_, rfl, _, rfl, L.h, C.H, L.dh, _, _, rfl, hh.house, T.clH, T.hB, hF_bonuses _ _, _, rfl, _, rfl, L, st, r, rfl, hh, hrm, by omega, wf.steps, fun H1 s1 => ?_⟩
     have m1 := hh.mv s1
     have h1 := m1.at_
     refine ⟨L.ab, _, _, _, rfl, rfl, SqL.of h1.bon, atI_nat (j := Vbahaq.tierOf st r.2) (by rw [List.getElem?_map, hb]; rfl), _, _, rfl, rfl, _, _, rfl, rfl, .inl ⟨by show -(2 ^ 64 : Int) < (miles : Int); omega, by show (miles : Int) < 2 ^ 64; omega⟩, _, _, rfl, rfl, ⟨by decide, by decide⟩, ?_⟩
     have ecr : ((fun (i j : Int) => V.int (i / j)) ((miles : Int) * (100 + (b : Int))) 100) = natV (Vbahaq.credited st r.2 miles) := by
      show V.int (((miles : Int) * (100 + (b : Int))) / 100) = _
      rw [cred_int]
      unfold Vbahaq.credited
      rw [eb]
     rw [ecr]
     have cpos : 0 < Vbahaq.credited st r.2 miles := cred_pos hm1
     have mm1 := h1.member r hrm
     obtain ⟨kk, hk, pk⟩ := mm1.lots
     have srt := wf.srt r.2 rin
     refine ⟨_, rfl, r.1.a, C.M, r.1.dx, _, _, rfl, mm1.ins, T.clM, T.mL, mF_lots _, ?_⟩
     refine ⟨_, rfl, L.h, C.H, L.dh, _, _, rfl, h1.house, T.clH, T.hT, hF_today _ _, _, rfl, L.h, C.H, L.dh, _, _, rfl, h1.house, T.clH, T.hL, hF_life _ _, _, _, rfl, rfl, _, _, rfl, ?_⟩
     have emin : (if (36524 : Int) < (st.today : Int) + (st.rules.life : Int) then (36524 : Int) else (st.today : Int) + (st.rules.life : Int)) = ((min (st.today + st.rules.life) Vbahaq.LASTDAY : Nat) : Int) := by
      have : Vbahaq.LASTDAY = 36524 := rfl
      rw [this]
      split <;> omega
     rw [emin]
     have ndk : (kk.map (·.1)).Nodup := (pk.map _).nodup_iff.mpr srt.nodup
     have fewk : kk.length < sizeLine := by
      have e1 := pk.length_eq
      have e2 := wf.few rin
      exact Nat.lt_of_le_of_lt (by omega : _ <= 1000) (by decide)
     refine ⟨_, rfl, r.1.la, kk, min (st.today + st.rules.life) Vbahaq.LASTDAY, Vbahaq.credited st r.2 miles, rfl, hk, ndk, fewk, ?_⟩
     have m2 := h1.oneLots wf.ids hrm (put_perm (d := min (st.today + st.rules.life) Vbahaq.LASTDAY) cpos pk srt)
     have h2 := m2.at_
     refine ⟨_, rfl, L.h, C.H, L.dh, _, _, rfl, h2.house, T.clH, T.hE, hF_earned _ _, _, rfl, _, _, rfl, rfl, L.dh, _, h2.house, (by show 11 < 1000; decide), ?_⟩
     let s2 : State := setLots (lotsOne r.2.id (Vbahaq.put (min (st.today + st.rules.life) Vbahaq.LASTDAY) (Vbahaq.credited st r.2 miles) r.2.lots)) st
     let L2 : HL := L.withLots (lotsOne r.2.id (Vbahaq.put (min (st.today + st.rules.life) Vbahaq.LASTDAY) (Vbahaq.credited st r.2 miles) r.2.lots))
     let s3 : State := { s2 with earned := st.earned + Vbahaq.credited st r.2 miles }
     have m3 : Mv C _ L2 _ L2 s3 := h2.setNum (s' := s3) rfl rfl rfl rfl rfl
     have m123 := (m1.trans m2).trans m3
     have h3 := m3.at_
     let r2 : ML × Member := (r.1, { r.2 with lots := Vbahaq.put (min (st.today + st.rules.life) Vbahaq.LASTDAY) (Vbahaq.credited st r.2 miles) r.2.lots })
     have hr2 : r2 ∈ L2.ms := by
      refine List.mem_map.mpr ⟨r, hrm, ?_⟩
      show (r.1, ({ r.2 with lots := lotsOne r.2.id _ r.2 } : Member)) = r2
      unfold lotsOne
      rw [if_pos rfl]
     have ids3 : (s3.members.map (·.id)).Nodup := by
      have e : s3.members.map (·.id) = st.members.map (·.id) := by
       show (st.members.map _).map _ = _
       rw [List.map_map]
       rfl
      rw [e]
      exact wf.ids
     have mm3 := h3.member r2 hr2
     have ep : decide ((0 : Int) < (pts : Int)) = decide (0 < pts) := by
      by_cases c : 0 < pts
      ·rw [decide_eq_true c, decide_eq_true (by omega)]
      ·rw [decide_eq_false c, decide_eq_false (by omega)]
     refine ⟨_, rfl, _, _, rfl, rfl, _, rfl, ?_⟩
     show if decide ((0 : Int) < (pts : Int)) = true then _ else _
     rw [ep]
     by_cases c : 0 < pts
     ·refine ite2 (fun _ => ?_) (fun z => absurd (decide_eq_true c) z)
      obtain ⟨Z3, hZ3, eZ3⟩ := mm3.pts
      refine ⟨_, rfl, r.1.a, C.M, r.1.dx, _, _, rfl, mm3.ins, T.clM, T.mP, mF_points _, .inl ⟨rfl, _, SqL.of hZ3.lst⟩, ?_⟩
      refine ⟨_, rfl, L.h, C.H, L.dh, _, _, rfl, h3.house, T.clH, T.hT, hF_today _ _, _, rfl, (by show 2 <= sizeLine; decide), fun t ht => ?_⟩
      have lZ3 : Z3.length = r.2.points.length := by
       have : Z3.map (·.2) = r.2.points := eZ3
       rw [<- this, List.length_map]
      refine ⟨r.1.pa, _, _, rfl, rfl, by rw [upd_ne (ne_of_none hZ3.lst ht)]; exact hZ3.lst, (by rw [List.length_map, lZ3]; exact Nat.lt_of_le_of_lt pfew (by decide)), ?_⟩
      have m4 := h3.onePts ids3 hr2 hZ3 eZ3 ht (st.today, pts)
      have m5 := m123.trans m4
      have h4 := m4.at_
      let r4 : ML × Member := (r.1, { r2.2 with points := r.2.points ++ [(st.today, pts)] })
      have hr4 : r4 ∈ (L2.withPts (ptsOne r2.2.id (st.today, pts))).ms := by
       refine List.mem_map.mpr ⟨r2, hr2, ?_⟩
       show (r.1, ({ r2.2 with points := ptsOne r2.2.id (st.today, pts) r2.2 } : Member)) = r4
       unfold ptsOne
       rw [if_pos rfl]
      refine ⟨_, rfl, _, rfl, _, rfl, L2.withPts (ptsOne r2.2.id (st.today, pts)), _, r4, rfl, h4, hr4, ?_, wf.steps, fun H5 s5 => ?_⟩
      ·show (r.2.points ++ [(st.today, pts)]).length <= 1000
       rw [List.length_append, List.length_singleton]
       omega
      ·refine ⟨(by show 3 <= sizeLine; decide), fun p hp => ?_⟩
       have m6 := m5.trans (h4.mv s5)
       have es := earn_eq wf.ids rin (Vbahaq.put (min (st.today + st.rules.life) Vbahaq.LASTDAY) (Vbahaq.credited st r.2 miles) r.2.lots) (st.earned + Vbahaq.credited st r.2 miles) (st.today, pts)
       have q2 := q'
       rw [if_neg (show ¬ pts = 0 by omega), <- es] at q2
       exact q2.lst m6 hp rfl
     ·refine ite2 (fun z => absurd (of_decide_eq_true z) c) (fun _ => ?_)
      have p0 : pts = 0 := by omega
      refine ⟨_, rfl, _, rfl, _, rfl, L2, s3, r2, rfl, h3, hr2, ?_, wf.steps, fun H5 s5 => ?_⟩
      ·show r.2.points.length <= 1000
       omega
      ·refine ⟨(by show 3 <= sizeLine; decide), fun p hp => ?_⟩
       have m6 := m123.trans (h3.mv s5)
       have es := earn_eq0 wf.ids rin (Vbahaq.put (min (st.today + st.rules.life) Vbahaq.LASTDAY) (Vbahaq.credited st r.2 miles) r.2.lots) (st.earned + Vbahaq.credited st r.2 miles)
       have q2 := q'
       rw [if_pos p0, <- es] at q2
       exact q2.lst m6 hp rfl
end
end Mile
namespace Mile
open PySem PySem.Spec PyProof.Rows L2
open Vbahaq (Lots put takeDay held Draw drawn Member Award State Rules oldest)
structure TxtG (P : Program) (w : World) (K : PySem.W.Frag) (mg : Str -> Option Value) (base : Heap) (C : Cs) : Prop extends TxtE P w K mg base C where
 count : Cal P w K mg base "count_miles" 1 ["holdings"] spCount
 oldest : Cal P w K mg base "take_oldest" 2 ["holdings", "wanted"] spOldest
 tooFew : GInt mg "TOO_FEW_MILES" (-7)
section
variable {C : Cs} {H H' : Hp} {L : HL} {s : State}
theorem HouseAt.payHand (h : HouseAt C H L s) (nd : (s.members.map (·.id)).Nodup) {hs : List Hd} {ds : List Draw} (hof : ∀ g ∈ hs, OfMem L g) (kp : KeptBut H H' (hs.map (·.la))) (hl : ∀ g ∈ hs, LotsAt H' g.la (payL g.owner ds g.l)) (hd : ∀ d ∈ ds, d.id ∈ hs.map (·.owner)) :
  Mv C H L H' (L.withLots fun m => payL m.id ds m.lots) (Mile.setLots (fun m => payL m.id ds m.lots) s) := by
 refine h.setLots _ (fun b o e hb => kp b o e fun m => hb ?_) (fun r hr => ?_)
 ·obtain ⟨g, hg, rfl⟩ := List.mem_map.mp m
  obtain ⟨r, hr, _, e2, _⟩ := hof g hg
  rw [<- e2]
  exact List.mem_map.mpr ⟨r, hr, rfl⟩
 ·by_cases m : r.2.id ∈ hs.map (·.owner)
  ·obtain ⟨g, hg, e⟩ := List.mem_map.mp m
   obtain ⟨r', hr', e1, e2, e3, _⟩ := hof g hg
   have := h.one nd hr' hr (.inl (by rw [e1]; exact e))
   subst this
   have := hl g hg
   rw [e3, <- e1, <- e2] at this
   exact this
  ·rw [payL_none _ _ _ fun d hd' e => m (by rw [<- e]; exact hd d hd')]
   refine (h.member r hr).lots.keep fun o e => kp _ o e fun mm => ?_
   obtain ⟨g, hg, e2⟩ := List.mem_map.mp mm
   obtain ⟨r', hr', e1, e3, _⟩ := hof g hg
   have := h.one nd hr' hr (.inr (.inl (by rw [e3]; exact e2)))
   subst this
   exact m (List.mem_map.mpr ⟨g, hg, e1.symm⟩)
end
theorem setLots_ids (f : Member -> Lots) (s : State) : (setLots f s).members.map (·.id) = s.members.map (·.id) := by
 show (s.members.map _).map _ = _
 rw [List.map_map]
 rfl
theorem withLots_one {s : State} {m : Member} (nd : (s.members.map (·.id)).Nodup) (hm : m ∈ s.members) (f : Lots -> Lots) : Vbahaq.withLots s m.id f = setLots (lotsOne m.id (f m.lots)) s := by
 unfold Vbahaq.withLots setLots
 refine congrArg (fun z => ({ s with members := z } : State)) (List.map_congr_left fun x hx => ?_)
 unfold lotsOne
 by_cases c : x.id = m.id
 ·have := mem_unique nd hx hm c
  subst this
  rw [if_pos rfl, if_pos rfl]
 ·rw [if_neg c, if_neg c]
theorem setLots_twice (k : Nat) (a b : Lots) (s : State) : setLots (lotsOne k a) (setLots (lotsOne k b) s) = setLots (lotsOne k a) s := by
 unfold setLots
 dsimp only
 rw [List.map_map]
 refine congrArg (fun z => ({ s with members := z } : State)) (List.map_congr_left fun x hx => ?_)
 show ({ x with lots := lotsOne k a ({ x with lots := lotsOne k b x } : Member) } : Member) = { x with lots := lotsOne k a x }
 unfold lotsOne
 by_cases c : x.id = k
 ·rw [if_pos c, if_pos c]
 ·rw [if_neg c, if_neg c, if_neg c]
theorem memberOf_set {s : State} {k : Nat} {m : Member} {f : Member -> Lots} (h : Vbahaq.memberOf s k = some m) : Vbahaq.memberOf (setLots f s) k = some { m with lots := f m } := by
 unfold Vbahaq.memberOf setLots at *
 dsimp only
 rw [List.find?_map]
 have : (fun m : Member => m.id == k) ∘ (fun m : Member => ({ m with lots := f m } : Member)) = fun m : Member => m.id == k := rfl
 rw [this, h]
 rfl
theorem memberOf_mem {s : State} {k : Nat} {m : Member} (h : Vbahaq.memberOf s k = some m) : m ∈ s.members /\ m.id = k := by
 unfold Vbahaq.memberOf at h
 exact ⟨List.mem_of_find?_eq_some h, eq_of_beq (List.find?_some (p := fun m : Member => m.id == k) h)⟩
theorem give_paid {s : State} {m : Member} (nd : (s.members.map (·.id)).Nodup) (hm : m ∈ s.members) (hs : Srt m.lots) (n : Nat) :
  setLots (fun x => payL x.id (drawn n (handL [(m.id, m.lots)])) x.lots) s = setLots (lotsOne m.id (oldest n m.lots).2) s := by
 have e := drawn_oldest m.id m.lots n
 rw [<- handL_one m.id hs] at e
 unfold setLots
 refine congrArg (fun z => ({ s with members := z } : State)) (List.map_congr_left fun x hx => ?_)
 rw [e]
 unfold lotsOne
 dsimp only
 by_cases c : x.id = m.id
 ·have := mem_unique nd hx hm c
  subst this
  rw [if_pos rfl, pay_oldest]
 ·rw [if_neg c, payL_none]
  intro d hd
  obtain ⟨y, _, rfl⟩ := List.mem_map.mp hd
  exact fun q => c q.symm
theorem flat2_len : ∀ w0 : List (Nat × Nat), (w0.flatMap fun y => [natV y.1, natV y.2]).length = 2 * w0.length
 | [] => rfl
 | a :: r => by
  have ih := flat2_len r
  rw [List.flatMap_cons, List.length_append, ih, List.length_cons (a := a)]
  show 2 + _ = _
  omega
theorem ok_flat (ys : List (Nat × Nat)) : (Vbahaq.ok (ys.flatMap fun y => [y.1, y.2])).map V.int = V.int 0 :: ys.flatMap fun y => [natV y.1, natV y.2] := by
 unfold Vbahaq.ok Vbahaq.ints
 rw [List.map_cons]
 refine congrArg _ ?_
 induction ys with
 | nil => rfl
 | cons y r ih =>
  rw [List.flatMap_cons, List.flatMap_cons, List.map_append, List.map_append, ih]
  rfl
section
variable {P : Program} {w : World} {K : PySem.W.Frag} {mg : Str -> Option Value} {base : Heap} {C : Cs}
def spGive (C : Cs) : Sp := fun vs H Q _ => ∃ (L : HL) (s : State) (D : List Nat) (k k2 n : Nat), vs = [.ref L.h, natV k, natV k2, natV n] /\ HouseAt C H L s /\ WF D s /\ D.length <= 1000 /\ Answers C H L (Vbahaq.step s (.give k k2 n)) Q
theorem scGive : FnScope ["house", "giver", "taker", "miles", "holdings", "answer", "owner", "last_day", "taken"] ["house", "giver", "taker", "miles"] (defScope sGive) := ⟨rfl, rfl, rfl, by decide +kernel, rfl, by decide +kernel, by decide +kernel⟩
theorem ok_give {f : Addr} {fd : FuncData} (F : Fun K "give_miles" "give_miles" sGive f fd) (T : TxtG P w K mg base C) : FnOk P w K mg base CX0 3 f fd ["house", "giver", "taker", "miles"] (spGive C) := by
 refine F.ok scGive (fun vs H Q E h => ?_) (fun cdv A outer s H vs Q E hr h => ?_)
 ·obtain ⟨L, st, D, k, k2, n, rfl, _⟩ := h
  rfl
 ·obtain ⟨L, st, D, k, k2, n, rfl, hh, wf, hD, q⟩ := h
  have nd := scGive.nd
  have hu := hu_of hr
  have hr1 : Room 1 _ := hr.mono (by decide)
  refine ⟨_, pss_cons (ps_if (PW.pt (pw_orB (pt_cmp (pc_dnotin hu (pv 1) (pe_fld (pv 0) rfl))) (pw_or1 (pt_cmp (pc_dnotin hu (pv 2) (pe_fld (pv 0) rfl)))))) (pss_one (ps_ret (pe_lst (pa_cons (pe_gint T.noMember (by rfl)) pa_nil)))) pss_nil)
   (pss_cons (ps_if (pt_cmpR op_eq (pv 1) (pv 2) (nomark _)) (pss_one (ps_ret (pe_lst (pa_cons (pe_gint T.atOdds (by rfl)) pa_nil)))) pss_nil)
   (pss_cons (ps_set (i := 4) nd rfl (Or.inl rfl) (pe_lst (pa_cons (pe_tup (pa_cons (pv 1) (pa_cons (pe_fld (pe_dget hu (pe_fld (pv 0) rfl) (pv 1) (fun _ _ => rfl)) rfl) pa_nil))) pa_nil)))
   (pss_cons (ps_if (pt_cmpR op_lt (pe_cal T.count hr1 rfl (pa_cons (pv 4) pa_nil)) (pv 3) (nomark _)) (pss_one (ps_ret (pe_lst (pa_cons (pe_gint T.tooFew (by rfl)) pa_nil)))) pss_nil)
   (pss_cons (ps_set (i := 5) nd rfl (Or.inl rfl) (pe_lst (pa_cons pe_int pa_nil)))
   (pss_cons (ps_for PassesOwn.never rfl (pi_list (pe_cal T.oldest hr rfl (pa_cons (pv 4) (pa_cons (pv 3) pa_nil)))) (pg_tup rfl (pgs_cons (pg_name (i := 6) nd rfl (Or.inl rfl)) (pgs_cons (pg_name (i := 7) nd rfl (Or.inl rfl)) (pgs_cons (pg_name (i := 8) nd rfl (Or.inl rfl)) pgs_nil))))
    (pss_cons (ps_expr (pe_cal T.put hr1 rfl (pa_cons (pe_fld (pe_dget hu (pe_fld (pv 0) rfl) (pv 2) (fun _ _ => rfl)) rfl) (pa_cons (pv 7) (pa_cons (pv 8) pa_nil)))))
    (pss_one (ps_expr (pe_bm PySem.F.plainAttrs_list PySem.F.slot_list_extend PySem.F.type_list_extend mt_extend (pv 5) (pa_cons (pe_lst (pa_cons (pv 7) (pa_cons (pv 8) pa_nil))) pa_nil))))))
   (pss_one (ps_ret (pv 5)))))))), ?_⟩
  have q' := q
  unfold Vbahaq.step Vbahaq.onMember at q'
  dsimp only at q'
  refine ⟨!(findM L k).isSome, !(findM L k2).isSome, fun R hR => ?_, fun R hR => ?_, ?_⟩
  ·refine ⟨_, rfl, _, rfl, L.h, C.H, L.dh, _, _, rfl, hh.house, T.clH, T.hM, hF_members _ _, L.am, _, rfl, hh.get k, _, rfl, ?_⟩
   cases e : findM L k with
   | none => rw [e] at hR; exact hR
   | some r => rw [e] at hR; exact hR
  ·refine ⟨_, rfl, _, rfl, L.h, C.H, L.dh, _, _, rfl, hh.house, T.clH, T.hM, hF_members _ _, L.am, _, rfl, hh.get k2, _, rfl, ?_⟩
   cases e : findM L k2 with
   | none => rw [e] at hR; exact hR
   | some r => rw [e] at hR; exact hR
  ·rw [findM_spec hh k, findM_spec hh k2] at q'
   cases ef : findM L k with
   | none =>
    rw [ef] at q'
    refine ite2 (fun _ => ?_) (fun z => absurd rfl z)
    refine ⟨(by show 1 <= sizeLine; decide), fun p hp => ?_⟩
    exact q'.lst (hh.mv (Same.refl H)) hp rfl
   | some r =>
    rw [ef] at q'
    cases ef2 : findM L k2 with
    | none =>
     rw [ef2] at q'
     refine ite2 (fun _ => ?_) (fun z => absurd rfl z)
     refine ⟨(by show 1 <= sizeLine; decide), fun p hp => ?_⟩
     exact q'.lst (hh.mv (Same.refl H)) hp rfl
    | some r2 =>
     rw [ef2] at q'
     dsimp only [Option.map_some] at q'
     refine ite2 (fun z => absurd z (by simp)) (fun _ => ?_)
     obtain ⟨hrm, hid⟩ := findM_some ef
     obtain ⟨hrm2, hid2⟩ := findM_some ef2
     refine ⟨_, rfl, _, rfl, rfl, _, rfl, ?_⟩
     by_cases c1 : k = k2
     ·rw [if_pos c1] at q'
      refine ite2 (fun _ => ?_) (fun z => absurd (decide_eq_true (by rw [c1])) z)
      refine ⟨(by show 1 <= sizeLine; decide), fun p hp => ?_⟩
      exact q'.lst (hh.mv (Same.refl H)) hp rfl
     ·rw [if_neg c1] at q'
      refine ite2 (fun z => absurd (of_decide_eq_true z) (fun e => c1 (by injection e with e; omega))) (fun _ => ?_)
      have mm := hh.member r hrm
      obtain ⟨kk, hk, pk⟩ := mm.lots
      have rin := findM_in hh hrm
      have rin2 := findM_in hh hrm2
      have srt := wf.srt r.2 rin
      refine ⟨_, rfl, _, rfl, L.h, C.H, L.dh, _, _, rfl, hh.house, T.clH, T.hM, hF_members _ _, _, rfl, L.am, _, rfl, (by have := hh.get k; rw [ef] at this; exact this), r.1.a, C.M, r.1.dx, _, _, rfl, mm.ins, T.clM, T.mL, mF_lots _, ?_⟩
      refine ⟨(by show 2 <= sizeLine; decide), fun t ht => ?_⟩
      refine ⟨(by show 1 <= sizeLine; decide), fun a ha => ?_⟩
      have s1 : Same H (upd H t (.tup [natV k, .ref r.1.la])) := (Same.refl H).upd_new ht
      have s2 : Same H (upd (upd H t (.tup [natV k, .ref r.1.la])) a (.lst [.ref t])) := s1.upd_new (s1.free ha)
      have nta : t ≠ a := ne_of_none (upd_same : (upd H t (.tup [natV k, .ref r.1.la])) t = _) ha
      let hd0 : Hd := ⟨k, t, r.1.la, kk, r.2.lots⟩
      have ho : HoldAt (upd (upd H t (.tup [natV k, .ref r.1.la])) a (.lst [.ref t])) a [hd0] := by
       refine ⟨upd_same, fun h hm => ?_, fun h hm => ?_⟩
       ·rw [List.mem_singleton.mp hm]
        show (upd (upd H t _) a _) t = _
        rw [upd_ne nta, upd_same]
       ·rw [List.mem_singleton.mp hm]
        exact s2 _ _ hk
      have h2 := hh.same s2
      refine ⟨_, rfl, a, [hd0], rfl, ho, _, rfl, _, _, rfl, rfl, _, rfl, ?_⟩
      have et : totH [hd0] = held r.2.lots := by
       show held kk + 0 = _
       rw [Nat.add_zero, held_perm pk]
      rw [et]
      by_cases c2 : held r.2.lots < n
      ·rw [if_pos c2] at q'
       refine ite2 (fun _ => ?_) (fun z => absurd (decide_eq_true (by show (held r.2.lots : Int) < (n : Int); omega)) z)
       refine ⟨(by show 1 <= sizeLine; decide), fun p hp => ?_⟩
       exact q'.lst (hh.mv s2) hp rfl
      ·rw [if_neg c2] at q'
       refine ite2 (fun z => absurd (of_decide_eq_true z) (by show ¬ (held r.2.lots : Int) < (n : Int); omega)) (fun _ => ?_)
       refine ⟨(by show 1 <= sizeLine; decide), fun p hp => ?_⟩
       have s3 : Same H (upd (upd (upd H t (.tup [natV k, .ref r.1.la])) a (.lst [.ref t])) p (.lst [.int 0])) := s2.upd_new (s2.free hp)
       have fp : H p = none := s2.free hp
       have nap : a ≠ p := ne_of_none (upd_same : (upd (upd H t (.tup [natV k, .ref r.1.la])) a (.lst [.ref t])) a = _) hp
       have ho3 : HoldAt (upd (upd (upd H t (.tup [natV k, .ref r.1.la])) a (.lst [.ref t])) p (.lst [.int 0])) a [hd0] :=
        ⟨by rw [upd_ne nap]; exact ho.lst, fun h hm => by rw [upd_ne (ne_of_none (ho.tup h hm) hp)]; exact ho.tup h hm, fun h hm => by rw [upd_ne (ne_of_none (ho.lots h hm) hp)]; exact ho.lots h hm⟩
       have m3 := hh.mv s3
       have h3 := m3.at_
       have ok : HandOk [hd0] := ⟨fun h hm => by rw [List.mem_singleton.mp hm]; exact ⟨pk, srt⟩, by simp, by simp, by
        show kk.length + 0 < sizeLine
        have e1 := pk.length_eq
        have e2 := wf.few rin
        exact Nat.lt_of_le_of_lt (by omega : _ <= 1000) (by decide)⟩
       refine ⟨_, rfl, _, rfl, a, [hd0], n, rfl, ho3, ok, fun H4 z kp fz hds hl => ?_⟩
       have ehand : handOf [hd0] = [(r.2.id, r.2.lots)] := by
        show [(k, r.2.lots)] = _
        rw [hid]
       have m4 := h3.payHand wf.ids (fun g hg => by rw [List.mem_singleton.mp hg]; exact ⟨r, hrm, hid, rfl, rfl, pk⟩) kp hl (fun d hd => by
        obtain ⟨_, hm, _⟩ := drawn_mem hd
        obtain ⟨g, hg, e, _⟩ := handL_mem hm
        rw [ehand] at hg
        rw [List.mem_singleton.mp hg] at e
        show d.id ∈ [k]
        rw [List.mem_singleton, <- hid]
        exact e)
       rw [ehand] at m4
       have egp := give_paid wf.ids rin srt n
       rw [egp] at m4
       have hds' : DrawsAt H4 z ((oldest n r.2.lots).1.map fun y => { id := r.2.id, day := y.1, n := y.2 }) := by
        rw [ehand, handL_one _ srt, drawn_oldest] at hds
        exact hds
       obtain ⟨Z, hZ, eZ⟩ := hds'
       let ys := (oldest n r.2.lots).1
       let s1' : State := setLots (lotsOne r.2.id (oldest n r.2.lots).2) st
       have hp3 : (upd (upd (upd H t (.tup [natV k, .ref r.1.la])) a (.lst [.ref t])) p (.lst [.int 0])) p = some (.lst [.int 0]) := upd_same
       have hp4 : H4 p = some (.lst [.int 0]) := kp _ _ hp3 (fun m => by
        have e : p = r.1.la := by simpa using m
        rw [e, hk] at fp
        cases fp)
       have m34 := m3.trans m4
       have fz0 : H z = none := s3.free fz
       have np4 : p ∉ (L.withLots fun m => payL m.id (drawn n (handL [(r.2.id, r.2.lots)])) m.lots).lists := fun m => by
        rcases m4.lists p m with e2 | e2
        ·obtain ⟨_, e3⟩ := hh.list_at e2
         rw [fp] at e3
         cases e3
        ·rw [hp3] at e2
         cases e2
       have nzp : z ≠ p := fun e => by rw [e, hp3] at fz; cases fz
       have ydays : ∀ y ∈ ys, y.1 ∈ D := fun y hy => by
        obtain ⟨x, hx, e⟩ := List.mem_map.mp (oldest_mem r.2.lots n y hy).1
        rw [<- e]
        exact wf.days r.2 rin x hx
       have ypos : ∀ y ∈ ys, 0 < y.2 := fun y hy => (oldest_mem r.2.lots n y hy).2 (wf.pos r.2 rin)
       have ylen : ys.length <= 1000 := Nat.le_trans (oldest_len _ _) (Nat.le_trans (wf.few rin) hD)
       have hm2 : Vbahaq.memberOf s1' k2 = some r2.2 := by
        have e0 : Vbahaq.memberOf st k2 = some r2.2 := by rw [findM_spec hh k2, ef2]; rfl
        have := memberOf_set (f := lotsOne r.2.id (oldest n r.2.lots).2) e0
        rw [this]
        unfold lotsOne
        rw [if_neg (by rw [hid2, hid]; exact fun e => c1 e.symm)]
       have ids1 : (s1'.members.map (·.id)).Nodup := by rw [setLots_ids]; exact wf.ids
       let si := fun (i : Nat) => setLots (lotsOne k2 (putAll (ys.take i) r2.2.lots)) s1'
       have s_0 : si 0 = s1' := by
        have hin := (memberOf_mem hm2)
        show setLots (lotsOne k2 r2.2.lots) s1' = s1'
        unfold setLots
        have : s1'.members.map (fun m => ({ m with lots := lotsOne k2 r2.2.lots m } : Member)) = s1'.members := by
         refine (List.map_congr_left fun x hx => ?_).trans (List.map_id _)
         unfold lotsOne
         by_cases c : x.id = k2
         ·have := mem_unique ids1 hx hin.1 (by rw [c, hin.2])
          subst this
          rw [if_pos c]
          rfl
         ·rw [if_neg c]
          rfl
        rw [this]
       refine ⟨z, rfl, ⟨_, SqL.of hZ.lst⟩, for_list (K := K) (a := z) (xs := Z.map fun z => V.ref z.1)
        (fun i σ H' => ∃ L', Mv C H L H' L' (si i) /\ H' p = some (.lst (V.int 0 :: (ys.take i).flatMap fun y => [natV y.1, natV y.2])) /\ p ∉ L'.lists /\ DrawsZ H' z Z /\ ∃ v6 v7 v8, σ = [some (.ref L.h), some (natV k), some (natV k2), some (natV n), some (.ref a), some (.ref p), v6, v7, v8])
        ⟨_, (by rw [s_0]; exact m34), hp4, np4, hZ, none, none, none, rfl⟩ (fun i σ H' _ ⟨_, _, _, _, e, _⟩ => SqL.of e.lst) ?_ ?_⟩
       ·rintro i y σ H5 hi ⟨L5, m5, hp5, np5, hZ5, v6, v7, v8, rfl⟩
        obtain ⟨zz, hzz, rfl⟩ := at_map hi
        have hzm := List.mem_of_getElem? hzz
        obtain ⟨yy, hyy, ey⟩ : ∃ yy, ys[i]? = some yy /\ zz.2 = { id := r.2.id, day := yy.1, n := yy.2 } := by
         have e1 : (Z.map (·.2))[i]? = some zz.2 := by rw [List.getElem?_map, hzz]; rfl
         rw [eZ] at e1
         exact at_map e1
        have hzt := hZ5.tup zz hzm
        rw [ey] at hzt
        have h5 := m5.at_
        have ids5 : ((si i).members.map (·.id)).Nodup := by rw [setLots_ids]; exact ids1
        have hmi : Vbahaq.memberOf (si i) k2 = some { r2.2 with lots := putAll (ys.take i) r2.2.lots } := by
         rw [memberOf_set hm2]
         unfold lotsOne
         rw [if_pos hid2]
        obtain ⟨r5, hr5, er5⟩ : ∃ r5, findM L5 k2 = some r5 /\ r5.2 = { r2.2 with lots := putAll (ys.take i) r2.2.lots } := by
         have e1 := findM_spec h5 k2
         rw [hmi] at e1
         cases e2 : findM L5 k2 with
         | none => rw [e2] at e1; cases e1
         | some r5 => rw [e2] at e1; exact ⟨r5, rfl, (Option.some.inj e1).symm⟩
        obtain ⟨hr5m, hid5⟩ := findM_some hr5
        have mm5 := h5.member r5 hr5m
        obtain ⟨kk5, hk5, pk5⟩ := mm5.lots
        have el5 : r5.2.lots = putAll (ys.take i) r2.2.lots := by rw [er5]
        have tk : ∀ y ∈ ys.take i, y ∈ ys := fun y hy => List.mem_of_mem_take hy
        have srt5 : Srt r5.2.lots := by rw [el5]; exact putAll_srt _ (wf.srt _ rin2)
        have days5 : ∀ p ∈ r5.2.lots, p.1 ∈ D := by rw [el5]; exact putAll_days _ (fun y hy => ydays y (tk y hy)) (wf.days _ rin2)
        have yin := List.mem_of_getElem? hyy
        have eh5 : L5.h = L.h := m5.hh
        refine ⟨zz.1, _, rfl, SqT.of hzt, rfl, _, _, rfl, _, _, rfl, _, _, rfl, rfl, ?_⟩
        refine ⟨_, rfl, L.h, C.H, L5.dh, _, _, rfl, (by rw [<- eh5]; exact h5.house), T.clH, T.hM, hF_members _ _, _, rfl, L5.am, _, rfl, (by have := h5.get k2; rw [hr5] at this; exact this), r5.1.a, C.M, r5.1.dx, _, _, rfl, mm5.ins, T.clM, T.mL, mF_lots _, ?_⟩
        have fewk : kk5.length < sizeLine := by
         have e1 := pk5.length_eq
         have e2 := len_days srt5 days5
         exact Nat.lt_of_le_of_lt (by omega : _ <= 1000) (by decide)
        refine ⟨_, rfl, _, rfl, r5.1.la, kk5, yy.1, yy.2, rfl, hk5, (pk5.map _).nodup_iff.mpr srt5.nodup, fewk, ?_⟩
        have m6 := h5.oneLots ids5 hr5m (put_perm (d := yy.1) (ypos yy yin) pk5 srt5)
        have es : setLots (lotsOne r5.2.id (put yy.1 yy.2 r5.2.lots)) (si i) = si (i + 1) := by
         show setLots _ (setLots _ s1') = setLots _ s1'
         rw [hid5, setLots_twice, el5, <- putAll_snoc, <- take_at hyy]
        rw [es] at m6
        have m56 := m5.trans m6
        have npl : p ≠ r5.1.la := ne_of hp5 hk5 (by intro e; cases e)
        have hp6 : (upd H5 r5.1.la (.dK (lk (putD kk5 yy.1 yy.2)))) p = some (.lst (V.int 0 :: (ys.take i).flatMap fun y => [natV y.1, natV y.2])) := by rw [upd_ne npl]; exact hp5
        refine ⟨_, rfl, .inl ⟨rfl, _, SqL.of hp6⟩, _, rfl, _, rfl, (by show 2 <= sizeLine; decide), fun x hx => ?_⟩
        have npx : p ≠ x := ne_of_none hp6 hx
        refine ⟨p, x, _, _, rfl, rfl, by rw [upd_ne npx]; exact hp6, upd_same, ?_, ?_⟩
        ·rw [List.length_cons]
         have e1 := flat2_len (ys.take i)
         have e2 : (ys.take i).length <= ys.length := by rw [List.length_take]; exact Nat.min_le_right _ _
         rw [e1]
         exact Nat.le_trans (by show _ <= 10000; simp; omega) (by decide)
        ·have np6 : p ∉ (L5.withLots (lotsOne r5.2.id (put yy.1 yy.2 r5.2.lots))).lists := by rw [HL.wl_lists]; exact np5
         have m7 := (m56.new (o := .lst [natV yy.1, natV yy.2]) hx).off (z := p) (ys := (V.int 0 :: (ys.take i).flatMap fun y => [natV y.1, natV y.2]) ++ [natV yy.1, natV yy.2]) (by rw [upd_ne npx]; exact hp6) np6 fp
         refine ⟨_, m7, ?_, np6, ⟨?_, fun z' hz' => ?_⟩, _, _, _, rfl⟩
         ·rw [upd_same, take_at hyy, List.flatMap_append]
          rfl
         ·rw [upd_ne (fun e => nzp e), upd_ne (fun e => ?_), upd_ne (ne_of hZ5.lst hk5 (by intro e; cases e))]
          ·exact hZ5.lst
          ·rw [<- e, upd_ne (ne_of hZ5.lst hk5 (by intro e; cases e)), hZ5.lst] at hx
           cases hx
         ·have e1 := hZ5.tup z' hz'
          rw [upd_ne (ne_of e1 hp5 (by intro e; cases e)), upd_ne (fun e => ?_), upd_ne (ne_of e1 hk5 (by intro e; cases e))]
          ·exact e1
          ·rw [<- e, upd_ne (ne_of e1 hk5 (by intro e; cases e)), e1] at hx
           cases hx
       ·rintro σ H5 ⟨L5, m5, hp5, np5, hZ5, v6, v7, v8, rfl⟩
        have lZ : (Z.map fun z => V.ref z.1).length = ys.length := by
         have := congrArg List.length eZ
         rw [List.length_map, List.length_map] at this
         rw [List.length_map]
         exact this
        rw [lZ, List.take_length] at hp5
        rw [lZ] at m5
        refine ⟨_, rfl, ?_⟩
        have es : si ys.length = Vbahaq.withLots (Vbahaq.withLots st k fun _ => (oldest n r.2.lots).2) k2 fun l => (oldest n r.2.lots).1.foldl (fun l y => put y.1 y.2 l) l := by
         have e1 : Vbahaq.withLots st k (fun _ => (oldest n r.2.lots).2) = s1' := by
          rw [<- hid, withLots_one wf.ids rin]
         have e2 := withLots_one ids1 (memberOf_mem hm2).1 fun l => (oldest n r.2.lots).1.foldl (fun l y => put y.1 y.2 l) l
         rw [e1, <- hid2, e2]
         show setLots (lotsOne k2 (putAll (ys.take ys.length) r2.2.lots)) s1' = _
         rw [List.take_length, <- hid2]
         rfl
        rw [es] at m5
        refine q' H5 L5 p m5 fp ?_ np5
        rw [hp5]
        show _ = some (HO.lst ((Vbahaq.ok ((oldest n r.2.lots).1.flatMap fun y => [y.1, y.2])).map V.int))
        rw [ok_flat]
end
abbrev sBook : Stmt := top 30
abbrev sCost : Stmt := top 31
abbrev sCancel : Stmt := top 32
structure TxtA (P : Program) (w : World) (K : PySem.W.Frag) (mg : Str -> Option Value) (base : Heap) (C : Cs) : Prop extends TxtG P w K mg base C where
 hand : Cal P w K mg base "at_hand" 2 ["house", "asker"] (spHand C)
 award : Ctor P w K mg base "Award" C.A 1 ["self", "asker", "draws"] (spInitA C)
 mostAwards : GInt mg "MOST_AWARDS" 100
 noAward : GInt mg "NO_AWARD" (-8)
def findA (L : HL) (b : Nat) : Option (AL × Award) := L.ws.find? fun r => decide (r.2.booking = b)
theorem valV_aw (ws : List (AL × Award)) (k : Nat) : valV (ws.map awK) (Sum.inl (k : Int)) = (ws.find? fun r => decide (r.2.booking = k)).map fun r => V.ref r.1.a := by
 induction ws with
 | nil => rfl
 | cons r t ih =>
  rw [List.map_cons, List.find?_cons]
  by_cases h : r.2.booking = k
  ·rw [valV_pos (p := awK r) (key_nat.mpr h)]
   simp [h, awK]
  ·rw [valV_neg (p := awK r) (fun e => h (key_nat.mp e)), ih]
   simp [h]
theorem HouseAt.getA {C : Cs} {H : Hp} {L : HL} {s : State} (h : HouseAt C H L s) (k : Nat) : DGet H L.aw (.int (k : Int)) ((findA L k).map fun r => V.ref r.1.a) := by
 have := DGet.k (k := Sum.inl (k : Int)) h.aws
 rw [valV_aw] at this
 exact this
theorem findA_spec {C : Cs} {H : Hp} {L : HL} {s : State} (h : HouseAt C H L s) (k : Nat) : (s.awards.find? fun a => a.booking == k) = (findA L k).map (·.2) := by
 unfold findA
 rw [<- h.hw, List.find?_map]
 refine congrArg _ (congrArg (fun f => List.find? f L.ws) ?_)
 funext r
 show (r.2.booking == k) = decide (r.2.booking = k)
 by_cases e : r.2.booking = k
 ·rw [e]; simp
 ·simp [e]
theorem any_find {α : Type} (p : α -> Bool) : ∀ l : List α, l.any p = (l.find? p).isSome
 | [] => rfl
 | a :: r => by
  rw [List.any_cons, List.find?_cons, any_find p r]
  cases p a <;> simp
theorem lotsOf_mem {s : State} {m : Member} (nd : (s.members.map (·.id)).Nodup) (hm : m ∈ s.members) : Vbahaq.lotsOf s m.id = m.lots := by
 unfold Vbahaq.lotsOf
 cases e : Vbahaq.memberOf s m.id with
 | none =>
  unfold Vbahaq.memberOf at e
  have := List.find?_eq_none.mp e m hm
  simp at this
 | some m2 =>
  obtain ⟨h1, h2⟩ := memberOf_mem e
  rw [mem_unique nd h1 hm h2]
  rfl
theorem handOf_eq {C : Cs} {H : Hp} {L : HL} {s : State} (h : HouseAt C H L s) (nd : (s.members.map (·.id)).Nodup) {hs : List Hd} {k : Nat} (eo : hs.map (·.owner) = Vbahaq.handOf s k) (hof : ∀ g ∈ hs, OfMem L g) :
  handL (handOf hs) = Vbahaq.handLots s k /\ totH hs = Vbahaq.atHand s k := by
 have hl : ∀ g ∈ hs, g.l = Vbahaq.lotsOf s g.owner /\ held g.k = held (Vbahaq.lotsOf s g.owner) := fun g hg => by
  obtain ⟨r, hr, e1, _, e3, e4⟩ := hof g hg
  have := lotsOf_mem nd (findM_in h hr)
  rw [e1] at this
  exact ⟨by rw [e3, this], by rw [held_perm e4, e3, this]⟩
 constructor
 ·unfold handL handOf Vbahaq.handLots
  rw [<- eo, List.flatMap_map, List.flatMap_map]
  refine congrArg (fun z => List.foldr Vbahaq.insertL [] z) ?_
  have : ∀ l : List Hd, (∀ g ∈ l, g ∈ hs) -> (l.flatMap fun g => g.l.map fun x => (x.1, g.owner, x.2)) = l.flatMap fun g => (Vbahaq.lotsOf s g.owner).map fun x => (x.1, g.owner, x.2) := fun l => by
   induction l with
   | nil => intro _; rfl
   | cons g t ih =>
    intro hin
    rw [List.flatMap_cons, List.flatMap_cons, ih fun x hx => hin x (List.mem_cons_of_mem _ hx), (hl g (hin g List.mem_cons_self)).1]
  exact this hs fun _ h => h
 ·unfold totH Vbahaq.atHand
  rw [<- eo, List.map_map]
  exact congrArg List.sum (List.map_congr_left fun g hg => (hl g hg).2)
theorem handOk_of {C : Cs} {H : Hp} {L : HL} {s : State} {D : List Nat} (h : HouseAt C H L s) (wf : WF D s) (hD : D.length <= 1000) {hs : List Hd} {k : Nat} (eo : hs.map (·.owner) = Vbahaq.handOf s k) (hof : ∀ g ∈ hs, OfMem L g) (nd : (Vbahaq.handOf s k).Nodup) (hlen : (Vbahaq.handOf s k).length <= 6) : HandOk hs := by
 have hlot : ∀ g ∈ hs, g.k.Perm g.l /\ Srt g.l := fun g hg => by
  obtain ⟨r, hr, e1, _, e3, e4⟩ := hof g hg
  exact ⟨e4, by rw [e3]; exact wf.srt _ (findM_in h hr)⟩
 have own : (hs.map (·.owner)).Nodup := by rw [eo]; exact nd
 refine ⟨hlot, own, ?_, ?_⟩
 ·rw [List.nodup_iff_pairwise_ne, List.pairwise_map]
  have own' : hs.Pairwise fun a b => a.owner ≠ b.owner := by
   rw [List.nodup_iff_pairwise_ne, List.pairwise_map] at own
   exact own
  refine List.Pairwise.imp_of_mem (fun {a b} ha hb ne e => ?_) own'
  obtain ⟨r, hr, e1, e2, _⟩ := hof a ha
  obtain ⟨r', hr', e1', e2', _⟩ := hof b hb
  have := h.one wf.ids hr hr' (.inr (.inl (by rw [e2, e2']; exact e)))
  subst this
  exact ne (by rw [<- e1, <- e1'])
 ·have hle : ∀ g ∈ hs, g.k.length <= 1000 := fun g hg => by
   obtain ⟨r, hr, e1, _, e3, e4⟩ := hof g hg
   have e5 := e4.length_eq
   have e6 := wf.few (findM_in h hr)
   rw [e3] at e5
   omega
  have hlen' : hs.length <= 6 := by
   have := congrArg List.length eo
   rw [List.length_map] at this
   omega
  have hsum : ∀ l : List Hd, (∀ g ∈ l, g.k.length <= 1000) -> lotCount l <= l.length * 1000 := fun l => by
   induction l with
   | nil => intro _; exact Nat.le_refl _
   | cons g t ih =>
    intro hin
    have e1 := ih fun x hx => hin x (List.mem_cons_of_mem _ hx)
    have e2 := hin g List.mem_cons_self
    show g.k.length + lotCount t <= (t.length + 1) * 1000
    omega
  have := hsum hs hle
  exact Nat.lt_of_le_of_lt (by omega : _ <= 6000) (by decide)
theorem WF.hand {D : List Nat} {s : State} (wf : WF D s) {k : Nat} (hk : k ∈ s.members.map (·.id)) : (Vbahaq.handOf s k).Nodup /\ (Vbahaq.handOf s k).length <= 6 /\ ∀ o ∈ Vbahaq.handOf s k, o ∈ s.members.map (·.id) := by
 unfold Vbahaq.handOf
 cases e : Vbahaq.poolOf s k with
 | none =>
  refine ⟨by simp, by simp, fun o ho => ?_⟩
  have : o = k := by simpa using ho
  rw [this]; exact hk
 | some p =>
  unfold Vbahaq.poolOf at e
  obtain ⟨h1, h2, h3⟩ := wf.pool p (List.mem_of_find?_eq_some e)
  exact ⟨h1, h3, h2⟩
theorem flat3_len : ∀ w0 : List Draw, (w0.flatMap drawV).length = 3 * w0.length
 | [] => rfl
 | a :: r => by
  have ih := flat3_len r
  rw [List.flatMap_cons, List.length_append, ih, List.length_cons (a := a)]
  show 3 + _ = _
  omega
theorem ok_flat3 (ys : List Draw) : (Vbahaq.ok (ys.flatMap fun d => [d.id, d.day, d.n])).map V.int = V.int 0 :: ys.flatMap drawV := by
 unfold Vbahaq.ok Vbahaq.ints
 rw [List.map_cons]
 refine congrArg _ ?_
 induction ys with
 | nil => rfl
 | cons y r ih =>
  rw [List.flatMap_cons, List.flatMap_cons, List.map_append, List.map_append, ih]
  rfl
section
variable {P : Program} {w : World} {K : PySem.W.Frag} {mg : Str -> Option Value} {base : Heap} {C : Cs}
def spBook (C : Cs) : Sp := fun vs H Q _ => ∃ (L : HL) (s : State) (D : List Nat) (k b c : Nat), vs = [.ref L.h, natV k, natV b, natV c] /\ HouseAt C H L s /\ WF D s /\ D.length <= 1000 /\ Answers C H L (Vbahaq.step s (.award k b c)) Q
theorem scBook : FnScope ["house", "asker", "booking", "cost", "holdings", "draws", "answer", "draw"] ["house", "asker", "booking", "cost"] (defScope sBook) := ⟨rfl, rfl, rfl, by decide +kernel, rfl, by decide +kernel, by decide +kernel⟩
theorem ok_book {f : Addr} {fd : FuncData} (F : Fun K "book_award" "book_award" sBook f fd) (T : TxtA P w K mg base C) : FnOk P w K mg base CX0 3 f fd ["house", "asker", "booking", "cost"] (spBook C) := by
 refine F.ok scBook (fun vs H Q E h => ?_) (fun cdv A outer s H vs Q E hr h => ?_)
 ·obtain ⟨L, st, D, k, b, c, rfl, _⟩ := h
  rfl
 ·obtain ⟨L, st, D, k, b, c, rfl, hh, wf, hD, q⟩ := h
  have nd := scBook.nd
  have hu := hu_of hr
  have hr1 : Room 1 _ := hr.mono (by decide)
  refine ⟨_, pss_cons (ps_if (pt_cmp (pc_dnotin hu (pv 1) (pe_fld (pv 0) rfl))) (pss_one (ps_ret (pe_lst (pa_cons (pe_gint T.noMember (by rfl)) pa_nil)))) pss_nil)
   (pss_cons (ps_if (pt_cmp (pc_din hu (pv 2) (pe_fld (pv 0) rfl))) (pss_one (ps_ret (pe_lst (pa_cons (pe_gint T.there (by rfl)) pa_nil)))) pss_nil)
   (pss_cons (ps_set (i := 4) nd rfl (Or.inl rfl) (pe_cal T.hand hr rfl (pa_cons (pv 0) (pa_cons (pv 1) pa_nil))))
   (pss_cons (ps_if (pt_cmpR op_lt (pe_cal T.count hr1 rfl (pa_cons (pv 4) pa_nil)) (pv 3) (nomark _)) (pss_one (ps_ret (pe_lst (pa_cons (pe_gint T.tooFew (by rfl)) pa_nil)))) pss_nil)
   (pss_cons (ps_if (pt_cmpR op_ge (pe_callB call_lenD (by rfl) T.len PySem.boot_len (pa_cons (pe_fld (pv 0) rfl) pa_nil)) (pe_gint T.mostAwards (by rfl)) (nomark _)) (pss_one (ps_ret (pe_lst (pa_cons (pe_gint T.full (by rfl)) pa_nil)))) pss_nil)
   (pss_cons (ps_set (i := 5) nd rfl (Or.inl rfl) (pe_cal T.oldest hr rfl (pa_cons (pv 4) (pa_cons (pv 3) pa_nil))))
   (pss_cons (ps_fldaug (pv 0) (pv 3) in_add)
   (pss_cons (ps_dput hu (pe_fld (pv 0) rfl) (pv 2) (pe_ctor T.award hr rfl (pa_cons (pv 1) (pa_cons (pv 5) pa_nil))) rfl)
   (pss_cons (ps_set (i := 6) nd rfl (Or.inl rfl) (pe_lst (pa_cons pe_int pa_nil)))
   (pss_cons (ps_for PassesOwn.never rfl (pi_list (pv 5)) (pg_name (i := 7) nd rfl (Or.inl rfl))
    (pss_one (ps_expr (pe_bm PySem.F.plainAttrs_list PySem.F.slot_list_extend PySem.F.type_list_extend mt_extendT (pv 6) (pa_cons (pv 7) pa_nil)))))
   (pss_one (ps_ret (pv 6)))))))))))), ?_⟩
  have q' := q
  unfold Vbahaq.step Vbahaq.onMember at q'
  dsimp only at q'
  rw [findM_spec hh k] at q'
  refine ⟨_, rfl, _, rfl, L.h, C.H, L.dh, _, _, rfl, hh.house, T.clH, T.hM, hF_members _ _, L.am, _, rfl, hh.get k, _, rfl, ?_⟩
  cases ef : findM L k with
  | none =>
   rw [ef] at q'
   refine iteT ?_
   refine ⟨(by show 1 <= sizeLine; decide), fun p hp => ?_⟩
   exact q'.lst (hh.mv (Same.refl H)) hp rfl
  | some r =>
   rw [ef] at q'
   dsimp only [Option.map_some] at q'
   refine iteF ?_
   obtain ⟨hrm, hid⟩ := findM_some ef
   have kin : k ∈ st.members.map (·.id) := by rw [<- hid]; exact List.mem_map.mpr ⟨r.2, findM_in hh hrm, rfl⟩
   obtain ⟨hn1, hn2, hn3⟩ := wf.hand kin
   rw [any_find, findA_spec hh b] at q'
   refine ⟨_, rfl, _, rfl, L.h, C.H, L.dh, _, _, rfl, hh.house, T.clH, T.hA, hF_awards _ _, L.aw, _, rfl, hh.getA b, _, rfl, ?_⟩
   cases efa : findA L b with
   | some ra =>
    rw [efa, if_pos (show (Option.map (fun x : AL × Award => x.2) (some ra)).isSome = true from rfl)] at q'
    refine iteT ?_
    refine ⟨(by show 1 <= sizeLine; decide), fun p hp => ?_⟩
    exact q'.lst (hh.mv (Same.refl H)) hp rfl
   | none =>
    rw [efa, if_neg (by simp)] at q'
    refine iteF ?_
    refine ⟨_, rfl, _, rfl, L, st, k, rfl, hh, fun o ho => findM_of (by rw [hh.ids]; exact hn3 o ho), by omega, fun H1 a hs s1 fa hho eo hof => ?_⟩
    have m1 := hh.mv s1
    have h1 := m1.at_
    obtain ⟨ehl, eth⟩ := handOf_eq hh wf.ids eo hof
    have hok := handOk_of hh wf hD eo hof hn1 hn2
    refine ⟨_, rfl, a, hs, rfl, hho, _, rfl, _, _, rfl, rfl, _, rfl, ?_⟩
    rw [eth]
    by_cases c2 : Vbahaq.atHand st k < c
    ·rw [if_pos c2] at q'
     refine ite2 (fun _ => ?_) (fun z => absurd (decide_eq_true (by show (Vbahaq.atHand st k : Int) < (c : Int); omega)) z)
     refine ⟨(by show 1 <= sizeLine; decide), fun p hp => ?_⟩
     exact q'.lst m1 hp rfl
    ·rw [if_neg c2] at q'
     refine ite2 (fun z => absurd (of_decide_eq_true z) (by show ¬ (Vbahaq.atHand st k : Int) < (c : Int); omega)) (fun _ => ?_)
     have el : L.ws.length = st.awards.length := by rw [<- hh.hw, List.length_map]
     refine ⟨_, rfl, L.h, C.H, L.dh, _, _, rfl, h1.house, T.clH, T.hA, hF_awards _ _, L.aw, _, rfl, h1.aws, _, _, rfl, rfl, _, rfl, ?_⟩
     rw [List.length_map, el]
     by_cases c3 : Vbahaq.AWARDS <= st.awards.length
     ·rw [if_pos c3] at q'
      refine ite2 (fun _ => ?_) (fun z => absurd (decide_eq_true (by show (100 : Int) <= _; have : 100 <= st.awards.length := c3; omega)) z)
      refine ⟨(by show 1 <= sizeLine; decide), fun p hp => ?_⟩
      exact q'.lst m1 hp rfl
     ·rw [if_neg c3] at q'
      refine ite2 (fun z => absurd (of_decide_eq_true z) (by show ¬ (100 : Int) <= _; have : ¬ 100 <= st.awards.length := c3; omega)) (fun _ => ?_)
      refine ⟨_, rfl, _, rfl, a, hs, c, rfl, hho, hok, fun H2 z kp fz hds hl => ?_⟩
      rw [ehl] at hds hl
      let ds := drawn c (Vbahaq.handLots st k)
      have m2 := h1.payHand wf.ids hof kp hl (fun d hd => by
       obtain ⟨_, hm, _⟩ := drawn_mem hd
       rw [<- ehl] at hm
       obtain ⟨g, hg, e, _⟩ := handL_mem hm
       obtain ⟨g0, hg0, rfl⟩ := List.mem_map.mp hg
       exact List.mem_map.mpr ⟨g0, hg0, e.symm⟩)
      have h2 := m2.at_
      have fz0 : H z = none := s1.free fz
      refine ⟨_, rfl, L.h, C.H, L.dh, _, _, rfl, h2.house, T.clH, T.hSp, hF_spent _ _, _, rfl, _, _, rfl, rfl, L.dh, _, h2.house, (by show 11 < 1000; decide), ?_⟩
      let f2 : Member -> Lots := fun m => payL m.id ds m.lots
      let L2 : HL := L.withLots f2
      let s3 : State := { setLots f2 st with spent := st.spent + c }
      have m3 : Mv C _ L2 _ L2 s3 := h2.setNum (s' := s3) rfl rfl rfl rfl rfl
      have h3 := m3.at_
      have m123 := (m1.trans m2).trans m3
      obtain ⟨Z, hZ, eZ⟩ := hds
      refine ⟨_, rfl, _, rfl, fun x dx hx hdx hne => ?_⟩
      refine ⟨x, dx, z, k, rfl, upd_same, rfl, ?_⟩
      rw [upd_upd]
      let H3 : Hp := upd H2 L.h (.ins C.H L.dh (houseF L2 s3))
      let H4 : Hp := upd (upd H3 dx (.own x)) x (.ins C.A dx [("asker", natV k), ("draws", .ref z)])
      have s34 : Same H3 H4 := ((Same.refl H3).upd_new hdx).upd_new hx
      have h4 := h3.same s34
      have zh : z ≠ L.h := fun e => by rw [e, hh.house] at fz0; cases fz0
      have hZ3 : DrawsZ H3 z Z := ⟨by show (upd H2 _ _) z = _; rw [upd_ne zh]; exact hZ.lst, fun zz hzz => by
       show (upd H2 _ _) zz.1 = _
       have e0 : zz.1 ≠ L.h := ne_of (hZ.tup zz hzz) h2.house (by intro e; cases e)
       rw [upd_ne e0]
       exact hZ.tup zz hzz⟩
      have hZ4 : DrawsZ H4 z Z := ⟨s34 _ _ hZ3.lst, fun zz hzz => s34 _ _ (hZ3.tup zz hzz)⟩
      let ar : AL × Award := (⟨x, dx, z⟩, ⟨b, k, ds⟩)
      have aw4 : AwAt C H4 ar.1 ar.2 := ⟨upd_same, ⟨Z, hZ4, eZ⟩⟩
      have nz : z ∉ L2.lists := fun m => by
       have m' : z ∈ L.lists := by rw [HL.wl_lists] at m; exact m
       obtain ⟨_, e⟩ := hh.list_at m'
       rw [fz0] at e; cases e
      have elw : L2.ws.length = st.awards.length := el
      refine ⟨_, rfl, L.h, C.H, L.dh, _, _, rfl, h4.house, T.clH, T.hA, hF_awards _ _, _, rfl, L.aw, _, rfl, DPut.k (k := Sum.inl (b : Int)) h4.aws (by rw [List.length_map, elw]; exact Nat.lt_of_le_of_lt wf.alen (by decide)), ?_⟩
      have ev : valV (L2.ws.map awK) (Sum.inl (b : Int)) = none := by
       rw [valV_aw]
       have : L.ws.find? (fun r => decide (r.2.booking = b)) = none := efa
       show Option.map _ (L.ws.find? _) = none
       rw [this]
       rfl
      have ep : putK (L2.ws.map awK) (Sum.inl (b : Int)) (V.ref x) = (L2.ws ++ [ar]).map awK := by
       rw [putK_new _ ev, List.map_append]
       rfl
      rw [ep]
      have m4 := m123.setAws s34 (L2.ws ++ [ar]) (fun r' hr' => by
        rcases List.mem_append.mp hr' with e | e
        ·exact h4.award r' e
        ·rw [List.mem_singleton.mp e]; exact aw4)
       ((HL.addA_lists L2 ar).nodup_iff.mpr (List.nodup_cons.mpr ⟨nz, h3.ndL⟩)) (fun r' hr' => by
        rcases List.mem_append.mp hr' with e | e
        ·exact .inl e
        ·rw [List.mem_singleton.mp e]; exact .inr fz0)
      have h5 := m4.at_
      have es : ({ s3 with awards := (L2.ws ++ [ar]).map (·.2) } : State) = Vbahaq.pay { st with awards := st.awards ++ [{ booking := b, id := k, draws := ds }], spent := st.spent + c } ds := by
       rw [pay_eq, List.map_append]
       show ({ s3 with awards := L.ws.map (·.2) ++ [ar.2] } : State) = _
       rw [hh.hw]
       rfl
      rw [es] at m4
      refine ⟨(by show 1 <= sizeLine; decide), fun p hp => ?_⟩
      obtain ⟨fp, np⟩ := m4.fresh hp
      have m5 := m4.new (o := .lst [.int 0]) hp
      let H5 : Hp := upd H4 L.aw (.dK ((L2.ws ++ [ar]).map awK))
      have zaw : z ≠ L.aw := ne_of hZ4.lst h4.aws (by intro e; cases e)
      have hZ5 : DrawsZ H5 z Z := ⟨by show (upd H4 _ _) z = _; rw [upd_ne zaw]; exact hZ4.lst, fun zz hzz => by
       show (upd H4 _ _) zz.1 = _
       have e0 : zz.1 ≠ L.aw := ne_of (hZ4.tup zz hzz) h4.aws (by intro e; cases e)
       rw [upd_ne e0]
       exact hZ4.tup zz hzz⟩
      have zp : z ≠ p := ne_of_none hZ5.lst hp
      have hZ6 : DrawsZ (upd H5 p (.lst [.int 0])) z Z := ⟨by rw [upd_ne zp]; exact hZ5.lst, fun zz hzz => by rw [upd_ne (ne_of_none (hZ5.tup zz hzz) hp)]; exact hZ5.tup zz hzz⟩
      have dlen : ds.length <= 6000 := by
       have e1 := drawn_len (Vbahaq.handLots st k) c
       have e2 : (Vbahaq.handLots st k).length = lotCount hs := by
        rw [<- ehl, handL_tag, List.length_map, tagL_length hs fun g hg => (hok.lots g hg).1]
       have hle : ∀ g ∈ hs, g.k.length <= 1000 := fun g hg => by
        obtain ⟨r', hr', e1, _, e3, e4⟩ := hof g hg
        have e5 := e4.length_eq
        have e6 := wf.few (findM_in hh hr')
        rw [e3] at e5
        omega
       have hlen' : hs.length <= 6 := by
        have := congrArg List.length eo
        rw [List.length_map] at this
        omega
       have hsum : ∀ l : List Hd, (∀ g ∈ l, g.k.length <= 1000) -> lotCount l <= l.length * 1000 := fun l => by
        induction l with
        | nil => intro _; exact Nat.le_refl _
        | cons g t ih =>
         intro hin
         have e1 := ih fun x hx => hin x (List.mem_cons_of_mem _ hx)
         have e2 := hin g List.mem_cons_self
         show g.k.length + lotCount t <= (t.length + 1) * 1000
         omega
       have := hsum hs hle
       show (drawn c (Vbahaq.handLots st k)).length <= 6000
       omega
      refine ⟨_, rfl, z, rfl, ⟨_, SqL.of hZ6.lst⟩, for_list (K := K) (a := z) (xs := Z.map fun z => V.ref z.1)
       (fun i σ H' => ∃ L', Mv C H L H' L' (Vbahaq.pay { st with awards := st.awards ++ [{ booking := b, id := k, draws := ds }], spent := st.spent + c } ds) /\ H' p = some (.lst (V.int 0 :: (ds.take i).flatMap drawV)) /\ p ∉ L'.lists /\ DrawsZ H' z Z /\ ∃ v7, σ = [some (.ref L.h), some (natV k), some (natV b), some (natV c), some (.ref a), some (.ref z), some (.ref p), v7])
       ⟨_, m5, upd_same, np, hZ6, none, rfl⟩ (fun i σ H' _ ⟨_, _, _, _, e, _⟩ => SqL.of e.lst) ?_ ?_⟩
      ·rintro i y σ H6 hi ⟨L6, m6, hp6, np6, hZ7, v7, rfl⟩
       obtain ⟨zz, hzz, rfl⟩ := at_map hi
       have hzm := List.mem_of_getElem? hzz
       have hdd : ds[i]? = some zz.2 := by
        have e1 : (Z.map (·.2))[i]? = some zz.2 := by rw [List.getElem?_map, hzz]; rfl
        rw [eZ] at e1
        exact e1
       refine ⟨_, rfl, .inl ⟨rfl, _, SqL.of hp6⟩, _, rfl, p, zz.1, _, _, rfl, rfl, hp6, hZ7.tup zz hzm, ?_, ?_⟩
       ·rw [List.length_cons, flat3_len]
        have e2 : (ds.take i).length <= ds.length := by rw [List.length_take]; exact Nat.min_le_right _ _
        exact Nat.le_trans (by show _ <= 100000; simp; omega) (by decide)
       ·have m7 := m6.off (ys := (V.int 0 :: (ds.take i).flatMap drawV) ++ drawV zz.2) hp6 np6 fp
        refine ⟨_, m7, ?_, np6, ⟨by rw [upd_ne zp]; exact hZ7.lst, fun z' hz' => by rw [upd_ne (ne_of (hZ7.tup z' hz') hp6 (by intro e; cases e))]; exact hZ7.tup z' hz'⟩, _, rfl⟩
        rw [upd_same, take_at hdd, List.flatMap_append]
        show some (HO.lst (V.int 0 :: ((ds.take i).flatMap drawV ++ drawV zz.2))) = some (HO.lst (V.int 0 :: ((ds.take i).flatMap drawV ++ [zz.2].flatMap drawV)))
        rw [List.flatMap_cons, List.flatMap_nil, List.append_nil]
      ·rintro σ H6 ⟨L6, m6, hp6, np6, hZ7, v7, rfl⟩
       have lZ : (Z.map fun z => V.ref z.1).length = ds.length := by
        have := congrArg List.length eZ
        rw [List.length_map] at this
        rw [List.length_map]
        exact this
       rw [lZ, List.take_length] at hp6
       refine ⟨_, rfl, ?_⟩
       refine q' H6 L6 p m6 fp ?_ np6
       rw [hp6]
       show _ = some (HO.lst ((Vbahaq.ok (ds.flatMap fun d => [d.id, d.day, d.n])).map V.int))
       rw [ok_flat3]
end
end Mile
namespace Mile
open PySem PySem.Spec PyProof.Rows L2
open Vbahaq (Lots put takeDay held Draw drawn Member Award State Rules oldest drawSum)
def giveL (today k : Nat) : List Draw -> Lots -> Lots
 | [], l => l
 | d :: r, l => giveL today k r (if d.day < today then l else if d.id = k then put d.day d.n l else l)
theorem giveL_snoc (today k : Nat) (d : Draw) : ∀ (ds : List Draw) (l : Lots), giveL today k (ds ++ [d]) l = if d.day < today then giveL today k ds l else if d.id = k then put d.day d.n (giveL today k ds l) else giveL today k ds l
 | [], l => rfl
 | e :: r, l => giveL_snoc today k d r _
theorem giveL_srt (today k : Nat) : ∀ (ds : List Draw) {l : Lots}, Srt l -> Srt (giveL today k ds l)
 | [], l, h => h
 | d :: r, l, h => giveL_srt today k r (by
  split
  ·exact h
  ·split
   ·exact put_srt h
   ·exact h)
theorem giveL_pos (today k : Nat) : ∀ (ds : List Draw) {l : Lots}, (∀ d ∈ ds, 0 < d.n) -> PosL l -> PosL (giveL today k ds l)
 | [], l, _, h => h
 | d :: r, l, hd, h => giveL_pos today k r (fun e he => hd e (List.mem_cons_of_mem _ he)) (by
  split
  ·exact h
  ·split
   ·exact put_pos (hd d List.mem_cons_self) h
   ·exact h)
theorem giveL_days {D : List Nat} (today k : Nat) : ∀ (ds : List Draw) {l : Lots}, (∀ d ∈ ds, d.day ∈ D) -> (∀ p ∈ l, p.1 ∈ D) -> ∀ p ∈ giveL today k ds l, p.1 ∈ D
 | [], l, _, h => h
 | d :: r, l, hd, h => giveL_days today k r (fun e he => hd e (List.mem_cons_of_mem _ he)) (by
  split
  ·exact h
  ·split
   ·intro p hp
    rcases put_keys p hp with e | e
    ·rw [e]; exact hd d List.mem_cons_self
    ·obtain ⟨q, hq, e⟩ := List.mem_map.mp e
     rw [<- e]; exact h q hq
   ·exact h)
theorem giveBack_eq : ∀ (ds : List Draw) (s : State), Vbahaq.giveBack s ds = setLots (fun m => giveL s.today m.id ds m.lots) s
 | [], s => by
  show s = { s with members := s.members.map fun m => m }
  rw [List.map_id'']
  intro m; rfl
 | d :: r, s => by
  show Vbahaq.giveBack (if d.day < s.today then s else Vbahaq.withLots s d.id (put d.day d.n)) r = _
  rw [giveBack_eq r]
  by_cases c : d.day < s.today
  ·rw [if_pos c]
   unfold setLots
   refine congrArg (fun z => ({ s with members := z } : State)) (List.map_congr_left fun m _ => ?_)
   show ({ m with lots := giveL s.today m.id r m.lots } : Member) = { m with lots := giveL s.today m.id r (if d.day < s.today then m.lots else _) }
   rw [if_pos c]
  ·rw [if_neg c]
   unfold setLots Vbahaq.withLots
   dsimp only
   rw [List.map_map]
   refine congrArg (fun z => ({ s with members := z } : State)) (List.map_congr_left fun m _ => ?_)
   show ({ (if m.id = d.id then { m with lots := put d.day d.n m.lots } else m) with lots := giveL s.today (if m.id = d.id then { m with lots := put d.day d.n m.lots } else m).id r (if m.id = d.id then { m with lots := put d.day d.n m.lots } else m).lots } : Member) = { m with lots := giveL s.today m.id r (if d.day < s.today then m.lots else if d.id = m.id then put d.day d.n m.lots else m.lots) }
   rw [if_neg c]
   by_cases e : m.id = d.id
   ·rw [if_pos e, if_pos e.symm]
   ·rw [if_neg e, if_neg fun q => e q.symm]
theorem setLots_then {s : State} {k : Nat} {l : Lots} {F G : Member -> Lots} (hk : ∀ m ∈ s.members, m.id = k -> G m = l) (hn : ∀ m ∈ s.members, m.id ≠ k -> G m = F m) : setLots (lotsOne k l) (setLots F s) = setLots G s := by
 unfold setLots
 dsimp only
 rw [List.map_map]
 refine congrArg (fun z => ({ s with members := z } : State)) (List.map_congr_left fun m hm => ?_)
 show ({ m with lots := lotsOne k l ({ m with lots := F m } : Member) } : Member) = { m with lots := G m }
 unfold lotsOne
 by_cases c : m.id = k
 ·rw [if_pos c, hk m hm c]
 ·rw [if_neg c, hn m hm c]
def lateSum (today : Nat) (ds : List Draw) : Nat := drawSum (ds.filter fun d => decide (d.day < today))
def backSum (today : Nat) (ds : List Draw) : Nat := drawSum (ds.filter fun d => !decide (d.day < today))
theorem drawSum_append (a b : List Draw) : drawSum (a ++ b) = drawSum a + drawSum b := by
 unfold drawSum
 rw [List.map_append, List.sum_append]
theorem sums_both (today : Nat) : ∀ ds : List Draw, drawSum ds = backSum today ds + lateSum today ds
 | [] => rfl
 | d :: r => by
  have ih := sums_both today r
  unfold backSum lateSum at ih ⊢
  rw [List.filter_cons, List.filter_cons]
  by_cases c : d.day < today
  ·rw [decide_eq_true c, if_neg (by simp), if_pos rfl]
   show d.n + drawSum r = _ + (d.n + drawSum _)
   omega
  ·rw [decide_eq_false c, if_pos (by simp), if_neg (by simp)]
   show d.n + drawSum r = (d.n + drawSum _) + _
   omega
theorem dropK_aw (ws : List (AL × Award)) (k : Nat) : dropK (ws.map awK) (Sum.inl (k : Int)) = (ws.filter fun r => !(r.2.booking == k)).map awK := by
 unfold dropK
 rw [List.filter_map]
 refine congrArg _ (List.filter_congr fun r _ => ?_)
 show decide ((Sum.inl (r.2.booking : Int) : Key) ≠ Sum.inl (k : Int)) = !(r.2.booking == k)
 by_cases e : r.2.booking = k
 ·rw [decide_eq_false (by simp [e])]
  simp [e]
 ·rw [decide_eq_true (show (Sum.inl (r.2.booking : Int) : Key) ≠ Sum.inl (k : Int) from fun q => e (key_nat.mp q))]
  simp [e]
section
variable {P : Program} {w : World} {K : PySem.W.Frag} {mg : Str -> Option Value} {base : Heap} {C : Cs}
def spCancel (C : Cs) : Sp := fun vs H Q _ => ∃ (L : HL) (s : State) (D : List Nat) (b : Nat), vs = [.ref L.h, natV b] /\ HouseAt C H L s /\ WF D s /\ D.length <= 1000 /\ Answers C H L (Vbahaq.step s (.cancel b)) Q
theorem scCancel : FnScope ["house", "booking", "award", "put_back", "ran_out", "owner", "last_day", "miles"] ["house", "booking"] (defScope sCancel) := ⟨rfl, rfl, rfl, by decide +kernel, rfl, by decide +kernel, by decide +kernel⟩
theorem ok_cancel {f : Addr} {fd : FuncData} (F : Fun K "cancel_award" "cancel_award" sCancel f fd) (T : TxtA P w K mg base C) : FnOk P w K mg base CX0 2 f fd ["house", "booking"] (spCancel C) := by
 refine F.ok scCancel (fun vs H Q E h => ?_) (fun cdv A outer s H vs Q E hr h => ?_)
 ·obtain ⟨L, st, D, b, rfl, _⟩ := h
  rfl
 ·obtain ⟨L, st, D, b, rfl, hh, wf, hD, q⟩ := h
  have nd := scCancel.nd
  have hu := hu_of hr
  refine ⟨_, pss_cons (ps_if (pt_cmp (pc_dnotin hu (pv 1) (pe_fld (pv 0) rfl))) (pss_one (ps_ret (pe_lst (pa_cons (pe_gint T.noAward (by rfl)) pa_nil)))) pss_nil)
   (pss_cons (ps_set (i := 2) nd rfl (Or.inl rfl) (pe_dpop1 (pe_fld (pv 0) rfl) (pv 1) ⟨rfl, rfl, rfl, rfl⟩))
   (pss_cons (ps_set (i := 3) nd rfl (Or.inl rfl) pe_int)
   (pss_cons (ps_set (i := 4) nd rfl (Or.inl rfl) pe_int)
   (pss_cons (ps_for PassesOwn.never rfl (pi_list (pe_fld (pv 2) rfl)) (pg_tup rfl (pgs_cons (pg_name (i := 5) nd rfl (Or.inl rfl)) (pgs_cons (pg_name (i := 6) nd rfl (Or.inl rfl)) (pgs_cons (pg_name (i := 7) nd rfl (Or.inl rfl)) pgs_nil))))
    (pss_one (ps_if (pt_cmpR op_lt (pv 6) (pe_fld (pv 0) rfl) (nomark _)) (pss_one (ps_aug (i := 4) nd rfl (Or.inl rfl) (pv 7) ip_add))
     (pss_cons (ps_expr (pe_cal T.put hr rfl (pa_cons (pe_fld (pe_dget hu (pe_fld (pv 0) rfl) (pv 5) (fun _ _ => rfl)) rfl) (pa_cons (pv 6) (pa_cons (pv 7) pa_nil)))))
     (pss_one (ps_aug (i := 3) nd rfl (Or.inl rfl) (pv 7) ip_add))))))
   (pss_cons (ps_fldaug (pv 0) (pe_op op_add (pv 3) (pv 4)) in_add)
   (pss_cons (ps_fldaug (pv 0) (pv 4) in_add)
   (pss_one (ps_ret (pe_lst (pa_cons pe_int (pa_cons (pv 3) (pa_cons (pv 4) pa_nil)))))))))))), ?_⟩
  have q' := q
  unfold Vbahaq.step at q'
  dsimp only at q'
  rw [findA_spec hh b] at q'
  refine ⟨_, rfl, _, rfl, L.h, C.H, L.dh, _, _, rfl, hh.house, T.clH, T.hA, hF_awards _ _, L.aw, _, rfl, hh.getA b, _, rfl, ?_⟩
  cases ef : findA L b with
  | none =>
   rw [ef] at q'
   refine iteT ?_
   refine ⟨(by show 1 <= sizeLine; decide), fun p hp => ?_⟩
   exact q'.lst (hh.mv (Same.refl H)) hp rfl
  | some ra =>
   rw [ef] at q'
   dsimp only [Option.map_some] at q'
   refine iteF ?_
   have ram : ra ∈ L.ws := List.mem_of_find?_eq_some ef
   have ain : ra.2 ∈ st.awards := by rw [<- hh.hw]; exact List.mem_map.mpr ⟨ra, ram, rfl⟩
   have hav : valV (L.ws.map awK) (Sum.inl (b : Int)) = some (V.ref ra.1.a) := by
    rw [valV_aw]
    have : L.ws.find? (fun r => decide (r.2.booking = b)) = some ra := ef
    rw [this]
    rfl
   refine ⟨_, rfl, L.h, C.H, L.dh, _, _, rfl, hh.house, T.clH, T.hA, hF_awards _ _, L.aw, rfl, .inl ⟨_, .inl hh.aws⟩, _, rfl, _, Sum.inl (b : Int), _, hh.aws, rfl, hav, ?_⟩
   rw [dropK_aw]
   let ws1 := L.ws.filter fun r => !(r.2.booking == b)
   have m1 := (hh.mv (Same.refl H)).setAws (Same.refl H) ws1 (fun r hr => hh.award r (List.mem_filter.mp hr).1) (by
     refine List.Sublist.nodup ?_ hh.ndL
     show (L.ap :: L.ab :: L.as_ :: (L.pas ++ (L.ps.map (·.1) ++ ws1.map fun r => r.1.dl))).Sublist (L.ap :: L.ab :: L.as_ :: (L.pas ++ (L.ps.map (·.1) ++ L.ws.map fun r => r.1.dl)))
     exact ((((List.Sublist.refl _).append ((List.Sublist.refl _).append (List.filter_sublist.map _))).cons₂ _).cons₂ _).cons₂ _) (fun r hr => .inl (List.mem_filter.mp hr).1)
   let s1 : State := { st with awards := ws1.map (·.2) }
   have h1 := m1.at_
   have aw0 := hh.award ra ram
   let H1 : Hp := upd H L.aw (.dK (ws1.map awK))
   have ains : H1 ra.1.a = some (.ins C.A ra.1.dx (awF ra.1 ra.2)) := by
    show (upd H L.aw _) ra.1.a = _
    rw [upd_ne (ne_of aw0.ins hh.aws (by intro e; cases e))]
    exact aw0.ins
   obtain ⟨Z, hZ, eZ⟩ := aw0.draws
   have hZ1 : DrawsZ H1 ra.1.dl Z := ⟨by
    show (upd H L.aw _) ra.1.dl = _
    rw [upd_ne (ne_of hZ.lst hh.aws (by intro e; cases e))]
    exact hZ.lst, fun zz hzz => by
    show (upd H L.aw _) zz.1 = _
    rw [upd_ne (ne_of (hZ.tup zz hzz) hh.aws (by intro e; cases e))]
    exact hZ.tup zz hzz⟩
   let ds := ra.2.draws
   have wds := wf.draws ra.2 ain
   have ids1 : (s1.members.map (·.id)).Nodup := wf.ids
   let F := fun (i : Nat) (m : Member) => giveL st.today m.id (ds.take i) m.lots
   refine ⟨_, rfl, ra.1.a, C.A, ra.1.dx, _, _, rfl, ains, T.clA, T.aD, rfl, ra.1.dl, rfl, ⟨_, SqL.of hZ1.lst⟩, for_list (K := K) (a := ra.1.dl) (xs := Z.map fun z => V.ref z.1)
    (fun i σ H' => ∃ L', Mv C H L H' L' (setLots (F i) s1) /\ DrawsZ H' ra.1.dl Z /\ ∃ v5 v6 v7, σ = [some (.ref L.h), some (natV b), some (.ref ra.1.a), some (natV (backSum st.today (ds.take i))), some (natV (lateSum st.today (ds.take i))), v5, v6, v7])
    ⟨_, (by
     have : setLots (F 0) s1 = s1 := by
      unfold setLots
      show ({ s1 with members := s1.members.map fun m => m } : State) = s1
      rw [List.map_id'']
      intro m; rfl
     rw [this]; exact m1), hZ1, none, none, none, rfl⟩ (fun i σ H' _ ⟨_, _, e, _⟩ => SqL.of e.lst) ?_ ?_⟩
   ·rintro i y σ H5 hi ⟨L5, m5, hZ5, v5, v6, v7, rfl⟩
    obtain ⟨zz, hzz, rfl⟩ := at_map hi
    have hzm := List.mem_of_getElem? hzz
    have hdd : ds[i]? = some zz.2 := by
     have e1 : (Z.map (·.2))[i]? = some zz.2 := by rw [List.getElem?_map, hzz]; rfl
     rw [eZ] at e1
     exact e1
    have din := List.mem_of_getElem? hdd
    obtain ⟨w1, w2, w3⟩ := wds zz.2 din
    have h5 := m5.at_
    have eh5 : L5.h = L.h := m5.hh
    have hh5 : H5 L.h = some (.ins C.H L5.dh (houseF L5 (setLots (F i) s1))) := by rw [<- eh5]; exact h5.house
    refine ⟨zz.1, _, rfl, SqT.of (hZ5.tup zz hzm), rfl, _, _, rfl, _, _, rfl, _, _, rfl, rfl, ?_⟩
    refine ⟨_, rfl, _, rfl, L.h, C.H, L5.dh, _, _, rfl, hh5, T.clH, T.hT, hF_today _ _, _, _, rfl, rfl, _, rfl, ?_⟩
    have ebs : backSum st.today (ds.take (i + 1)) = if zz.2.day < st.today then backSum st.today (ds.take i) else backSum st.today (ds.take i) + zz.2.n := by
     unfold backSum
     rw [filter_take hdd]
     by_cases c : zz.2.day < st.today
     ·rw [if_pos c, decide_eq_true c, if_neg (by simp), List.append_nil]
     ·rw [if_neg c, decide_eq_false c, if_pos (by simp), drawSum_append]
      show _ + (zz.2.n + 0) = _
      rw [Nat.add_zero]
    have els : lateSum st.today (ds.take (i + 1)) = if zz.2.day < st.today then lateSum st.today (ds.take i) + zz.2.n else lateSum st.today (ds.take i) := by
     unfold lateSum
     rw [filter_take hdd]
     by_cases c : zz.2.day < st.today
     ·rw [if_pos c, decide_eq_true c, if_pos rfl, drawSum_append]
      show _ + (zz.2.n + 0) = _
      rw [Nat.add_zero]
     ·rw [if_neg c, decide_eq_false c, if_neg (by simp), List.append_nil]
    by_cases c : zz.2.day < st.today
    ·refine ite2 (fun _ => ?_) (fun z => absurd (decide_eq_true (by show (zz.2.day : Int) < (st.today : Int); omega)) z)
     refine ⟨_, rfl, _, rfl, _, _, rfl, rfl, ?_⟩
     rw [if_pos c] at ebs els
     have ef : setLots (F (i + 1)) s1 = setLots (F i) s1 := by
      refine congrArg (fun z => setLots z s1) (funext fun m => ?_)
      show giveL st.today m.id (ds.take (i + 1)) m.lots = giveL st.today m.id (ds.take i) m.lots
      rw [take_at hdd, giveL_snoc, if_pos c]
     refine ⟨L5, by rw [ef]; exact m5, hZ5, some (natV zz.2.id), some (natV zz.2.day), some (natV zz.2.n), ?_⟩
     rw [ebs, els]
     rfl
    ·refine ite2 (fun z => absurd (of_decide_eq_true z) (by show ¬ (zz.2.day : Int) < (st.today : Int); omega)) (fun _ => ?_)
     rw [if_neg c] at ebs els
     obtain ⟨r5, hr5⟩ : ∃ r5, findM L5 zz.2.id = some r5 := findM_of (by rw [h5.ids, setLots_ids]; exact w3)
     obtain ⟨hr5m, hid5⟩ := findM_some hr5
     have mm5 := h5.member r5 hr5m
     obtain ⟨kk5, hk5, pk5⟩ := mm5.lots
     obtain ⟨m0, hm0, em0⟩ : ∃ m0 ∈ st.members, r5.2 = { m0 with lots := F i m0 } := by
      obtain ⟨m0, hm0, e⟩ := List.mem_map.mp (show r5.2 ∈ s1.members.map fun m => ({ m with lots := F i m } : Member) from findM_in h5 hr5m)
      exact ⟨m0, hm0, e.symm⟩
     have id0 : m0.id = zz.2.id := by rw [<- hid5, em0]
     have el5 : r5.2.lots = giveL st.today m0.id (ds.take i) m0.lots := by rw [em0]
     have tk : ∀ y ∈ ds.take i, y ∈ ds := fun y hy => List.mem_of_mem_take hy
     have srt5 : Srt r5.2.lots := by rw [el5]; exact giveL_srt _ _ _ (wf.srt _ hm0)
     have days5 : ∀ p ∈ r5.2.lots, p.1 ∈ D := by rw [el5]; exact giveL_days _ _ _ (fun y hy => (wds y (tk y hy)).2.1) (wf.days _ hm0)
     have fewk : kk5.length < sizeLine := by
      have e1 := pk5.length_eq
      have e2 := len_days srt5 days5
      exact Nat.lt_of_le_of_lt (by omega : _ <= 1000) (by decide)
     have ids5 : ((setLots (F i) s1).members.map (·.id)).Nodup := by rw [setLots_ids]; exact ids1
     refine ⟨_, rfl, L.h, C.H, L5.dh, _, _, rfl, hh5, T.clH, T.hM, hF_members _ _, _, rfl, L5.am, _, rfl, (by have := h5.get zz.2.id; rw [hr5] at this; exact this), r5.1.a, C.M, r5.1.dx, _, _, rfl, mm5.ins, T.clM, T.mL, mF_lots _, ?_⟩
     refine ⟨_, rfl, _, rfl, r5.1.la, kk5, zz.2.day, zz.2.n, rfl, hk5, (pk5.map _).nodup_iff.mpr srt5.nodup, fewk, ?_⟩
     have m6 := h5.oneLots ids5 hr5m (put_perm (d := zz.2.day) w1 pk5 srt5)
     have es : setLots (lotsOne r5.2.id (put zz.2.day zz.2.n r5.2.lots)) (setLots (F i) s1) = setLots (F (i + 1)) s1 := by
      refine setLots_then (fun m hm e => ?_) (fun m hm e => ?_)
      ·have : m = m0 := mem_unique ids1 hm hm0 (by rw [e, hid5, id0])
       subst this
       show giveL st.today m.id (ds.take (i + 1)) m.lots = _
       rw [take_at hdd, giveL_snoc, if_neg c, if_pos id0.symm, el5]
      ·show giveL st.today m.id (ds.take (i + 1)) m.lots = giveL st.today m.id (ds.take i) m.lots
       rw [take_at hdd, giveL_snoc, if_neg c, if_neg (fun z => e (by rw [hid5]; exact z.symm))]
     rw [es] at m6
     refine ⟨_, rfl, _, rfl, _, _, rfl, rfl, ?_⟩
     refine ⟨_, m5.trans m6, ⟨?_, fun z' hz' => ?_⟩, some (natV zz.2.id), some (natV zz.2.day), some (natV zz.2.n), ?_⟩
     ·rw [upd_ne (ne_of hZ5.lst hk5 (by intro e; cases e))]
      exact hZ5.lst
     ·rw [upd_ne (ne_of (hZ5.tup z' hz') hk5 (by intro e; cases e))]
      exact hZ5.tup z' hz'
     ·rw [ebs, els]
      rfl
   ·rintro σ H5 ⟨L5, m5, hZ5, v5, v6, v7, rfl⟩
    have lZ : (Z.map fun z => V.ref z.1).length = ds.length := by
     have := congrArg List.length eZ
     rw [List.length_map] at this
     rw [List.length_map]
     exact this
    rw [lZ] at m5
    rw [lZ, List.take_length]
    have h5 := m5.at_
    have eh5 : L5.h = L.h := m5.hh
    let s5 : State := setLots (F ds.length) s1
    have hh5 : H5 L.h = some (.ins C.H L5.dh (houseF L5 s5)) := by rw [<- eh5]; exact h5.house
    let s6 : State := { s5 with returned := st.returned + (backSum st.today ds + lateSum st.today ds) }
    let s7 : State := { s6 with runOut := st.runOut + lateSum st.today ds }
    refine ⟨_, rfl, L.h, C.H, L5.dh, _, _, rfl, hh5, T.clH, T.hR, hF_returned _ _, _, rfl, _, rfl, _, _, rfl, rfl, _, _, rfl, rfl, L5.dh, _, hh5, (by show 11 < 1000; decide), ?_⟩
    have m6 : Mv C _ L5 _ L5 s6 := h5.setNum (s' := s6) rfl rfl rfl rfl rfl
    rw [eh5] at m6
    have h6 := m6.at_
    have hh6 : (upd H5 L.h (.ins C.H L5.dh (houseF L5 s6))) L.h = some (.ins C.H L5.dh (houseF L5 s6)) := upd_same
    refine ⟨_, rfl, L.h, C.H, L5.dh, _, _, rfl, hh6, T.clH, T.hO, hF_run_out _ _, _, rfl, _, _, rfl, rfl, L5.dh, _, hh6, (by show 11 < 1000; decide), ?_⟩
    have m7 : Mv C _ L5 _ L5 s7 := h6.setNum (s' := s7) rfl rfl rfl rfl rfl
    rw [eh5] at m7
    have m57 := (m5.trans m6).trans m7
    have es : s7 = Vbahaq.giveBack { st with awards := st.awards.filter fun x => !(x.booking == b), returned := st.returned + drawSum ds, runOut := st.runOut + lateSum st.today ds } ds := by
     rw [giveBack_eq]
     have e1 : ws1.map (·.2) = st.awards.filter fun x => !(x.booking == b) := by
      rw [<- hh.hw, List.filter_map]
      rfl
     have e2 := sums_both st.today ds
     show ({ st with awards := ws1.map (·.2), returned := st.returned + (backSum st.today ds + lateSum st.today ds), runOut := st.runOut + lateSum st.today ds, members := st.members.map fun m => ({ m with lots := giveL st.today m.id (ds.take ds.length) m.lots } : Member) } : State) = _
     rw [e1, List.take_length, <- e2]
     rfl
    have q2 : Answers C H L (s7, Vbahaq.ok [drawSum ds - lateSum st.today ds, lateSum st.today ds]) Q := by
     rw [es]
     exact q'
    refine ⟨_, rfl, _, rfl, (by show 3 <= sizeLine; decide), fun p hp => ?_⟩
    refine q2.lst m57 hp ?_
    have e2 := sums_both st.today ds
    have e3 : drawSum ds - lateSum st.today ds = backSum st.today ds := by omega
    show [V.int 0, natV (backSum st.today ds), natV (lateSum st.today ds)] = (Vbahaq.ok [drawSum ds - lateSum st.today ds, lateSum st.today ds]).map V.int
    rw [e3]
    rfl
end
end Mile
namespace Mile
open Vbahaq
theorem WF.setLots {D D' : List Nat} {s : State} (wf : WF D s) (sub : ∀ d ∈ D, d ∈ D') (f : Member -> Lots) (h1 : ∀ m ∈ s.members, Srt (f m)) (h2 : ∀ m ∈ s.members, PosL (f m)) (h3 : ∀ m ∈ s.members, ∀ p ∈ f m, p.1 ∈ D') : WF D' (Mile.setLots f s) := by
 have ei := setLots_ids f s
 have el : (Mile.setLots f s).members.length = s.members.length := List.length_map ..
 have hm : ∀ m ∈ (Mile.setLots f s).members, ∃ m0 ∈ s.members, m = { m0 with lots := f m0 } := fun m h => by
  obtain ⟨m0, h0, e⟩ := List.mem_map.mp (show m ∈ s.members.map fun m => ({ m with lots := f m } : Member) from h)
  exact ⟨m0, h0, e.symm⟩
 exact
 {ids := by rw [ei]; exact wf.ids
  mlen := by rw [el]; exact wf.mlen
  srt := fun m h => by obtain ⟨m0, h0, rfl⟩ := hm m h; exact h1 m0 h0
  pos := fun m h => by obtain ⟨m0, h0, rfl⟩ := hm m h; exact h2 m0 h0
  days := fun m h => by obtain ⟨m0, h0, rfl⟩ := hm m h; exact h3 m0 h0
  pts := fun m h => by obtain ⟨m0, h0, rfl⟩ := hm m h; exact wf.pts m0 h0
  plen := wf.plen
  pool := fun p hp => by rw [ei]; exact wf.pool p hp
  apart := wf.apart
  bks := wf.bks
  alen := wf.alen
  draws := fun w hw d hd => by rw [ei]; exact ⟨(wf.draws w hw d hd).1, sub _ (wf.draws w hw d hd).2.1, (wf.draws w hw d hd).2.2⟩
  steps := wf.steps
  bonus := wf.bonus
  bonMax := wf.bonMax }
theorem WF.setPts {D : List Nat} {s : State} (wf : WF D s) (f : Member -> List (Nat × Nat)) (h : ∀ m ∈ s.members, (f m).length <= 60) : WF D (Mile.setPts f s) := by
 have ei : (Mile.setPts f s).members.map (·.id) = s.members.map (·.id) := by
  show (s.members.map _).map _ = _
  rw [List.map_map]
  rfl
 have hm : ∀ m ∈ (Mile.setPts f s).members, ∃ m0 ∈ s.members, m = { m0 with points := f m0 } := fun m h => by
  obtain ⟨m0, h0, e⟩ := List.mem_map.mp (show m ∈ s.members.map fun m => ({ m with points := f m } : Member) from h)
  exact ⟨m0, h0, e.symm⟩
 exact
 {ids := by rw [ei]; exact wf.ids
  mlen := by rw [show (Mile.setPts f s).members.length = s.members.length from List.length_map ..]; exact wf.mlen
  srt := fun m h => by obtain ⟨m0, h0, rfl⟩ := hm m h; exact wf.srt m0 h0
  pos := fun m h => by obtain ⟨m0, h0, rfl⟩ := hm m h; exact wf.pos m0 h0
  days := fun m h => by obtain ⟨m0, h0, rfl⟩ := hm m h; exact wf.days m0 h0
  pts := fun m hh => by obtain ⟨m0, h0, rfl⟩ := hm m hh; exact h m0 h0
  plen := wf.plen
  pool := fun p hp => by rw [ei]; exact wf.pool p hp
  apart := wf.apart
  bks := wf.bks
  alen := wf.alen
  draws := fun w hw d hd => by rw [ei]; exact wf.draws w hw d hd
  steps := wf.steps
  bonus := wf.bonus
  bonMax := wf.bonMax }
theorem nd_snocN {l : List Nat} {k : Nat} (h : l.Nodup) (hk : k ∉ l) : (l ++ [k]).Nodup := L2.nd_snoc h hk
def CallOk : Call -> Prop
 | .rules r => r.bonus.length = 4 /\ r.steps.length = 3 /\ ∀ b ∈ r.bonus, b <= 300
 | .earn _ m _ => 1 <= m /\ m <= 1000000
 | .pool ids => ids.length <= 6
 | _ => True
theorem lotsOne_all {s : State} (nd : (s.members.map (·.id)).Nodup) {m : Member} (hm : m ∈ s.members) {l : Lots} {R : Lots -> Prop} (h : ∀ m ∈ s.members, R m.lots) (hl : R l) : ∀ x ∈ s.members, R (lotsOne m.id l x) := fun x hx => by
 unfold lotsOne
 split
 ·exact hl
 ·exact h x hx
theorem WF.step {D : List Nat} {s : State} {c : Call} (wf : WF D s) (hc : CallOk c) : ∃ D', D'.length <= D.length + 1 /\ WF D' (Vbahaq.step s c).1 := by
 have same : ∃ D', D'.length <= D.length + 1 /\ WF D' s := ⟨D, Nat.le_succ _, wf⟩
 cases c with
 | rules r =>
  unfold Vbahaq.step
  dsimp only
  split
  ·exact same
  ·exact ⟨D, Nat.le_succ _, { wf with steps := hc.2.1, bonus := hc.1, bonMax := hc.2.2 }⟩
 | join id =>
  unfold Vbahaq.step
  dsimp only
  split
  ·exact same
  ·split
   ·exact same
   ·rename_i h1 h2
    have hn : id ∉ s.members.map (·.id) := fun m => h1 (by
     obtain ⟨x, hx, e⟩ := List.mem_map.mp m
     cases q : memberOf s id with
     | some y => rfl
     | none =>
      unfold memberOf at q
      have := List.find?_eq_none.mp q x hx
      simp [e] at this)
    have sub : ∀ k, k ∈ s.members.map (·.id) -> k ∈ (s.members ++ [({ id := id, lots := [], points := [] } : Member)]).map (·.id) := fun k h => by rw [List.map_append]; exact List.mem_append_left _ h
    refine ⟨D, Nat.le_succ _, ?_⟩
    exact
    {wf with
     ids := by
      rw [List.map_append]
      exact nd_snocN wf.ids hn
     mlen := by
      rw [List.length_append]
      have : ¬ 30 <= s.members.length := h2
      show s.members.length + 1 <= 30
      omega
     srt := fun m h => by
      rcases List.mem_append.mp h with h | h
      ·exact wf.srt m h
      ·rw [List.mem_singleton.mp h]; exact List.Pairwise.nil
     pos := fun m h => by
      rcases List.mem_append.mp h with h | h
      ·exact wf.pos m h
      ·rw [List.mem_singleton.mp h]; intro p hp; cases hp
     days := fun m h => by
      rcases List.mem_append.mp h with h | h
      ·exact wf.days m h
      ·rw [List.mem_singleton.mp h]; intro p hp; cases hp
     pts := fun m h => by
      rcases List.mem_append.mp h with h | h
      ·exact wf.pts m h
      ·rw [List.mem_singleton.mp h]; exact Nat.zero_le _
     pool := fun p hp => ⟨(wf.pool p hp).1, fun k hk => sub k ((wf.pool p hp).2.1 k hk), (wf.pool p hp).2.2⟩
     draws := fun w hw d hd => ⟨(wf.draws w hw d hd).1, (wf.draws w hw d hd).2.1, sub _ (wf.draws w hw d hd).2.2⟩ }
 | earn id miles points =>
  unfold Vbahaq.step onMember
  dsimp only
  cases q : memberOf s id with
  | none => exact same
  | some m =>
   dsimp only
   split
   ·exact same
   ·rename_i hfull
    obtain ⟨hm, hid⟩ := memberOf_mem q
    have cpos : 0 < credited s m miles := cred_pos hc.1
    let day := min (s.today + s.rules.life) LASTDAY
    have w1 : WF (day :: D) (Mile.setLots (lotsOne m.id (put day (credited s m miles) m.lots)) s) := wf.setLots (fun d hd => List.mem_cons_of_mem _ hd) _
     (lotsOne_all wf.ids hm wf.srt (put_srt (wf.srt m hm))) (lotsOne_all wf.ids hm wf.pos (put_pos cpos (wf.pos m hm)))
     (lotsOne_all (R := fun l => ∀ p ∈ l, p.1 ∈ day :: D) wf.ids hm (fun x hx p hp => List.mem_cons_of_mem _ (wf.days x hx p hp)) (fun p hp => by
      rcases put_keys p hp with e | e
      ·rw [e]; exact List.mem_cons_self
      ·obtain ⟨p0, hp0, e⟩ := List.mem_map.mp e
       rw [<- e]; exact List.mem_cons_of_mem _ (wf.days m hm p0 hp0)))
    have w2 : WF (day :: D) ({ Mile.setLots (lotsOne m.id (put day (credited s m miles) m.lots)) s with earned := s.earned + credited s m miles } : State) := { w1 with }
    refine ⟨day :: D, Nat.le_refl _, ?_⟩
    by_cases p0 : points = 0
    ·rw [if_pos p0]
     have := earn_eq0 wf.ids hm (put day (credited s m miles) m.lots) (s.earned + credited s m miles)
     rw [<- this]
     exact w2
    ·rw [if_neg p0]
     have := earn_eq wf.ids hm (put day (credited s m miles) m.lots) (s.earned + credited s m miles) (s.today, points)
     rw [<- this]
     refine w2.setPts _ fun x hx => ?_
     unfold ptsOne
     have hx60 := w2.pts x hx
     split
     ·rename_i e
      have lt : m.points.length < 60 := by
       have : ¬ (0 < points /\ 60 <= m.points.length) := hfull
       omega
      obtain ⟨x0, hx0, ex⟩ := List.mem_map.mp (show x ∈ s.members.map fun m0 => ({ m0 with lots := lotsOne m.id (put day (credited s m miles) m.lots) m0 } : Member) from hx)
      have eid : x0.id = m.id := by rw [<- e, <- ex]
      have : x0 = m := mem_unique wf.ids hx0 hm eid
      rw [<- ex, this, List.length_append]
      show m.points.length + 1 <= 60
      omega
     ·exact hx60
 | award id booking cost =>
  unfold Vbahaq.step onMember
  dsimp only
  cases q : memberOf s id with
  | none => exact same
  | some m =>
   dsimp only
   split
   ·exact same
   ·rename_i h1
    split
    ·exact same
    ·split
     ·exact same
     ·rename_i h2 h3
      obtain ⟨hm, hid⟩ := memberOf_mem q
      have kin : id ∈ s.members.map (·.id) := by rw [<- hid]; exact List.mem_map.mpr ⟨m, hm, rfl⟩
      obtain ⟨_, _, hn3⟩ := wf.hand kin
      refine ⟨D, Nat.le_succ _, ?_⟩
      dsimp only
      rw [pay_eq]
      have hds : ∀ d ∈ drawn cost (handLots s id), 0 < d.n /\ d.day ∈ D /\ d.id ∈ s.members.map (·.id) := fun d hd => by
       obtain ⟨n, hmem, _, hp⟩ := drawn_mem hd
       have hmem' := (sortL_perm _).mem_iff.mp hmem
       obtain ⟨k, hk, ht⟩ := List.mem_flatMap.mp hmem'
       obtain ⟨x, hx, e⟩ := List.mem_map.mp ht
       have kin2 := hn3 k hk
       obtain ⟨mk, hmk, emk⟩ := List.mem_map.mp kin2
       have hlo : lotsOf s k = mk.lots := by rw [<- emk]; exact lotsOf_mem wf.ids hmk
       rw [hlo] at hx
       have e1 : x.1 = d.day := congrArg (·.1) e
       have e2 : k = d.id := congrArg (·.2.1) e
       have e3 : x.2 = n := congrArg (·.2.2) e
       exact ⟨hp (by rw [<- e3]; exact wf.pos mk hmk x hx), by rw [<- e1]; exact wf.days mk hmk x hx, by rw [<- e2]; exact kin2⟩
      have w1 : WF D ({ s with awards := s.awards ++ [{ booking := booking, id := id, draws := drawn cost (handLots s id) }], spent := s.spent + cost } : State) :=
      {wf with
       bks := by
        rw [List.map_append]
        refine nd_snocN wf.bks fun mb => h1 ?_
        obtain ⟨w, hw, e⟩ := List.mem_map.mp mb
        exact List.any_eq_true.mpr ⟨w, hw, by rw [e]; simp⟩
       alen := by
        rw [List.length_append]
        have : ¬ 100 <= s.awards.length := h3
        show s.awards.length + 1 <= 100
        omega
       draws := fun w hw d hd => by
        rcases List.mem_append.mp hw with hw | hw
        ·exact wf.draws w hw d hd
        ·rw [List.mem_singleton.mp hw] at hd
         exact hds d hd }
      exact w1.setLots (fun _ h => h) _ (fun x hx => payL_srt _ _ (wf.srt x hx)) (fun x hx => payL_pos _ _ (wf.pos x hx)) (fun x hx p hp => by
       obtain ⟨p0, hp0, e⟩ := List.mem_map.mp (payL_keys _ _ p hp)
       rw [<- e]; exact wf.days x hx p0 hp0)
 | cancel booking =>
  unfold Vbahaq.step
  dsimp only
  cases q : s.awards.find? fun a => a.booking == booking with
  | none => exact same
  | some a =>
   dsimp only
   have ha := List.mem_of_find?_eq_some q
   refine ⟨D, Nat.le_succ _, ?_⟩
   rw [giveBack_eq]
   have wd := wf.draws a ha
   have w1 : WF D ({ s with awards := s.awards.filter fun x => !(x.booking == booking), returned := s.returned + drawSum a.draws, runOut := s.runOut + drawSum (a.draws.filter fun d => decide (d.day < s.today)) } : State) :=
   {wf with
    bks := List.Sublist.nodup (List.filter_sublist.map _) wf.bks
    alen := Nat.le_trans (List.length_filter_le _ _) wf.alen
    draws := fun w hw d hd => wf.draws w (List.mem_filter.mp hw).1 d hd }
   exact w1.setLots (fun _ h => h) _ (fun x hx => giveL_srt _ _ _ (wf.srt x hx)) (fun x hx => giveL_pos _ _ _ (fun d hd => (wd d hd).1) (wf.pos x hx)) (fun x hx => giveL_days _ _ _ (fun d hd => (wd d hd).2.1) (wf.days x hx))
 | pool ids =>
  unfold Vbahaq.step
  dsimp only
  split
  ·exact same
  ·rename_i h1
   split
   ·exact same
   ·rename_i h2
    split
    ·exact same
    ·rename_i h3
     refine ⟨D, Nat.le_succ _, ?_⟩
     have hd : ids.Nodup := (distinct_iff ids).mp (eq_true_of_ne_false fun e => h2 (.inl e))
     have hmem : ∀ k ∈ ids, k ∈ s.members.map (·.id) := fun k hk => by
      have := List.all_eq_true.mp (eq_true_of_ne_false h1) k hk
      cases q : memberOf s k with
      | none => rw [q] at this; cases this
      | some m => exact List.mem_map.mpr ⟨m, (memberOf_mem q).1, (memberOf_mem q).2⟩
     have hno : ∀ p ∈ s.pools, ∀ k ∈ p, k ∉ ids := fun p hp k hk hki => h2 (.inr (List.any_eq_true.mpr ⟨k, hki, by
      cases q : poolOf s k with
      | some _ => rfl
      | none =>
       unfold poolOf at q
       have := List.find?_eq_none.mp q p hp
       simp [hk] at this⟩))
     exact
     {wf with
      plen := by
       rw [List.length_append]
       have : ¬ 8 <= s.pools.length := h3
       show s.pools.length + 1 <= 8
       omega
      pool := fun p hp => by
       rcases List.mem_append.mp hp with hp | hp
       ·exact wf.pool p hp
       ·rw [List.mem_singleton.mp hp]
        exact ⟨hd, hmem, hc⟩
      apart := List.pairwise_append.mpr ⟨wf.apart, List.pairwise_singleton _ _, fun p hp q hq => by
       rw [List.mem_singleton.mp hq]
       exact hno p hp⟩ }
 | unpool id =>
  unfold Vbahaq.step
  dsimp only
  split
  ·exact same
  ·exact ⟨D, Nat.le_succ _, { wf with
    plen := Nat.le_trans (List.length_filter_le _ _) wf.plen
    pool := fun p hp => wf.pool p (List.mem_filter.mp hp).1
    apart := wf.apart.sublist List.filter_sublist }⟩
 | give id to_ n =>
  unfold Vbahaq.step onMember
  dsimp only
  cases q : memberOf s id with
  | none => exact same
  | some m =>
   dsimp only
   cases q2 : memberOf s to_ with
   | none => exact same
   | some m2 =>
    dsimp only
    split
    ·exact same
    ·rename_i hne
     split
     ·exact same
     ·obtain ⟨hm, hid⟩ := memberOf_mem q
      obtain ⟨hm2, hid2⟩ := memberOf_mem q2
      refine ⟨D, Nat.le_succ _, ?_⟩
      dsimp only
      have e1 : withLots s id (fun _ => (oldest n m.lots).2) = Mile.setLots (lotsOne m.id (oldest n m.lots).2) s := by rw [<- hid, withLots_one wf.ids hm]
      have epay := pay_oldest m.id m.lots n
      have w1 : WF D (Mile.setLots (lotsOne m.id (oldest n m.lots).2) s) := wf.setLots (fun _ h => h) _
       (lotsOne_all wf.ids hm wf.srt (by rw [<- epay]; exact payL_srt _ _ (wf.srt m hm))) (lotsOne_all wf.ids hm wf.pos (by rw [<- epay]; exact payL_pos _ _ (wf.pos m hm)))
       (lotsOne_all (R := fun l => ∀ p ∈ l, p.1 ∈ D) wf.ids hm wf.days (fun p hp => by
        rw [<- epay] at hp
        obtain ⟨p0, hp0, e⟩ := List.mem_map.mp (payL_keys _ _ p hp)
        rw [<- e]; exact wf.days m hm p0 hp0))
      have q3 := memberOf_set (f := lotsOne m.id (oldest n m.lots).2) q2
      have e0 : lotsOne m.id (oldest n m.lots).2 m2 = m2.lots := by
       unfold lotsOne
       rw [if_neg (by rw [hid2, hid]; exact fun e => hne e.symm)]
      rw [e0] at q3
      obtain ⟨hm3, hid3⟩ := memberOf_mem q3
      rw [e1]
      have e2 := withLots_one w1.ids hm3 fun l => (oldest n m.lots).1.foldl (fun l y => put y.1 y.2 l) l
      have e3 : ({ m2 with lots := m2.lots } : Member).id = to_ := hid3
      rw [e3] at e2
      rw [e2]
      have yd : ∀ y ∈ (oldest n m.lots).1, y.1 ∈ D := fun y hy => by
       obtain ⟨x, hx, e⟩ := List.mem_map.mp (oldest_mem m.lots n y hy).1
       rw [<- e]; exact wf.days m hm x hx
      have yp : ∀ y ∈ (oldest n m.lots).1, 0 < y.2 := fun y hy => (oldest_mem m.lots n y hy).2 (wf.pos m hm)
      have := lotsOne_all (s := Mile.setLots (lotsOne m.id (oldest n m.lots).2) s) w1.ids hm3 (l := putAll (oldest n m.lots).1 m2.lots) (R := Srt) w1.srt (putAll_srt _ (wf.srt m2 hm2))
      rw [hid3] at this
      have t2 := lotsOne_all (s := Mile.setLots (lotsOne m.id (oldest n m.lots).2) s) w1.ids hm3 (l := putAll (oldest n m.lots).1 m2.lots) (R := PosL) w1.pos (putAll_pos _ yp (wf.pos m2 hm2))
      rw [hid3] at t2
      have t3 := lotsOne_all (s := Mile.setLots (lotsOne m.id (oldest n m.lots).2) s) w1.ids hm3 (l := putAll (oldest n m.lots).1 m2.lots) (R := fun l => ∀ p ∈ l, p.1 ∈ D) w1.days (putAll_days _ yd (wf.days m2 hm2))
      rw [hid3] at t3
      exact w1.setLots (fun _ h => h) _ this t2 t3
 | clock day =>
  unfold Vbahaq.step
  dsimp only
  split
  ·exact same
  ·refine ⟨D, Nat.le_succ _, ?_⟩
   have w1 := wf.setLots (fun _ h => h) (fun m => fresh day m.lots) (fun m hm => (wf.srt m hm).sublist List.filter_sublist) (fun m hm p hp => wf.pos m hm p (List.mem_filter.mp hp).1) (fun m hm p hp => wf.days m hm p (List.mem_filter.mp hp).1)
   have w2 := w1.setPts (fun m => m.points.filter fun p => decide (day < p.1 + 365)) (fun m hm => Nat.le_trans (List.length_filter_le _ _) (w1.pts m hm))
   have e : (Mile.setPts (fun m => m.points.filter fun p => decide (day < p.1 + 365)) (Mile.setLots (fun m => fresh day m.lots) s)).members = s.members.map fun m => ({ m with lots := fresh day m.lots, points := m.points.filter fun p => decide (day < p.1 + 365) } : Member) := by
    show (s.members.map _).map _ = _
    rw [List.map_map]
    rfl
   have w3 : WF D ({ Mile.setPts (fun m => m.points.filter fun p => decide (day < p.1 + 365)) (Mile.setLots (fun m => fresh day m.lots) s) with today := day, runOut := s.runOut + ((((s.members.filter fun m => decide (0 < stale day m.lots)).map fun m => (m.id, stale day m.lots)).map fun x => x.2).sum) } : State) := { w2 with }
   have e2 : ({ Mile.setPts (fun m => m.points.filter fun p => decide (day < p.1 + 365)) (Mile.setLots (fun m => fresh day m.lots) s) with today := day, runOut := s.runOut + ((((s.members.filter fun m => decide (0 < stale day m.lots)).map fun m => (m.id, stale day m.lots)).map fun x => x.2).sum) } : State) =
     {s with today := day, runOut := s.runOut + ((((s.members.filter fun m => decide (0 < stale day m.lots)).map fun m => (m.id, stale day m.lots)).map fun x => x.2).sum), members := s.members.map fun m => ({ m with lots := fresh day m.lots, points := m.points.filter fun p => decide (day < p.1 + 365) } : Member) } := by
    dsimp only
    rw [e]
    rfl
   rw [e2] at w3
   exact w3
 | lots id =>
  unfold Vbahaq.step onMember
  dsimp only
  split <;> exact same
 | tier id =>
  unfold Vbahaq.step onMember
  dsimp only
  split <;> exact same
 | hand id =>
  unfold Vbahaq.step onMember
  dsimp only
  split <;> exact same
 | forecast id day =>
  unfold Vbahaq.step onMember
  dsimp only
  split <;> exact same
 | plan id l =>
  unfold Vbahaq.step onMember
  dsimp only
  split
  ·exact same
  ·split <;> exact same
 | totals => exact same
 | awards => exact same
end Mile
namespace Mile
open PySem PySem.Spec PyProof.Rows L2
section
variable {prog : Program} {w : World} {A : Around} {E : Value -> Shared -> Prop} {s : Shared}
theorem next_tup {it t : Addr} {k : Nat} {ys : Array Value} {y : Value} {Q : Value -> Shared -> Prop} (hi : s.heap.IsTupleIter it t k) (ht : s.heap.IsTuple t ys) (hy : ys[k]? = some y)
  (fin : ∀ h', h'.IsTupleIter it t (k + 1) -> Heap.SameBut it s.heap h' -> Q y { s with heap := h' }) : wpAny (model prog w) A (Builtin.SmallTypes.nextOf (.ref it)) Q E s := by
 obtain ⟨ob, ho, hcl, hda⟩ := id hi
 obtain ⟨ot, hot, _, nt, hdt⟩ := ht
 have ty := hi.typeIs
 unfold Builtin.SmallTypes.nextOf
 refine wpAny_bind (wpAny_callSpecial?_slot (name := Str.ofString "__next__") ty F.slot_tuple_iterator_next (wpAny_call_entry F.slot_tuple_iterator_next ty F.entry_tuple_iterator_next ?_ (F.args_tuple_iterator_next_1 _)))
 show wpAny _ _ (field (.ref it) 0 >>= _) _ _ _
 refine wpAny_bind (wpAny_field ho hda (x := .ref t) rfl ?_)
 have ne : ¬ (Value.ref t == Value.none) = true := Bool.false_ne_true
 show wpAny _ _ (if (Value.ref t == Value.none) = true then _ else _) _ _ _
 rw [if_neg ne]
 show wpAny _ _ (field (.ref it) 1 >>= _) _ _ _
 refine wpAny_bind (wpAny_field ho hda (x := .int k 0) rfl ?_)
 show wpAny _ _ (seqItems? (.ref t) >>= _) _ _ _
 refine wpAny_bind (wpAny_seqItems hot hdt ?_)
 simp only [Int.toNat_natCast, hy]
 refine wpAny_bind (wpAny_setField ho hda (by simp) (wpAny_pure ⟨y, rfl, wpAny_pure (fin _ ⟨_, Heap.get?_update_self _ ho (Obj.isFreed_of_fields (Obj.data_mapFields hda _)), (Obj.cls_mapFields ..).trans hcl, ?_⟩ (Heap.SameBut.update ..))⟩))
 rw [Obj.data_mapFields hda]
 simp [rawInt]
theorem zipT_item {z TI TO i1 i2 l t : Addr} {k : Nat} {xs ys : Array Value} {x y a b : Value} {Q : Value -> Shared -> Prop} (D : ZipApart z TI TO i1 i2 l t)
  (hz : IsZip s.heap z TI TO .none) (hTI : IsPair s.heap TI (.ref i1) (.ref i2)) (hTO : IsPair s.heap TO a b) (h1 : s.heap.IsListIter i1 l k) (h2 : s.heap.IsTupleIter i2 t k) (hl : s.heap.IsList l xs) (ht : s.heap.IsTuple t ys) (hx : xs[k]? = some x) (hy : ys[k]? = some y)
  (fin : ∀ h', IsZip h' z TI TO (rawInt s.heap.objs.size) -> IsPair h' TO x y -> h'.IsListIter i1 l (k + 1) -> h'.IsTupleIter i2 t (k + 1) -> IsPair h' s.heap.objs.size x y ->
   (∀ c o, c ≠ z -> c ≠ TO -> c ≠ i1 -> c ≠ i2 -> s.heap.get? c = some o -> h'.get? c = some o) -> Q (.ref s.heap.objs.size) { s with heap := h' }) :
  wpAny (model prog w) A (Builtin.«zip.__next__» ⟨[.ref z], []⟩) (fun r s' => ∃ v, r = .done (.ret v) /\ Q v s') E s := by
 show wpAny _ _ (field (.ref z) 2 >>= _) _ _ _
 refine wpAny_bind (wpAny_field hz rfl (x := .bool false) rfl ?_)
 show wpAny _ _ (field (.ref z) 3 >>= _) _ _ _
 refine wpAny_bind (wpAny_field hz rfl (x := .ref TI) rfl (wpAny_bind (wpAny_seqItems hTI rfl ?_)))
 show wpAny _ _ (Builtin.SmallTypes.ownedTupleIsFree (.ref z) >>= _) _ _ _
 refine wpAny_bind ?_
 unfold Builtin.SmallTypes.ownedTupleIsFree
 refine wpAny_bind (wpAny_field hz rfl (x := .none) rfl (wpAny_pure ?_))
 simp only [if_true]
 refine wpAny_bind (wpAny_rule (wpAny_bind (wpAny_field hz rfl (x := .ref TO) rfl (wpAny_bind (wpAny_setField_rec hz (by simp) fun ha hza ca => ?_)))))
 replace hza : IsZip ha z TI TO .ellipsis := hza
 have ka := ca.extBut
 refine wpAny_bind ?_
 simp only [List.zipIdx_cons, List.zipIdx_nil, List.forIn_cons, List.forIn_nil]
 refine wpAny_bind (wpAny_bind (wpAny_onRaise ?_))
 show wpAny _ _ (Builtin.SmallTypes.nextOf (.ref i1) >>= _) _ _ _
 refine wpAny_bind (wpAny_nextOf_list_item (h1.extBut ka D.i1z) (hl.extBut ka D.l1z) hx fun hb h1b cb => wpAny_pure ?_)
 have kb := cb.extBut
 have tob : IsPair hb TO a b := kb _ _ D.TOi1 (ka _ _ D.TOz hTO)
 refine wpAny_bind (wpAny_seqItems tob rfl (wpAny_bind (wpAny_updateSeq_pair tob fun hc toc cc => ?_)))
 replace toc : IsPair hc TO x b := toc
 have kc := cc.extBut
 refine wpAny_bind (wpAny_letGo (wpAny_pure (wpAny_bind (wpAny_bind (wpAny_onRaise ?_)))))
 show wpAny _ _ (Builtin.SmallTypes.nextOf (.ref i2) >>= _) _ _ _
 have h2c := ((h2.extBut ka D.i2z).extBut kb D.i12.symm).extBut kc D.TOi2.symm
 have htc := ((ht.extBut ka D.l2z).extBut kb D.l2i1).extBut kc D.l2TO
 refine wpAny_bind (next_tup h2c htc hy fun hd h2d cd => wpAny_pure ?_)
 have kd := cd.extBut
 have tod : IsPair hd TO x b := kd _ _ D.TOi2 toc
 refine wpAny_bind (wpAny_seqItems tod rfl (wpAny_bind (wpAny_updateSeq_pair tod fun he toe ce => ?_)))
 replace toe : IsPair he TO x y := toe
 have ke := ce.extBut
 refine wpAny_bind (wpAny_letGo (wpAny_pure (wpAny_pure (wpAny_bind (wpAny_seqItems toe rfl (wpAny_bind (wpAny_newTuple ?_)))))))
 have sz : he.objs.size = s.heap.objs.size := by rw [ce.1, cd.1, cc.1, cb.1, ca.1]
 have ze : IsZip he z TI TO .ellipsis := ke _ _ D.TOz.symm (kd _ _ D.i2z.symm (kc _ _ D.TOz.symm (kb _ _ D.i1z.symm hza)))
 have all : ∀ c o, c ≠ z -> c ≠ TO -> c ≠ i1 -> c ≠ i2 -> s.heap.get? c = some o -> he.get? c = some o := fun c o c1 c2 c3 c4 e => ke _ _ c2 (kd _ _ c4 (kc _ _ c2 (kb _ _ c3 (ka _ _ c1 e))))
 have l1e : he.IsListIter i1 l (k + 1) := ((h1b.extBut kc D.TOi1.symm).extBut kd D.i12).extBut ke D.TOi1.symm
 have l2e : he.IsTupleIter i2 t (k + 1) := h2d.extBut ke D.TOi2.symm
 have zlt : z < he.objs.size := Heap.lt_size ze
 show wpAny _ _ (Builtin.SmallTypes.ownedTupleHandOut (.ref z) (.ref he.objs.size) >>= _) _ _ _
 refine wpAny_bind ?_
 unfold Builtin.SmallTypes.ownedTupleHandOut
 have zf : IsZip (he.push { cls := .type "tuple", data := .seq #[x, y] }) z TI TO .ellipsis := Heap.get?_push_of_some _ ze
 refine wpAny_bind (wpAny_setField_rec zf (by simp) fun hg zg cg => ?_)
 replace zg : IsZip hg z TI TO (rawInt he.objs.size) := zg
 refine wpAny_setField_rec zg (by simp) fun hk zk ck => ?_
 replace zk : IsZip hk z TI TO (rawInt he.objs.size) := zk
 have up : ∀ c o, c ≠ z -> he.get? c = some o -> hk.get? c = some o := fun c o c1 e => ck.extBut _ _ c1 (cg.extBut _ _ c1 (Heap.get?_push_of_some _ e))
 have pk : IsPair hk he.objs.size x y := ck.extBut _ _ (Nat.ne_of_gt zlt) (cg.extBut _ _ (Nat.ne_of_gt zlt) (Heap.get?_push_size _ rfl))
 rw [sz] at zk pk
 refine wpAny_pure ⟨_, rfl, ?_⟩
 show Q (.ref he.objs.size) _
 rw [sz]
 refine fin hk zk (up _ _ D.TOz toe) (l1e.at fun o e => up _ o D.i1z e) ?_ pk fun c o c1 c2 c3 c4 e => up c o c1 (all c o c1 c2 c3 c4 e)
 obtain ⟨o2, e2, r2⟩ := l2e
 exact ⟨o2, up _ _ D.i2z e2, r2⟩
theorem zipT_end {z TI TO i1 i2 l t : Addr} {k : Nat} {xs : Array Value} {a b : Value} {Q : Fin -> Shared -> Prop} (hh : A.handled = none) (D : ZipApart z TI TO i1 i2 l t)
  (hz : IsZip s.heap z TI TO .none) (hTI : IsPair s.heap TI (.ref i1) (.ref i2)) (hTO : IsPair s.heap TO a b) (h1 : s.heap.IsListIter i1 l k) (hl : s.heap.IsList l xs) (hx : xs[k]? = none)
  (fin : ∀ h' e, (∀ c o, c ≠ z -> c ≠ TO -> c ≠ i1 -> c ≠ i2 -> s.heap.get? c = some o -> h'.get? c = some o) -> (∃ o, h'.get? e = some o /\ o.cls = .type "StopIteration") -> E (.ref e) { s with heap := h' }) :
  wpAny (model prog w) A (Builtin.«zip.__next__» ⟨[.ref z], []⟩) Q E s := by
 show wpAny _ _ (field (.ref z) 2 >>= _) _ _ _
 refine wpAny_bind (wpAny_field hz rfl (x := .bool false) rfl ?_)
 show wpAny _ _ (field (.ref z) 3 >>= _) _ _ _
 refine wpAny_bind (wpAny_field hz rfl (x := .ref TI) rfl (wpAny_bind (wpAny_seqItems hTI rfl ?_)))
 show wpAny _ _ (Builtin.SmallTypes.ownedTupleIsFree (.ref z) >>= _) _ _ _
 refine wpAny_bind ?_
 unfold Builtin.SmallTypes.ownedTupleIsFree
 refine wpAny_bind (wpAny_field hz rfl (x := .none) rfl (wpAny_pure ?_))
 simp only [if_true]
 refine wpAny_bind (wpAny_rule (wpAny_bind (wpAny_field hz rfl (x := .ref TO) rfl (wpAny_bind (wpAny_setField_rec hz (by simp) fun ha hza ca => ?_)))))
 replace hza : IsZip ha z TI TO .ellipsis := hza
 have ka := ca.extBut
 refine wpAny_bind ?_
 simp only [List.zipIdx_cons, List.zipIdx_nil, List.forIn_cons, List.forIn_nil]
 refine wpAny_bind (wpAny_bind (wpAny_onRaise ?_))
 show wpAny _ _ (Builtin.SmallTypes.nextOf (.ref i1) >>= _) _ _ _
 refine wpAny_bind (wpAny_nextOf_list_end hh (h1.extBut ka D.i1z) (hl.extBut ka D.l1z) hx fun hb e cb he => ?_)
 obtain ⟨oe, hoe, hce⟩ := he
 have zb : IsZip hb z TI TO .ellipsis := cb _ _ D.i1z.symm hza
 have ez : e ≠ z := fun q => by
  subst q
  rw [zb] at hoe
  cases hoe
  simp at hce
 exact wpAny_setField_rec zb (by simp) fun hc _ cc => fin hc e (fun c o c1 _ c3 _ q => cc.extBut _ _ c1 (cb _ _ c3 (ka _ _ c1 q))) ⟨oe, cc.extBut _ _ ez hoe, hce⟩
end
def zT1 (h : Heap) (l : Addr) : Heap := h.push { cls := .type "list_iterator", data := .fields #[.ref l, .int 0 0] }
def zT2 (h : Heap) (l t : Addr) : Heap := (zT1 h l).push { cls := .type "tuple_iterator", data := .fields #[.ref t, .int 0 0] }
def zT3 (h : Heap) (l t : Addr) : Heap := (zT2 h l t).push { cls := .type "tuple", data := .seq #[.ref h.objs.size, .ref (zT1 h l).objs.size] }
def zT4 (h : Heap) (l t : Addr) : Heap := (zT3 h l t).push { cls := .type "tuple", data := .seq #[.none, .none] }
def zT5 (h : Heap) (l t : Addr) : Heap := (zT4 h l t).push { cls := .type "zip", data := .fields #[.none, .bool false, .bool false, .ref (zT2 h l t).objs.size, .ref (zT3 h l t).objs.size] }
theorem meets_zipT (l t : Addr) (xs ys : Array Value) : Meets (Builtin.«zip.__new__» ⟨[.type "zip", .ref l, .ref t], []⟩) (fun _ R s => s.heap.IsList l xs /\ s.heap.IsTuple t ys /\ R (.ok (.ret (.ref (zT4 s.heap l t).objs.size))) { s with heap := zT5 s.heap l t }) :=
 .of_wp fun P0 w0 A0 R0 s0 hyp => by
  obtain ⟨a1, a2, a3, a4, a5⟩ := s0
  obtain ⟨e1, e2, fin⟩ := hyp
  have sz := sub_zip
  have L1 : Heap.IsList (Shared.heap ⟨a1, a2, a3, a4, a5⟩) l xs := e1
  have L2 : Heap.IsTuple (Shared.heap ⟨a1.push { cls := .type "list_iterator", data := .fields #[.ref l, .int 0 0] }, a2, a3, a4, a5⟩) t ys := Heap.IsTuple.push e2 _
  wp_walk using wpAny_pyIter_list L1, wpAny_pyIter_tuple L2
  exact ⟨_, rfl, fin⟩
theorem call_zipT {prog : Program} {w : World} {A : Around} {E : Value -> Shared -> Prop} {s : Shared} {l t : Addr} {xs ys : Array Value} {Q : Value -> Shared -> Prop} (hl : s.heap.IsList l xs) (ht : s.heap.IsTuple t ys)
  (fin : ∀ h', IsZip h' (s.heap.objs.size + 4) (s.heap.objs.size + 2) (s.heap.objs.size + 3) .none -> IsPair h' (s.heap.objs.size + 2) (.ref s.heap.objs.size) (.ref (s.heap.objs.size + 1)) ->
   IsPair h' (s.heap.objs.size + 3) .none .none -> h'.IsListIter s.heap.objs.size l 0 -> h'.IsTupleIter (s.heap.objs.size + 1) t 0 -> (∀ c o, s.heap.get? c = some o -> h'.get? c = some o) -> Q (.ref (s.heap.objs.size + 4)) { s with heap := h' }) :
  wpAny (model prog w) A (call (.type "zip") [.ref l, .ref t]) Q E s := by
 refine callType_new F.called_zip (by decide) (F.typeCall_zip_2 _ _) (F.newCall_zip_2 _ _) (fun obj => F.args_object_init_3 obj _ _) F.entry_zip_new (meets_zipT l t xs ys) ⟨hl, ht, ?_⟩
 have q1 : (zT1 s.heap l).objs.size = s.heap.objs.size + 1 := Heap.size_push ..
 have q2 : (zT2 s.heap l t).objs.size = s.heap.objs.size + 2 := by unfold zT2; rw [Heap.size_push, q1]
 have q3 : (zT3 s.heap l t).objs.size = s.heap.objs.size + 3 := by unfold zT3; rw [Heap.size_push, q2]
 have q4 : (zT4 s.heap l t).objs.size = s.heap.objs.size + 4 := by unfold zT4; rw [Heap.size_push, q3]
 have r5 : (zT5 s.heap l t).get? (zT4 s.heap l t).objs.size = some { cls := .type "zip", data := .fields #[.none, .bool false, .bool false, .ref (zT2 s.heap l t).objs.size, .ref (zT3 s.heap l t).objs.size] } := Heap.get?_push_size _ rfl
 have r4 : (zT5 s.heap l t).get? (zT3 s.heap l t).objs.size = some { cls := .type "tuple", data := .seq #[.none, .none] } := Heap.get?_push_of_some _ (Heap.get?_push_size _ rfl)
 have r3 : (zT5 s.heap l t).get? (zT2 s.heap l t).objs.size = some { cls := .type "tuple", data := .seq #[.ref s.heap.objs.size, .ref (zT1 s.heap l).objs.size] } := Heap.get?_push_of_some _ (Heap.get?_push_of_some _ (Heap.get?_push_size _ rfl))
 have r2 : (zT5 s.heap l t).get? (zT1 s.heap l).objs.size = some { cls := .type "tuple_iterator", data := .fields #[.ref t, .int 0 0] } := Heap.get?_push_of_some _ (Heap.get?_push_of_some _ (Heap.get?_push_of_some _ (Heap.get?_push_size _ rfl)))
 have r1 : (zT5 s.heap l t).get? s.heap.objs.size = some { cls := .type "list_iterator", data := .fields #[.ref l, .int 0 0] } := Heap.get?_push_of_some _ (Heap.get?_push_of_some _ (Heap.get?_push_of_some _ (Heap.get?_push_of_some _ (Heap.get?_push_size _ rfl))))
 have all : ∀ c o, s.heap.get? c = some o -> (zT5 s.heap l t).get? c = some o := fun c o e => Heap.get?_push_of_some _ (Heap.get?_push_of_some _ (Heap.get?_push_of_some _ (Heap.get?_push_of_some _ (Heap.get?_push_of_some _ e))))
 show _ /\ _
 rw [q2, q3, q4] at r5
 rw [q1, q2] at r3
 rw [q3] at r4
 rw [q1] at r2
 rw [q4]
 exact ⟨⟨_, r5, rfl⟩, fin _ r5 r3 r4 ⟨_, r1, rfl, rfl⟩ ⟨_, r2, rfl, rfl⟩ all⟩
def ItzT (K : PySem.W.Frag) (a b : Addr) : It :=
 ⟨fun i H => ∃ (xs ys : List V) (x y : V), SqL K H a xs /\ SqT K H b ys /\ xs[i]? = some x /\ ys[i]? = some y,
  fun i H v H' => ∃ T x y, v = .ref T /\ H T = none /\ H' = upd H T (.tup [x, y]) /\ (∀ xs, SqL K H a xs -> xs[i]? = some x) /\ ∀ ys, SqT K H b ys -> ys[i]? = some y,
  fun i H => ∃ xs ys : List V, SqL K H a xs /\ SqT K H b ys /\ xs.length <= i⟩
theorem turn_zipT {P : Program} {w : World} {K : PySem.W.Frag} {elts : List Expr} {kk : Nat} {tpos : Pos} {a b z TI TO i1 i2 : Addr} (D : ZipApart z TI TO i1 i2 a b) :
  Turn P w K (.Tuple elts kk tpos) (ItzT K a b) [z, TI, TO, i1, i2] z (fun i h => IsZip h z TI TO .none /\ IsPair h TI (.ref i1) (.ref i2) /\ (∃ x y, IsPair h TO x y) /\ h.IsListIter i1 a i /\ h.IsTupleIter i2 b i) where
 mem := by simp
 obj := fun i h st c hc => by
  obtain ⟨hz, hTI, ⟨x, y, hTO⟩, ⟨o1, e1, _, d1⟩, ⟨o2, e2, _, d2⟩⟩ := st
  have hc' : c = z \/ c = TI \/ c = TO \/ c = i1 \/ c = i2 := by simpa using hc
  rcases hc' with rfl | rfl | rfl | rfl | rfl
  ·exact ⟨_, hz, fun v q => nomatch q⟩
  ·exact ⟨_, hTI, fun v q => nomatch q⟩
  ·exact ⟨_, hTO, fun v q => nomatch q⟩
  ·exact ⟨o1, e1, fun v q => by rw [d1] at q; cases q⟩
  ·exact ⟨o2, e2, fun v q => by rw [d2] at q; cases q⟩
 keep := fun i h h' st k => by
  obtain ⟨hz, hTI, ⟨x, y, hTO⟩, h1, ⟨o2, e2, r2⟩⟩ := st
  exact ⟨k z (by simp) _ hz, k TI (by simp) _ hTI, ⟨x, y, k TO (by simp) _ hTO⟩, h1.at fun o q => k i1 (by simp) o q, ⟨o2, k i2 (by simp) _ e2, r2⟩⟩
 item := by
  intro X hP hw hK hc i pins s σ H E I hf st hg
  subst hP hw hK
  obtain ⟨hz, hTI, ⟨x0, y0, hTO⟩, h1, h2⟩ := st
  obtain ⟨xs, ys, x, y, hqx, hqy, hx, hy⟩ := hg
  obtain ⟨its, rv, pl, _⟩ := I.list hqx
  obtain ⟨its2, rv2, p2, _⟩ := I.tuple hqy
  obtain ⟨u, hu, ru⟩ := rv.get hx
  obtain ⟨u2, hu2, ru2⟩ := rv2.get hy
  have zlt : z < s.heap.objs.size := Heap.lt_size hz
  have ty : s.TypeIs (.ref z) "zip" := ⟨_, hz, rfl⟩
  unfold pyNext
  refine wpAny_bind (wpAny_attempt (wpAny_callSpecial?_slot (name := Str.ofString "__next__") ty F.slot_zip_next (wpAny_call_entry F.slot_zip_next ty F.entry_zip_next
   (zipT_item D hz hTI hTO h1 h2 pl.isList (show s.heap.IsTuple b its2.toArray from p2) (x := u) (y := u2) (by simpa using hu) (by simpa using hu2) fun h' z' TO' h1' h2' hT hk => wpAny_pure ?_) (F.args_zip_next_1 _))))
  refine ⟨_, rfl, wpAny_letOwnedTupleGo_zip (s := { s with heap := h' }) z' fun h'' z'' sb => ?_⟩
  have hT2 : h''.get? s.heap.objs.size = some { cls := .type "tuple", data := .seq #[u, u2] } := (sb.2 _ (Nat.ne_of_gt zlt)).trans hT
  have new : ObjOk X.prog X.w (upd H s.heap.objs.size (.tup [x, y])) h'' s.heap.objs.size (.tup [x, y]) := ⟨by show 2 <= sizeLine; decide, [u, u2], .cons ru (.cons ru2 .nil), ⟨_, hT2, rfl, _, rfl⟩⟩
  have I1 : L2.Inv X pins σ (upd H s.heap.objs.size (.tup [x, y])) { s with heap := h'' } :=
   I.turnedNew (t' := s.toks) (ch := [z, TI, TO, i1, i2]) (fun c o hb q => (sb.2 c (fun q' => hb (by simp [q']))).trans (hk c o (fun q' => hb (by simp [q'])) (fun q' => hb (by simp [q'])) (fun q' => hb (by simp [q'])) (fun q' => hb (by simp [q'])) q)) hf (Nat.le_refl _) new
  have inj2 : ∀ l, SqT X.K H b l -> l[i]? = some y := fun l hl => by rw [I.tuple_inj hl hqy]; exact hy
  refine ⟨.ref s.heap.objs.size, _, I1, rfl, ⟨_, x, y, rfl, I.hok.fresh (Nat.le_refl _), rfl, fun l hl => by rw [I.list_inj hl hqx]; exact hx, inj2⟩, ⟨z'', (sb.2 _ D.TIz).trans (hk _ _ D.TIz D.TITO D.TIi1 D.TIi2 hTI), ⟨u, u2, (sb.2 _ D.TOz).trans TO'⟩, h1'.at fun o q => (sb.2 _ D.i1z).trans q, ?_⟩, fun c hcm => ?_⟩
  ·obtain ⟨o2, e2, r2⟩ := h2'
   exact ⟨o2, (sb.2 _ D.i2z).trans e2, r2⟩
  ·have hlt : c < s.heap.objs.size := by
    have hc' : c = z \/ c = TI \/ c = TO \/ c = i1 \/ c = i2 := by simpa using hcm
    rcases hc' with rfl | rfl | rfl | rfl | rfl
    ·exact zlt
    ·exact Heap.lt_size hTI
    ·exact Heap.lt_size hTO
    ·obtain ⟨_, e1, _⟩ := h1; exact Heap.lt_size e1
    ·obtain ⟨_, e2, _⟩ := h2; exact Heap.lt_size e2
   rw [upd_ne (Nat.ne_of_lt hlt)]
   exact (hf c hcm).1
 done := by
  intro X hP hw hK hc i pins s σ H E I hf st hg
  subst hP hw hK
  obtain ⟨hz, hTI, ⟨x0, y0, hTO⟩, h1, h2⟩ := st
  obtain ⟨xs, ys, hqx, hqy, hend⟩ := hg
  obtain ⟨its, rv, pl, _⟩ := I.list hqx
  have l1 := rv.length
  have ty : s.TypeIs (.ref z) "zip" := ⟨_, hz, rfl⟩
  unfold pyNext
  refine wpAny_bind (wpAny_attempt (wpAny_callSpecial?_slot (name := Str.ofString "__next__") ty F.slot_zip_next (wpAny_call_entry F.slot_zip_next ty F.entry_zip_next
   (zipT_end (I.ok.hd hc) D hz hTI hTO h1 pl.isList (by simp; omega) fun h' e hk he => ?_) (F.args_zip_next_1 _))))
  obtain ⟨o, ho, hcl⟩ := he
  refine wpAny_bind (wpAny_isInstance (T := "StopIteration") (b := true) ⟨o, ho, hcl⟩ isSubtype_stop (wpAny_pure ⟨rfl, ?_⟩))
  exact I.turnedL (t' := s.toks) (ch := [z, TI, TO, i1, i2]) (fun c o hb q => hk c o (fun q' => hb (by simp [q'])) (fun q' => hb (by simp [q'])) (fun q' => hb (by simp [q'])) (fun q' => hb (by simp [q'])) q) hf
 self := fun A i s Q E st h => wpAny_pyIter_zip st.1 h
def iZipT (K : PySem.W.Frag) (ta : TA) : TI := fun σ H R => ta σ H fun vs H1 => ∃ a b xs ys, vs = [.ref a, .ref b] /\ SqL K H1 a xs /\ SqT K H1 b ys /\ R (ItzT K a b) H1
theorem pi_zipT {X : Cx} {e e2 : Expr} {ta : TA} {p pos tpos : Pos} {elts : List Expr} {kk : Nat} (hg : Gl X "zip") (hm : X.mg "zip" = none) (ha : PA X [e, e2] ta)
  (hs : starEach [e, e2] X.env = (false, eval e X.env) :: starEach [e2] X.env := by rfl) (hpl : (backTo pos (starEach [e2] X.env)).any (·.1) = false := by rfl) :
  PI X (.Tuple elts kk tpos) (.Call (.Name "zip" p) [e, e2] [] pos) (iZipT X.K ta) := by
 intro pins s σ H R I h
 refine Call_ (ld_blt I hg hm boot_zip5 (PyProof.Rows.callWith_type1 (thn (ha pos pins s σ H _ I h) fun us s1 ⟨vs, H1, I1, r1, q1⟩ => ?_) hs hpl))
 obtain ⟨a, b, xs, ys, ex, hqx, hqy, q⟩ := q1
 subst ex
 cases r1 with
 | cons r rr =>
  cases rr with
  | cons r' rr =>
   cases rr
   cases r
   cases r'
   obtain ⟨its, rv, pl, _⟩ := I1.list hqx
   obtain ⟨its2, rv2, p2, _⟩ := I1.tuple hqy
   have la : a < s1.heap.objs.size := pl.lt
   have lb : b < s1.heap.objs.size := p2.lt
   refine call_zipT pl.isList (show s1.heap.IsTuple b its2.toArray from p2) fun h' hz hTI hTO h1 h2 hk => wpAny_pyIter_zip hz ?_
   have I2 : L2.Inv X pins σ H1 { s1 with heap := h' } := I1.kept (t' := s1.toks) hk
   refine ⟨s1.heap.objs.size + 4, [s1.heap.objs.size + 4, s1.heap.objs.size + 2, s1.heap.objs.size + 3, s1.heap.objs.size, s1.heap.objs.size + 1], _, _, H1, rfl, I2, turn_zipT (PySem.W.ktu_apart s1.heap.objs.size a b la lb), ⟨hz, hTI, ⟨_, _, hTO⟩, h1, h2⟩, fun c hcm => ?_, q⟩
   have hle : s1.heap.objs.size <= c := by
    have hc' : c = s1.heap.objs.size + 4 \/ c = s1.heap.objs.size + 2 \/ c = s1.heap.objs.size + 3 \/ c = s1.heap.objs.size \/ c = s1.heap.objs.size + 1 := by simpa using hcm
    rcases hc' with q | q | q | q | q <;> rw [q] <;> first | exact Nat.le_add_right _ _ | exact Nat.le_refl _
   exact I1.fpOk hle (I1.hok.fresh hle)
theorem for_zipT {K : PySem.W.Frag} {a b : Addr} {xs ys : List V} {g : TG} {tb : TS} {D : Ends} {σ : L2.St} {H : Hp} (hlen : xs.length <= ys.length) (Pv : Nat -> L2.St -> Hp -> Prop) (h0 : Pv 0 σ H) (hl : ∀ i σ H, i <= xs.length -> Pv i σ H -> SqL K H a xs /\ SqT K H b ys)
  (hs : ∀ i x y σ H T, xs[i]? = some x -> ys[i]? = some y -> Pv i σ H -> H T = none -> g (.ref T) σ (upd H T (.tup [x, y])) fun σ2 H2 => tb { D with nx := Pv (i + 1), ct := Pv (i + 1), bk := D.nx } σ2 H2) (hd : ∀ σ H, Pv xs.length σ H -> D.nx σ H) :
  ∃ W : Nat -> Nat -> L2.St -> Hp -> Prop, (∃ m, W 0 m σ H) /\ ∀ i m σ H, W i m σ H ->
   ((ItzT K a b).stop i H /\ D.nx σ H) \/ ((ItzT K a b).go i H /\ ∃ N : L2.St -> Hp -> Prop, (∀ σ' H', N σ' H' -> ∃ m', m' < m /\ W (i + 1) m' σ' H') /\ ∀ x H', (ItzT K a b).yld i H x H' -> g x σ H' fun σ2 H2 => tb { D with nx := N, ct := N, bk := D.nx } σ2 H2) := by
 refine ⟨fun i m σ H => m = xs.length - i /\ i <= xs.length /\ Pv i σ H, ⟨xs.length, by simp, Nat.zero_le _, h0⟩, ?_⟩
 rintro i m σ H ⟨rfl, hi, p⟩
 obtain ⟨q1, q2⟩ := hl i σ H hi p
 by_cases hlt : i < xs.length
 ·refine .inr ⟨⟨xs, ys, xs[i], ys[i]'(by omega), q1, q2, by simp [hlt], by rw [List.getElem?_eq_getElem]⟩, Pv (i + 1), fun σ' H' p' => ⟨xs.length - (i + 1), by omega, rfl, hlt, p'⟩, fun x H' y => ?_⟩
  obtain ⟨T, x', y', rfl, hT, rfl, hx, hy⟩ := y
  exact hs i x' y' σ H T (hx xs q1) (hy ys q2) p hT
 ·have e : i = xs.length := by omega
  subst e
  exact .inl ⟨⟨xs, ys, q1, q2, Nat.le_refl _⟩, hd σ H p⟩
inductive Tr where
 | int (i : Int)
 | tup (l : List Tr)
mutual
inductive TrV (K : PySem.W.Frag) : V -> Tr -> Prop
 | int (i : Int) : TrV K (.int i) (.int i)
 | tup {a : Addr} {xs : List V} {ts : List Tr} : (∀ H : Hp, SqT K H a xs) -> TrVs K xs ts -> TrV K (.ref a) (.tup ts)
inductive TrVs (K : PySem.W.Frag) : List V -> List Tr -> Prop
 | nil : TrVs K [] []
 | cons {x : V} {xs : List V} {t : Tr} {ts : List Tr} : TrV K x t -> TrVs K xs ts -> TrVs K (x :: xs) (t :: ts)
end
theorem TrV.tup_inv {K : PySem.W.Frag} {x : V} {ts : List Tr} (h : TrV K x (.tup ts)) : ∃ a xs, x = .ref a /\ (∀ H : Hp, SqT K H a xs) /\ TrVs K xs ts := by
 cases h with
 | tup h1 h2 => exact ⟨_, _, rfl, h1, h2⟩
theorem TrV.int_inv {K : PySem.W.Frag} {x : V} {i : Int} (h : TrV K x (.int i)) : x = .int i := by
 cases h
 rfl
theorem TrVs.length {K : PySem.W.Frag} : ∀ {xs : List V} {ts : List Tr}, TrVs K xs ts -> xs.length = ts.length
 | _, _, .nil => rfl
 | _, _, .cons _ r => congrArg (· + 1) (TrVs.length r)
theorem TrVs.get {K : PySem.W.Frag} : ∀ {xs : List V} {ts : List Tr} {i : Nat} {t : Tr}, TrVs K xs ts -> ts[i]? = some t -> ∃ x, xs[i]? = some x /\ TrV K x t
 | _, _, _, _, .nil, h => by simp at h
 | _, _, 0, t, .cons h _, e => by
  simp at e
  subst e
  exact ⟨_, rfl, h⟩
 | _, _, i + 1, t, .cons _ r, e => by
  obtain ⟨x, h1, h2⟩ := TrVs.get (i := i) (t := t) r (by simpa using e)
  exact ⟨x, by simpa using h1, h2⟩
theorem TrVs.ints {K : PySem.W.Frag} : ∀ {xs : List V} {is : List Int}, TrVs K xs (is.map Tr.int) -> xs = is.map V.int
 | _, [], h => by cases h; rfl
 | _, i :: r, h => by
  cases h with
  | cons h1 h2 =>
   rw [h1.int_inv, TrVs.ints h2]
   rfl
abbrev Rg := Int × Int
abbrev RowF := List Int × List Rg
abbrev Form := List Rg × List RowF
def rgT (p : Rg) : Tr := .tup [.int p.1, .int p.2]
def rgsT (l : List Rg) : Tr := .tup (l.map rgT)
def rowT (r : RowF) : Tr := .tup [.tup (r.1.map Tr.int), rgsT r.2]
def formT (f : Form) : Tr := .tup [rgsT f.1, .tup (f.2.map rowT)]
def idR : Rg := (1, 1000000000)
def formsL : List Form :=
 [([(1, 1500)], [([4], [(0, 300)]), ([3], [(1, 1000000)])]), ([idR], []), ([idR, (1, 1000000), (0, 1000000)], []), ([idR, idR, idR], []), ([idR], []), ([], [([2, 3, 4, 5, 6], [idR])]), ([idR], []), ([idR, idR, idR], []),
  ([(0, 36524)], []), ([idR], []), ([idR], []), ([idR], []), ([idR, (0, 36524)], []),
  ([idR], [([0, 2, 4, 6, 8, 10, 12, 14, 16, 18, 20, 22, 24, 26, 28, 30, 32, 34, 36, 38, 40], [(0, 36524), idR])]), ([], []), ([], [])]
def formsT : Tr := .tup (formsL.map formT)
theorem shape_form {p : Int} {n k : Nat} (h : PyVbahaq.shape p = some (n, k)) : ∃ (j : Nat) (f : Form), p = (j : Int) /\ formsL[j]? = some f /\ f.1.length = n /\ f.2.length = k /\ j < 16 := by
 unfold PyVbahaq.shape at h
 by_cases e0 : p = 0
 ·rw [if_pos e0] at h
  cases h
  exact ⟨0, _, e0, rfl, rfl, rfl, by decide⟩
 rw [if_neg e0] at h
 by_cases e1 : p = 1
 ·rw [if_pos e1] at h
  cases h
  exact ⟨1, _, e1, rfl, rfl, rfl, by decide⟩
 rw [if_neg e1] at h
 by_cases e2 : p = 2
 ·rw [if_pos e2] at h
  cases h
  exact ⟨2, _, e2, rfl, rfl, rfl, by decide⟩
 rw [if_neg e2] at h
 by_cases e3 : p = 3
 ·rw [if_pos e3] at h
  cases h
  exact ⟨3, _, e3, rfl, rfl, rfl, by decide⟩
 rw [if_neg e3] at h
 by_cases e4 : p = 4
 ·rw [if_pos e4] at h
  cases h
  exact ⟨4, _, e4, rfl, rfl, rfl, by decide⟩
 rw [if_neg e4] at h
 by_cases e5 : p = 5
 ·rw [if_pos e5] at h
  cases h
  exact ⟨5, _, e5, rfl, rfl, rfl, by decide⟩
 rw [if_neg e5] at h
 by_cases e6 : p = 6
 ·rw [if_pos e6] at h
  cases h
  exact ⟨6, _, e6, rfl, rfl, rfl, by decide⟩
 rw [if_neg e6] at h
 by_cases e7 : p = 7
 ·rw [if_pos e7] at h
  cases h
  exact ⟨7, _, e7, rfl, rfl, rfl, by decide⟩
 rw [if_neg e7] at h
 by_cases e8 : p = 8
 ·rw [if_pos e8] at h
  cases h
  exact ⟨8, _, e8, rfl, rfl, rfl, by decide⟩
 rw [if_neg e8] at h
 by_cases e9 : p = 9
 ·rw [if_pos e9] at h
  cases h
  exact ⟨9, _, e9, rfl, rfl, rfl, by decide⟩
 rw [if_neg e9] at h
 by_cases e10 : p = 10
 ·rw [if_pos e10] at h
  cases h
  exact ⟨10, _, e10, rfl, rfl, rfl, by decide⟩
 rw [if_neg e10] at h
 by_cases e11 : p = 11
 ·rw [if_pos e11] at h
  cases h
  exact ⟨11, _, e11, rfl, rfl, rfl, by decide⟩
 rw [if_neg e11] at h
 by_cases e12 : p = 12
 ·rw [if_pos e12] at h
  cases h
  exact ⟨12, _, e12, rfl, rfl, rfl, by decide⟩
 rw [if_neg e12] at h
 by_cases e13 : p = 13
 ·rw [if_pos e13] at h
  cases h
  exact ⟨13, _, e13, rfl, rfl, rfl, by decide⟩
 rw [if_neg e13] at h
 by_cases e14 : p = 14
 ·rw [if_pos e14] at h
  cases h
  exact ⟨14, _, e14, rfl, rfl, rfl, by decide⟩
 rw [if_neg e14] at h
 by_cases e15 : p = 15
 ·rw [if_pos e15] at h
  cases h
  exact ⟨15, _, e15, rfl, rfl, rfl, by decide⟩
 rw [if_neg e15] at h
 cases h
def GTr (K : PySem.W.Frag) (mg : Str -> Option Value) (x : Str) (t : Tr) : Prop := ∃ v u, mg x = some u /\ RelV v u /\ TrV K v t
theorem pe_gtr {X : Cx} {x : Str} {v : V} {pos : Pos} {u : Value} (hm : X.mg x = some u) (r : RelV v u) (hg : Gl X x) (hd : (x == ("__debug__" : Str)) = false := by decide) : PE X (.Name x pos) (tC v) := pe_glob hg hm r hd
def withinB (rs : List Rg) : Nat -> List Int -> Bool
 | _, [] => true
 | i, n :: r => ((decide ((rs.getD (i % rs.length) (0, 0)).1 <= n) && decide (n <= (rs.getD (i % rs.length) (0, 0)).2))) && withinB rs (i + 1) r
abbrev sWithin : Stmt := top 52
structure TxtF (K : PySem.W.Frag) (mg : Str -> Option Value) : Prop where
 len : mg "len" = none
 enum : mg "enumerate" = none
 zip : mg "zip" = none
 forms : GTr K mg "FORMS" formsT
section
variable {P : Program} {w : World} {K : PySem.W.Frag} {mg : Str -> Option Value} {base : Heap}
def spWithin (K : PySem.W.Frag) : Sp := fun vs H Q _ => ∃ (a : Addr) (x : V) (ns : List Int) (rs : List Rg), vs = [.ref a, x] /\ SqL K H a (ns.map V.int) /\ TrV K x (rgsT rs) /\ (ns = [] \/ rs ≠ []) /\ ∀ H', Same H H' -> Q (.bl (withinB rs 0 ns)) H'
theorem scWithin : FnScope ["numbers", "ranges", "index", "number", "bounds"] ["numbers", "ranges"] (defScope sWithin) := ⟨rfl, rfl, rfl, by decide +kernel, rfl, by decide +kernel, by decide +kernel⟩
theorem ok_within {f : Addr} {fd : FuncData} (F : Fun K "are_within" "are_within" sWithin f fd) (T : TxtF K mg) : FnOk P w K mg base CX0 1 f fd ["numbers", "ranges"] (spWithin K) := by
 refine F.ok scWithin (fun vs H Q E h => ?_) (fun cdv A outer s H vs Q E hr h => ?_)
 ·obtain ⟨a, x, ns, rs, rfl, _⟩ := h
  rfl
 ·obtain ⟨a, x, ns, rs, rfl, ha, hx, hne, q⟩ := h
  have nd := scWithin.nd
  obtain ⟨b, xs, rfl, hb, hxs⟩ := hx.tup_inv
  have lxs : xs.length = rs.length := by rw [hxs.length, List.length_map]
  refine ⟨_, pss_cons (ps_for PassesOwn.never rfl (pi_enum rfl T.enum (pa_cons (pv 0) pa_nil)) (pg_tup rfl (pgs_cons (pg_name (i := 2) nd rfl (Or.inl rfl)) (pgs_cons (pg_name (i := 3) nd rfl (Or.inl rfl)) pgs_nil)))
    (pss_cons (ps_set (i := 4) nd rfl (Or.inl rfl) (pe_ix ix_tup (pv 1) (pe_op op_mod (pv 2) (pe_callB call_len_seq (by rfl) T.len PySem.boot_len (pa_cons (pv 1) pa_nil))) (fun _ _ => rfl)))
    (pss_one (ps_if (PW.pt (pw_orB (pt_cmpR op_lt (pv 3) (pe_ix ix_tup (pv 4) pe_int (fun _ _ => rfl)) (nomark _)) (pw_or1 (pt_cmpR op_gt (pv 3) (pe_ix ix_tup (pv 4) pe_int (fun _ _ => rfl)) (nomark _)))))
     (pss_one (ps_ret pe_bl)) pss_nil))))
   (pss_one (ps_ret pe_bl)), ?_⟩
  refine ⟨_, rfl, a, _, rfl, ha, for_enum (K := K) (a := a) (xs := ns.map V.int) (fun i σ H' => Same H H' /\ withinB rs 0 ns = withinB rs i (ns.drop i) /\ ∃ v2 v3 v4, σ = [some (.ref a), some (.ref b), v2, v3, v4])
   ⟨Same.refl H, rfl, none, none, none, rfl⟩ (fun i σ H' _ ⟨e, _⟩ => e.seq ha) ?_ ?_⟩
  ·rintro i y σ H1 T1 hi ⟨s1, ew, v2, v3, v4, rfl⟩ hT1
   obtain ⟨n, hn, rfl⟩ := at_map hi
   have s2 : Same H (upd H1 T1 (.tup [.int (i : Nat), V.int n])) := s1.upd_new (s1.free hT1)
   have rpos : 0 < rs.length := by
    rcases hne with e | e
    ·rw [e] at hn; simp at hn
    ·exact List.length_pos_iff.mpr e
   have im : i % rs.length < rs.length := Nat.mod_lt _ rpos
   obtain ⟨rg, hrg⟩ : ∃ rg, rs[i % rs.length]? = some rg := ⟨_, List.getElem?_eq_getElem im⟩
   obtain ⟨bx, hbx, tbx⟩ := hxs.get (i := i % rs.length) (t := rgT rg) (by rw [List.getElem?_map, hrg]; rfl)
   obtain ⟨bb, bxs, rfl, hbb, tb⟩ := tbx.tup_inv
   have ebx : bxs = [V.int rg.1, V.int rg.2] := TrVs.ints (is := [rg.1, rg.2]) tb
   subst ebx
   have egd : rs.getD (i % rs.length) (0, 0) = rg := by rw [List.getD_eq_getElem?_getD, hrg]; rfl
   refine ⟨T1, _, rfl, SqT.of upd_same, rfl, _, _, rfl, _, _, rfl, rfl, ?_⟩
   refine ⟨_, rfl, _, rfl, _, rfl, b, _, rfl, .inr (hb _), _, _, rfl, rfl, (by show (0 : Int) < ((xs.length : Nat) : Int); omega), b, _, _, _, rfl, rfl, hb _, at_of (j := i % rs.length) (by show ((i : Int) % ((xs.length : Nat) : Int)) = _; rw [lxs]; omega) hbx, ?_⟩
   refine ⟨decide (n < rg.1), decide (rg.2 < n), fun R hR => ?_, fun R hR => ?_, ?_⟩
   ·exact ⟨_, rfl, _, rfl, bb, _, _, _, rfl, rfl, hbb _, atI_nat (j := 0) rfl, _, _, rfl, rfl, _, rfl, hR⟩
   ·exact ⟨_, rfl, _, rfl, bb, _, _, _, rfl, rfl, hbb _, atI_nat (j := 1) rfl, _, _, rfl, rfl, _, rfl, hR⟩
   ·have hdr : ns.drop i = n :: ns.drop (i + 1) := by
     obtain ⟨l1, e1⟩ := List.getElem?_eq_some_iff.mp hn
     rw [List.drop_eq_getElem_cons l1, e1]
    rw [hdr] at ew
    have ew2 : withinB rs 0 ns = ((decide (rg.1 <= n) && decide (n <= rg.2)) && withinB rs (i + 1) (ns.drop (i + 1))) := by
     rw [ew]
     show (((decide ((rs.getD (i % rs.length) (0, 0)).1 <= n) && decide (n <= (rs.getD (i % rs.length) (0, 0)).2))) && withinB rs (i + 1) (ns.drop (i + 1))) = _
     rw [egd]
    refine ite2 (fun c => ?_) (fun c => ?_)
    ·have : withinB rs 0 ns = false := by
      rw [ew2]
      rw [Bool.or_eq_true, decide_eq_true_iff, decide_eq_true_iff] at c
      rcases c with c | c
      ·rw [decide_eq_false (show ¬ rg.1 <= n by omega)]; rfl
      ·rw [decide_eq_false (show ¬ n <= rg.2 by omega), Bool.and_false]; rfl
     rw [this] at q
     exact q _ s2
    ·have : (decide (rg.1 <= n) && decide (n <= rg.2)) = true := by
      rw [Bool.or_eq_true, decide_eq_true_iff, decide_eq_true_iff] at c
      rw [decide_eq_true (show rg.1 <= n by omega), decide_eq_true (show n <= rg.2 by omega)]
      rfl
     rw [this, Bool.true_and] at ew2
     exact ⟨s2, ew2, _, _, _, rfl⟩
  ·rintro σ H1 ⟨s1, ew, v2, v3, v4, rfl⟩
   rw [List.length_map, List.drop_length] at ew
   have : withinB rs 0 ns = true := ew
   rw [this] at q
   exact q _ s1
end
abbrev CallY := Addr × List (Addr × List Int)
structure CallZ (H : Hp) (y : CallY) : Prop where
 lst : H y.1 = some (.lst (y.2.map fun r => V.ref r.1))
 row : ∀ r ∈ y.2, H r.1 = some (.lst (r.2.map V.int))
abbrev rowsOf (y : CallY) : List (List Int) := y.2.map (·.2)
structure CallsZ (H : Hp) (p : Addr) (Y : List CallY) : Prop where
 lst : H p = some (.lst (Y.map fun y => V.ref y.1))
 call : ∀ y ∈ Y, CallZ H y
theorem CallZ.same {H H' : Hp} {y : CallY} (h : CallZ H y) (s : Same H H') : CallZ H' y := ⟨s _ _ h.lst, fun r hr => s _ _ (h.row r hr)⟩
def rowOk (f : RowF) (row : List Int) : Bool := f.1.contains (row.length : Int) && withinB f.2 0 row
def rowsOk : List RowF -> List (List Int) -> Bool
 | f :: fs, r :: rs => rowOk f r && rowsOk fs rs
 | _, _ => true
def inRange (f : Form) (plain : List Int) (rows : List (List Int)) : Bool := withinB f.1 0 plain && rowsOk f.2 rows
theorem inV_int (k : Int) (ns : List Int) : inV (.int k) (ns.map V.int) = ns.contains k := by
 unfold inV
 rw [List.any_map, List.contains_eq_any_beq]
 refine congrArg (fun f => ns.any f) ?_
 funext n
 show (n == k) = (k == n)
 by_cases e : n = k
 ·rw [e]
 ·rw [beq_eq_false_iff_ne.mpr e, beq_eq_false_iff_ne.mpr (Ne.symm e)]
theorem flat_int (ns : List Int) : (ns.map V.int).all flatV = true := by
 rw [List.all_map]
 exact List.all_eq_true.mpr fun _ _ => rfl
theorem cut_tail (x : V) (xs : List V) : cutV (x :: xs) (some 1) none = xs := by
 unfold cutV
 have e1 : HT.sIx (x :: xs).length 0 (some 1) = 1 := by
  have := HT.sIx_nat (x :: xs).length 0 1
  rw [List.length_cons] at this ⊢
  exact this.trans (by omega)
 rw [e1, HT.sIx_none, List.length_cons, Nat.add_sub_cancel]
 show (xs).take xs.length = xs
 exact List.take_length
abbrev sInRange : Stmt := top 51
theorem forms_ok : ∀ f ∈ formsL, (∀ r ∈ f.2, r.2 ≠ []) /\ (f.1 = [] \/ f.1 ≠ []) := by
 intro f hf
 refine ⟨fun r hr => ?_, Classical.em _⟩
 have : ∀ f ∈ formsL, ∀ r ∈ f.2, r.2.length ≠ 0 := by decide +kernel
 intro e
 exact this f hf r hr (by rw [e]; rfl)
structure TxtR (P : Program) (w : World) (K : PySem.W.Frag) (mg : Str -> Option Value) (base : Heap) : Prop extends TxtF K mg where
 within : Cal P w K mg base "are_within" 1 ["numbers", "ranges"] (spWithin K)
section
variable {P : Program} {w : World} {K : PySem.W.Frag} {mg : Str -> Option Value} {base : Heap}
def spInRange : Sp := fun vs H Q _ => ∃ (y : CallY) (ra : Addr) (p : Nat) (plain : List Int) (rest : List (Addr × List Int)) (f : Form), vs = [.ref y.1] /\ CallZ H y /\ y.2 = (ra, (p : Int) :: plain) :: rest /\ formsL[p]? = some f /\ f.1.length = plain.length /\ f.2.length = rest.length /\
 ∀ H', Same H H' -> Q (.bl (inRange f plain (rest.map (·.2)))) H'
theorem scInRange : FnScope ["call", "form", "row", "row_form"] ["call"] (defScope sInRange) := ⟨rfl, rfl, rfl, by decide +kernel, rfl, by decide +kernel, by decide +kernel⟩
theorem ok_inRange {f : Addr} {fd : FuncData} (F : Fun K "is_in_range" "is_in_range" sInRange f fd) (T : TxtR P w K mg base) : FnOk P w K mg base CX0 2 f fd ["call"] spInRange := by
 refine F.ok scInRange (fun vs H Q E h => ?_) (fun cdv A outer s H vs Q E hr h => ?_)
 ·obtain ⟨y, ra, p, plain, rest, fm, rfl, _⟩ := h
  rfl
 ·obtain ⟨y, ra, p, plain, rest, fm, rfl, hy, ey, hf, l1, l2, q⟩ := h
  have nd := scInRange.nd
  obtain ⟨gv, gu, hgm, hgr, hgt⟩ := T.forms
  obtain ⟨ga, gxs, rfl, hga, hgxs⟩ := hgt.tup_inv
  refine ⟨_, pss_cons (ps_set (i := 1) nd rfl (Or.inl rfl) (pe_ix ix_tup (pe_gtr hgm hgr (by rfl)) (pe_ix ix_list (pe_ix ix_list (pv 0) pe_int (fun _ _ => rfl)) pe_int (fun _ _ => rfl)) (fun _ _ => rfl)))
   (pss_cons (ps_if (pt_not (pt_val (pe_cal T.within hr rfl (pa_cons (pe_slice sl_list (pe_ix ix_list (pv 0) pe_int (fun _ _ => rfl)) (po_some pe_int) po_none) (pa_cons (pe_ix ix_tup (pv 1) pe_int (fun _ _ => rfl)) pa_nil))))) (pss_one (ps_ret pe_bl)) pss_nil)
   (pss_cons (ps_for PassesOwn.never rfl (pi_zipT rfl T.zip (pa_cons (pe_slice sl_list (pv 0) (po_some pe_int) po_none) (pa_cons (pe_ix ix_tup (pv 1) pe_int (fun _ _ => rfl)) pa_nil))) (pg_tup rfl (pgs_cons (pg_name (i := 2) nd rfl (Or.inl rfl)) (pgs_cons (pg_name (i := 3) nd rfl (Or.inl rfl)) pgs_nil)))
    (pss_one (ps_if (PW.pt (pw_or (pt_cmpR op_notIn_seq (pe_callB call_len_seq (by rfl) T.len PySem.boot_len (pa_cons (pv 2) pa_nil)) (pe_ix ix_tup (pv 3) pe_int (fun _ _ => rfl)) (by with_unfolding_all rfl))
     (pw_or1 (pt_not (pt_val (pe_cal T.within hr rfl (pa_cons (pv 2) (pa_cons (pe_ix ix_tup (pv 3) pe_int (fun _ _ => rfl)) pa_nil)))))))) (pss_one (ps_ret pe_bl)) pss_nil)))
   (pss_one (ps_ret pe_bl)))), ?_⟩
  have hl0 : H y.1 = some (.lst (V.ref ra :: rest.map fun r => V.ref r.1)) := by rw [hy.lst, ey]; rfl
  have hr0 : H ra = some (.lst (V.int (p : Int) :: plain.map V.int)) := hy.row (ra, (p : Int) :: plain) (by rw [ey]; exact List.mem_cons_self)
  have hrest : ∀ r ∈ rest, H r.1 = some (.lst (r.2.map V.int)) := fun r hr => hy.row r (by rw [ey]; exact List.mem_cons_of_mem _ hr)
  obtain ⟨fv, hfv, tfv⟩ := hgxs.get (i := p) (t := formT fm) (by rw [List.getElem?_map, hf]; rfl)
  obtain ⟨fa, fxs, rfl, hfa, hfxs⟩ := tfv.tup_inv
  obtain ⟨x0, hx0, t0⟩ := hfxs.get (i := 0) (t := rgsT fm.1) rfl
  obtain ⟨x1, hx1, t1⟩ := hfxs.get (i := 1) (t := .tup (fm.2.map rowT)) rfl
  obtain ⟨a1, xs1, rfl, ha1, hxs1⟩ := t1.tup_inv
  refine ⟨_, rfl, y.1, _, _, _, rfl, rfl, SqL.of hl0, atI_nat (j := 0) rfl, ra, _, _, _, rfl, rfl, SqL.of hr0, atI_nat (j := 0) rfl, ga, _, _, _, rfl, rfl, hga _, atI_nat (j := p) hfv, ?_⟩
  refine ⟨_, rfl, y.1, _, _, _, rfl, rfl, SqL.of hl0, atI_nat (j := 0) rfl, _, rfl, ra, _, rfl, SqL.of hr0, fun b hb => ?_⟩
  have sb : Same H (upd H b (.lst (cutV (V.int (p : Int) :: plain.map V.int) (some 1) none))) := (Same.refl H).upd_new hb
  have hne : plain = [] \/ fm.1 ≠ [] := by
   by_cases e : plain = []
   ·exact .inl e
   ·right
    intro e2
    rw [e2] at l1
    exact e (List.length_eq_zero_iff.mp l1.symm)
  refine ⟨_, rfl, fa, _, _, _, rfl, rfl, hfa _, atI_nat (j := 0) hx0, b, x0, plain, fm.1, rfl, SqL.of (by rw [upd_same, cut_tail]), t0, hne, fun H1 s1 => ⟨_, rfl, ?_⟩⟩
  have s01 := sb.trans s1
  unfold inRange at q
  cases c1 : withinB fm.1 0 plain with
  | false =>
   rw [c1] at q
   refine ite2 (fun _ => ?_) (fun z => absurd rfl z)
   exact q H1 s01
  | true =>
   rw [c1, Bool.true_and] at q
   refine ite2 (fun z => absurd z (by simp)) (fun _ => ?_)
   refine ⟨_, rfl, _, rfl, y.1, _, rfl, SqL.of (s01 _ _ hl0), fun b2 hb2 => ?_⟩
   have s2 : Same H (upd H1 b2 (.lst (cutV (V.ref ra :: rest.map fun r => V.ref r.1) (some 1) none))) := s01.upd_new (s01.free hb2)
   have hb2' : (upd H1 b2 (.lst (cutV (V.ref ra :: rest.map fun r => V.ref r.1) (some 1) none))) b2 = some (.lst (rest.map fun r => V.ref r.1)) := by rw [upd_same, cut_tail]
   refine ⟨_, rfl, fa, _, _, _, rfl, rfl, hfa _, atI_nat (j := 1) hx1, b2, a1, _, _, rfl, SqL.of hb2', ha1 _, for_zipT (K := K) (a := b2) (b := a1) (xs := rest.map fun r => V.ref r.1) (ys := xs1) (by rw [List.length_map, hxs1.length, List.length_map]; omega)
    (fun i σ H' => Same (upd H1 b2 (.lst (cutV (V.ref ra :: rest.map fun r => V.ref r.1) (some 1) none))) H' /\ rowsOk fm.2 (rest.map (·.2)) = rowsOk (fm.2.drop i) ((rest.drop i).map (·.2)) /\ ∃ v2 v3, σ = [some (.ref y.1), some (.ref fa), v2, v3])
    ⟨Same.refl _, rfl, none, none, rfl⟩ (fun i σ H' _ ⟨e, _⟩ => ⟨SqL.of (e _ _ hb2'), ha1 _⟩) ?_ ?_⟩
   ·rintro i x yv σ H3 T3 hi hyv ⟨s3, er, v2, v3, rfl⟩ hT3
    obtain ⟨r, hr', rfl⟩ := at_map hi
    have hrm := List.mem_of_getElem? hr'
    have il : i < fm.2.length := by rw [l2]; exact (List.getElem?_eq_some_iff.mp hr').1
    obtain ⟨rf, hrf⟩ : ∃ rf, fm.2[i]? = some rf := ⟨_, List.getElem?_eq_getElem il⟩
    obtain ⟨yv', hyv', tyv⟩ := hxs1.get (i := i) (t := rowT rf) (by rw [List.getElem?_map, hrf]; rfl)
    rw [hyv] at hyv'
    cases hyv'
    obtain ⟨ya, yxs, rfl, hya, hyxs⟩ := tyv.tup_inv
    obtain ⟨y0, hy0, ty0⟩ := hyxs.get (i := 0) (t := .tup (rf.1.map Tr.int)) rfl
    obtain ⟨y1, hy1, ty1⟩ := hyxs.get (i := 1) (t := rgsT rf.2) rfl
    obtain ⟨la, lxs, rfl, hla, hlxs⟩ := ty0.tup_inv
    have elx := TrVs.ints hlxs
    subst elx
    have s4 : Same H (upd H3 T3 (.tup [V.ref r.1, V.ref ya])) := (s2.trans s3).upd_new ((s2.trans s3).free hT3)
    have hrow := s4 _ _ (hrest r hrm)
    have edr : rowsOk (fm.2.drop i) ((rest.drop i).map (·.2)) = (rowOk rf r.2 && rowsOk (fm.2.drop (i + 1)) ((rest.drop (i + 1)).map (·.2))) := by
     obtain ⟨p1, q1⟩ := List.getElem?_eq_some_iff.mp hrf
     obtain ⟨p2, q2⟩ := List.getElem?_eq_some_iff.mp hr'
     rw [List.drop_eq_getElem_cons p1, List.drop_eq_getElem_cons p2, q1, q2]
     rfl
    rw [edr] at er
    refine ⟨T3, _, rfl, SqT.of upd_same, rfl, _, _, rfl, _, _, rfl, rfl, ?_⟩
    refine ⟨_, rfl, r.1, _, rfl, .inl (SqL.of hrow), _, rfl, ya, _, _, _, rfl, rfl, hya _, atI_nat (j := 0) hy0, la, _, rfl, .inr (hla _), rfl, flat_int _, _, rfl, ?_⟩
    rw [List.length_map, inV_int]
    cases c2 : rf.1.contains ((r.2.length : Nat) : Int) with
    | false =>
     have eb : rowsOk fm.2 (rest.map (·.2)) = false := by
      rw [er]
      unfold rowOk
      rw [c2, Bool.false_and, Bool.false_and]
     rw [eb] at q
     refine ite2 (fun _ => ?_) (fun z => absurd rfl z)
     refine ite2 (fun _ => ?_) (fun z => absurd rfl z)
     exact q _ s4
    | true =>
     refine ite2 (fun z => absurd z (by simp)) (fun _ => ?_)
     have rne : rf.2 ≠ [] := (forms_ok fm (List.mem_of_getElem? hf)).1 rf (List.mem_of_getElem? hrf)
     refine ⟨_, rfl, _, rfl, ya, _, _, _, rfl, rfl, hya _, atI_nat (j := 1) hy1, r.1, y1, r.2, rf.2, rfl, SqL.of hrow, ty1, .inr rne, fun H5 s5 => ⟨_, rfl, ?_⟩⟩
     have er2 : rowsOk fm.2 (rest.map (·.2)) = (withinB rf.2 0 r.2 && rowsOk (fm.2.drop (i + 1)) ((rest.drop (i + 1)).map (·.2))) := by
      rw [er]
      unfold rowOk
      rw [c2, Bool.true_and]
     cases c3 : withinB rf.2 0 r.2 with
     | false =>
      rw [c3, Bool.false_and] at er2
      rw [er2] at q
      refine ite2 (fun _ => ?_) (fun z => absurd rfl z)
      exact q _ (s4.trans s5)
     | true =>
      rw [c3, Bool.true_and] at er2
      refine ite2 (fun z => absurd z (by simp)) (fun _ => ?_)
      have s35 : Same (upd H1 b2 (.lst (cutV (V.ref ra :: rest.map fun r => V.ref r.1) (some 1) none))) H5 := (s3.upd_new (s3.free hT3)).trans s5
      exact ⟨s35, er2, _, _, rfl⟩
   ·rintro σ H3 ⟨s3, er, v2, v3, rfl⟩
    have e0 : rowsOk fm.2 (rest.map (·.2)) = true := by
     rw [er, List.length_map, <- l2, List.drop_length]
     rfl
    rw [e0] at q
    exact q _ (s2.trans s3)
end
theorem vals_at : ∀ {xs : List V} {us : List Value}, xs.length = us.length -> (∀ (j : Nat) (x : V) (u : Value), xs[j]? = some x -> us[j]? = some u -> RelV x u) -> Vals xs us
 | [], [], _, _ => .nil
 | [], _ :: _, h, _ => by cases h
 | _ :: _, [], h, _ => by cases h
 | x :: xs, u :: us, hl, h => .cons (h 0 x u rfl rfl) (vals_at (by simpa using hl) fun j y v e1 e2 => h (j + 1) y v (by simpa using e1) (by simpa using e2))
section
variable {X : Cx}
theorem keys_vals {kvs : List (Key × V)} {vs : List (Key × Value)} (kv : KV kvs vs) {us : List Value} (hl : us.length = vs.length) (h : ∀ (j : Nat) (v : Value), us[j]? = some v -> ∃ k x, vs[j]? = some (k, x) /\ (mixKind X.prog X.w).is k v = true) : Vals (kvs.map fun p => kV p.1) us := by
 refine vals_at (by rw [List.length_map, hl]; exact Paired.length kv) fun j x u e1 e2 => ?_
 rw [List.getElem?_map] at e1
 cases e3 : kvs[j]? with
 | none => rw [e3] at e1; cases e1
 | some p =>
  rw [e3] at e1
  have e1' : kV p.1 = x := Option.some.inj e1
  obtain ⟨k, y, h1, h2⟩ := h j u e2
  obtain ⟨z, hz, _⟩ := kv_get kv (show kvs[j]? = some (p.1, p.2) from e3)
  rw [h1] at hz
  have e4 : k = p.1 := congrArg Prod.fst (Option.some.inj hz)
  rw [<- e1', <- e4]
  exact relV_key (show keyIs k u = true from h2)
def rListD : List V -> Hp -> VK -> Prop := fun xs H Q => ∃ (d : Addr) (kvs : List (Key × V)), xs = [.ref d] /\ H d = some (.dK kvs) /\ ∀ l, H l = none -> Q (.ref l) (upd H l (.lst (kvs.map fun p => kV p.1)))
theorem call_list_keys (hc : X.calm = true) : CallR X (.type "list") rListD := by
 intro pins s σ H xs us Q I r h
 obtain ⟨d, kvs, rfl, hd, q⟩ := h
 obtain ⟨u, rfl, rx⟩ := vals1 r
 cases rx
 obtain ⟨hz, hs, vs, kv, hD⟩ := dk_of I.hok hd
 obtain ⟨ep, hat⟩ := hD.dictAt
 have hl : kvs.length = vs.length := Paired.length kv
 refine PySem.W.kdl_call (PySem.W.kdl_dict (knd := mixKind X.prog X.w) (kvs := vs) (ep := ep) hs) (I.ok.hd hc) hat (by rw [<- hl]; exact hz) fun h' tk acc c hk hS hacc => ?_
 have hv : Vals (kvs.map fun p => kV p.1) acc.toList := keys_vals (X := X) kv (by rw [Array.length_toList]; exact hacc.1) fun j v e => hacc.2 j v (by rw [<- Array.getElem?_toList]; exact e)
 exact ⟨.ref s.heap.objs.size, _, I.laid (t' := tk) hk (Nat.le_refl _) (show ObjOk X.prog X.w _ h' _ (.lst (kvs.map fun p => kV p.1)) from ⟨by rw [List.length_map]; exact hz, acc.toList, c, hv, by rw [Array.toArray_toList]; exact hS⟩), rfl, q _ (I.hok.fresh (Nat.le_refl _))⟩
def rSortedD : List V -> Hp -> VK -> Prop := fun xs H Q => ∃ (d : Addr) (kvs : List (Key × V)) (ns : List Int), xs = [.ref d] /\ H d = some (.dK kvs) /\ (kvs.map fun p => kV p.1) = ns.map V.int /\
 ∀ (ns' : List Int) (p : Addr), ns'.Perm ns -> ns'.Pairwise (· <= ·) -> H p = none -> Q (.ref p) (upd H p (.lst (ns'.map V.int)))
theorem cr_sortedD (hc : X.calm = true) : CallR X (.builtin "sorted") rSortedD := by
 intro pins s σ H xs us Q I r h
 obtain ⟨d, kvs, ns, rfl, hd, hns, q⟩ := h
 obtain ⟨u, rfl, rx⟩ := vals1 r
 cases rx
 obtain ⟨hz, hs, vs, kv, hD⟩ := dk_of I.hok hd
 obtain ⟨ep, hat⟩ := hD.dictAt
 have hl : kvs.length = vs.length := Paired.length kv
 refine Calls.call_function_entry kind_sorted plain_sorted entry_sorted (args_sorted1 _) ?_
 unfold Builtin.«sorted»
 refine wpAny_bind (m := checkCount "sorted" 1 1 _) (wpAny_pure ?_)
 refine wpAny_bind (PySem.W.kdu_collect (A := X.A.in1) (PySem.W.kdl_dict (knd := mixKind X.prog X.w) (kvs := vs) (ep := ep) hs) (I.ok.hd hc) hat (by rw [<- hl]; exact hz) fun h' tk acc hk hacc => ?_)
 have hlen : acc.toList.length = vs.length := by rw [Array.length_toList]; exact hacc.1
 have hL : acc.toList.length <= sizeLine := by rw [hlen, <- hl]; exact hz
 have hv : Vals (kvs.map fun p => kV p.1) acc.toList := keys_vals (X := X) kv hlen fun j v e => hacc.2 j v (by rw [<- Array.getElem?_toList]; exact e)
 rw [hns] at hv
 have hI : IntsAre acc.toList ns := intsAre_of hv
 refine wpAny_bind (wpAny_newList ?_ hL)
 have I1 : L2.Inv X pins σ H { s with heap := h', toks := tk } := I.kept hk
 have ho : (h'.push { cls := .type "list", data := .seq acc.toList.toArray }).get? h'.objs.size = some (seqObj "list" acc.toList.toArray 0) := Heap.get?_push_size _ rfl
 have hg : wpAny (model X.prog X.w) X.A.in1 (call (.builtin "list.sort") [.ref h'.objs.size]) (fun _ s' => EP X pins σ Q (.ref h'.objs.size) s') X.xe { s with heap := h'.push { cls := .type "list", data := .seq acc.toList.toArray }, toks := tk } := by
  refine wpAny_call_entry slot_list_sort ⟨_, ho, rfl⟩ entry_list_sort (list_sort_treeAny (n := 0) (vs := acc.toList) ho hI hL fun out ns' h1 h2 h3 => ⟨.none, rfl, ?_⟩) (args_list_sort _)
  obtain ⟨ep', he'⟩ := sortedHeap_at (vs := acc.toList) (out := out) ho
  have hlen2 : (ns'.map V.int).length <= sizeLine := by rw [List.length_map, h2.length_eq, <- hI.length]; exact hL
  refine ⟨.ref h'.objs.size, upd H h'.objs.size (.lst (ns'.map V.int)), I1.laid (t' := tk) (fun b o e => ?_) (Nat.le_refl _) ⟨hlen2, out.toList, ep', vals_of_ints h1, he'⟩, rfl, q ns' _ h2 h3 (I1.hok.fresh (Nat.le_refl _))⟩
  have e' := Heap.get?_push_of_some { cls := .type "list", data := .seq acc.toList.toArray } e
  rw [sortedHeap_old (Nat.ne_of_lt (Heap.lt_size e)) (Heap.lt_size e')]
  exact e'
 refine wpAny_bind (wpAny_holding (wpAny_mono hg (fun _ s' x => ?_) fun _ _ e => e))
 exact wpAny_pure ⟨_, rfl, x⟩
def rDictD : List V -> Hp -> VK -> Prop := fun xs H Q => ∃ (d : Addr) (kvs : List (Key × V)), xs = [.ref d] /\ H d = some (.dK kvs) /\ ∀ p, H p = none -> Q (.ref p) (upd H p (.dK kvs))
theorem call_dict_copy : CallR X (.type "dict") rDictD := by
 intro pins s σ H xs us Q I r h
 obtain ⟨d, kvs, rfl, hd, q⟩ := h
 obtain ⟨u, rfl, rx⟩ := vals1 r
 cases rx
 obtain ⟨hz, hs, vs, kv, hD⟩ := dk_of I.hok hd
 have hl : kvs.length = vs.length := Paired.length kv
 refine PySem.kt_call_dict hs hD (by rw [<- hl]; exact hz) fun h' hd' hsb => ?_
 have hm : (s.heap.objs.size == sysModules) = false := beq_eq_false_iff_ne.mpr (Nat.ne_of_gt I.big)
 have k : ∀ b o, s.heap.get? b = some o -> h'.get? b = some o := fun b o e => hsb.extBut b o (Nat.ne_of_lt (Heap.lt_size e)) (Heap.get?_push_of_some _ e)
 exact ⟨.ref s.heap.objs.size, upd H s.heap.objs.size (.dK kvs), I.laid (t' := s.toks) k (Nat.le_refl _) (show ObjOk X.prog X.w _ _ _ (.dK kvs) from ⟨hz, hm, vs, kv, hd'⟩), rfl, q _ (I.hok.fresh (Nat.le_refl _))⟩
end
def evens {α : Type} : List α -> List α
 | [] => []
 | [a] => [a]
 | a :: _ :: r => a :: evens r
theorem evens_pick {α : Type} : ∀ l : List α, (List.range ((l.length + 1) / 2)).filterMap (fun j => l[2 * j]?) = evens l
 | [] => by simp [evens]
 | [a] => by simp [evens]
 | a :: b :: r => by
  have e : ((a :: b :: r).length + 1) / 2 = (r.length + 1) / 2 + 1 := by
   simp only [List.length_cons]
   omega
  rw [e, List.range_succ_eq_map, List.filterMap_cons, List.filterMap_map]
  show a :: _ = a :: evens r
  rw [<- evens_pick r]
  refine congrArg (a :: ·) ?_
  congr 1
theorem evens_length {α : Type} : ∀ l : List α, (evens l).length <= l.length
 | [] => Nat.le_refl _
 | [a] => Nat.le_refl _
 | a :: b :: r => by
  have := evens_length r
  simp only [evens, List.length_cons]
  omega
theorem Vals_evens : ∀ {xs : List V} {us : List Value}, Vals xs us -> Vals (evens xs) (evens us)
 | _, _, .nil => .nil
 | _, _, .cons h .nil => .cons h .nil
 | _, _, .cons h (.cons _ r) => .cons h (Vals_evens r)
theorem pick_step (its : List Value) (k : Nat) : slicePick its.toArray (some (k : Int)) none (some 2) = (evens (its.drop k)).toArray := by
 have hb : sliceBounds (some (k : Int)) none (some 2) its.toArray.size = (((min k its.length : Nat) : Int), (its.length : Int), 2) := by
  unfold sliceBounds
  simp only [Option.getD_some, List.size_toArray, show ((2 : Int) > 0) = True by simp, if_true, show ¬ ((k : Int) < 0) by omega, if_false]
  refine Prod.ext ?_ rfl
  show max 0 (min (k : Int) (its.length : Int)) = ((min k its.length : Nat) : Int)
  omega
 unfold slicePick
 rw [hb]
 refine congrArg List.toArray ?_
 show (sliceRange ((min k its.length : Nat) : Int) (its.length : Int) 2).filterMap _ = _
 have hd : its.drop k = its.drop (min k its.length) := by
  by_cases c : k <= its.length
  ·rw [Nat.min_eq_left c]
  ·rw [Nat.min_eq_right (by omega), List.drop_length, List.drop_of_length_le (by omega)]
 rw [hd]
 have hm : min k its.length <= its.length := Nat.min_le_right _ _
 generalize min k its.length = m at hm ⊢
 rw [<- evens_pick (its.drop m), List.length_drop]
 unfold sliceRange
 have hc : (if (2 : Int) > 0 then if ((m : Nat) : Int) < (its.length : Int) then (((its.length : Int) - (m : Int) + 2 - 1) / 2) else 0 else if ((m : Nat) : Int) > (its.length : Int) then (((m : Nat) : Int) - (its.length : Int) - 2 - 1) / (-2) else 0).toNat = (its.length - m + 1) / 2 := by
  rw [if_pos (by decide)]
  by_cases c : ((m : Nat) : Int) < (its.length : Int)
  ·rw [if_pos c]; omega
  ·rw [if_neg c]; omega
 dsimp only
 rw [hc, List.filterMap_map]
 congr 1
 funext j
 show its.toArray[(((m : Nat) : Int) + 2 * (j : Int)).toNat]? = (its.drop m)[2 * j]?
 rw [List.getElem?_drop, show (((m : Nat) : Int) + 2 * (j : Int)).toNat = m + 2 * j by omega]
 simp
def tEach (K : PySem.W.Frag) (k : Nat) (te : TE) : TE := fun σ H Q => te σ H fun x H1 => ∃ (a : Addr) (xs : List V), x = .ref a /\ SqL K H1 a xs /\ ∀ p, H1 p = none -> Q (.ref p) (upd H1 p (.lst (evens (xs.drop k))))
theorem pe_each {X : Cx} {e : Expr} {te : TE} (k : Nat) {j1 j2 : Nat} {p1 p2 p3 pos : Pos} (he : PE X e te) :
  PE X (.Subscript e (.Slice (some (.Constant (.int (k : Int)) j1 p1)) none (some (.Constant (.int 2) j2 p3)) p2) pos) (tEach X.K k te) := by
 intro pins s σ H Q I h
 refine Subscript_ (thn (he pins s σ H _ I h) fun v s1 ⟨x, H1, I1, r1, q1⟩ => ?_)
 obtain ⟨a, xs, rfl, hx, q⟩ := q1
 cases r1
 refine wpAny_Slice (thn (po_some pe_int pins s1 σ H1 (fun o H' => o = some (k : Int) /\ H' = H1) I1 ⟨_, rfl, rfl, rfl⟩) fun vl s2 ⟨l, H2, I2, pl, q2⟩ => ?_)
 obtain ⟨rfl, rfl⟩ := q2
 rw [evalPart_none]
 refine wpAny_pure ?_
 refine thn (po_some pe_int pins s2 σ H2 (fun o H' => o = some 2 /\ H' = H2) I2 ⟨_, rfl, rfl, rfl⟩) fun vst s3 ⟨st, H3, I3, ps, q3⟩ => ?_
 obtain ⟨rfl, rfl⟩ := q3
 have I4 : L2.Inv X pins σ H3 { s3 with heap := s3.heap.push { cls := .type "slice", data := .fields #[vl, .none, vst] } } := I3.kept (t' := s3.toks) fun b ob q => Heap.get?_push_of_some _ q
 obtain ⟨its, r, ht, hz⟩ := I4.list hx
 have hlen := r.length
 refine tail_any (ops := [.ref a, .ref s3.heap.objs.size]) ht.isList.typeIs slot_list_getitem.lookup ?_ (by with_unfolding_all rfl)
 refine wpAny_getItem_list_slice ht.isList (Heap.IsSliceOf.new ..) pl .none ps (by simp) ?_ (by rw [List.size_toArray] <;> omega)
 rw [pick_step]
 refine ⟨.ref _, _, I4.laid (t' := s3.toks) (o := .lst (evens (xs.drop k))) (fun b ob q => Heap.get?_push_of_some _ q) (Nat.le_refl _) ?_, rfl, q _ (I4.hok.fresh (Nat.le_refl _))⟩
 exact ⟨Nat.le_trans (evens_length _) (by rw [List.length_drop]; omega), _, 0, Vals_evens (r.drop k), Heap.get?_push_size _ rfl⟩
theorem lc_keys {d : Addr} {o : Obj} {kvs : List (Key × V)} {g : TG} {tt : TT} {te : TE} {vs : List Nat} {σ : L2.St} {H1 : Hp} {D : Addr} {Qd : Hp -> Prop} (Pv : Nat -> Hp -> Prop) (h0 : Pv 0 (upd H1 D (.lst []))) (hl : ∀ i H, i <= kvs.length -> Pv i H -> H d = some (.frz o (.dK kvs)))
  (hs : ∀ i k v H, kvs[i]? = some (k, v) -> Pv i H -> g (kV k) (wipe σ vs) H fun σ2 H2 => wipe σ2 vs = wipe σ vs /\ tt σ2 H2 fun b H3 =>
   if b = true then te σ2 H3 fun y H4 => ∃ acc, H4 D = some (.lst acc) /\ acc.length < sizeLine /\ Pv (i + 1) (upd H4 D (.lst (acc ++ [y]))) else Pv (i + 1) H3) (hd : ∀ H, Pv kvs.length H -> Qd H) :
  ∃ W : Nat -> Nat -> Hp -> Prop, (∃ m, W 0 m (upd H1 D (.lst []))) /\ ∀ i m H, W i m H ->
   ((Itk d o kvs).stop i H /\ Qd H) \/ ((Itk d o kvs).go i H /\ ∃ Nx : Hp -> Prop, (∀ H', Nx H' -> ∃ m', m' < m /\ W (i + 1) m' H') /\ ∀ x H', (Itk d o kvs).yld i H x H' -> g x (wipe σ vs) H' fun σ2 H2 => wipe σ2 vs = wipe σ vs /\ tt σ2 H2 fun b H3 =>
    if b = true then te σ2 H3 fun y H4 => ∃ acc, H4 D = some (.lst acc) /\ acc.length < sizeLine /\ Nx (upd H4 D (.lst (acc ++ [y]))) else Nx H3) := by
 refine ⟨fun i m H => m = kvs.length - i /\ i <= kvs.length /\ Pv i H, ⟨kvs.length, by simp, Nat.zero_le _, h0⟩, ?_⟩
 rintro i m H ⟨rfl, hi, p⟩
 have q := hl i H hi p
 by_cases hlt : i < kvs.length
 ·refine .inr ⟨⟨q, hlt⟩, Pv (i + 1), fun H' p' => ⟨kvs.length - (i + 1), by omega, rfl, hlt, p'⟩, fun x H' y => ?_⟩
  obtain ⟨rfl, k, v, hk, rfl⟩ := y
  exact hs i k v _ hk p
 ·have e : i = kvs.length := by omega
  subst e
  exact .inl ⟨⟨q, Nat.le_refl _⟩, hd H p⟩
theorem lc_items {d : Addr} {o : Obj} {kvs : List (Key × V)} {g : TG} {tt : TT} {te : TE} {vs : List Nat} {σ : L2.St} {H1 : Hp} {D : Addr} {Qd : Hp -> Prop} (Pv : Nat -> Hp -> Prop) (h0 : Pv 0 (upd H1 D (.lst []))) (hl : ∀ i H, i <= kvs.length -> Pv i H -> H d = some (.frz o (.dK kvs)))
  (hs : ∀ i k v H T, kvs[i]? = some (k, v) -> Pv i H -> H T = none -> g (.ref T) (wipe σ vs) (upd H T (.tup [kV k, v])) fun σ2 H2 => wipe σ2 vs = wipe σ vs /\ tt σ2 H2 fun b H3 =>
   if b = true then te σ2 H3 fun y H4 => ∃ acc, H4 D = some (.lst acc) /\ acc.length < sizeLine /\ Pv (i + 1) (upd H4 D (.lst (acc ++ [y]))) else Pv (i + 1) H3) (hd : ∀ H, Pv kvs.length H -> Qd H) :
  ∃ W : Nat -> Nat -> Hp -> Prop, (∃ m, W 0 m (upd H1 D (.lst []))) /\ ∀ i m H, W i m H ->
   ((Iti d o kvs).stop i H /\ Qd H) \/ ((Iti d o kvs).go i H /\ ∃ Nx : Hp -> Prop, (∀ H', Nx H' -> ∃ m', m' < m /\ W (i + 1) m' H') /\ ∀ x H', (Iti d o kvs).yld i H x H' -> g x (wipe σ vs) H' fun σ2 H2 => wipe σ2 vs = wipe σ vs /\ tt σ2 H2 fun b H3 =>
    if b = true then te σ2 H3 fun y H4 => ∃ acc, H4 D = some (.lst acc) /\ acc.length < sizeLine /\ Nx (upd H4 D (.lst (acc ++ [y]))) else Nx H3) := by
 refine ⟨fun i m H => m = kvs.length - i /\ i <= kvs.length /\ Pv i H, ⟨kvs.length, by simp, Nat.zero_le _, h0⟩, ?_⟩
 rintro i m H ⟨rfl, hi, p⟩
 have q := hl i H hi p
 by_cases hlt : i < kvs.length
 ·refine .inr ⟨⟨q, hlt⟩, Pv (i + 1), fun H' p' => ⟨kvs.length - (i + 1), by omega, rfl, hlt, p'⟩, fun x H' y => ?_⟩
  obtain ⟨T, k, v, hk, rfl, hT, rfl⟩ := y
  exact hs i k v _ T hk p hT
 ·have e : i = kvs.length := by omega
  subst e
  exact .inl ⟨⟨q, Nat.le_refl _⟩, hd H p⟩
theorem for_items {d : Addr} {o : Obj} {kvs : List (Key × V)} {g : TG} {tb : TS} {D : Ends} {σ : L2.St} {H : Hp} (Pv : Nat -> L2.St -> Hp -> Prop) (h0 : Pv 0 σ H) (hl : ∀ i σ H, i <= kvs.length -> Pv i σ H -> H d = some (.frz o (.dK kvs)))
  (hs : ∀ i k v σ H T, kvs[i]? = some (k, v) -> Pv i σ H -> H T = none -> g (.ref T) σ (upd H T (.tup [kV k, v])) fun σ2 H2 => tb { D with nx := Pv (i + 1), ct := Pv (i + 1), bk := D.nx } σ2 H2) (hd : ∀ σ H, Pv kvs.length σ H -> D.nx σ H) :
  ∃ W : Nat -> Nat -> L2.St -> Hp -> Prop, (∃ m, W 0 m σ H) /\ ∀ i m σ H, W i m σ H ->
   ((Iti d o kvs).stop i H /\ D.nx σ H) \/ ((Iti d o kvs).go i H /\ ∃ N : L2.St -> Hp -> Prop, (∀ σ' H', N σ' H' -> ∃ m', m' < m /\ W (i + 1) m' σ' H') /\ ∀ x H', (Iti d o kvs).yld i H x H' -> g x σ H' fun σ2 H2 => tb { D with nx := N, ct := N, bk := D.nx } σ2 H2) := by
 refine ⟨fun i m σ H => m = kvs.length - i /\ i <= kvs.length /\ Pv i σ H, ⟨kvs.length, by simp, Nat.zero_le _, h0⟩, ?_⟩
 rintro i m σ H ⟨rfl, hi, p⟩
 have q := hl i σ H hi p
 by_cases hlt : i < kvs.length
 ·refine .inr ⟨⟨q, hlt⟩, Pv (i + 1), fun σ' H' p' => ⟨kvs.length - (i + 1), by omega, rfl, hlt, p'⟩, fun x H' y => ?_⟩
  obtain ⟨T, k, v, hk, rfl, hT, rfl⟩ := y
  exact hs i k v σ _ T hk p hT
 ·have e : i = kvs.length := by omega
  subst e
  exact .inl ⟨⟨q, Nat.le_refl _⟩, hd σ H p⟩
theorem for_zip {K : PySem.W.Frag} {a b : Addr} {xs ys : List V} {g : TG} {tb : TS} {D : Ends} {σ : L2.St} {H : Hp} (hlen : xs.length = ys.length) (Pv : Nat -> L2.St -> Hp -> Prop) (h0 : Pv 0 σ H) (hl : ∀ i σ H, i <= xs.length -> Pv i σ H -> SqL K H a xs /\ SqL K H b ys)
  (hs : ∀ i x y σ H T, xs[i]? = some x -> ys[i]? = some y -> Pv i σ H -> H T = none -> g (.ref T) σ (upd H T (.tup [x, y])) fun σ2 H2 => tb { D with nx := Pv (i + 1), ct := Pv (i + 1), bk := D.nx } σ2 H2) (hd : ∀ σ H, Pv xs.length σ H -> D.nx σ H) :
  ∃ W : Nat -> Nat -> L2.St -> Hp -> Prop, (∃ m, W 0 m σ H) /\ ∀ i m σ H, W i m σ H ->
   ((Itz K a b).stop i H /\ D.nx σ H) \/ ((Itz K a b).go i H /\ ∃ N : L2.St -> Hp -> Prop, (∀ σ' H', N σ' H' -> ∃ m', m' < m /\ W (i + 1) m' σ' H') /\ ∀ x H', (Itz K a b).yld i H x H' -> g x σ H' fun σ2 H2 => tb { D with nx := N, ct := N, bk := D.nx } σ2 H2) := by
 refine ⟨fun i m σ H => m = xs.length - i /\ i <= xs.length /\ Pv i σ H, ⟨xs.length, by simp, Nat.zero_le _, h0⟩, ?_⟩
 rintro i m σ H ⟨rfl, hi, p⟩
 obtain ⟨q1, q2⟩ := hl i σ H hi p
 by_cases hlt : i < xs.length
 ·refine .inr ⟨⟨xs, ys, xs[i], ys[i]'(by omega), q1, q2, by simp [hlt], by rw [List.getElem?_eq_getElem]⟩, Pv (i + 1), fun σ' H' p' => ⟨xs.length - (i + 1), by omega, rfl, hlt, p'⟩, fun x H' y => ?_⟩
  obtain ⟨T, x', y', rfl, hT, rfl, hx, hy⟩ := y
  exact hs i x' y' σ H T (hx xs q1) (hy ys q2) p hT
 ·have e : i = xs.length := by omega
  subst e
  exact .inl ⟨⟨xs, ys, q1, q2, .inl (Nat.le_refl _)⟩, hd σ H p⟩
end Mile
namespace Mile
open PySem PySem.Spec PyProof.Rows L2
open Vbahaq (Lots held stale)
theorem filter_take5 {α : Type} {p : α -> Bool} {l : List α} {i : Nat} {x : α} (h : l[i]? = some x) : (l.take (i + 1)).filter p = (l.take i).filter p ++ if p x = true then [x] else [] := by
 rw [take_at h, List.filter_append, List.filter_cons, List.filter_nil]
theorem sum_natI5 : ∀ l : List Nat, (l.map fun (n : Nat) => (n : Int)).sum = ((l.sum : Nat) : Int)
 | [] => rfl
 | n :: r => by
  rw [List.map_cons, List.sum_cons, sum_natI5 r, List.sum_cons]
  omega
theorem DGet.fr {H : Hp} {a : Addr} {o : Obj} {kvs : List (Key × V)} {k : Key} (e : H a = some (.frz o (.dK kvs))) : DGet H a (kV k) (valV kvs k) := .inl ⟨kvs, k, .inr ⟨o, e⟩, rfl, rfl⟩
section
variable {P : Program} {w : World} {K : PySem.W.Frag} {mg : Str -> Option Value} {base : Heap}
def spBefore : Sp := fun vs H Q _ => ∃ (a : Addr) (k : List (Nat × Nat)) (d : Nat), vs = [.ref a, .int d] /\ H a = some (.dK (lk k)) /\ (k.map (·.1)).Nodup /\ k.length < sizeLine /\ ∀ H', Same H H' -> Q (.int ((stale d k : Nat) : Int)) H'
theorem scBefore : FnScope ["lots", "day", "last_day"] ["lots", "day"] (defScope sBefore) := ⟨rfl, rfl, rfl, by decide +kernel, rfl, by decide +kernel, by decide +kernel⟩
theorem ok_before {f : Addr} {fd : FuncData} (F : Fun K "miles_before" "miles_before" sBefore f fd) (T : Txt0 mg) : FnOk P w K mg base CX0 1 f fd ["lots", "day"] spBefore := by
 refine F.ok scBefore (fun vs H Q E h => ?_) (fun cdv A outer s H vs Q E hr h => ?_)
 ·obtain ⟨a, k, d, rfl, _⟩ := h
  rfl
 ·obtain ⟨a, k, d, rfl, ha, ndk, hlen, q⟩ := h
  have nd := scBefore.nd
  have hu := hu_of hr
  refine ⟨_, pss_one (ps_ret (pe_callB (cr_sum rfl) (by rfl) T.sum PyProof.Rows.boot_sum (pa_cons (pe_lock (pe_lc (own := [("last_day", 2)]) (g := gName 2)
    (tt := tTest (tOp (rI0 fun i j => .bl (decide (i < j))) (tVar 2) (tVar 1))) (te := tDGet (tVar 0) (tVar 2)) rfl nd (pi_keys (pv 0)) (blkOk_by (by rfl))
    (fun _ _ _ _ _ => pg_name (i := 2) nd rfl (Or.inl rfl))
    (fun _ _ _ _ _ => pts_one (pt_cmpR op_lt (pv 2) (pv 1) (nomark _))) (fun _ _ _ _ _ => pe_dget hu (pv 0) (pv 2) (fun _ _ => rfl)))) pa_nil))), ?_⟩
  refine ⟨a, .dK (lk k), ha, True.intro, fun od => ?_⟩
  refine ⟨_, rfl, a, od, rfl, .inl ⟨_, upd_same, fun D hD => ?_⟩⟩
  have nDa : D ≠ a := fun e => by rw [e, upd_same] at hD; cases hD
  have hD' : H D = none := by rw [upd_ne nDa] at hD; exact hD
  let p : Nat × Nat -> Bool := fun x => decide (x.1 < d)
  refine lc_keys (d := a) (o := od) (kvs := lk k) (fun i H' => ∃ G : Hp, H' = upd G a (.frz od (.dK (lk k))) /\ Same H G /\ G D = some (.lst (((k.take i).filter p).map fun z => V.int (z.2 : Int))))
   ⟨upd H D (.lst []), upd_comm (Ne.symm nDa), (Same.refl H).upd_new hD', upd_same⟩ (fun i H' _ ⟨G, e, _⟩ => by rw [e]; exact upd_same) ?_ ?_
  ·rintro i kk vv H' hi ⟨G, rfl, sG, hG⟩
   obtain ⟨pr, hpr, e⟩ := at_map hi
   cases e
   refine ⟨rfl, ?_⟩
   refine ⟨_, rfl, _, rfl, _, _, rfl, rfl, _, rfl, ?_⟩
   have et : decide ((pr.1 : Int) < (d : Int)) = p pr := by
    show _ = decide (pr.1 < d)
    by_cases c : pr.1 < d
    ·rw [decide_eq_true c, decide_eq_true (by omega)]
    ·rw [decide_eq_false c, decide_eq_false (by omega)]
   show if decide ((pr.1 : Int) < (d : Int)) = true then _ else _
   rw [et, filter_take5 hpr]
   cases c : p pr with
   | true =>
    rw [if_pos rfl, if_pos rfl]
    have hv : valV (lk k) (Sum.inl (pr.1 : Int)) = some (V.int (pr.2 : Int)) := by
     rw [valV_lk, lookD_of_mem ndk (List.mem_of_getElem? hpr)]
     rfl
    refine ⟨_, rfl, _, rfl, a, _, rfl, (by have := DGet.fr (k := Sum.inl (pr.1 : Int)) (upd_same : (upd G a (.frz od (.dK (lk k)))) a = _); rw [hv] at this; exact this), ?_⟩
    refine ⟨_, by rw [upd_ne nDa]; exact hG, ?_, upd G D (.lst (((k.take i).filter p).map (fun z => V.int (z.2 : Int)) ++ [V.int (pr.2 : Int)])), upd_comm (Ne.symm nDa), sG.upd_new hD', ?_⟩
    ·rw [List.length_map]
     have l1 := List.length_filter_le p (k.take i)
     have l2 : (k.take i).length <= k.length := by rw [List.length_take]; exact Nat.min_le_right _ _
     omega
    ·rw [upd_same, List.map_append]
     rfl
   | false =>
    rw [if_neg Bool.false_ne_true, if_neg Bool.false_ne_true, List.append_nil]
    exact ⟨G, rfl, sG, hG⟩
  ·rintro H' ⟨G, rfl, sG, hG⟩
   rw [List.length_map, List.take_length] at hG
   refine ⟨upd_same, ?_⟩
   rw [upd_upd, upd_self (sG _ _ ha)]
   refine ⟨D, ((k.filter p).map (·.2)).map fun (n : Nat) => (n : Int), rfl, SqL.of ?_, ?_⟩
   ·rw [hG, List.map_map, List.map_map]
    rfl
   ·rw [sum_natI5]
    exact q G sG
structure TxtB (P : Program) (w : World) (K : PySem.W.Frag) (mg : Str -> Option Value) (base : Heap) : Prop where
 list : mg "list" = none
 before : Cal P w K mg base "miles_before" 1 ["lots", "day"] spBefore
def spRunOut : Sp := fun vs H Q _ => ∃ (a : Addr) (k : List (Nat × Nat)) (d : Nat), vs = [.ref a, .int d] /\ H a = some (.dK (lk k)) /\ (k.map (·.1)).Nodup /\ k.length < sizeLine /\
 ∀ H', KeptBut H H' [a] -> H' a = some (.dK (lk (Vbahaq.fresh d k))) -> Q (.int ((stale d k : Nat) : Int)) H'
theorem scRunOut : FnScope ["lots", "day", "miles", "last_day"] ["lots", "day"] (defScope sRunOut) := ⟨rfl, rfl, rfl, by decide +kernel, rfl, by decide +kernel, by decide +kernel⟩
def goneTo (d i : Nat) (k : List (Nat × Nat)) : List (Nat × Nat) := ((k.take i).filter fun x => decide (d <= x.1)) ++ k.drop i
theorem goneTo_sub (d i : Nat) (k : List (Nat × Nat)) : (goneTo d i k).Sublist k := by
 have h : (goneTo d i k).Sublist (k.take i ++ k.drop i) := List.Sublist.append List.filter_sublist (List.Sublist.refl _)
 rwa [List.take_append_drop] at h
theorem goneTo_nodup {d i : Nat} {k : List (Nat × Nat)} (nd : (k.map (·.1)).Nodup) : ((goneTo d i k).map (·.1)).Nodup := ((goneTo_sub d i k).map _).nodup nd
theorem goneTo_keep {d i : Nat} {k : List (Nat × Nat)} {x : Nat × Nat} (h : k[i]? = some x) (c : d <= x.1) : goneTo d (i + 1) k = goneTo d i k := by
 unfold goneTo
 obtain ⟨l1, e1⟩ := List.getElem?_eq_some_iff.mp h
 rw [filter_take5 h, if_pos (decide_eq_true c), List.drop_eq_getElem_cons l1, e1, List.append_assoc]
 rfl
theorem goneTo_drop {d i : Nat} {k : List (Nat × Nat)} {x : Nat × Nat} (nd : (k.map (·.1)).Nodup) (h : k[i]? = some x) (c : ¬ d <= x.1) : goneTo d (i + 1) k = dropD (goneTo d i k) x.1 := by
 obtain ⟨l1, e1⟩ := List.getElem?_eq_some_iff.mp h
 have nd2 := goneTo_nodup (d := d) (i := i) nd
 unfold goneTo at nd2 ⊢
 rw [List.drop_eq_getElem_cons l1, e1, List.map_append, List.map_cons] at nd2
 obtain ⟨_, n2, n3⟩ := List.nodup_append.mp nd2
 obtain ⟨n4, _⟩ := List.nodup_cons.mp n2
 rw [filter_take5 h, if_neg (by rw [decide_eq_true_iff]; exact c), List.append_nil, List.drop_eq_getElem_cons l1, e1]
 unfold dropD
 rw [List.filter_append, List.filter_cons, if_neg (by simp), filter_ne_id (r := k.drop (i + 1)) n4]
 rw [filter_ne_id (r := (k.take i).filter fun x => decide (d <= x.1)) (fun m => n3 _ m _ List.mem_cons_self rfl)]
theorem goneTo_mem {d i : Nat} {k : List (Nat × Nat)} {x : Nat × Nat} (h : k[i]? = some x) : x ∈ goneTo d i k := by
 obtain ⟨l1, e1⟩ := List.getElem?_eq_some_iff.mp h
 unfold goneTo
 rw [List.drop_eq_getElem_cons l1, e1]
 exact List.mem_append_right _ List.mem_cons_self
theorem ok_runOut {f : Addr} {fd : FuncData} (F : Fun K "run_out_before" "run_out_before" sRunOut f fd) (T : TxtB P w K mg base) : FnOk P w K mg base CX0 2 f fd ["lots", "day"] spRunOut := by
 refine F.ok scRunOut (fun vs H Q E h => ?_) (fun cdv A outer s H vs Q E hr h => ?_)
 ·obtain ⟨a, k, d, rfl, _⟩ := h
  rfl
 ·obtain ⟨a, k, d, rfl, ha, ndk, hlen, q⟩ := h
  have nd := scRunOut.nd
  have hu := hu_of hr
  refine ⟨_, pss_cons (ps_set (i := 2) nd rfl (Or.inl rfl) (pe_cal T.before hr rfl (pa_cons (pv 0) (pa_cons (pv 1) pa_nil))))
   (pss_cons (ps_for PassesOwn.never rfl (pi_list (pe_callTy (call_list_keys rfl) (by rfl) T.list PyProof.Rows.boot_list (pa_cons (pv 0) pa_nil))) (pg_name (i := 3) nd rfl (Or.inl rfl))
    (pss_one (ps_if (pt_cmpR op_lt (pv 3) (pv 1) (nomark _)) (pss_one (ps_expr (pe_dpop1 (pv 0) (pv 3) ⟨rfl, rfl, rfl, rfl⟩))) pss_nil)))
   (pss_one (ps_ret (pv 2)))), ?_⟩
  refine ⟨_, rfl, _, rfl, a, k, d, rfl, ha, ndk, hlen, fun H1 s1 => ?_⟩
  refine ⟨_, rfl, a, _, rfl, s1 _ _ ha, fun l hl => ?_⟩
  have nla : l ≠ a := fun e => by rw [e, s1 _ _ ha] at hl; cases hl
  have s2 : Same H (upd H1 l (.lst ((lk k).map fun p => kV p.1))) := s1.upd_new (s1.free hl)
  refine ⟨l, rfl, ⟨_, SqL.of upd_same⟩, for_list (K := K) (a := l) (xs := (lk k).map fun p => kV p.1)
   (fun i σ H' => KeptBut H H' [a] /\ H' l = some (.lst ((lk k).map fun p => kV p.1)) /\ H' a = some (.dK (lk (goneTo d i k))) /\ ∃ v3, σ = [some (.ref a), some (.int (d : Int)), some (.int ((stale d k : Nat) : Int)), v3])
   ⟨fun b o e _ => s2 b o e, upd_same, s2 _ _ ha, none, rfl⟩ (fun i σ H' _ ⟨_, e, _⟩ => SqL.of e) ?_ ?_⟩
  ·rintro i y σ H' hi ⟨kp, hl', ha', v3, rfl⟩
   obtain ⟨pp, hpp, rfl⟩ := at_map hi
   obtain ⟨pr, hpr, rfl⟩ := at_map hpp
   refine ⟨_, rfl, _, rfl, _, _, rfl, rfl, _, rfl, ?_⟩
   show if decide ((pr.1 : Int) < (d : Int)) = true then _ else _
   refine ite2 (fun c => ?_) (fun c => ?_)
   ·have c' : ¬ d <= pr.1 := by have := of_decide_eq_true c; omega
    have hv : valV (lk (goneTo d i k)) (Sum.inl (pr.1 : Int)) = some (V.int (pr.2 : Int)) := by
     rw [valV_lk, lookD_of_mem (goneTo_nodup ndk) (goneTo_mem hpr)]
     rfl
    refine ⟨_, rfl, a, rfl, .inl ⟨_, .inl ha'⟩, _, rfl, _, Sum.inl (pr.1 : Int), _, ha', rfl, hv, ?_⟩
    rw [dropK_lk, <- goneTo_drop ndk hpr c']
    exact ⟨fun b o e hb => by rw [upd_ne (fun z => hb (by rw [z]; exact List.mem_cons_self))]; exact kp b o e hb, by rw [upd_ne nla]; exact hl', upd_same, _, rfl⟩
   ·have c' : d <= pr.1 := by
     by_cases z : d <= pr.1
     ·exact z
     ·exact absurd (decide_eq_true (by omega)) c
    refine ⟨kp, hl', ?_, _, rfl⟩
    rw [goneTo_keep hpr c']
    exact ha'
  ·rintro σ H' ⟨kp, _, ha', v3, rfl⟩
   refine ⟨_, rfl, ?_⟩
   have e : goneTo d ((lk k).map fun p => kV p.1).length k = Vbahaq.fresh d k := by
    rw [List.length_map, List.length_map]
    unfold goneTo Vbahaq.fresh
    rw [List.take_length, List.drop_length, List.append_nil]
   rw [e] at ha'
   exact q H' kp ha'
end
end Mile
namespace Mile
open PySem PySem.Spec PyProof.Rows L2
open Vbahaq (Lots put takeDay held Draw drawn Member Award State Rules)
abbrev sTLots : Stmt := top 57
abbrev sTTier : Stmt := top 58
abbrev sTHand : Stmt := top 59
abbrev sTFore : Stmt := top 60
abbrev sTTot : Stmt := top 61
abbrev sTAws : Stmt := top 62
def tKnow (te : TE) : TE := fun σ H Q => (∀ a xs, H a = some (.lst xs) -> xs.length <= sizeLine) -> te σ H Q
theorem pe_know {X : Cx} {e : Expr} {te : TE} (h : PE X e te) : PE X e (tKnow te) := by
 intro pins s σ H Q I hw
 refine h pins s σ H Q I (hw fun a xs e => ?_)
 obtain ⟨hz, _⟩ := I.hok a _ e
 exact hz
theorem HouseAt.off_new {C : Cs} {H : Hp} {L : HL} {s : State} (h : HouseAt C H L s) {p : Addr} (f : H p = none) : p ∉ L.lists := fun m => by
 obtain ⟨_, e⟩ := h.list_at m
 rw [f] at e
 cases e
section
variable {P : Program} {w : World} {K : PySem.W.Frag} {mg : Str -> Option Value} {base : Heap} {C : Cs}
def spCost (C : Cs) : Sp := fun vs H Q _ => ∃ (r : AL) (wd : Award), vs = [.ref r.a] /\ AwAt C H r wd /\ ∀ H', Same H H' -> Q (natV (Vbahaq.drawSum wd.draws)) H'
theorem scCost : FnScope ["award", "owner", "last_day", "miles"] ["award"] (defScope sCost) := ⟨rfl, rfl, rfl, by decide +kernel, rfl, by decide +kernel, by decide +kernel⟩
theorem ok_cost {f : Addr} {fd : FuncData} (F : Fun K "cost_of" "cost_of" sCost f fd) (T : TxtA P w K mg base C) : FnOk P w K mg base CX0 1 f fd ["award"] (spCost C) := by
 refine F.ok scCost (fun vs H Q E h => ?_) (fun cdv A outer s H vs Q E hr h => ?_)
 ·obtain ⟨r, wd, rfl, _⟩ := h
  rfl
 ·obtain ⟨r, wd, rfl, aw, q⟩ := h
  have nd := scCost.nd
  obtain ⟨Z, hZ, eZ⟩ := aw.draws
  refine ⟨_, pss_one (ps_ret (pe_callB (cr_sum rfl) (by rfl) T.sum PyProof.Rows.boot_sum (pa_cons (pe_know (pe_lc (own := [("owner", 1), ("last_day", 2), ("miles", 3)]) (g := gTup K 3 (gCons (gName 1) (gCons (gName 2) (gCons (gName 3) gNil))))
    (tt := tYes) (te := tVar 3) rfl nd (pi_list (pe_fld (pv 0) rfl)) (blkOk_by (by rfl))
    (fun _ _ _ _ _ => pg_tup rfl (pgs_cons (pg_name (i := 1) nd rfl (Or.inl rfl)) (pgs_cons (pg_name (i := 2) nd rfl (Or.inl rfl)) (pgs_cons (pg_name (i := 3) nd rfl (Or.inl rfl)) pgs_nil))))
    (fun _ _ _ _ _ => pts_nil) (fun _ _ _ _ _ => pv 3))) pa_nil))), ?_⟩
  intro hkn
  have hzl := hkn _ _ hZ.lst
  rw [List.length_map] at hzl
  refine ⟨_, rfl, r.a, C.A, r.dx, _, _, rfl, aw.ins, T.clA, T.aD, (rfl : (awF r wd).lookup ("draws" : Str) = some (.ref r.dl)), r.dl, rfl, ⟨_, SqL.of hZ.lst⟩, fun D hD => ?_⟩
  refine lc_list (K := K) (a := r.dl) (xs := Z.map fun z => V.ref z.1) (fun i H' => Same H H' /\ H' D = some (.lst ((Z.take i).map fun z => natV z.2.n)))
   ⟨(Same.refl H).upd_new hD, upd_same⟩ (fun i H' _ ⟨e, _⟩ => SqL.of (e _ _ hZ.lst)) ?_ ?_
  ·rintro i y H2 hi ⟨s2, hl⟩
   obtain ⟨z, hz, rfl⟩ := at_map hi
   have hzm := List.mem_of_getElem? hz
   have hil : i < Z.length := (List.getElem?_eq_some_iff.mp hz).1
   refine ⟨z.1, _, rfl, SqT.of (s2 _ _ (hZ.tup z hzm)), rfl, _, _, rfl, _, _, rfl, _, _, rfl, rfl, ?_⟩
   refine ⟨rfl, ?_⟩
   refine tYes_of ?_
   refine ⟨_, rfl, _, hl, ?_, s2.upd_new hD, ?_⟩
   ·rw [List.length_map, List.length_take]
    omega
   ·rw [upd_same, take_at hz, List.map_append]
    rfl
  ·rintro H2 ⟨s2, hl⟩
   rw [List.length_map, List.take_length] at hl
   refine ⟨D, (Z.map fun z => z.2.n).map fun (n : Nat) => (n : Int), rfl, SqL.of ?_, ?_⟩
   ·rw [hl, List.map_map, List.map_map]
    rfl
   ·rw [sum_natI]
    have e : (Z.map fun z => z.2.n).sum = Vbahaq.drawSum wd.draws := by
     unfold Vbahaq.drawSum
     rw [<- eZ, List.map_map]
     rfl
    rw [e]
    exact q H2 s2
structure TxtS (P : Program) (w : World) (K : PySem.W.Frag) (mg : Str -> Option Value) (base : Heap) (C : Cs) : Prop extends TxtA P w K mg base C where
 sorted : mg "sorted" = none
 before : Cal P w K mg base "miles_before" 1 ["lots", "day"] spBefore
 cost : Cal P w K mg base "cost_of" 1 ["award"] (spCost C)
def spTTier (C : Cs) : Sp := fun vs H Q _ => ∃ (L : HL) (s : State) (D : List Nat) (k : Nat), vs = [.ref L.h, natV k] /\ HouseAt C H L s /\ WF D s /\ Answers C H L (Vbahaq.step s (.tier k)) Q
theorem scTTier : FnScope ["house", "asked", "member"] ["house", "asked"] (defScope sTTier) := ⟨rfl, rfl, rfl, by decide +kernel, rfl, by decide +kernel, by decide +kernel⟩
theorem ok_tTier {f : Addr} {fd : FuncData} (F : Fun K "tell_tier" "tell_tier" sTTier f fd) (T : TxtS P w K mg base C) : FnOk P w K mg base CX0 4 f fd ["house", "asked"] (spTTier C) := by
 refine F.ok scTTier (fun vs H Q E h => ?_) (fun cdv A outer s H vs Q E hr h => ?_)
 ·obtain ⟨L, st, D, k, rfl, _⟩ := h
  rfl
 ·obtain ⟨L, st, D, k, rfl, hh, wf, q⟩ := h
  have nd := scTTier.nd
  have hu := hu_of hr
  have hr2 : Room 2 _ := hr.mono (by decide)
  refine ⟨_, pss_cons (ps_if (pt_cmp (pc_dnotin hu (pv 1) (pe_fld (pv 0) rfl))) (pss_one (ps_ret (pe_lst (pa_cons (pe_gint T.noMember (by rfl)) pa_nil)))) pss_nil)
   (pss_cons (ps_set (i := 2) nd rfl (Or.inl rfl) (pe_dget hu (pe_fld (pv 0) rfl) (pv 1) (fun _ _ => rfl)))
   (pss_one (ps_ret (pe_lst (pa_cons pe_int (pa_cons (pe_cal T.tier hr rfl (pa_cons (pv 0) (pa_cons (pv 2) pa_nil))) (pa_cons (pe_cal T.poy hr2 rfl (pa_cons (pv 0) (pa_cons (pv 2) pa_nil))) pa_nil))))))), ?_⟩
  have q' := q
  unfold Vbahaq.step Vbahaq.onMember at q'
  dsimp only at q'
  rw [findM_spec hh k] at q'
  refine ⟨_, rfl, _, rfl, L.h, C.H, L.dh, _, _, rfl, hh.house, T.clH, T.hM, hF_members _ _, L.am, _, rfl, hh.get k, _, rfl, ?_⟩
  cases ef : findM L k with
  | none =>
   rw [ef] at q'
   refine iteT ?_
   refine ⟨(by show 1 <= sizeLine; decide), fun p hp => ?_⟩
   exact q'.lst (hh.mv (Same.refl H)) hp rfl
  | some r =>
   rw [ef] at q'
   dsimp only [Option.map_some] at q'
   refine iteF ?_
   obtain ⟨hrm, hid⟩ := findM_some ef
   have rin := findM_in hh hrm
   have hpt : r.2.points.length <= 1000 := Nat.le_trans (wf.pts _ rin) (by decide)
   refine ⟨_, rfl, L.h, C.H, L.dh, _, _, rfl, hh.house, T.clH, T.hM, hF_members _ _, _, rfl, L.am, _, rfl, (by have := hh.get k; rw [ef] at this; exact this), ?_⟩
   refine ⟨_, rfl, _, rfl, L, st, r, rfl, hh, hrm, hpt, wf.steps, fun H1 s1 => ?_⟩
   have h1 := hh.same s1
   refine ⟨_, rfl, _, rfl, L, st, r, rfl, h1, hrm, hpt, fun H2 s2 => ?_⟩
   refine ⟨(by show 3 <= sizeLine; decide), fun p hp => ?_⟩
   exact q'.lst (hh.mv (s1.trans s2)) hp rfl
def spTHand (C : Cs) : Sp := fun vs H Q _ => ∃ (L : HL) (s : State) (D : List Nat) (k : Nat), vs = [.ref L.h, natV k] /\ HouseAt C H L s /\ WF D s /\ Answers C H L (Vbahaq.step s (.hand k)) Q
theorem scTHand : FnScope ["house", "asked"] ["house", "asked"] (defScope sTHand) := ⟨rfl, rfl, rfl, by decide +kernel, rfl, by decide +kernel, by decide +kernel⟩
theorem ok_tHand {f : Addr} {fd : FuncData} (F : Fun K "tell_hand" "tell_hand" sTHand f fd) (T : TxtS P w K mg base C) : FnOk P w K mg base CX0 3 f fd ["house", "asked"] (spTHand C) := by
 refine F.ok scTHand (fun vs H Q E h => ?_) (fun cdv A outer s H vs Q E hr h => ?_)
 ·obtain ⟨L, st, D, k, rfl, _⟩ := h
  rfl
 ·obtain ⟨L, st, D, k, rfl, hh, wf, q⟩ := h
  have nd := scTHand.nd
  have hu := hu_of hr
  have hr1 : Room 1 _ := hr.mono (by decide)
  refine ⟨_, pss_cons (ps_if (pt_cmp (pc_dnotin hu (pv 1) (pe_fld (pv 0) rfl))) (pss_one (ps_ret (pe_lst (pa_cons (pe_gint T.noMember (by rfl)) pa_nil)))) pss_nil)
   (pss_one (ps_ret (pe_lst (pa_cons pe_int (pa_cons (pe_cal T.count hr1 rfl (pa_cons (pe_cal T.hand hr rfl (pa_cons (pv 0) (pa_cons (pv 1) pa_nil))) pa_nil)) pa_nil))))), ?_⟩
  have q' := q
  unfold Vbahaq.step Vbahaq.onMember at q'
  dsimp only at q'
  rw [findM_spec hh k] at q'
  refine ⟨_, rfl, _, rfl, L.h, C.H, L.dh, _, _, rfl, hh.house, T.clH, T.hM, hF_members _ _, L.am, _, rfl, hh.get k, _, rfl, ?_⟩
  cases ef : findM L k with
  | none =>
   rw [ef] at q'
   refine iteT ?_
   refine ⟨(by show 1 <= sizeLine; decide), fun p hp => ?_⟩
   exact q'.lst (hh.mv (Same.refl H)) hp rfl
  | some r =>
   rw [ef] at q'
   dsimp only [Option.map_some] at q'
   refine iteF ?_
   obtain ⟨hrm, hid⟩ := findM_some ef
   have kin : k ∈ st.members.map (·.id) := by rw [<- hid]; exact List.mem_map.mpr ⟨r.2, findM_in hh hrm, rfl⟩
   obtain ⟨hn1, hn2, hn3⟩ := wf.hand kin
   refine ⟨_, rfl, _, rfl, L, st, k, rfl, hh, fun o ho => findM_of (by rw [hh.ids]; exact hn3 o ho), by omega, fun H1 a hs s1 fa hho eo hof => ?_⟩
   obtain ⟨ehl, eth⟩ := handOf_eq hh wf.ids eo hof
   refine ⟨a, hs, rfl, hho, ?_⟩
   rw [eth]
   refine ⟨(by show 2 <= sizeLine; decide), fun p hp => ?_⟩
   exact q'.lst (hh.mv s1) hp rfl
def spTFore (C : Cs) : Sp := fun vs H Q _ => ∃ (L : HL) (s : State) (D : List Nat) (k d : Nat), vs = [.ref L.h, natV k, natV d] /\ HouseAt C H L s /\ WF D s /\ D.length <= 1000 /\ Answers C H L (Vbahaq.step s (.forecast k d)) Q
theorem scTFore : FnScope ["house", "asked", "day"] ["house", "asked", "day"] (defScope sTFore) := ⟨rfl, rfl, rfl, by decide +kernel, rfl, by decide +kernel, by decide +kernel⟩
theorem stale_perm {k l : List (Nat × Nat)} (h : k.Perm l) (d : Nat) : Vbahaq.stale d k = Vbahaq.stale d l := held_perm (h.filter _)
theorem ok_tFore {f : Addr} {fd : FuncData} (F : Fun K "tell_forecast" "tell_forecast" sTFore f fd) (T : TxtS P w K mg base C) : FnOk P w K mg base CX0 2 f fd ["house", "asked", "day"] (spTFore C) := by
 refine F.ok scTFore (fun vs H Q E h => ?_) (fun cdv A outer s H vs Q E hr h => ?_)
 ·obtain ⟨L, st, D, k, d, rfl, _⟩ := h
  rfl
 ·obtain ⟨L, st, D, k, d, rfl, hh, wf, hD, q⟩ := h
  have nd := scTFore.nd
  have hu := hu_of hr
  refine ⟨_, pss_cons (ps_if (pt_cmp (pc_dnotin hu (pv 1) (pe_fld (pv 0) rfl))) (pss_one (ps_ret (pe_lst (pa_cons (pe_gint T.noMember (by rfl)) pa_nil)))) pss_nil)
   (pss_one (ps_ret (pe_lst (pa_cons pe_int (pa_cons (pe_cal T.before hr rfl (pa_cons (pe_fld (pe_dget hu (pe_fld (pv 0) rfl) (pv 1) (fun _ _ => rfl)) rfl) (pa_cons (pv 2) pa_nil))) pa_nil))))), ?_⟩
  have q' := q
  unfold Vbahaq.step Vbahaq.onMember at q'
  dsimp only at q'
  rw [findM_spec hh k] at q'
  refine ⟨_, rfl, _, rfl, L.h, C.H, L.dh, _, _, rfl, hh.house, T.clH, T.hM, hF_members _ _, L.am, _, rfl, hh.get k, _, rfl, ?_⟩
  cases ef : findM L k with
  | none =>
   rw [ef] at q'
   refine iteT ?_
   refine ⟨(by show 1 <= sizeLine; decide), fun p hp => ?_⟩
   exact q'.lst (hh.mv (Same.refl H)) hp rfl
  | some r =>
   rw [ef] at q'
   dsimp only [Option.map_some] at q'
   refine iteF ?_
   obtain ⟨hrm, hid⟩ := findM_some ef
   have rin := findM_in hh hrm
   have mm := hh.member r hrm
   obtain ⟨kk, hk, pk⟩ := mm.lots
   have fewk : kk.length < sizeLine := by
    have e1 := pk.length_eq
    have e2 := wf.few rin
    exact Nat.lt_of_le_of_lt (by omega : _ <= 1000) (by decide)
   refine ⟨_, rfl, L.h, C.H, L.dh, _, _, rfl, hh.house, T.clH, T.hM, hF_members _ _, _, rfl, L.am, _, rfl, (by have := hh.get k; rw [ef] at this; exact this), r.1.a, C.M, r.1.dx, _, _, rfl, mm.ins, T.clM, T.mL, mF_lots _, ?_⟩
   refine ⟨_, rfl, r.1.la, kk, d, rfl, hk, (pk.map _).nodup_iff.mpr (wf.srt _ rin).nodup, fewk, fun H1 s1 => ?_⟩
   rw [stale_perm pk]
   refine ⟨(by show 2 <= sizeLine; decide), fun p hp => ?_⟩
   exact q'.lst (hh.mv s1) hp rfl
def spTLots (C : Cs) : Sp := fun vs H Q _ => ∃ (L : HL) (s : State) (D : List Nat) (k : Nat), vs = [.ref L.h, natV k] /\ HouseAt C H L s /\ WF D s /\ D.length <= 1000 /\ Answers C H L (Vbahaq.step s (.lots k)) Q
theorem scTLots : FnScope ["house", "asked", "lots", "answer", "last_day"] ["house", "asked"] (defScope sTLots) := ⟨rfl, rfl, rfl, by decide +kernel, rfl, by decide +kernel, by decide +kernel⟩
theorem sorted_keys {kk l : List (Nat × Nat)} (pk : kk.Perm l) (srt : Srt l) {ns : List Int} (h1 : ns.Perm (kk.map fun p => (p.1 : Int))) (h2 : ns.Pairwise (· <= ·)) : ns = l.map fun p => (p.1 : Int) := by
 refine sorted_unique (R := fun a b : Int => a <= b) (fun a b h h' => Int.le_antisymm h h') (h1.trans (pk.map _)) h2 ?_
 rw [List.pairwise_map]
 exact srt.imp fun {a b} h => by omega
theorem ok_tLots {f : Addr} {fd : FuncData} (F : Fun K "tell_lots" "tell_lots" sTLots f fd) (T : TxtS P w K mg base C) : FnOk P w K mg base CX0 1 f fd ["house", "asked"] (spTLots C) := by
 refine F.ok scTLots (fun vs H Q E h => ?_) (fun cdv A outer s H vs Q E hr h => ?_)
 ·obtain ⟨L, st, D, k, rfl, _⟩ := h
  rfl
 ·obtain ⟨L, st, D, k, rfl, hh, wf, hD, q⟩ := h
  have nd := scTLots.nd
  have hu := hu_of hr
  refine ⟨_, pss_cons (ps_if (pt_cmp (pc_dnotin hu (pv 1) (pe_fld (pv 0) rfl))) (pss_one (ps_ret (pe_lst (pa_cons (pe_gint T.noMember (by rfl)) pa_nil)))) pss_nil)
   (pss_cons (ps_set (i := 2) nd rfl (Or.inl rfl) (pe_fld (pe_dget hu (pe_fld (pv 0) rfl) (pv 1) (fun _ _ => rfl)) rfl))
   (pss_cons (ps_set (i := 3) nd rfl (Or.inl rfl) (pe_lst (pa_cons pe_int pa_nil)))
   (pss_cons (ps_for PassesOwn.never rfl (pi_list (pe_callB (cr_sortedD rfl) (by rfl) T.sorted PyProof.Rows.boot_sorted (pa_cons (pv 2) pa_nil))) (pg_name (i := 4) nd rfl (Or.inl rfl))
    (pss_one (ps_expr (pe_bm PySem.F.plainAttrs_list PySem.F.slot_list_extend PySem.F.type_list_extend mt_extend (pv 3) (pa_cons (pe_lst (pa_cons (pv 4) (pa_cons (pe_dget hu (pv 2) (pv 4) (fun _ _ => rfl)) pa_nil))) pa_nil)))))
   (pss_one (ps_ret (pv 3)))))), ?_⟩
  have q' := q
  unfold Vbahaq.step Vbahaq.onMember at q'
  dsimp only at q'
  rw [findM_spec hh k] at q'
  refine ⟨_, rfl, _, rfl, L.h, C.H, L.dh, _, _, rfl, hh.house, T.clH, T.hM, hF_members _ _, L.am, _, rfl, hh.get k, _, rfl, ?_⟩
  cases ef : findM L k with
  | none =>
   rw [ef] at q'
   refine iteT ?_
   refine ⟨(by show 1 <= sizeLine; decide), fun p hp => ?_⟩
   exact q'.lst (hh.mv (Same.refl H)) hp rfl
  | some r =>
   rw [ef] at q'
   dsimp only [Option.map_some] at q'
   refine iteF ?_
   obtain ⟨hrm, hid⟩ := findM_some ef
   have rin := findM_in hh hrm
   have mm := hh.member r hrm
   obtain ⟨kk, hk, pk⟩ := mm.lots
   have srt := wf.srt _ rin
   have fewl : r.2.lots.length <= 1000 := Nat.le_trans (wf.few rin) hD
   refine ⟨_, rfl, L.h, C.H, L.dh, _, _, rfl, hh.house, T.clH, T.hM, hF_members _ _, _, rfl, L.am, _, rfl, (by have := hh.get k; rw [ef] at this; exact this), r.1.a, C.M, r.1.dx, _, _, rfl, mm.ins, T.clM, T.mL, mF_lots _, ?_⟩
   refine ⟨(by show 1 <= sizeLine; decide), fun p hp => ?_⟩
   have s1 : Same H (upd H p (.lst [.int 0])) := (Same.refl H).upd_new hp
   refine ⟨_, rfl, r.1.la, _, kk.map fun z => (z.1 : Int), rfl, s1 _ _ hk, (by rw [List.map_map, List.map_map]; rfl), fun ns b pn sn hb => ?_⟩
   have en := sorted_keys pk srt pn sn
   subst en
   have npb : p ≠ b := ne_of_none (upd_same : (upd H p (.lst [.int 0])) p = _) hb
   have fb : H b = none := s1.free hb
   refine ⟨b, rfl, ⟨_, SqL.of upd_same⟩, for_list (K := K) (a := b) (xs := (r.2.lots.map fun z => (z.1 : Int)).map V.int)
    (fun i σ H' => Same H H' /\ H' b = some (.lst ((r.2.lots.map fun z => (z.1 : Int)).map V.int)) /\ H' p = some (.lst (V.int 0 :: (r.2.lots.take i).flatMap fun y => [natV y.1, natV y.2])) /\ ∃ v4, σ = [some (.ref L.h), some (natV k), some (.ref r.1.la), some (.ref p), v4])
    ⟨s1.upd_new fb, upd_same, by rw [upd_ne npb, upd_same]; rfl, none, rfl⟩ (fun i σ H' _ ⟨_, e, _⟩ => SqL.of e) ?_ ?_⟩
   ·rintro i y σ H2 hi ⟨s2, hb2, hp2, v4, rfl⟩
    obtain ⟨z0, hz0, rfl⟩ := at_map hi
    obtain ⟨z, hz, rfl⟩ := at_map hz0
    have hzm := List.mem_of_getElem? hz
    have hv : valV (lk kk) (Sum.inl (z.1 : Int)) = some (V.int (z.2 : Int)) := by
     rw [valV_lk, lookD_of_mem ((pk.map _).nodup_iff.mpr srt.nodup) (pk.mem_iff.mpr hzm)]
     rfl
    refine ⟨_, rfl, .inl ⟨rfl, _, SqL.of hp2⟩, _, rfl, _, rfl, _, rfl, r.1.la, _, rfl, (by have := DGet.k (k := Sum.inl (z.1 : Int)) (s2 _ _ hk); rw [hv] at this; exact this), (by show 2 <= sizeLine; decide), fun t ht => ?_⟩
    have npt : p ≠ t := ne_of_none hp2 ht
    have nbt : b ≠ t := ne_of_none hb2 ht
    refine ⟨p, t, _, _, rfl, rfl, by rw [upd_ne npt]; exact hp2, upd_same, ?_, ?_⟩
    ·rw [List.length_cons, flat2_len, List.length_take]
     have : min i r.2.lots.length <= 1000 := Nat.le_trans (Nat.min_le_right _ _) fewl
     show 2 * min i r.2.lots.length + 1 + 2 <= sizeLine
     exact Nat.le_trans (by omega : _ <= 2003) (by decide)
    ·refine ⟨(s2.upd_new (s2.free ht)).upd_new hp, by rw [upd_ne (Ne.symm npb), upd_ne nbt]; exact hb2, ?_, _, rfl⟩
     rw [upd_same, take_at hz, List.flatMap_append]
     rfl
   ·rintro σ H2 ⟨s2, hb2, hp2, v4, rfl⟩
    rw [List.length_map, List.length_map, List.take_length] at hp2
    refine ⟨_, rfl, ?_⟩
    exact q' H2 L p (hh.mv s2) hp (by rw [hp2, ok_flat]) (hh.off_new hp)
end
theorem upd_frz {G : Hp} {d p : Addr} {x y : HO} (h : p ≠ d) : upd (upd G d x) p y = upd (upd G p y) d x := upd_comm (Ne.symm h)
theorem flat3n_len {α : Type} (f : α -> List V) (hf : ∀ a, (f a).length = 3) : ∀ w0 : List α, (w0.flatMap f).length = 3 * w0.length
 | [] => rfl
 | a :: r => by
  have ih := flat3n_len f hf r
  rw [List.flatMap_cons, List.length_append, ih, hf, List.length_cons]
  omega
section
variable {P : Program} {w : World} {K : PySem.W.Frag} {mg : Str -> Option Value} {base : Heap} {C : Cs}
def spTTot (C : Cs) : Sp := fun vs H Q _ => ∃ (L : HL) (s : State) (D : List Nat), vs = [.ref L.h] /\ HouseAt C H L s /\ WF D s /\ Answers C H L (Vbahaq.step s .totals) Q
theorem scTTot : FnScope ["house", "held", "who", "member"] ["house"] (defScope sTTot) := ⟨rfl, rfl, rfl, by decide +kernel, rfl, by decide +kernel, by decide +kernel⟩
theorem ok_tTot {f : Addr} {fd : FuncData} (F : Fun K "tell_totals" "tell_totals" sTTot f fd) (T : TxtS P w K mg base C) : FnOk P w K mg base CX0 2 f fd ["house"] (spTTot C) := by
 refine F.ok scTTot (fun vs H Q E h => ?_) (fun cdv A outer s H vs Q E hr h => ?_)
 ·obtain ⟨L, st, D, rfl, _⟩ := h
  rfl
 ·obtain ⟨L, st, D, rfl, hh, wf, q⟩ := h
  have nd := scTTot.nd
  have hu := hu_of hr
  refine ⟨_, pss_cons (ps_set (i := 1) nd rfl (Or.inl rfl) (pe_cal T.count hr rfl (pa_cons (pe_lock (pe_lc (own := [("who", 2), ("member", 3)]) (g := gTup K 2 (gCons (gName 2) (gCons (gName 3) gNil)))
    (tt := tYes) (te := tTup (tCons (tVar 2) (tCons (tFld K (tVar 3) "lots") tNil))) rfl nd (pi_items (pe_fld (pv 0) rfl)) (blkOk_by (by rfl))
    (fun _ _ _ _ _ => pg_tup rfl (pgs_cons (pg_name (i := 2) nd rfl (Or.inl rfl)) (pgs_cons (pg_name (i := 3) nd rfl (Or.inl rfl)) pgs_nil)))
    (fun _ _ _ _ _ => pts_nil) (fun _ _ _ _ _ => pe_tup (pa_cons (pv 2) (pa_cons (pe_fld (pv 3) rfl) pa_nil))))) pa_nil)))
   (pss_one (ps_ret (pe_lst (pa_cons pe_int (pa_cons (pe_fld (pv 0) rfl) (pa_cons (pe_fld (pv 0) rfl) (pa_cons (pe_fld (pv 0) rfl) (pa_cons (pe_fld (pv 0) rfl) (pa_cons (pv 1) pa_nil))))))))), ?_⟩
  refine ⟨L.am, .dK (L.ms.map memK), hh.mem, True.intro, fun od => ?_⟩
  have nhm : L.h ≠ L.am := ne_of hh.house hh.mem (by intro z; cases z)
  refine ⟨_, rfl, L.h, C.H, L.dh, _, _, rfl, by rw [upd_ne nhm]; exact hh.house, T.clH, T.hM, hF_members _ _, L.am, od, _, rfl, upd_same, fun X hX => ?_⟩
  have nX : X ≠ L.am := fun e => by rw [e, upd_same] at hX; cases hX
  have fX : H X = none := by rw [upd_ne nX] at hX; exact hX
  refine lc_items (d := L.am) (o := od) (kvs := L.ms.map memK) (fun i H' => ∃ G : Hp, H' = upd G L.am (.frz od (.dK (L.ms.map memK))) /\ Same H G /\ ∃ hs : List Hd, HoldAt G X hs /\ hs.map (·.l) = (L.ms.take i).map (·.2.lots) /\ ∀ g ∈ hs, g.k.Perm g.l)
   ⟨upd H X (.lst []), upd_comm (Ne.symm nX), (Same.refl H).upd_new fX, [], ⟨upd_same, fun h hm => (by cases hm), fun h hm => (by cases hm)⟩, rfl, fun g hg => (by cases hg)⟩ (fun i H' _ ⟨G, e, _⟩ => by rw [e]; exact upd_same) ?_ ?_
  ·rintro i kk vv H' t1 hi ⟨G, rfl, sG, hs, hho, el, hpm⟩ ht1
   obtain ⟨r, hr', e⟩ := at_map hi
   cases e
   have hrm := List.mem_of_getElem? hr'
   have mm := (hh.same sG).member r hrm
   obtain ⟨kk, hk, pk⟩ := mm.lots
   have nt1 : t1 ≠ L.am := fun e => by rw [e, upd_same] at ht1; cases ht1
   have gt1 : G t1 = none := by rw [upd_ne nt1] at ht1; exact ht1
   have gam : G L.am = some (.dK (L.ms.map memK)) := sG _ _ hh.mem
   obtain ⟨G1, hG1⟩ : ∃ G1, G1 = upd G t1 (.tup [natV r.2.id, .ref r.1.a]) := ⟨_, rfl⟩
   have eG1 : upd (upd G L.am (.frz od (.dK (L.ms.map memK)))) t1 (.tup [natV r.2.id, .ref r.1.a]) = upd G1 L.am (.frz od (.dK (L.ms.map memK))) := by rw [hG1]; exact upd_frz nt1
   have sGG1 : Same G G1 := by rw [hG1]; exact (Same.refl G).upd_new gt1
   have sG1 : Same H G1 := sG.trans sGG1
   have hG1t : G1 t1 = some (.tup [natV r.2.id, .ref r.1.a]) := by rw [hG1]; exact upd_same
   show gTup K 2 _ (.ref t1) _ (upd (upd G L.am (.frz od (.dK (L.ms.map memK)))) t1 (.tup [natV r.2.id, .ref r.1.a])) _
   rw [eG1]
   have ht1' : (upd G1 L.am (.frz od (.dK (L.ms.map memK)))) t1 = some (.tup [natV r.2.id, .ref r.1.a]) := by rw [upd_ne nt1]; exact hG1t
   refine ⟨t1, _, rfl, SqT.of ht1', rfl, _, _, rfl, _, _, rfl, rfl, ?_⟩
   refine ⟨rfl, ?_⟩
   refine tYes_of ?_
   have na : r.1.a ≠ L.am := ne_of mm.ins gam (by intro z; cases z)
   refine ⟨_, rfl, ⟨_, rfl, r.1.a, C.M, r.1.dx, _, _, rfl, (by rw [upd_ne na]; exact sGG1 _ _ mm.ins), T.clM, T.mL, mF_lots _, ?_⟩⟩
   refine ⟨(by show 2 <= sizeLine; decide), fun t ht => ?_⟩
   have nt : t ≠ L.am := fun e => by rw [e, upd_same] at ht; cases ht
   have gt : G1 t = none := by rw [upd_ne nt] at ht; exact ht
   have gt' : G t = none := sGG1.free gt
   have nXt : X ≠ t := ne_of_none hho.lst gt'
   have hXl : (upd (upd G1 L.am (.frz od (.dK (L.ms.map memK)))) t (.tup [natV r.2.id, .ref r.1.la])) X = some (.lst (hs.map fun h => V.ref h.t)) := by
    rw [upd_ne nXt, upd_ne nX]
    exact sGG1 _ _ hho.lst
   refine ⟨_, hXl, ?_, ?_⟩
   ·rw [List.length_map]
    have e1 : hs.length = (L.ms.take i).length := by
     have := congrArg List.length el
     rwa [List.length_map, List.length_map] at this
    have e2 : L.ms.length = st.members.length := by rw [<- hh.hm, List.length_map]
    have e3 : (L.ms.take i).length <= L.ms.length := by rw [List.length_take]; exact Nat.min_le_right _ _
    have e4 := wf.mlen
    exact Nat.lt_of_le_of_lt (by omega : _ <= 30) (by decide)
   ·have keepT : ∀ b o, G b = some o -> b ≠ X -> (upd (upd G1 t (.tup [natV r.2.id, .ref r.1.la])) X (.lst (hs.map (fun h => V.ref h.t) ++ [V.ref t]))) b = some o := fun b o e nb => by
     rw [upd_ne nb, upd_ne (ne_of_none e gt')]
     exact sGG1 _ _ e
    refine ⟨upd (upd G1 t (.tup [natV r.2.id, .ref r.1.la])) X (.lst (hs.map (fun h => V.ref h.t) ++ [V.ref t])), ?_, (sG1.upd_new (sG1.free gt)).upd_new fX, hs ++ [⟨r.2.id, t, r.1.la, kk, r.2.lots⟩], ⟨?_, ?_, ?_⟩, ?_, ?_⟩
    ·rw [upd_frz nt, upd_frz nX]
    ·rw [upd_same, List.map_append]
     rfl
    ·intro h hm
     rcases List.mem_append.mp hm with hm | hm
     ·have e1 := hho.tup h hm
      exact keepT _ _ e1 (ne_of e1 hho.lst (by intro z; cases z))
     ·rw [List.mem_singleton.mp hm, upd_ne (Ne.symm nXt), upd_same]
    ·intro h hm
     rcases List.mem_append.mp hm with hm | hm
     ·have e1 := hho.lots h hm
      exact keepT _ _ e1 (ne_of e1 hho.lst (by intro z; cases z))
     ·rw [List.mem_singleton.mp hm]
      exact keepT _ _ hk (ne_of hk hho.lst (by intro z; cases z))
    ·rw [List.map_append, el, take_at hr', List.map_append]
     rfl
    ·intro g hg
     rcases List.mem_append.mp hg with hg | hg
     ·exact hpm g hg
     ·rw [List.mem_singleton.mp hg]; exact pk
  ·rintro H' ⟨G, rfl, sG, hs, hho, el, hpm⟩
   rw [List.length_map, List.take_length] at el
   refine ⟨upd_same, ?_⟩
   rw [upd_upd, upd_self (sG _ _ hh.mem)]
   refine ⟨X, hs, rfl, hho, ?_⟩
   have h1 := hh.same sG
   have et : totH hs = Vbahaq.heldAll st := by
    unfold totH Vbahaq.heldAll
    have e1 : (hs.map fun h => held h.k) = (hs.map (·.l)).map held := by
     rw [List.map_map]
     exact List.map_congr_left fun g hg => held_perm (hpm g hg)
    rw [e1, el, <- hh.hm, List.map_map, List.map_map]
    rfl
   rw [et]
   have hx := h1.house
   refine ⟨_, rfl, L.h, C.H, L.dh, _, _, rfl, hx, T.clH, T.hE, hF_earned _ _, _, rfl, L.h, C.H, L.dh, _, _, rfl, hx, T.clH, T.hSp, hF_spent _ _, _, rfl, L.h, C.H, L.dh, _, _, rfl, hx, T.clH, T.hR, hF_returned _ _, _, rfl, L.h, C.H, L.dh, _, _, rfl, hx, T.clH, T.hO, hF_run_out _ _, _, rfl, ?_⟩
   refine ⟨(by show 6 <= sizeLine; decide), fun p hp => ?_⟩
   exact Answers.lst (r := Vbahaq.step st .totals) q (hh.mv sG) hp rfl
def spTAws (C : Cs) : Sp := fun vs H Q _ => ∃ (L : HL) (s : State) (D : List Nat), vs = [.ref L.h] /\ HouseAt C H L s /\ WF D s /\ Answers C H L (Vbahaq.step s .awards) Q
theorem scTAws : FnScope ["house", "answer", "booking", "award"] ["house"] (defScope sTAws) := ⟨rfl, rfl, rfl, by decide +kernel, rfl, by decide +kernel, by decide +kernel⟩
def awV (a : Award) : List V := [natV a.booking, natV a.id, natV (Vbahaq.drawSum a.draws)]
theorem ok_awV (ys : List Award) : (Vbahaq.ok (ys.flatMap fun a => [a.booking, a.id, Vbahaq.drawSum a.draws])).map V.int = V.int 0 :: ys.flatMap awV := by
 unfold Vbahaq.ok Vbahaq.ints
 rw [List.map_cons]
 refine congrArg _ ?_
 induction ys with
 | nil => rfl
 | cons y r ih =>
  rw [List.flatMap_cons, List.flatMap_cons, List.map_append, List.map_append, ih]
  rfl
theorem ok_tAws {f : Addr} {fd : FuncData} (F : Fun K "tell_awards" "tell_awards" sTAws f fd) (T : TxtS P w K mg base C) : FnOk P w K mg base CX0 2 f fd ["house"] (spTAws C) := by
 refine F.ok scTAws (fun vs H Q E h => ?_) (fun cdv A outer s H vs Q E hr h => ?_)
 ·obtain ⟨L, st, D, rfl, _⟩ := h
  rfl
 ·obtain ⟨L, st, D, rfl, hh, wf, q⟩ := h
  have nd := scTAws.nd
  have hu := hu_of hr
  refine ⟨_, pss_cons (ps_set (i := 1) nd rfl (Or.inl rfl) (pe_lst (pa_cons pe_int pa_nil)))
   (pss_cons (ps_lock (ps_for PassesOwn.never rfl (pi_items (pe_fld (pv 0) rfl)) (pg_tup rfl (pgs_cons (pg_name (i := 2) nd rfl (Or.inl rfl)) (pgs_cons (pg_name (i := 3) nd rfl (Or.inl rfl)) pgs_nil)))
    (pss_one (ps_expr (pe_bm PySem.F.plainAttrs_list PySem.F.slot_list_extend PySem.F.type_list_extend mt_extend (pv 1) (pa_cons (pe_lst (pa_cons (pv 2) (pa_cons (pe_fld (pv 3) rfl) (pa_cons (pe_cal T.cost hr rfl (pa_cons (pv 3) pa_nil)) pa_nil)))) pa_nil))))))
   (pss_one (ps_ret (pv 1)))), ?_⟩
  refine ⟨(by show 1 <= sizeLine; decide), fun p hp => ?_⟩
  have s0 : Same H (upd H p (.lst [.int 0])) := (Same.refl H).upd_new hp
  have h0 := hh.same s0
  have npw : p ≠ L.aw := fun e => by rw [e, hh.aws] at hp; cases hp
  have nhw : L.h ≠ L.aw := ne_of hh.house hh.aws (by intro z; cases z)
  refine ⟨L.aw, .dK (L.ws.map awK), h0.aws, True.intro, fun od => ?_⟩
  have lenw : L.ws.length <= 100 := by
   have e2 : L.ws.length = st.awards.length := by rw [<- hh.hw, List.length_map]
   have := wf.alen
   omega
  refine ⟨_, rfl, L.h, C.H, L.dh, _, _, rfl, by rw [upd_ne nhw]; exact h0.house, T.clH, T.hA, hF_awards _ _, L.aw, od, _, rfl, upd_same, for_items (d := L.aw) (o := od) (kvs := L.ws.map awK)
   (fun i σ H' => (∃ G : Hp, H' = upd G L.aw (.frz od (.dK (L.ws.map awK))) /\ Same H G /\ G p = some (.lst (V.int 0 :: ((L.ws.take i).map (·.2)).flatMap awV))) /\ ∃ v2 v3, σ = [some (.ref L.h), some (.ref p), v2, v3])
   ⟨⟨upd H p (.lst [.int 0]), rfl, s0, upd_same⟩, none, none, rfl⟩ (fun i σ H' _ ⟨⟨G, e, _⟩, _⟩ => by rw [e]; exact upd_same) ?_ ?_⟩
  ·rintro i kk vv σ H' t1 hi ⟨⟨G, rfl, sG, hGp⟩, v2, v3, rfl⟩ ht1
   obtain ⟨r, hr', e⟩ := at_map hi
   cases e
   have hrm := List.mem_of_getElem? hr'
   have aw := (hh.same sG).award r hrm
   have nt1 : t1 ≠ L.aw := fun e => by rw [e, upd_same] at ht1; cases ht1
   have gt1 : G t1 = none := by rw [upd_ne nt1] at ht1; exact ht1
   have gaw : G L.aw = some (.dK (L.ws.map awK)) := sG _ _ hh.aws
   obtain ⟨G1, hG1⟩ : ∃ G1, G1 = upd G t1 (.tup [natV r.2.booking, .ref r.1.a]) := ⟨_, rfl⟩
   have eG1 : upd (upd G L.aw (.frz od (.dK (L.ws.map awK)))) t1 (.tup [natV r.2.booking, .ref r.1.a]) = upd G1 L.aw (.frz od (.dK (L.ws.map awK))) := by rw [hG1]; exact upd_frz nt1
   have sGG1 : Same G G1 := by rw [hG1]; exact (Same.refl G).upd_new gt1
   have sG1 : Same H G1 := sG.trans sGG1
   have hG1t : G1 t1 = some (.tup [natV r.2.booking, .ref r.1.a]) := by rw [hG1]; exact upd_same
   show gTup K 2 _ (.ref t1) _ (upd (upd G L.aw (.frz od (.dK (L.ws.map awK)))) t1 (.tup [natV r.2.booking, .ref r.1.a])) _
   rw [eG1]
   have ht1' : (upd G1 L.aw (.frz od (.dK (L.ws.map awK)))) t1 = some (.tup [natV r.2.booking, .ref r.1.a]) := by rw [upd_ne nt1]; exact hG1t
   refine ⟨t1, _, rfl, SqT.of ht1', rfl, _, _, rfl, _, _, rfl, rfl, ?_⟩
   have keepL : ∀ b o, G1 b = some o -> (∀ kvs, o ≠ .dK kvs) -> (upd G1 L.aw (.frz od (.dK (L.ws.map awK)))) b = some o := fun b o e ne => by
    rw [upd_ne (ne_of e (sG1 _ _ hh.aws) (ne _))]
    exact e
   have aw1 : AwAt C (upd G1 L.aw (.frz od (.dK (L.ws.map awK)))) r.1 r.2 := by
    refine aw.keep (fun o e => ?_) (fun o e => ?_) (fun b xs e => keepL b _ (sGG1 _ _ e) fun _ z => by cases z)
    ·rw [aw.ins] at e; cases e; exact keepL _ _ (sGG1 _ _ aw.ins) fun _ z => by cases z
    ·obtain ⟨Z, hZ, _⟩ := aw.draws
     rw [hZ.lst] at e; cases e; exact keepL _ _ (sGG1 _ _ hZ.lst) fun _ z => by cases z
   have hp1 : (upd G1 L.aw (.frz od (.dK (L.ws.map awK)))) p = some (.lst (V.int 0 :: ((L.ws.take i).map (·.2)).flatMap awV)) := keepL _ _ (sGG1 _ _ hGp) fun _ z => by cases z
   refine ⟨_, rfl, .inl ⟨rfl, _, SqL.of hp1⟩, _, rfl, ⟨_, rfl, r.1.a, C.A, r.1.dx, _, _, rfl, aw1.ins, T.clA, T.aA, (rfl : (awF r.1 r.2).lookup ("asker" : Str) = some (natV r.2.id)), ?_⟩⟩
   refine ⟨_, rfl, r.1, r.2, rfl, aw1, fun H2 s2 => ?_⟩
   refine ⟨(by show 3 <= sizeLine; decide), fun t ht => ?_⟩
   have hp2 := s2 _ _ hp1
   have hw2 : H2 L.aw = some (.frz od (.dK (L.ws.map awK))) := s2 _ _ upd_same
   have npt : p ≠ t := ne_of_none hp2 ht
   have nwt : L.aw ≠ t := ne_of_none hw2 ht
   refine ⟨p, t, _, _, rfl, rfl, by rw [upd_ne npt]; exact hp2, upd_same, ?_, ?_⟩
   ·rw [List.length_cons, flat3n_len awV (fun _ => rfl), List.length_map, List.length_take]
    have : min i L.ws.length <= 100 := Nat.le_trans (Nat.min_le_right _ _) lenw
    show 3 * min i L.ws.length + 1 + 3 <= sizeLine
    exact Nat.le_trans (by omega : _ <= 304) (by decide)
   ·refine ⟨⟨upd (upd (upd H2 L.aw (.dK (L.ws.map awK))) t (.lst (awV r.2))) p (.lst ((V.int 0 :: ((L.ws.take i).map (·.2)).flatMap awV) ++ awV r.2)), ?_, ?_, ?_⟩, _, _, rfl⟩
    ·show upd (upd H2 t _) p _ = _
     rw [upd_comm (G := upd (upd H2 L.aw _) t _) npw, upd_comm (G := upd H2 L.aw _) (Ne.symm nwt), upd_upd, upd_self hw2]
     rfl
    ·have s3 : Same H (upd H2 L.aw (.dK (L.ws.map awK))) := fun b o e => by
      by_cases c : b = L.aw
      ·rw [c, upd_same]
       rw [c, hh.aws] at e
       exact e
      ·rw [upd_ne c]
       refine s2 b o ?_
       rw [upd_ne c]
       exact sG1 b o e
     exact (s3.upd_new (by
      have e1 : (upd G1 L.aw (.frz od (.dK (L.ws.map awK)))) t = none := s2.free ht
      rw [upd_ne (Ne.symm nwt)] at e1
      exact sG1.free e1)).upd_new hp
    ·rw [upd_same, take_at hr', List.map_append, List.flatMap_append]
     simp
  ·rintro σ H' ⟨⟨G, rfl, sG, hGp⟩, v2, v3, rfl⟩
   rw [List.length_map, List.take_length, hh.hw] at hGp
   refine ⟨upd_same, ?_⟩
   rw [upd_upd, upd_self (sG _ _ hh.aws)]
   refine ⟨_, rfl, ?_⟩
   exact q G L p (hh.mv sG) hp (by rw [hGp]; exact congrArg (fun z => some (HO.lst z)) (ok_awV st.awards).symm) (hh.off_new hp)
end
def clkM (d : Nat) (m : Member) : Member := { m with lots := Vbahaq.fresh d m.lots, points := m.points.filter fun p => decide (d < p.1 + 365) }
abbrev mTag (r : ML × Member) : Addr × Addr × Addr × Nat := (r.1.a, r.1.dx, r.1.la, r.2.id)
structure Clk (C : Cs) (H : Hp) (L : HL) (s : State) (d i : Nat) (H' : Hp) (ds : List (ML × Member)) : Prop where
 kp : KeptBut H H' (L.h :: (L.mas ++ L.las))
 house : H' L.h = some (.ins C.H L.dh (houseF L { s with today := d }))
 same : ds.map mTag = (L.ms.take i).map mTag
 mem : ds.map (·.2) = (L.ms.take i).map fun r => clkM d r.2
 done : ∀ r ∈ ds, MemAt C H' r.1 r.2
 new : ∀ r ∈ ds, H r.1.pa = none
 ndp : (ds.map fun r => r.1.pa).Nodup
 rest : ∀ r ∈ L.ms.drop i, MemAt C H' r.1 r.2
section
variable {C : Cs} {H H' : Hp} {L : HL} {s : State} {d i : Nat} {ds : List (ML × Member)}
theorem HouseAt.mas_la (h : HouseAt C H L s) {r r' : ML × Member} (hr : r ∈ L.ms) (hr' : r' ∈ L.ms) (e : r.1.a = r'.1.a) : r.1.la = r'.1.la := by
 have e1 := (h.member r hr).ins
 rw [e, (h.member r' hr').ins] at e1
 have e2 := Option.some.inj e1
 injection e2 with _ _ e3
 unfold memF at e3
 injection e3 with e4 _
 have e5 : V.ref r'.1.la = V.ref r.1.la := congrArg Prod.snd e4
 injection e5 with e6
 exact e6.symm
theorem HouseAt.aw_not_mas (h : HouseAt C H L s) {r : AL × Award} (hr : r ∈ L.ws) : r.1.a ∉ L.mas := fun m => by
 obtain ⟨r', hr', e⟩ := List.mem_map.mp m
 have e1 := (h.award r hr).ins
 have e0 : r'.1.a = r.1.a := e
 rw [<- e0, (h.member r' hr').ins] at e1
 have e2 := Option.some.inj e1
 injection e2 with _ _ e3
 unfold memF awF at e3
 injection e3 with e4 _
 have e5 : ("lots" : Str) = "asker" := congrArg Prod.fst e4
 exact absurd e5 (by decide +kernel)
theorem HouseAt.kMas (h : HouseAt C H L s) (kp : KeptBut H H' (L.h :: (L.mas ++ L.las))) {b : Addr} {o : HO} (e : H b = some o) (n1 : ∀ D dx fs, o ≠ .ins D dx fs) (n2 : b ∉ L.las) : H' b = some o := by
 refine kp b o e fun m => ?_
 rcases List.mem_cons.mp m with z | m
 ·rw [z, h.house] at e; cases e; exact n1 _ _ _ rfl
 ·rcases List.mem_append.mp m with m | m
  ·obtain ⟨r, hr, z⟩ := List.mem_map.mp m
   have z0 : r.1.a = b := z
   rw [<- z0, (h.member r hr).ins] at e; cases e; exact n1 _ _ _ rfl
  ·exact n2 m
theorem HouseAt.kNonD (h : HouseAt C H L s) (kp : KeptBut H H' (L.h :: (L.mas ++ L.las))) {b : Addr} {o : HO} (e : H b = some o) (n1 : ∀ D dx fs, o ≠ .ins D dx fs) (n2 : ∀ kvs, o ≠ .dK kvs) : H' b = some o :=
 h.kMas kp e n1 fun m => by
  obtain ⟨kvs, e2⟩ := h.la_dict m
  rw [e] at e2
  exact n2 kvs (Option.some.inj e2)
theorem take_all {α : Type} (l : List α) : l.take l.length = l := List.take_length
theorem Clk.fin (c : Clk C H L s d L.ms.length H' ds) (h : HouseAt C H L s) : Mv C H L H' { L with ms := ds } { s with today := d, members := s.members.map (clkM d) } := by
 have esame : ds.map mTag = L.ms.map mTag := by rw [c.same, take_all]
 have emem : ds.map (·.2) = L.ms.map fun r => clkM d r.2 := by rw [c.mem, take_all]
 obtain ⟨o1, o2, _⟩ := h.las_off
 have kt : TupsStay H H' := fun b xs e => h.kNonD c.kp e (fun _ _ _ q => by cases q) fun _ q => by cases q
 have ela : (ds.map fun r => r.1.la) = L.las := by
  have := congrArg (List.map fun t : Addr × Addr × Addr × Nat => t.2.2.1) esame
  rw [List.map_map, List.map_map] at this
  exact this
 have ema : (ds.map fun r => r.1.a) = L.mas := by
  have := congrArg (List.map fun t : Addr × Addr × Addr × Nat => t.1) esame
  rw [List.map_map, List.map_map] at this
  exact this
 have emk : ds.map memK = L.ms.map memK := by
  have := congrArg (List.map fun t : Addr × Addr × Addr × Nat => ((Sum.inl (t.2.2.2 : Int) : Key), V.ref t.1)) esame
  rw [List.map_map, List.map_map] at this
  exact this
 have ed : ({ L with ms := ds } : HL).dicts = L.dicts := by
  show L.am :: L.aw :: (ds.map fun r => r.1.la) = _
  rw [ela]
  rfl
 have newoff : ∀ b, b ∈ (ds.map fun r => r.1.pa) -> H b = none := fun b hb => by
  obtain ⟨r, hr, rfl⟩ := List.mem_map.mp hb
  exact c.new r hr
 have ndo : (L.ap :: L.ab :: L.as_ :: (L.pas ++ (L.ps.map (·.1) ++ L.ws.map fun r => r.1.dl))).Nodup := h.ndL
 have off : ∀ b, b ∈ L.lists -> b ∉ (ds.map fun r => r.1.pa) := fun b hb m => by
  obtain ⟨_, e⟩ := h.list_at hb
  rw [newoff b m] at e
  cases e
 refine ⟨?_, rfl, fun b hb => ?_, fun b hb => ?_, fun b o e hb => c.kp b o e fun m => hb ?_, fun b o e => ?_⟩
 ·exact
  {hm := by
    show ds.map (·.2) = s.members.map (clkM d)
    rw [emem, <- h.hm, List.map_map]
    rfl
   hp := h.hp
   hw := h.hw
   house := c.house
   mem := by
    show H' L.am = some (.dK (ds.map memK))
    rw [emk]
    exact h.kMas c.kp h.mem (fun _ _ _ q => by cases q) o1
   aws := h.kMas c.kp h.aws (fun _ _ _ q => by cases q) o2
   pools := h.kNonD c.kp h.pools (fun _ _ _ q => by cases q) fun _ q => by cases q
   bon := h.kNonD c.kp h.bon (fun _ _ _ q => by cases q) fun _ q => by cases q
   stp := h.kNonD c.kp h.stp (fun _ _ _ q => by cases q) fun _ q => by cases q
   member := c.done
   pool := fun p hp => h.kNonD c.kp (h.pool p hp) (fun _ _ _ q => by cases q) fun _ q => by cases q
   award := fun r hr => by
    have m := h.award r hr
    refine m.keep (fun o e => c.kp _ o e fun z => ?_) (fun o e => ?_) kt
    ·rcases List.mem_cons.mp z with z | z
     ·exact h.aw_ne hr z
     ·rcases List.mem_append.mp z with z | z
      ·exact h.aw_not_mas hr z
      ·obtain ⟨kvs, e2⟩ := h.la_dict z
       rw [m.ins] at e2; cases e2
    ·obtain ⟨Z, hZ, _⟩ := m.draws
     rw [hZ.lst] at e; cases e
     exact h.kNonD c.kp hZ.lst (fun _ _ _ q => by cases q) fun _ q => by cases q
   ndD := by rw [ed]; exact h.ndD
   ndL := by
    show (L.ap :: L.ab :: L.as_ :: ((ds.map fun r => r.1.pa) ++ (L.ps.map (·.1) ++ L.ws.map fun r => r.1.dl))).Nodup
    obtain ⟨n1, nd⟩ := List.nodup_cons.mp ndo
    obtain ⟨n2, nd⟩ := List.nodup_cons.mp nd
    obtain ⟨n3, nd⟩ := List.nodup_cons.mp nd
    obtain ⟨_, nd2, _⟩ := List.nodup_append.mp nd
    have tin : ∀ b, b ∈ (L.ps.map (·.1) ++ L.ws.map fun r => r.1.dl) -> b ∈ L.lists := fun b hb => List.mem_cons_of_mem _ (List.mem_cons_of_mem _ (List.mem_cons_of_mem _ (List.mem_append_right _ hb)))
    have nap : ∀ b, b ∈ L.lists -> b ∉ (L.ps.map (·.1) ++ L.ws.map fun r => r.1.dl) -> b ∉ (ds.map fun r => r.1.pa) ++ (L.ps.map (·.1) ++ L.ws.map fun r => r.1.dl) := fun b hb hn m => by
     rcases List.mem_append.mp m with m | m
     ·exact off b hb m
     ·exact hn m
    refine List.nodup_cons.mpr ⟨fun m => ?_, List.nodup_cons.mpr ⟨fun m => ?_, List.nodup_cons.mpr ⟨nap _ HL.as_in (fun m => n3 (List.mem_append_right _ m)), List.nodup_append.mpr ⟨c.ndp, nd2, fun a ha b hb e => off b (tin b hb) (by rw [<- e]; exact ha)⟩⟩⟩⟩
    ·rcases List.mem_cons.mp m with z | m
     ·exact n1 (by rw [z]; exact List.mem_cons_self)
     ·rcases List.mem_cons.mp m with z | m
      ·exact n1 (by rw [z]; exact List.mem_cons_of_mem _ List.mem_cons_self)
      ·exact nap _ HL.ap_in (fun m => n1 (List.mem_cons_of_mem _ (List.mem_cons_of_mem _ (List.mem_append_right _ m)))) m
    ·rcases List.mem_cons.mp m with z | m
     ·exact n2 (by rw [z]; exact List.mem_cons_self)
     ·exact nap _ HL.ab_in (fun m => n2 (List.mem_cons_of_mem _ (List.mem_append_right _ m))) m }
 ·have hb' : b ∈ L.ap :: L.ab :: L.as_ :: ((ds.map fun r => r.1.pa) ++ (L.ps.map (·.1) ++ L.ws.map fun r => r.1.dl)) := hb
  rcases List.mem_cons.mp hb' with z | m
  ·left; rw [z]; exact HL.ap_in
  ·rcases List.mem_cons.mp m with z | m
   ·left; rw [z]; exact HL.ab_in
   ·rcases List.mem_cons.mp m with z | m
    ·left; rw [z]; exact HL.as_in
    ·rcases List.mem_append.mp m with m | m
     ·exact .inr (newoff b m)
     ·left; exact List.mem_cons_of_mem _ (List.mem_cons_of_mem _ (List.mem_cons_of_mem _ (List.mem_append_right _ m)))
 ·have hb' : b ∈ L.h :: L.ap :: ((L.am :: L.aw :: (ds.map fun r => r.1.la)) ++ ((ds.map fun r => r.1.pa) ++ (ds.map fun r => r.1.a))) := hb
  rw [ela, ema] at hb'
  rcases List.mem_cons.mp hb' with z | m
  ·left; rw [z]; exact List.mem_cons_self
  ·rcases List.mem_cons.mp m with z | m
   ·left; rw [z]; exact List.mem_cons_of_mem _ List.mem_cons_self
   ·rcases List.mem_append.mp m with m | m
    ·left; exact List.mem_cons_of_mem _ (List.mem_cons_of_mem _ (List.mem_append_left _ m))
    ·rcases List.mem_append.mp m with m | m
     ·exact .inr (newoff b m)
     ·left; exact List.mem_cons_of_mem _ (List.mem_cons_of_mem _ (List.mem_append_right _ (List.mem_append_right _ m)))
 ·rcases List.mem_cons.mp m with z | m
  ·rw [z]; exact List.mem_cons_self
  ·rcases List.mem_append.mp m with m | m
   ·exact List.mem_cons_of_mem _ (List.mem_cons_of_mem _ (List.mem_append_right _ (List.mem_append_right _ m)))
   ·exact List.mem_cons_of_mem _ (List.mem_cons_of_mem _ (List.mem_append_left _ (List.mem_cons_of_mem _ (List.mem_cons_of_mem _ m))))
 ·by_cases m : b ∈ L.h :: (L.mas ++ L.las)
  ·rcases List.mem_cons.mp m with z | m
   ·rw [z]; exact ⟨_, c.house⟩
   ·rcases List.mem_append.mp m with m | m
    ·rw [<- ema] at m
     obtain ⟨r, hr, rfl⟩ := List.mem_map.mp m
     exact ⟨_, (c.done r hr).ins⟩
    ·rw [<- ela] at m
     obtain ⟨r, hr, rfl⟩ := List.mem_map.mp m
     obtain ⟨kk, e2, _⟩ := (c.done r hr).lots
     exact ⟨_, e2⟩
  ·exact ⟨o, c.kp b o e m⟩
theorem Clk.next (h : HouseAt C H L s) (nd : (s.members.map (·.id)).Nodup) (c : Clk C H L s d i H' ds) {r : ML × Member} (hr : L.ms[i]? = some r) {H2 : Hp} {pa : Addr} (fpa : H pa = none) (npa : H' pa = none)
  (kp : KeptBut H' H2 [r.1.a, r.1.la]) (hins : H2 r.1.a = some (.ins C.M r.1.dx (memF { r.1 with pa := pa }))) (hl : LotsAt H2 r.1.la (Vbahaq.fresh d r.2.lots)) (hp : PtsAt H2 pa (r.2.points.filter fun p => decide (d < p.1 + 365))) :
  Clk C H L s d (i + 1) H2 (ds ++ [({ r.1 with pa := pa }, clkM d r.2)]) := by
 have hrm := List.mem_of_getElem? hr
 have ndl : L.las.Nodup := (List.nodup_cons.mp (List.nodup_cons.mp h.ndD).2).2
 obtain ⟨il, eil⟩ := List.getElem?_eq_some_iff.mp hr
 have apart : ∀ (j : Nat) (r' : ML × Member), L.ms[j]? = some r' -> j ≠ i -> r'.1.la ≠ r.1.la /\ r'.1.a ≠ r.1.a := fun j r' hj ne => by
  have nla : r'.1.la ≠ r.1.la := fun e => ne (nd_ix ndl (x := r'.1.la) (by unfold HL.las; rw [List.getElem?_map, hj]; rfl) (by unfold HL.las; rw [List.getElem?_map, hr, e]; rfl))
  exact ⟨nla, fun e => nla (h.mas_la (List.mem_of_getElem? hj) hrm e)⟩
 have keepM : ∀ (rl : ML) (m : Member), MemAt C H' rl m -> rl.a ≠ r.1.a -> rl.la ≠ r.1.la -> MemAt C H2 rl m := fun rl m hm n1 n2 => by
  have kk : ∀ b o, H' b = some o -> (∀ D dx fs, o ≠ .ins D dx fs) -> (∀ kvs, o ≠ .dK kvs) -> H2 b = some o := fun b o e q1 q2 => kp b o e fun z => by
   rcases List.mem_cons.mp z with z | z
   ·rw [z] at e
    by_cases hd : i < (L.ms.drop i).length + i
    ·have := (c.rest r (by rw [List.drop_eq_getElem_cons il, eil]; exact List.mem_cons_self)).ins
     rw [this] at e; cases e; exact q1 _ _ _ rfl
    ·have := (c.rest r (by rw [List.drop_eq_getElem_cons il, eil]; exact List.mem_cons_self)).ins
     rw [this] at e; cases e; exact q1 _ _ _ rfl
   ·rw [List.mem_singleton.mp z] at e
    obtain ⟨k2, e2, _⟩ := (c.rest r (by rw [List.drop_eq_getElem_cons il, eil]; exact List.mem_cons_self)).lots
    rw [e2] at e; cases e; exact q2 _ rfl
  refine hm.keep (fun o e => kp _ o e fun z => ?_) (fun o e => kp _ o e fun z => ?_) (fun o e => ?_) fun b xs e => kk b _ e (fun _ _ _ q => by cases q) fun _ q => by cases q
  ·rcases List.mem_cons.mp z with z | z
   ·exact n1 z
   ·have z' := List.mem_singleton.mp z
    obtain ⟨k2, e2, _⟩ := (c.rest r (by rw [List.drop_eq_getElem_cons il, eil]; exact List.mem_cons_self)).lots
    rw [z', e2] at e
    have := hm.ins
    rw [z', e2] at this
    cases this
  ·rcases List.mem_cons.mp z with z | z
   ·have e3 := (c.rest r (by rw [List.drop_eq_getElem_cons il, eil]; exact List.mem_cons_self)).ins
    obtain ⟨k2, e2, _⟩ := hm.lots
    rw [z, e3] at e2
    cases e2
   ·exact n2 (List.mem_singleton.mp z)
  ·obtain ⟨Z, hZ, _⟩ := hm.pts
   rw [hZ.lst] at e; cases e
   exact kk _ _ hZ.lst (fun _ _ _ q => by cases q) fun _ q => by cases q
 have dn : ∀ r' ∈ ds, ∃ (j : Nat) (r0 : ML × Member), j < i /\ L.ms[j]? = some r0 /\ mTag r' = mTag r0 := fun r' hr' => by
  have hm : mTag r' ∈ (L.ms.take i).map mTag := by rw [<- c.same]; exact List.mem_map.mpr ⟨r', hr', rfl⟩
  obtain ⟨r0, h0, e0⟩ := List.mem_map.mp hm
  obtain ⟨j, hj⟩ := List.getElem?_of_mem h0
  have jl : j < i := by
   have := (List.getElem?_eq_some_iff.mp hj).1
   rw [List.length_take] at this
   omega
  rw [List.getElem?_take, if_pos jl] at hj
  exact ⟨j, r0, jl, hj, e0.symm⟩
 refine ⟨fun b o e hb => ?_, ?_, ?_, ?_, fun r' hr' => ?_, fun r' hr' => ?_, ?_, fun r' hr' => ?_⟩
 ·refine kp b o (c.kp b o e hb) fun z => hb ?_
  rcases List.mem_cons.mp z with z | z
  ·rw [z]; exact List.mem_cons_of_mem _ (List.mem_append_left _ (List.mem_map.mpr ⟨r, hrm, rfl⟩))
  ·rw [List.mem_singleton.mp z]; exact List.mem_cons_of_mem _ (List.mem_append_right _ (List.mem_map.mpr ⟨r, hrm, rfl⟩))
 ·refine kp _ _ c.house fun z => ?_
  rcases List.mem_cons.mp z with z | z
  ·exact h.mem_ne hrm z.symm
  ·have z' := List.mem_singleton.mp z
   obtain ⟨k2, e2, _⟩ := (h.member r hrm).lots
   rw [<- z', h.house] at e2
   cases e2
 ·rw [List.map_append, c.same, take_at hr, List.map_append]
  rfl
 ·rw [List.map_append, c.mem, take_at hr, List.map_append]
  rfl
 ·rcases List.mem_append.mp hr' with hr' | hr'
  ·obtain ⟨j, r0, jl, hj, e0⟩ := dn r' hr'
   obtain ⟨n1, n2⟩ := apart j r0 hj (by omega)
   have e1 : r'.1.a = r0.1.a := congrArg (·.1) e0
   have e2 : r'.1.la = r0.1.la := congrArg (·.2.2.1) e0
   exact keepM r'.1 r'.2 (c.done r' hr') (by rw [e1]; exact n2) (by rw [e2]; exact n1)
  ·rw [List.mem_singleton.mp hr']
   exact ⟨hins, hl, hp⟩
 ·rcases List.mem_append.mp hr' with hr' | hr'
  ·exact c.new r' hr'
  ·rw [List.mem_singleton.mp hr']; exact fpa
 ·rw [List.map_append]
  refine L2.nd_snoc c.ndp fun m => ?_
  obtain ⟨r', hr', e⟩ := List.mem_map.mp m
  obtain ⟨Z, hZ, _⟩ := (c.done r' hr').pts
  have e' : r'.1.pa = pa := e
  have := hZ.lst
  rw [e', npa] at this
  cases this
 ·have hd : r' ∈ L.ms.drop i := by
   rw [List.drop_eq_getElem_cons il]
   exact List.mem_cons_of_mem _ hr'
  obtain ⟨j, hj⟩ := List.getElem?_of_mem hr'
  rw [List.getElem?_drop] at hj
  obtain ⟨n1, n2⟩ := apart _ r' hj (by omega)
  exact keepM r'.1 r'.2 (c.rest r' hd) n2 n1
theorem Clk.trk (c : Clk C H L s d i H' ds) (h : HouseAt C H L s) {b : Addr} {o : HO} (e : H b = some o) : ∃ o', H' b = some o' := by
 have mid : ∀ r2 ∈ L.ms, (∃ r3, MemAt C H' r3.1 r3.2 /\ mTag r3 = mTag r2) := fun r2 hr2 => by
  obtain ⟨j, hj⟩ := List.getElem?_of_mem hr2
  by_cases jl : j < i
  ·have : mTag r2 ∈ ds.map mTag := by
    rw [c.same]
    exact List.mem_map.mpr ⟨r2, List.mem_of_getElem? (by rw [List.getElem?_take, if_pos jl]; exact hj), rfl⟩
   obtain ⟨r3, hr3, e3⟩ := List.mem_map.mp this
   exact ⟨r3, c.done r3 hr3, e3⟩
  ·exact ⟨r2, c.rest r2 (List.mem_of_getElem? (i := j - i) (by rw [List.getElem?_drop, show i + (j - i) = j by omega]; exact hj)), rfl⟩
 by_cases m : b ∈ L.h :: (L.mas ++ L.las)
 ·rcases List.mem_cons.mp m with z | m
  ·rw [z]; exact ⟨_, c.house⟩
  ·rcases List.mem_append.mp m with m | m
   ·obtain ⟨r2, hr2, e2⟩ := List.mem_map.mp m
    obtain ⟨r3, m3, e3⟩ := mid r2 hr2
    have e4 : r3.1.a = r2.1.a := congrArg (·.1) e3
    have e5 := m3.ins
    have e2' : r2.1.a = b := e2
    rw [e4, e2'] at e5
    exact ⟨_, e5⟩
   ·obtain ⟨r2, hr2, e2⟩ := List.mem_map.mp m
    obtain ⟨r3, m3, e3⟩ := mid r2 hr2
    have e4 : r3.1.la = r2.1.la := congrArg (·.2.2.1) e3
    obtain ⟨_, e5, _⟩ := m3.lots
    have e2' : r2.1.la = b := e2
    rw [e4, e2'] at e5
    exact ⟨_, e5⟩
 ·exact ⟨o, c.kp b o e m⟩
theorem Clk.free (c : Clk C H L s d i H' ds) (h : HouseAt C H L s) {b : Addr} (e : H' b = none) : H b = none := by
 cases q : H b with
 | none => rfl
 | some o =>
  obtain ⟨o', e'⟩ := c.trk h q
  rw [e] at e'
  cases e'
theorem Clk.newO (c : Clk C H L s d i H' ds) {t : Addr} {o : HO} (ht : H' t = none) : Clk C H L s d i (upd H' t o) ds := by
 have k : ∀ b u, H' b = some u -> (upd H' t o) b = some u := fun b u e => by rw [upd_ne (ne_of_none e ht)]; exact e
 exact ⟨fun b u e hb => k b u (c.kp b u e hb), k _ _ c.house, c.same, c.mem, fun r hr => (c.done r hr).keep (fun u => k _ u) (fun u => k _ u) (fun u => k _ u) fun b xs => k b _, c.new, c.ndp,
  fun r hr => (c.rest r hr).keep (fun u => k _ u) (fun u => k _ u) (fun u => k _ u) fun b xs => k b _⟩
theorem Clk.off (c : Clk C H L s d i H' ds) (h : HouseAt C H L s) {z : Addr} {xs ys : List V} (hz : H' z = some (.lst xs)) (fz : H z = none) (hn : ∀ r ∈ ds, r.1.pa ≠ z) : Clk C H L s d i (upd H' z (.lst ys)) ds := by
 have k : ∀ b u, H' b = some u -> b ≠ z -> (upd H' z (.lst ys)) b = some u := fun b u e ne => by rw [upd_ne ne]; exact e
 have kM : ∀ (rl : ML) (m : Member), MemAt C H' rl m -> rl.pa ≠ z -> MemAt C (upd H' z (.lst ys)) rl m := fun rl m hm np => by
  refine hm.keep (fun o e => k _ o e fun q => ?_) (fun o e => k _ o e fun q => ?_) (fun o e => k _ o e np) fun b xs e => k b _ e fun q => ?_
  ·have := hm.ins; rw [q, hz] at this; cases this
  ·obtain ⟨_, e2, _⟩ := hm.lots; rw [q, hz] at e2; cases e2
  ·rw [q, hz] at e; cases e
 refine ⟨fun b u e hb => k b u (c.kp b u e hb) (ne_of_none e fz), k _ _ c.house fun q => ?_, c.same, c.mem, fun r hr => kM _ _ (c.done r hr) (hn r hr), c.new, c.ndp, fun r hr => kM _ _ (c.rest r hr) fun q => ?_⟩
 ·have := h.house; rw [q, fz] at this; cases this
 ·obtain ⟨Z, hZ, _⟩ := (h.member r (List.mem_of_mem_drop hr)).pts
  have := hZ.lst
  rw [q, fz] at this
  cases this
end
end Mile
namespace Mile
open PySem PySem.Spec PyProof.Rows L2
open Vbahaq (Lots put takeDay held Draw drawn Member Award State Rules stale)
abbrev sClock : Stmt := top 46
def outP (d : Nat) (m : Member) : Bool := decide (0 < stale d m.lots)
def outsOf (d : Nat) (ms : List Member) : List (Nat × Nat) := (ms.filter (outP d)).map fun m => (m.id, stale d m.lots)
def outSum (d : Nat) (ms : List Member) : Nat := ((outsOf d ms).map (·.2)).sum
theorem outs_snoc (d : Nat) (ms : List Member) (m : Member) : outsOf d (ms ++ [m]) = outsOf d ms ++ if outP d m = true then [(m.id, stale d m.lots)] else [] := by
 unfold outsOf
 rw [List.filter_append, List.map_append, List.filter_cons, List.filter_nil]
 by_cases c : outP d m = true
 ·rw [if_pos c, if_pos c]; rfl
 ·rw [if_neg c, if_neg c]; rfl
def clk0 (C : Cs) (L : HL) (st : State) (d : Nat) (H : Hp) (p l : Addr) (kl : List V) : Hp := upd (upd (upd H L.h (.ins C.H L.dh (houseF L { st with today := d }))) p (.lst [])) l (.lst kl)
structure TxtK (P : Program) (w : World) (K : PySem.W.Frag) (mg : Str -> Option Value) (base : Heap) (C : Cs) : Prop extends TxtS P w K mg base C where
 runOut : Cal P w K mg base "run_out_before" 2 ["lots", "day"] spRunOut
 tooEarly : GInt mg "TOO_EARLY" (-10)
section
variable {P : Program} {w : World} {K : PySem.W.Frag} {mg : Str -> Option Value} {base : Heap} {C : Cs}
def spClock (C : Cs) : Sp := fun vs H Q _ => ∃ (L : HL) (s : State) (D : List Nat) (d : Nat), vs = [.ref L.h, natV d] /\ HouseAt C H L s /\ WF D s /\ D.length <= 1000 /\ Answers C H L (Vbahaq.step s (.clock d)) Q
theorem scClock : FnScope ["house", "day", "total", "told", "who", "member", "pair", "miles"] ["house", "day"] (defScope sClock) := ⟨rfl, rfl, rfl, by decide +kernel, rfl, by decide +kernel, by decide +kernel⟩
theorem ok_clock {f : Addr} {fd : FuncData} (F : Fun K "move_clock" "move_clock" sClock f fd) (T : TxtK P w K mg base C) : FnOk P w K mg base CX0 3 f fd ["house", "day"] (spClock C) := by
 refine F.ok scClock (fun vs H Q E h => ?_) (fun cdv A outer s H vs Q E hr h => ?_)
 ·obtain ⟨L, st, D, d, rfl, _⟩ := h
  rfl
 ·obtain ⟨L, st, D, d, rfl, hh, wf, hD, q⟩ := h
  have nd := scClock.nd
  have hu := hu_of hr
  have hr1 : Room 1 _ := hr.mono (by decide)
  refine ⟨_, pss_cons (ps_if (pt_cmpR op_lt (pv 1) (pe_fld (pv 0) rfl) (nomark _)) (pss_one (ps_ret (pe_lst (pa_cons (pe_gint T.tooEarly (by rfl)) pa_nil)))) pss_nil)
   (pss_cons (ps_fld (pv 0) (pv 1) rfl)
   (pss_cons (ps_set (i := 2) nd rfl (Or.inl rfl) pe_int)
   (pss_cons (ps_set (i := 3) nd rfl (Or.inl rfl) (pe_lst pa_nil))
   (pss_cons (ps_for PassesOwn.never rfl (pi_list (pe_callTy (call_list_keys rfl) (by rfl) T.list PyProof.Rows.boot_list (pa_cons (pe_fld (pv 0) rfl) pa_nil))) (pg_name (i := 4) nd rfl (Or.inl rfl))
    (pss_cons (ps_set (i := 5) nd rfl (Or.inl rfl) (pe_dget hu (pe_fld (pv 0) rfl) (pv 4) (fun _ _ => rfl)))
    (pss_cons (ps_fld (pv 5) (pe_lc (own := [("pair", 6)]) (g := gName 6)
     (tt := tB (tCall spCounts [] E0 (tCons (tOp (rIxT K) (tVar 6) (tC (.int 0))) (tCons (tVar 1) tNil)))) (te := tVar 6) rfl nd (pi_list (pe_fld (pv 5) rfl)) (blkOk_by (by rfl))
     (fun _ _ _ _ _ => pg_name (i := 6) nd rfl (Or.inl rfl))
     (fun _ _ _ _ _ => pts_one (pt_val (pe_cal T.counts hr1 rfl (pa_cons (pe_ix ix_tup (pv 6) pe_int (fun _ _ => rfl)) (pa_cons (pv 1) pa_nil))))) (fun _ _ _ _ _ => pv 6)) rfl)
    (pss_cons (ps_set (i := 7) nd rfl (Or.inl rfl) (pe_cal T.runOut hr rfl (pa_cons (pe_fld (pv 5) rfl) (pa_cons (pv 1) pa_nil))))
    (pss_one (ps_if (pt_cmpR op_gt (pv 7) pe_int (nomark _))
     (pss_cons (ps_expr (pe_bm PySem.F.plainAttrs_list PySem.F.slot_list_extend PySem.F.type_list_extend mt_extend (pv 3) (pa_cons (pe_lst (pa_cons (pv 4) (pa_cons (pv 7) pa_nil))) pa_nil)))
     (pss_one (ps_aug (i := 2) nd rfl (Or.inl rfl) (pv 7) ip_add))) pss_nil))))))
   (pss_cons (ps_fldaug (pv 0) (pv 2) in_add)
   (pss_one (ps_ret (pe_op op_cat (pe_lst (pa_cons pe_int (pa_cons (pv 2) pa_nil))) (pv 3))))))))), ?_⟩
  have q' := q
  unfold Vbahaq.step at q'
  dsimp only at q'
  refine ⟨_, rfl, _, rfl, L.h, C.H, L.dh, _, _, rfl, hh.house, T.clH, T.hT, hF_today _ _, _, _, rfl, rfl, _, rfl, ?_⟩
  by_cases c0 : d < st.today
  ·rw [if_pos c0] at q'
   refine ite2 (fun _ => ?_) (fun z => absurd (decide_eq_true (by show (d : Int) < (st.today : Int); omega)) z)
   refine ⟨(by show 1 <= sizeLine; decide), fun p hp => ?_⟩
   exact q'.lst (hh.mv (Same.refl H)) hp rfl
  ·rw [if_neg c0] at q'
   refine ite2 (fun z => absurd (of_decide_eq_true z) (by show ¬ (d : Int) < (st.today : Int); omega)) (fun _ => ?_)
   refine ⟨_, rfl, _, rfl, L.h, C.H, L.dh, _, rfl, hh.house, T.clH, T.hT, (by show 11 < 1000; decide), ?_⟩
   have ep : putF "today" (natV d) (houseF L st) = houseF L { st with today := d } := rfl
   show _
   refine ⟨Nat.zero_le _, fun p hp => ?_⟩
   have nph : p ≠ L.h := fun e => by rw [e, upd_same] at hp; cases hp
   have fp : H p = none := by rw [upd_ne nph] at hp; exact hp
   have hmm : (upd (upd H L.h (.ins C.H L.dh (houseF L { st with today := d }))) p (.lst [])) L.am = some (.dK (L.ms.map memK)) := by
    rw [upd_ne (fun e => by rw [<- e, hh.mem] at fp; cases fp), upd_ne (ne_of hh.mem hh.house (by intro z; cases z))]
    exact hh.mem
   have hhh : (upd (upd H L.h (.ins C.H L.dh (houseF L { st with today := d }))) p (.lst [])) L.h = some (.ins C.H L.dh (houseF L { st with today := d })) := by rw [upd_ne (Ne.symm nph), upd_same]
   refine ⟨_, rfl, L.h, C.H, L.dh, _, _, rfl, hhh, T.clH, T.hM, hF_members L { st with today := d }, L.am, _, rfl, hmm, fun l hl => ?_⟩
   have nlp : l ≠ p := fun e => by rw [e, upd_same] at hl; cases hl
   rw [upd_ne nlp] at hl
   have nlh : l ≠ L.h := fun e => by rw [e, upd_same] at hl; cases hl
   have fl : H l = none := by rw [upd_ne nlh] at hl; exact hl
   let kl : List V := (L.ms.map memK).map fun z => kV z.1
   have k0 : ∀ b o, H b = some o -> b ≠ L.h -> (clk0 C L st d H p l kl) b = some o := fun b o e ne => by
    unfold clk0
    rw [upd_ne (ne_of_none e fl), upd_ne (ne_of_none e fp), upd_ne ne]
    exact e
   have h0l : (clk0 C L st d H p l kl) l = some (.lst kl) := by unfold clk0; exact upd_same
   have h0p : (clk0 C L st d H p l kl) p = some (.lst []) := by unfold clk0; rw [upd_ne (Ne.symm nlp), upd_same]
   have c1 : Clk C H L st d 0 (clk0 C L st d H p l kl) [] := ⟨fun b o e hb => k0 b o e fun z => hb (by rw [z]; exact List.mem_cons_self), by unfold clk0; rw [upd_ne (Ne.symm nlh)]; exact hhh, rfl, rfl, fun r hr => (by cases hr), fun r hr => (by cases hr), List.nodup_nil, fun r hr => by
    have hrm : r ∈ L.ms := hr
    have m := hh.member r hrm
    refine m.keep (fun o e => k0 _ o e (hh.mem_ne hrm)) (fun o e => ?_) (fun o e => ?_) fun b xs e => k0 b _ e (ne_of e hh.house (by intro z; cases z))
    ·obtain ⟨k2, e2, _⟩ := m.lots
     exact k0 _ o e (ne_of e2 hh.house (by intro z; cases z))
    ·obtain ⟨Z, hZ, _⟩ := m.pts
     exact k0 _ o e (ne_of hZ.lst hh.house (by intro z; cases z))⟩
   have lms : L.ms.length <= 30 := by
    have e2 : L.ms.length = st.members.length := by rw [<- hh.hm, List.length_map]
    have := wf.mlen
    omega
   refine ⟨l, rfl, ⟨_, SqL.of upd_same⟩, for_list (K := K) (a := l) (xs := kl)
    (fun i σ H' => (∃ ds, Clk C H L st d i H' ds /\ ∀ r ∈ ds, r.1.pa ≠ p) /\ H' l = some (.lst kl) /\ H' p = some (.lst ((outsOf d ((L.ms.take i).map (·.2))).flatMap fun y => [natV y.1, natV y.2])) /\
     ∃ v4 v5 v6 v7, σ = [some (.ref L.h), some (natV d), some (natV (outSum d ((L.ms.take i).map (·.2)))), some (.ref p), v4, v5, v6, v7])
    ⟨⟨[], c1, fun r hr => (by cases hr)⟩, h0l, h0p, none, none, none, none, rfl⟩ (fun i σ H' _ ⟨_, e, _⟩ => SqL.of e) ?_ ?_⟩
   ·rintro i y σ H1 hi ⟨⟨ds, ck, cp⟩, hl1, hp1, v4, v5, v6, v7, rfl⟩
    obtain ⟨mk, hmk, rfl⟩ := at_map hi
    obtain ⟨r, hr', rfl⟩ := at_map hmk
    have hrm := List.mem_of_getElem? hr'
    obtain ⟨il, eil⟩ := List.getElem?_eq_some_iff.mp hr'
    have mm : MemAt C H1 r.1 r.2 := ck.rest r (by rw [List.drop_eq_getElem_cons il, eil]; exact List.mem_cons_self)
    have rin : r.2 ∈ st.members := by rw [<- hh.hm]; exact List.mem_map.mpr ⟨r, hrm, rfl⟩
    have fM : findM L r.2.id = some r := by
     obtain ⟨r', hr2⟩ := findM_of (L := L) (k := r.2.id) (List.mem_map.mpr ⟨r, hrm, rfl⟩)
     obtain ⟨m1, m2⟩ := findM_some hr2
     rw [hr2, hh.one wf.ids m1 hrm (.inl m2)]
    have hmem1 : H1 L.am = some (.dK (L.ms.map memK)) := hh.kMas ck.kp hh.mem (fun _ _ _ z => by cases z) hh.las_off.1
    have hget : DGet H1 L.am (.int (r.2.id : Int)) (some (V.ref r.1.a)) := by
     have := DGet.k (k := Sum.inl (r.2.id : Int)) hmem1
     rw [valV_mem] at this
     have e3 : L.ms.find? (fun x => decide (x.2.id = r.2.id)) = some r := fM
     rw [e3] at this
     exact this
    refine ⟨_, rfl, L.h, C.H, L.dh, _, _, rfl, ck.house, T.clH, T.hM, hF_members L { st with today := d }, _, rfl, L.am, _, rfl, hget, ?_⟩
    obtain ⟨Z, hZ, eZ⟩ := mm.pts
    refine ⟨_, rfl, r.1.a, C.M, r.1.dx, _, _, rfl, mm.ins, T.clM, T.mP, mF_points _, r.1.pa, rfl, ⟨_, SqL.of hZ.lst⟩, fun X hX => ?_⟩
    let pp : (Addr × (Nat × Nat)) -> Bool := fun z => decide (d < z.2.1 + 365)
    have npt : r.2.points.length <= 60 := wf.pts _ rin
    have lZ : Z.length = r.2.points.length := by rw [<- eZ, List.length_map]
    refine lc_list (K := K) (a := r.1.pa) (xs := Z.map fun z => V.ref z.1) (fun j H' => Same H1 H' /\ H' X = some (.lst (((Z.take j).filter pp).map fun z => V.ref z.1)))
     ⟨(Same.refl H1).upd_new hX, upd_same⟩ (fun j H' _ ⟨e, _⟩ => SqL.of (e _ _ hZ.lst)) ?_ ?_
    ·rintro j y H2 hj ⟨s2, hl2⟩
     obtain ⟨z, hz, rfl⟩ := at_map hj
     have hzm := List.mem_of_getElem? hz
     refine ⟨rfl, ?_⟩
     refine ⟨_, rfl, z.1, _, _, _, rfl, rfl, SqT.of (s2 _ _ (hZ.tup z hzm)), atI_nat (j := 0) rfl, _, rfl, _, _, rfl, _, rfl, ?_⟩
     have et : decide ((d : Int) < (z.2.1 : Int) + 365) = pp z := by
      show _ = decide (d < z.2.1 + 365)
      by_cases c : d < z.2.1 + 365
      ·rw [decide_eq_true c, decide_eq_true (by omega)]
      ·rw [decide_eq_false c, decide_eq_false (by omega)]
     show if decide ((d : Int) < (z.2.1 : Int) + 365) = true then _ else _
     rw [et, filter_take hz]
     cases c : pp z with
     | true =>
      rw [if_pos rfl, if_pos rfl]
      refine ⟨_, rfl, _, hl2, ?_, s2.upd_new hX, ?_⟩
      ·rw [List.length_map]
       have l1 := List.length_filter_le pp (Z.take j)
       have l2 : (Z.take j).length <= Z.length := by rw [List.length_take]; exact Nat.min_le_right _ _
       exact Nat.lt_of_le_of_lt (by omega : _ <= 60) (by decide)
      ·rw [upd_same, List.map_append]
       rfl
     | false =>
      rw [if_neg Bool.false_ne_true, if_neg Bool.false_ne_true, List.append_nil]
      exact ⟨s2, hl2⟩
    ·rintro H2 ⟨s2, hl2⟩
     rw [List.length_map, List.take_length] at hl2
     have fX : H X = none := ck.free hh hX
     obtain ⟨kk, hk, pk⟩ := mm.lots
     have ndk : (kk.map (·.1)).Nodup := (pk.map _).nodup_iff.mpr (wf.srt _ rin).nodup
     have fewk : kk.length < sizeLine := by
      have e1 := pk.length_eq
      have e2 := wf.few rin
      exact Nat.lt_of_le_of_lt (by omega : _ <= 1000) (by decide)
     refine ⟨_, rfl, r.1.a, C.M, r.1.dx, _, rfl, s2 _ _ mm.ins, T.clM, T.mP, (by show 2 < 1000; decide), ?_⟩
     have nla : r.1.la ≠ r.1.a := ne_of hk mm.ins (by intro z; cases z)
     have nXa : X ≠ r.1.a := fun e => by rw [e, mm.ins] at hX; cases hX
     have nXl : X ≠ r.1.la := fun e => by rw [e, hk] at hX; cases hX
     have h3a : (upd H2 r.1.a (.ins C.M r.1.dx (memF { r.1 with pa := X }))) r.1.a = some (.ins C.M r.1.dx (memF { r.1 with pa := X })) := upd_same
     have h3k : ∀ b o, H2 b = some o -> b ≠ r.1.a -> (upd H2 r.1.a (.ins C.M r.1.dx (memF { r.1 with pa := X }))) b = some o := fun b o e ne => by rw [upd_ne ne]; exact e
     have h3l : (upd H2 r.1.a (.ins C.M r.1.dx (memF { r.1 with pa := X }))) r.1.la = some (.dK (lk kk)) := h3k _ _ (s2 _ _ hk) nla
     refine ⟨_, rfl, r.1.a, C.M, r.1.dx, _, _, rfl, h3a, T.clM, T.mL, mF_lots { r.1 with pa := X }, _, rfl, r.1.la, kk, d, rfl, h3l, ndk, fewk, fun H4 kp4 hl4 => ?_⟩
     have k14 : KeptBut H1 H4 [r.1.a, r.1.la] := fun b o e hb => kp4 b o (h3k b o (s2 b o e) fun z => hb (by rw [z]; exact List.mem_cons_self)) fun z => hb (by rw [List.mem_singleton.mp z]; exact List.mem_cons_of_mem _ List.mem_cons_self)
     have h4a : H4 r.1.a = some (.ins C.M r.1.dx (memF { r.1 with pa := X })) := kp4 _ _ h3a fun z => nla (List.mem_singleton.mp z).symm
     have h4X : H4 X = some (.lst ((Z.filter pp).map fun z => V.ref z.1)) := kp4 _ _ (h3k _ _ hl2 nXa) fun z => nXl (List.mem_singleton.mp z)
     have ck2 := ck.next hh wf.ids hr' fX hX k14 h4a ⟨_, hl4, pk.filter _⟩ ⟨Z.filter pp, ⟨h4X, fun z hz => by
      have hzm := (List.mem_filter.mp hz).1
      have e1 := hZ.tup z hzm
      refine k14 _ _ e1 fun m => ?_
      rcases List.mem_cons.mp m with m | m
      ·rw [m, mm.ins] at e1; cases e1
      ·rw [List.mem_singleton.mp m, hk] at e1; cases e1⟩, by rw [<- eZ, List.filter_map]; rfl⟩
     have h4l : H4 l = some (.lst kl) := k14 _ _ hl1 fun m => by
      rcases List.mem_cons.mp m with m | m
      ·rw [m, mm.ins] at hl1; cases hl1
      ·rw [List.mem_singleton.mp m, hk] at hl1; cases hl1
     have h4p : H4 p = some (.lst ((outsOf d ((L.ms.take i).map (·.2))).flatMap fun y => [natV y.1, natV y.2])) := k14 _ _ hp1 fun m => by
      rcases List.mem_cons.mp m with m | m
      ·rw [m, mm.ins] at hp1; cases hp1
      ·rw [List.mem_singleton.mp m, hk] at hp1; cases hp1
     rw [stale_perm pk]
     have eo : outsOf d ((L.ms.take (i + 1)).map (·.2)) = outsOf d ((L.ms.take i).map (·.2)) ++ if outP d r.2 = true then [(r.2.id, stale d r.2.lots)] else [] := by
      rw [take_at hr', List.map_append]
      exact outs_snoc d _ r.2
     refine ⟨_, rfl, _, _, rfl, rfl, _, rfl, ?_⟩
     by_cases c : 0 < stale d r.2.lots
     ·have cP : outP d r.2 = true := decide_eq_true c
      rw [if_pos cP] at eo
      refine ite2 (fun _ => ?_) (fun z => absurd (decide_eq_true (by show (0 : Int) < ((stale d r.2.lots : Nat) : Int); omega)) z)
      refine ⟨_, rfl, .inl ⟨rfl, _, SqL.of h4p⟩, _, rfl, _, rfl, (by show 2 <= sizeLine; decide), fun t ht => ?_⟩
      have npt : p ≠ t := ne_of_none h4p ht
      have nlt : l ≠ t := ne_of_none h4l ht
      refine ⟨p, t, _, _, rfl, rfl, by rw [upd_ne npt]; exact h4p, upd_same, ?_, ?_⟩
      ·rw [flat2_len]
       have e1 : (outsOf d ((L.ms.take i).map (·.2))).length <= 30 := by
        unfold outsOf
        rw [List.length_map]
        have l1 := List.length_filter_le (outP d) ((L.ms.take i).map (·.2))
        rw [List.length_map, List.length_take] at l1
        omega
       show 2 * (outsOf d ((L.ms.take i).map (·.2))).length + 2 <= sizeLine
       exact Nat.le_trans (by omega : _ <= 62) (by decide)
      ·refine ⟨_, rfl, _, rfl, _, _, rfl, rfl, ?_⟩
       have cp2 : ∀ r2 ∈ ds ++ [({ r.1 with pa := X }, clkM d r.2)], r2.1.pa ≠ p := fun r2 hr2 => by
        rcases List.mem_append.mp hr2 with hr2 | hr2
        ·exact cp r2 hr2
        ·rw [List.mem_singleton.mp hr2]
         exact fun z => by
          have z' : X = p := z
          rw [z', hp1] at hX
          cases hX
       have ck3 := (ck2.newO (o := .lst [natV r.2.id, natV (stale d r.2.lots)]) ht).off hh (z := p) (ys := ((outsOf d ((L.ms.take i).map (·.2))).flatMap fun y => [natV y.1, natV y.2]) ++ [natV r.2.id, natV (stale d r.2.lots)]) (by rw [upd_ne npt]; exact h4p) fp cp2
       refine ⟨⟨_, ck3, cp2⟩, by rw [upd_ne nlp, upd_ne nlt]; exact h4l, ?_, some (natV r.2.id), some (.ref r.1.a), v6, some (natV (stale d r.2.lots)), ?_⟩
       ·rw [upd_same, eo, List.flatMap_append]
        rfl
       ·have es : outSum d ((L.ms.take (i + 1)).map (·.2)) = outSum d ((L.ms.take i).map (·.2)) + stale d r.2.lots := by
         unfold outSum
         rw [eo, List.map_append, List.sum_append]
         simp
        rw [es]
        rfl
     ·have cP : ¬ outP d r.2 = true := fun z => c (of_decide_eq_true z)
      rw [if_neg cP, List.append_nil] at eo
      refine ite2 (fun z => absurd (of_decide_eq_true z) (by show ¬ (0 : Int) < ((stale d r.2.lots : Nat) : Int); omega)) (fun _ => ?_)
      refine ⟨⟨_, ck2, fun r2 hr2 => by
        rcases List.mem_append.mp hr2 with hr2 | hr2
        ·exact cp r2 hr2
        ·rw [List.mem_singleton.mp hr2]
         exact fun z => by
          have z' : X = p := z
          rw [z', hp1] at hX
          cases hX⟩, h4l, by rw [eo]; exact h4p, some (natV r.2.id), some (.ref r.1.a), v6, some (natV (stale d r.2.lots)), ?_⟩
      have es : outSum d ((L.ms.take (i + 1)).map (·.2)) = outSum d ((L.ms.take i).map (·.2)) := by
       unfold outSum
       rw [eo]
      rw [es]
      rfl
   ·rintro σ H1 ⟨⟨ds, ck, cp⟩, hl1, hp1, v4, v5, v6, v7, rfl⟩
    have ekl : kl.length = L.ms.length := by
     show ((L.ms.map memK).map fun z => kV z.1).length = _
     rw [List.length_map, List.length_map]
    rw [ekl] at ck hp1
    rw [ekl]
    rw [List.take_length, hh.hm] at hp1
    rw [List.take_length, hh.hm]
    have m1 := ck.fin hh
    have h1 := m1.at_
    have hh1 : H1 L.h = some (.ins C.H L.dh (houseF { L with ms := ds } { st with today := d, members := st.members.map (clkM d) })) := h1.house
    refine ⟨_, rfl, L.h, C.H, L.dh, _, _, rfl, hh1, T.clH, T.hO, hF_run_out _ _, _, rfl, _, _, rfl, rfl, L.dh, _, hh1, (by show 11 < 1000; decide), ?_⟩
    have m2 : Mv C _ { L with ms := ds } _ { L with ms := ds } { st with today := d, runOut := st.runOut + outSum d st.members, members := st.members.map (clkM d) } := h1.setNum (s' := { st with today := d, runOut := st.runOut + outSum d st.members, members := st.members.map (clkM d) }) rfl rfl rfl rfl rfl
    have m12 := m1.trans m2
    refine ⟨_, rfl, (by show 2 <= sizeLine; decide), fun z hz => ?_⟩
    have nzp : p ≠ z := by
     intro e
     rw [<- e, upd_ne nph, hp1] at hz
     cases hz
    refine ⟨_, rfl, z, p, _, _, rfl, rfl, upd_same, (by rw [upd_ne nzp, upd_ne nph]; exact hp1), ?_, fun y hy => ?_⟩
    ·rw [flat2_len]
     have e1 : (outsOf d st.members).length <= 30 := by
      unfold outsOf
      rw [List.length_map]
      have l1 := List.length_filter_le (outP d) st.members
      have := wf.mlen
      omega
     show 2 + 2 * (outsOf d st.members).length <= sizeLine
     exact Nat.le_trans (by omega : _ <= 62) (by decide)
    ·refine q'.lst (m12.new (o := .lst [.int 0, natV (outSum d st.members)]) hz) hy ?_
     show [V.int 0, natV (outSum d st.members)] ++ _ = _
     have e2 := ok_flat (outsOf d st.members)
     unfold Vbahaq.ok Vbahaq.ints at e2 ⊢
     rw [List.map_cons] at e2
     have e3 := (List.cons.inj e2).2
     rw [<- e3]
     rfl
end
end Mile
namespace Mile
open PySem PySem.Spec PyProof.Rows L2
open Vbahaq (Lots put takeDay held Draw drawn Member Award State Rules stale fresh oldest planned)
abbrev sPlan : Stmt := top 54
abbrev sGoes : Stmt := top 55
def nf : Nat -> List Nat -> Bool
 | _, [] => true
 | d, x :: r => decide (d <= x) && nf x r
theorem nf_spec : ∀ (d : Nat) (l : List (Nat × Nat)), Vbahaq.notFalling d l = nf d (l.map (·.1))
 | _, [] => rfl
 | d, x :: r => by
  show (decide (d <= x.1) && Vbahaq.notFalling x.1 r) = (decide (d <= x.1) && nf x.1 (r.map (·.1)))
  rw [nf_spec x.1 r]
abbrev flatP (l : List (Nat × Nat)) : List V := l.flatMap fun x => [natV x.1, natV x.2]
theorem evens_fst : ∀ l : List (Nat × Nat), evens (flatP l) = l.map fun x => natV x.1
 | [] => rfl
 | x :: r => by
  show natV x.1 :: evens (flatP r) = natV x.1 :: r.map fun x => natV x.1
  rw [evens_fst r]
theorem evens_snd : ∀ l : List (Nat × Nat), evens ((flatP l).drop 1) = l.map fun x => natV x.2
 | [] => rfl
 | [x] => rfl
 | x :: y :: r => by
  show natV x.2 :: evens ((flatP (y :: r)).drop 1) = natV x.2 :: (y :: r).map fun x => natV x.2
  rw [evens_snd (y :: r)]
structure TxtL (P : Program) (w : World) (K : PySem.W.Frag) (mg : Str -> Option Value) (base : Heap) (C : Cs) : Prop extends TxtK P w K mg base C where
 zip : mg "zip" = none
 dict : mg "dict" = none
section
variable {P : Program} {w : World} {K : PySem.W.Frag} {mg : Str -> Option Value} {base : Heap} {C : Cs}
def spGoes (K : PySem.W.Frag) : Sp := fun vs H Q _ => ∃ (a : Addr) (t : Nat) (ds : List Nat), vs = [natV t, .ref a] /\ H a = some (.lst (ds.map natV)) /\ Q (.bl (!nf t ds)) H
theorem scGoes : FnScope ["today", "days", "latest", "day"] ["today", "days"] (defScope sGoes) := ⟨rfl, rfl, rfl, by decide +kernel, rfl, by decide +kernel, by decide +kernel⟩
theorem ok_goes {f : Addr} {fd : FuncData} (F : Fun K "goes_back" "goes_back" sGoes f fd) : FnOk P w K mg base CX0 1 f fd ["today", "days"] (spGoes K) := by
 refine F.ok scGoes (fun vs H Q E h => ?_) (fun cdv A outer s H vs Q E hr h => ?_)
 ·obtain ⟨a, t, ds, rfl, _⟩ := h
  rfl
 ·obtain ⟨a, t, ds, rfl, ha, q⟩ := h
  have nd := scGoes.nd
  refine ⟨_, pss_cons (ps_set (i := 2) nd rfl (Or.inl rfl) (pv 0))
   (pss_cons (ps_for PassesOwn.never rfl (pi_list (pv 1)) (pg_name (i := 3) nd rfl (Or.inl rfl))
    (pss_cons (ps_if (pt_cmpR op_lt (pv 3) (pv 2) (nomark _)) (pss_one (ps_ret pe_bl)) pss_nil)
    (pss_one (ps_set (i := 2) nd rfl (Or.inl rfl) (pv 3)))))
   (pss_one (ps_ret pe_bl))), ?_⟩
  refine ⟨_, rfl, _, rfl, a, rfl, ⟨_, SqL.of ha⟩, for_list (K := K) (a := a) (xs := ds.map natV)
   (fun i σ H' => H' = H /\ ∃ lat : Nat, nf t ds = nf lat (ds.drop i) /\ ∃ v3, σ = [some (natV t), some (.ref a), some (natV lat), v3])
   ⟨rfl, t, rfl, none, rfl⟩ (fun i σ H' _ ⟨e, _⟩ => by rw [e]; exact SqL.of ha) ?_ ?_⟩
  ·rintro i y σ H' hi ⟨rfl, lat, el, v3, rfl⟩
   obtain ⟨x, hx, rfl⟩ := at_map hi
   obtain ⟨il, ei⟩ := List.getElem?_eq_some_iff.mp hx
   rw [List.drop_eq_getElem_cons il, ei] at el
   have el' : nf t ds = (decide (lat <= x) && nf x (ds.drop (i + 1))) := el
   refine ⟨_, rfl, _, rfl, _, _, rfl, rfl, _, rfl, ?_⟩
   by_cases c : lat <= x
   ·rw [decide_eq_true c, Bool.true_and] at el'
    refine ite2 (fun z => absurd (of_decide_eq_true z) (by show ¬ (x : Int) < (lat : Int); omega)) (fun _ => ?_)
    exact ⟨_, rfl, rfl, x, el', _, rfl⟩
   ·rw [decide_eq_false c, Bool.false_and] at el'
    rw [el'] at q
    refine ite2 (fun _ => ?_) (fun z => absurd (decide_eq_true (by show (x : Int) < (lat : Int); omega)) z)
    exact q
  ·rintro σ H' ⟨rfl, lat, el, v3, rfl⟩
   rw [List.length_map, List.drop_length] at el
   have el' : nf t ds = true := el
   rw [el'] at q
   exact q
structure TxtV (P : Program) (w : World) (K : PySem.W.Frag) (mg : Str -> Option Value) (base : Heap) (C : Cs) : Prop extends TxtL P w K mg base C where
 goes : Cal P w K mg base "goes_back" 1 ["today", "days"] (spGoes K)
def spPlan (C : Cs) : Sp := fun vs H Q _ => ∃ (L : HL) (s : State) (D : List Nat) (k : Nat) (a : Addr) (pl : List (Nat × Nat)), vs = [.ref L.h, natV k, .ref a] /\ HouseAt C H L s /\ WF D s /\ D.length <= 1000 /\ H a = some (.lst (flatP pl)) /\ Answers C H L (Vbahaq.step s (.plan k pl)) Q
theorem scPlan : FnScope ["house", "planner", "pairs", "days", "costs", "lots", "holdings", "paid", "ran_out", "day", "cost"] ["house", "planner", "pairs"] (defScope sPlan) := ⟨rfl, rfl, rfl, by decide +kernel, rfl, by decide +kernel, by decide +kernel⟩
theorem fresh_srt {d : Nat} {l : Lots} (h : Srt l) : Srt (fresh d l) := h.filter _
theorem fresh_len (d : Nat) (l : List (Nat × Nat)) : (fresh d l).length <= l.length := List.length_filter_le _ _
theorem ok_plan {f : Addr} {fd : FuncData} (F : Fun K "try_plan" "try_plan" sPlan f fd) (T : TxtV P w K mg base C) : FnOk P w K mg base CX0 3 f fd ["house", "planner", "pairs"] (spPlan C) := by
 refine F.ok scPlan (fun vs H Q E h => ?_) (fun cdv A outer s H vs Q E hr h => ?_)
 ·obtain ⟨L, st, D, k, a, pl, rfl, _⟩ := h
  rfl
 ·obtain ⟨L, st, D, k, a, pl, rfl, hh, wf, hD, ha, q⟩ := h
  have nd := scPlan.nd
  have hu := hu_of hr
  have hr1 : Room 1 _ := hr.mono (by decide)
  refine ⟨_, pss_cons (ps_if (pt_cmp (pc_dnotin hu (pv 1) (pe_fld (pv 0) rfl))) (pss_one (ps_ret (pe_lst (pa_cons (pe_gint T.noMember (by rfl)) pa_nil)))) pss_nil)
   (pss_cons (ps_set (i := 3) nd rfl (Or.inl rfl) (pe_each 0 (pv 2)))
   (pss_cons (ps_set (i := 4) nd rfl (Or.inl rfl) (pe_each 1 (pv 2)))
   (pss_cons (ps_if (pt_val (pe_cal T.goes hr1 rfl (pa_cons (pe_fld (pv 0) rfl) (pa_cons (pv 3) pa_nil)))) (pss_one (ps_ret (pe_lst (pa_cons (pe_gint T.tooEarly (by rfl)) pa_nil)))) pss_nil)
   (pss_cons (ps_set (i := 5) nd rfl (Or.inl rfl) (pe_callTy call_dict_copy (by rfl) T.dict PyProof.Rows.boot_dict (pa_cons (pe_fld (pe_dget hu (pe_fld (pv 0) rfl) (pv 1) (fun _ _ => rfl)) rfl) pa_nil)))
   (pss_cons (ps_set (i := 6) nd rfl (Or.inl rfl) (pe_lst (pa_cons (pe_tup (pa_cons (pv 1) (pa_cons (pv 5) pa_nil))) pa_nil)))
   (pss_cons (ps_set (i := 7) nd rfl (Or.inl rfl) pe_int)
   (pss_cons (ps_set (i := 8) nd rfl (Or.inl rfl) pe_int)
   (pss_cons (ps_for PassesOwn.never rfl (pi_zip rfl T.zip (pa_cons (pv 3) (pa_cons (pv 4) pa_nil))) (pg_tup rfl (pgs_cons (pg_name (i := 9) nd rfl (Or.inl rfl)) (pgs_cons (pg_name (i := 10) nd rfl (Or.inl rfl)) pgs_nil)))
    (pss_cons (ps_aug (i := 8) nd rfl (Or.inl rfl) (pe_cal T.runOut hr rfl (pa_cons (pv 5) (pa_cons (pv 9) pa_nil))) ip_add)
    (pss_cons (ps_if (pt_cmpR op_lt (pe_cal T.count hr1 rfl (pa_cons (pv 6) pa_nil)) (pv 10) (nomark _)) (pss_one ps_break) pss_nil)
    (pss_cons (ps_expr (pe_cal T.oldest hr rfl (pa_cons (pv 6) (pa_cons (pv 10) pa_nil))))
    (pss_one (ps_aug (i := 7) nd rfl (Or.inl rfl) pe_int ip_add))))))
   (pss_one (ps_ret (pe_lst (pa_cons pe_int (pa_cons (pv 7) (pa_cons (pv 8) pa_nil)))))))))))))), ?_⟩
  have q' := q
  unfold Vbahaq.step Vbahaq.onMember at q'
  dsimp only at q'
  rw [findM_spec hh k, nf_spec] at q'
  refine ⟨_, rfl, _, rfl, L.h, C.H, L.dh, _, _, rfl, hh.house, T.clH, T.hM, hF_members _ _, L.am, _, rfl, hh.get k, _, rfl, ?_⟩
  cases ef : findM L k with
  | none =>
   rw [ef] at q'
   refine iteT ?_
   refine ⟨(by show 1 <= sizeLine; decide), fun p hp => ?_⟩
   exact q'.lst (hh.mv (Same.refl H)) hp rfl
  | some r =>
   rw [ef] at q'
   dsimp only [Option.map_some] at q'
   refine iteF ?_
   obtain ⟨hrm, hid⟩ := findM_some ef
   have rin := findM_in hh hrm
   have mm := hh.member r hrm
   obtain ⟨kk, hk, pk⟩ := mm.lots
   have srt := wf.srt _ rin
   have fewl : r.2.lots.length <= 1000 := Nat.le_trans (wf.few rin) hD
   refine ⟨_, rfl, a, _, rfl, SqL.of ha, fun p1 hp1 => ?_⟩
   have s1 : Same H (upd H p1 (.lst (evens ((flatP pl).drop 0)))) := (Same.refl H).upd_new hp1
   refine ⟨_, rfl, a, _, rfl, SqL.of (s1 _ _ ha), fun p2 hp2 => ?_⟩
   have s2 : Same H (upd (upd H p1 (.lst (evens ((flatP pl).drop 0)))) p2 (.lst (evens ((flatP pl).drop 1)))) := s1.upd_new (s1.free hp2)
   have np12 : p1 ≠ p2 := ne_of_none (upd_same : (upd H p1 (.lst (evens ((flatP pl).drop 0)))) p1 = _) hp2
   obtain ⟨H2, eH2⟩ : ∃ H2, H2 = upd (upd H p1 (.lst (evens ((flatP pl).drop 0)))) p2 (.lst (evens ((flatP pl).drop 1))) := ⟨_, rfl⟩
   have h2a : H2 p1 = some (.lst ((pl.map (·.1)).map natV)) := by
    rw [eH2, upd_ne np12, upd_same, List.drop_zero, evens_fst, List.map_map]
    rfl
   have h2b : H2 p2 = some (.lst ((pl.map (·.2)).map natV)) := by
    rw [eH2, upd_same, evens_snd, List.map_map]
    rfl
   rw [<- eH2] at s2 ⊢
   have h2 := hh.same s2
   refine ⟨_, rfl, L.h, C.H, L.dh, _, _, rfl, h2.house, T.clH, T.hT, hF_today _ _, _, rfl, p1, st.today, pl.map (·.1), rfl, h2a, _, rfl, ?_⟩
   cases c0 : nf st.today (pl.map (·.1)) with
   | false =>
    rw [c0, if_pos rfl] at q'
    refine ite2 (fun _ => ?_) (fun z => absurd rfl z)
    refine ⟨(by show 1 <= sizeLine; decide), fun p hp => ?_⟩
    exact q'.lst (hh.mv s2) hp rfl
   | true =>
    rw [c0, if_neg (by simp)] at q'
    refine ite2 (fun z => absurd z (by simp)) (fun _ => ?_)
    have mm2 := h2.member r hrm
    refine ⟨_, rfl, L.h, C.H, L.dh, _, _, rfl, h2.house, T.clH, T.hM, hF_members _ _, _, rfl, L.am, _, rfl, (by have := h2.get k; rw [ef] at this; exact this), r.1.a, C.M, r.1.dx, _, _, rfl, mm2.ins, T.clM, T.mL, mF_lots _, r.1.la, _, rfl, s2 _ _ hk, fun la hla => ?_⟩
    have s3 : Same H (upd H2 la (.dK (lk kk))) := s2.upd_new (s2.free hla)
    have fla : H la = none := s2.free hla
    refine ⟨_, rfl, _, rfl, (by show 2 <= sizeLine; decide), fun t ht => ?_⟩
    have s4 : Same H (upd (upd H2 la (.dK (lk kk))) t (.tup [natV k, .ref la])) := s3.upd_new (s3.free ht)
    have ft : H t = none := s3.free ht
    refine ⟨(by show 1 <= sizeLine; decide), fun x hx => ?_⟩
    have fx : H x = none := s4.free hx
    have nlt : la ≠ t := ne_of_none (upd_same : (upd H2 la (.dK (lk kk))) la = _) ht
    have ntx : t ≠ x := ne_of_none (upd_same : (upd (upd H2 la (.dK (lk kk))) t (.tup [natV k, .ref la])) t = _) hx
    have nlx : la ≠ x := ne_of_none (by rw [upd_ne nlt]; exact upd_same : (upd (upd H2 la (.dK (lk kk))) t (.tup [natV k, .ref la])) la = some (.dK (lk kk))) hx
    have s5 : Same H (upd (upd (upd H2 la (.dK (lk kk))) t (.tup [natV k, .ref la])) x (.lst [.ref t])) := s4.upd_new fx
    have kp5 : ∀ b o, H2 b = some o -> (upd (upd (upd H2 la (.dK (lk kk))) t (.tup [natV k, .ref la])) x (.lst [.ref t])) b = some o := fun b o e => by
     have e1 : (upd H2 la (.dK (lk kk))) b = some o := by rw [upd_ne (ne_of_none e hla)]; exact e
     have e2 : (upd (upd H2 la (.dK (lk kk))) t (.tup [natV k, .ref la])) b = some o := by rw [upd_ne (ne_of_none e1 ht)]; exact e1
     rw [upd_ne (ne_of_none e2 hx)]
     exact e2
    have n1 : p1 ≠ la := ne_of_none h2a hla
    have n2 : p2 ≠ la := ne_of_none h2b hla
    refine ⟨_, rfl, _, rfl, p1, p2, _, _, rfl, SqL.of (kp5 _ _ h2a), SqL.of (kp5 _ _ h2b), for_zip (K := K) (a := p1) (b := p2) (xs := (pl.map (·.1)).map natV) (ys := (pl.map (·.2)).map natV) (by rw [List.length_map, List.length_map, List.length_map, List.length_map])
     (fun i σ H' => ∃ (k1 : List (Nat × Nat)) (l1 : Lots) (pd ro : Nat), Same H H' /\ H' p1 = some (.lst ((pl.map (·.1)).map natV)) /\ H' p2 = some (.lst ((pl.map (·.2)).map natV)) /\ H' la = some (.dK (lk k1)) /\ H' t = some (.tup [natV k, .ref la]) /\ H' x = some (.lst [.ref t]) /\
      k1.Perm l1 /\ Srt l1 /\ l1.length <= 1000 /\ (planned r.2.lots pl).1 = pd + (planned l1 (pl.drop i)).1 /\ (planned r.2.lots pl).2 = ro + (planned l1 (pl.drop i)).2 /\
      ∃ v9 v10, σ = [some (.ref L.h), some (natV k), some (.ref a), some (.ref p1), some (.ref p2), some (.ref la), some (.ref x), some (natV pd), some (natV ro), v9, v10])
     ⟨kk, r.2.lots, 0, 0, s5, kp5 _ _ h2a, kp5 _ _ h2b, by rw [upd_ne nlx, upd_ne nlt, upd_same], by rw [upd_ne ntx, upd_same], upd_same, pk, srt, fewl, by rw [Nat.zero_add]; rfl, by rw [Nat.zero_add]; rfl, none, none, rfl⟩
     (fun i σ H' _ ⟨_, _, _, _, _, e1, e2, _⟩ => ⟨SqL.of e1, SqL.of e2⟩) ?_ ?_⟩
    ·rintro i x1 y1 σ H' T1 hx1 hy1 ⟨k1, l1, pd, ro, s6, a1, a2, a3, a4, a5, pm, sl, fl, e1, e2, v9, v10, rfl⟩ hT1
     obtain ⟨d0, hd0, rfl⟩ := at_map hx1
     obtain ⟨c0', hc0, rfl⟩ := at_map hy1
     obtain ⟨pr, hpr, rfl⟩ := at_map hd0
     obtain ⟨pr2, hpr2, rfl⟩ := at_map hc0
     rw [hpr] at hpr2
     cases hpr2
     obtain ⟨il, ei⟩ := List.getElem?_eq_some_iff.mp hpr
     rw [List.drop_eq_getElem_cons il, ei] at e1 e2
     have k7 : ∀ b o, H' b = some o -> (upd H' T1 (.tup [natV pr.1, natV pr.2])) b = some o := fun b o e => by rw [upd_ne (ne_of_none e hT1)]; exact e
     have s7 : Same H (upd H' T1 (.tup [natV pr.1, natV pr.2])) := s6.upd_new (s6.free hT1)
     refine ⟨T1, _, rfl, SqT.of upd_same, rfl, _, _, rfl, _, _, rfl, rfl, ?_⟩
     have fewk : k1.length < sizeLine := by
      have := pm.length_eq
      exact Nat.lt_of_le_of_lt (by omega : _ <= 1000) (by decide)
     refine ⟨_, rfl, _, rfl, _, rfl, la, k1, pr.1, rfl, k7 _ _ a3, (pm.map _).nodup_iff.mpr sl.nodup, fewk, fun H8 kp8 hl8 => ?_⟩
     refine ⟨_, _, rfl, rfl, ?_⟩
     rw [stale_perm pm]
     have pm8 : (fresh pr.1 k1).Perm (fresh pr.1 l1) := pm.filter _
     have k8 : ∀ b o, H' b = some o -> b ≠ la -> H8 b = some o := fun b o e ne => kp8 b o (k7 b o e) fun z => ne (List.mem_singleton.mp z)
     have s8 : Same H H8 := fun b o e => kp8 b o (s7 b o e) fun z => ne_of_none e fla (List.mem_singleton.mp z)
     have ntl : t ≠ la := fun e => nlt e.symm
     have nxl : x ≠ la := fun e => nlx e.symm
     let hd0 : Hd := ⟨k, t, la, fresh pr.1 k1, fresh pr.1 l1⟩
     have ho : HoldAt H8 x [hd0] := by
      refine ⟨k8 _ _ a5 nxl, fun g hg => ?_, fun g hg => ?_⟩
      ·rw [List.mem_singleton.mp hg]; exact k8 _ _ a4 ntl
      ·rw [List.mem_singleton.mp hg]; exact hl8
     have et : totH [hd0] = held (fresh pr.1 l1) := by
      show held (fresh pr.1 k1) + 0 = _
      rw [Nat.add_zero, held_perm pm8]
     refine ⟨_, rfl, x, [hd0], rfl, ho, _, rfl, _, _, rfl, rfl, _, rfl, ?_⟩
     rw [et]
     have epl : planned l1 (pr :: pl.drop (i + 1)) = if held (fresh pr.1 l1) < pr.2 then (0, stale pr.1 l1) else ((planned (oldest pr.2 (fresh pr.1 l1)).2 (pl.drop (i + 1))).1 + 1, stale pr.1 l1 + (planned (oldest pr.2 (fresh pr.1 l1)).2 (pl.drop (i + 1))).2) := by
      obtain ⟨d1, c1⟩ := pr
      rfl
     rw [epl] at e1 e2
     by_cases c : held (fresh pr.1 l1) < pr.2
     ·rw [if_pos c] at e1 e2
      refine ite2 (fun _ => ?_) (fun z => absurd (decide_eq_true (by show ((held (fresh pr.1 l1) : Nat) : Int) < (pr.2 : Int); omega)) z)
      refine ⟨_, rfl, _, rfl, (by show 3 <= sizeLine; decide), fun z hz => ?_⟩
      refine q'.lst (hh.mv s8) hz ?_
      rw [e1, e2]
      show [V.int 0, natV pd, V.int ((ro : Int) + ((stale pr.1 l1 : Nat) : Int))] = _
      rfl
     ·rw [if_neg c] at e1 e2
      refine ite2 (fun z => absurd (of_decide_eq_true z) (by show ¬ ((held (fresh pr.1 l1) : Nat) : Int) < (pr.2 : Int); omega)) (fun _ => ?_)
      have sf := fresh_srt (d := pr.1) sl
      have hok : HandOk [hd0] := ⟨fun g hg => by rw [List.mem_singleton.mp hg]; exact ⟨pm8, sf⟩, by simp, by simp, by
       show (fresh pr.1 k1).length + 0 < sizeLine
       have := fresh_len pr.1 k1
       omega⟩
      refine ⟨_, rfl, _, rfl, x, [hd0], pr.2, rfl, ho, hok, fun H9 z kp9 fz hds hl9 => ?_⟩
      refine ⟨_, rfl, _, _, rfl, rfl, ?_⟩
      obtain ⟨k9, hk9, pk9⟩ := hl9 hd0 List.mem_cons_self
      have eo : payL k (drawn pr.2 (handL (handOf [hd0]))) (fresh pr.1 l1) = (oldest pr.2 (fresh pr.1 l1)).2 := by
       show payL k (drawn pr.2 (handL [(k, fresh pr.1 l1)])) (fresh pr.1 l1) = _
       rw [handL_one k sf, drawn_oldest, pay_oldest]
      have pk9' : k9.Perm (payL k (drawn pr.2 (handL (handOf [hd0]))) (fresh pr.1 l1)) := pk9
      have sr9 : Srt (payL k (drawn pr.2 (handL (handOf [hd0]))) (fresh pr.1 l1)) := payL_srt _ _ sf
      have ln9 : (payL k (drawn pr.2 (handL (handOf [hd0]))) (fresh pr.1 l1)).length <= 1000 := Nat.le_trans (payL_len _ _) (Nat.le_trans (fresh_len _ _) fl)
      rw [eo] at pk9' sr9 ln9
      have k10 : ∀ b o, H8 b = some o -> b ≠ la -> H9 b = some o := fun b o e ne => kp9 b o e fun z => ne (List.mem_singleton.mp z)
      refine ⟨k9, _, pd + 1, ro + stale pr.1 l1, fun b o e => k10 b o (s8 b o e) (ne_of_none e fla), k10 _ _ (k8 _ _ a1 n1) n1, k10 _ _ (k8 _ _ a2 n2) n2, hk9, k10 _ _ (k8 _ _ a4 ntl) ntl, k10 _ _ (k8 _ _ a5 nxl) nxl, pk9', sr9, ln9, by rw [e1]; omega, by rw [e2]; omega, some (natV pr.1), some (natV pr.2), ?_⟩
      rfl
    ·rintro σ H' ⟨k1, l1, pd, ro, s6, a1, a2, a3, a4, a5, pm, sl, fl, e1, e2, v9, v10, rfl⟩
     rw [List.length_map, List.length_map, List.drop_length] at e1 e2
     refine ⟨_, rfl, _, rfl, (by show 3 <= sizeLine; decide), fun z hz => ?_⟩
     refine q'.lst (hh.mv s6) hz ?_
     rw [e1, e2]
     rfl
end
end Mile
namespace Mile
open PySem PySem.Spec PyProof.Rows L2
abbrev sSplit : Stmt := top 49
abbrev sHasForm : Stmt := top 50
theorem while_ix {c : TT} {tb : TS} {D : Ends} {σ : L2.St} {H : Hp} (n : Nat) (Pv : Nat -> L2.St -> Hp -> Prop) (h0 : Pv 0 σ H)
  (hs : ∀ i σ H, i < n -> Pv i σ H -> (∀ K : Bool -> Hp -> Prop, K true H -> c σ H K) /\ tb { D with nx := Pv (i + 1), ct := Pv (i + 1), bk := D.nx } σ H)
  (hd : ∀ σ H, Pv n σ H -> (∀ K : Bool -> Hp -> Prop, K false H -> c σ H K) /\ D.nx σ H) : tWhile c tb D σ H := by
 refine ⟨fun m σ H => ∃ i, i <= n /\ m = n - i /\ Pv i σ H, ⟨n, 0, Nat.zero_le _, rfl, h0⟩, ?_⟩
 rintro m σ H ⟨i, hi, rfl, p⟩
 by_cases hlt : i < n
 ·obtain ⟨h1, h2⟩ := hs i σ H hlt p
  refine h1 _ ?_
  rw [if_pos rfl]
  exact ⟨Pv (i + 1), fun σ' H' p' => ⟨n - (i + 1), by omega, i + 1, hlt, rfl, p'⟩, h2⟩
 ·have e : i = n := by omega
  subst e
  obtain ⟨h1, h2⟩ := hd σ H p
  refine h1 _ ?_
  rw [if_neg Bool.false_ne_true]
  exact h2
theorem cut_mid {xs : List V} {m : Nat} {mid tl : List V} (h : xs.drop m = mid ++ tl) (hm : m <= xs.length) : cutV xs (some ((m : Nat) : Int)) (some ((m + mid.length : Nat) : Int)) = mid := by
 unfold cutV
 have hl : (xs.drop m).length = mid.length + tl.length := by rw [h, List.length_append]
 rw [List.length_drop] at hl
 rw [HT.sIx_nat, HT.sIx_nat, Nat.min_eq_left hm, Nat.min_eq_left (by omega), Nat.add_sub_cancel_left, h, List.take_left]
section
variable {P : Program} {w : World} {K : PySem.W.Frag} {mg : Str -> Option Value} {base : Heap}
def spHas : Sp := fun vs H Q _ => ∃ (y : CallY) (ra : Addr) (p : Nat) (plain : List Int) (rest : List (Addr × List Int)) (f : Form), vs = [.ref y.1] /\ CallZ H y /\ y.2 = (ra, (p : Int) :: plain) :: rest /\ formsL[p]? = some f /\ f.1.length = plain.length /\ f.2.length = rest.length /\ Q (.bl true) H
theorem scHas : FnScope ["call", "place", "form"] ["call"] (defScope sHasForm) := ⟨rfl, rfl, rfl, by decide +kernel, rfl, by decide +kernel, by decide +kernel⟩
theorem ok_has {f : Addr} {fd : FuncData} (F : Fun K "has_form" "has_form" sHasForm f fd) (T : TxtF K mg) : FnOk P w K mg base CX0 1 f fd ["call"] spHas := by
 refine F.ok scHas (fun vs H Q E h => ?_) (fun cdv A outer s H vs Q E hr h => ?_)
 ·obtain ⟨y, ra, p, plain, rest, fm, rfl, _⟩ := h
  rfl
 ·obtain ⟨y, ra, p, plain, rest, fm, rfl, hy, ey, hf, l1, l2, q⟩ := h
  have nd := scHas.nd
  obtain ⟨gv, gu, hgm, hgr, hgt⟩ := T.forms
  obtain ⟨ga, gxs, rfl, hga, hgxs⟩ := hgt.tup_inv
  refine ⟨_, pss_cons (ps_if (PW.pt (pw_orB (pt_cmpR op_eq (pe_callB call_len_seq (by rfl) T.len PySem.boot_len (pa_cons (pv 0) pa_nil)) pe_int (nomark _))
    (pw_or1 (pt_cmpR op_eq (pe_callB call_len_seq (by rfl) T.len PySem.boot_len (pa_cons (pe_ix ix_list (pv 0) pe_int (fun _ _ => rfl)) pa_nil)) pe_int (nomark _))))) (pss_one (ps_ret pe_bl)) pss_nil)
   (pss_cons (ps_set (i := 1) nd rfl (Or.inl rfl) (pe_ix ix_list (pe_ix ix_list (pv 0) pe_int (fun _ _ => rfl)) pe_int (fun _ _ => rfl)))
   (pss_cons (ps_if (PW.pt (pw_orB (pt_cmpR op_lt (pv 1) pe_int (nomark _)) (pw_or1 (pt_cmpR op_ge (pv 1) (pe_callB call_len_seq (by rfl) T.len PySem.boot_len (pa_cons (pe_gtr hgm hgr (by rfl)) pa_nil)) (nomark _))))) (pss_one (ps_ret pe_bl)) pss_nil)
   (pss_cons (ps_set (i := 2) nd rfl (Or.inl rfl) (pe_ix ix_tup (pe_gtr hgm hgr (by rfl)) (pv 1) (fun _ _ => rfl)))
   (pss_one (ps_ret (pe_and (pe_cmpR op_eq (pe_callB call_len_seq (by rfl) T.len PySem.boot_len (pa_cons (pe_ix ix_list (pv 0) pe_int (fun _ _ => rfl)) pa_nil)) (pe_op op_add pe_int (pe_callB call_len_seq (by rfl) T.len PySem.boot_len (pa_cons (pe_ix ix_tup (pv 2) pe_int (fun _ _ => rfl)) pa_nil))) (nomark _))
    (pe_one (pe_cmpR op_eq (pe_callB call_len_seq (by rfl) T.len PySem.boot_len (pa_cons (pv 0) pa_nil)) (pe_op op_add pe_int (pe_callB call_len_seq (by rfl) T.len PySem.boot_len (pa_cons (pe_ix ix_tup (pv 2) pe_int (fun _ _ => rfl)) pa_nil))) (nomark _))))))))), ?_⟩
  have hl0 : H y.1 = some (.lst (V.ref ra :: rest.map fun r => V.ref r.1)) := by rw [hy.lst, ey]; rfl
  have hr0 : H ra = some (.lst (V.int (p : Int) :: plain.map V.int)) := hy.row (ra, (p : Int) :: plain) (by rw [ey]; exact List.mem_cons_self)
  have lg : gxs.length = 16 := by rw [hgxs.length, List.length_map]; rfl
  have pl : p < 16 := (List.getElem?_eq_some_iff.mp hf).1
  obtain ⟨fv, hfv, tfv⟩ := hgxs.get (i := p) (t := formT fm) (by rw [List.getElem?_map, hf]; rfl)
  obtain ⟨fa, fxs, rfl, hfa, hfxs⟩ := tfv.tup_inv
  obtain ⟨x0, hx0, t0⟩ := hfxs.get (i := 0) (t := rgsT fm.1) rfl
  obtain ⟨x1, hx1, t1⟩ := hfxs.get (i := 1) (t := .tup (fm.2.map rowT)) rfl
  obtain ⟨a0, xs0, rfl, ha0, hxs0⟩ := t0.tup_inv
  obtain ⟨a1, xs1, rfl, ha1, hxs1⟩ := t1.tup_inv
  refine ⟨false, false, fun R hR => ?_, fun R hR => ?_, ?_⟩
  ·refine ⟨_, rfl, y.1, _, rfl, .inl (SqL.of hl0), rfl, _, rfl, ?_⟩
   rw [decide_eq_false (fun e => by injection e with e; rw [List.length_cons] at e; omega)]
   exact hR
  ·refine ⟨_, rfl, y.1, _, _, _, rfl, rfl, SqL.of hl0, atI_nat (j := 0) rfl, ra, _, rfl, .inl (SqL.of hr0), rfl, _, rfl, ?_⟩
   rw [decide_eq_false (fun e => by injection e with e; rw [List.length_cons] at e; omega)]
   exact hR
  ·refine ite2 (fun z => absurd z (by simp)) (fun _ => ?_)
   refine ⟨_, rfl, y.1, _, _, _, rfl, rfl, SqL.of hl0, atI_nat (j := 0) rfl, ra, _, _, _, rfl, rfl, SqL.of hr0, atI_nat (j := 0) rfl, ?_⟩
   refine ⟨false, false, fun R hR => ?_, fun R hR => ?_, ?_⟩
   ·refine ⟨_, rfl, _, _, rfl, rfl, _, rfl, ?_⟩
    rw [decide_eq_false (by show ¬ (p : Int) < 0; omega)]
    exact hR
   ·refine ⟨_, rfl, ga, _, rfl, .inr (hga _), _, _, rfl, rfl, _, rfl, ?_⟩
    rw [decide_eq_false (by show ¬ ((gxs.length : Nat) : Int) <= (p : Int); omega)]
    exact hR
   ·refine ite2 (fun z => absurd z (by simp)) (fun _ => ?_)
    refine ⟨_, rfl, ga, _, _, _, rfl, rfl, hga _, atI_nat (j := p) hfv, ?_⟩
    refine ⟨_, rfl, y.1, _, _, _, rfl, rfl, SqL.of hl0, atI_nat (j := 0) rfl, ra, _, rfl, .inl (SqL.of hr0), _, rfl, fa, _, _, _, rfl, rfl, hfa _, atI_nat (j := 0) hx0, a0, _, rfl, .inr (ha0 _), _, _, rfl, rfl, rfl, ?_⟩
    refine ⟨_, rfl, ?_⟩
    have e0 : xs0.length = plain.length := by rw [hxs0.length, List.length_map]; exact l1
    have e1 : xs1.length = rest.length := by rw [hxs1.length, List.length_map]; exact l2
    refine ite2 (fun _ => ?_) (fun z => absurd (decide_eq_true (by rw [List.length_cons, List.length_map, e0]; refine congrArg V.int ?_; omega)) z)
    refine ⟨_, rfl, y.1, _, rfl, .inl (SqL.of hl0), _, rfl, fa, _, _, _, rfl, rfl, hfa _, atI_nat (j := 1) hx1, a1, _, rfl, .inr (ha1 _), _, _, rfl, rfl, rfl, ?_⟩
    rw [decide_eq_true (by rw [List.length_cons, List.length_map, e1]; refine congrArg V.int ?_; omega)]
    exact q
end
theorem put_app : ∀ xs ys : List (List (List Int)), PyFlat.put (xs ++ ys) = PyFlat.put xs ++ PyFlat.put ys
 | [], ys => rfl
 | x :: xs, ys => by
  show PyFlat.put1 x ++ PyFlat.put (xs ++ ys) = (PyFlat.put1 x ++ PyFlat.put xs) ++ PyFlat.put ys
  rw [put_app xs ys, List.append_assoc]
theorem putRows_app : ∀ xs ys : List (List Int), PyFlat.putRows (xs ++ ys) = PyFlat.putRows xs ++ PyFlat.putRows ys
 | [], ys => rfl
 | x :: xs, ys => by
  show PyFlat.putRow x ++ PyFlat.putRows (xs ++ ys) = (PyFlat.putRow x ++ PyFlat.putRows xs) ++ PyFlat.putRows ys
  rw [putRows_app xs ys, List.append_assoc]
def InCalls (p : Addr) (Y : List CallY) (b : Addr) : Prop := b = p \/ ∃ y ∈ Y, b = y.1 \/ ∃ r ∈ y.2, b = r.1
theorem CallsZ.same {H H' : Hp} {p : Addr} {Y : List CallY} (h : CallsZ H p Y) (s : Same H H') : CallsZ H' p Y := ⟨s _ _ h.lst, fun y hy => (h.call y hy).same s⟩
theorem CallsZ.at_ {H : Hp} {p : Addr} {Y : List CallY} (h : CallsZ H p Y) {b : Addr} (hb : InCalls p Y b) : ∃ xs, H b = some (.lst xs) := by
 rcases hb with e | ⟨y, hy, e | ⟨r, hr, e⟩⟩
 ·rw [e]; exact ⟨_, h.lst⟩
 ·rw [e]; exact ⟨_, (h.call y hy).lst⟩
 ·rw [e]; exact ⟨_, (h.call y hy).row r hr⟩
theorem CallsZ.keep {H H' : Hp} {p : Addr} {Y : List CallY} (h : CallsZ H p Y) (k : ∀ b o, InCalls p Y b -> H b = some o -> H' b = some o) : CallsZ H' p Y :=
 ⟨k _ _ (.inl rfl) h.lst, fun y hy => ⟨k _ _ (.inr ⟨y, hy, .inl rfl⟩) (h.call y hy).lst, fun r hr => k _ _ (.inr ⟨y, hy, .inr ⟨r, hr, rfl⟩⟩) ((h.call y hy).row r hr)⟩⟩
section
variable {P : Program} {w : World} {K : PySem.W.Frag} {mg : Str -> Option Value} {base : Heap}
def spSplit (K : PySem.W.Frag) : Sp := fun vs H Q _ => ∃ (a : Addr) (ns : List Int) (cs : List (List (List Int))), vs = [.ref a] /\ SqL K H a (ns.map V.int) /\ ns = PyFlat.put cs /\ (∀ c ∈ cs, PyFlat.okCall PyVbahaq.shape c) /\ cs.length <= 1000 /\
 ∀ (H' : Hp) (p : Addr) (Y : List CallY), Same H H' -> CallsZ H' p Y -> Y.map rowsOf = cs -> (∀ b, InCalls p Y b -> H b = none) -> Q (.ref p) H'
theorem scSplit : FnScope ["line", "calls", "at", "form", "behind", "call"] ["line"] (defScope sSplit) := ⟨rfl, rfl, rfl, by decide +kernel, rfl, by decide +kernel, by decide +kernel⟩
theorem ok_split {f : Addr} {fd : FuncData} (F : Fun K "split_calls" "split_calls" sSplit f fd) (T : TxtF K mg) : FnOk P w K mg base CX0 1 f fd ["line"] (spSplit K) := by
 refine F.ok scSplit (fun vs H Q E h => ?_) (fun cdv A outer s H vs Q E hr h => ?_)
 ·obtain ⟨a, ns, cs, rfl, _⟩ := h
  rfl
 ·obtain ⟨a, ns, cs, rfl, ha, ens, hok, hlen, q⟩ := h
  have nd := scSplit.nd
  obtain ⟨gv, gu, hgm, hgr, hgt⟩ := T.forms
  obtain ⟨ga, gxs, rfl, hga, hgxs⟩ := hgt.tup_inv
  refine ⟨_, pss_cons (ps_set (i := 1) nd rfl (Or.inl rfl) (pe_lst pa_nil))
   (pss_cons (ps_set (i := 2) nd rfl (Or.inl rfl) pe_int)
   (pss_cons (ps_while PassesOwn.never (pt_cmpR op_lt (pv 2) (pe_callB call_len_seq (by rfl) T.len PySem.boot_len (pa_cons (pv 0) pa_nil)) (nomark _))
    (pss_cons (ps_set (i := 3) nd rfl (Or.inl rfl) (pe_ix ix_tup (pe_gtr hgm hgr (by rfl)) (pe_ix ix_list (pv 0) (pv 2) (fun _ _ => rfl)) (fun _ _ => rfl)))
    (pss_cons (ps_set (i := 4) nd rfl (Or.inl rfl) (pe_op op_add (pe_op op_add (pv 2) pe_int) (pe_callB call_len_seq (by rfl) T.len PySem.boot_len (pa_cons (pe_ix ix_tup (pv 3) pe_int (fun _ _ => rfl)) pa_nil))))
    (pss_cons (ps_set (i := 5) nd rfl (Or.inl rfl) (pe_lst (pa_cons (pe_slice sl_list (pv 0) (po_some (pv 2)) (po_some (pv 4))) pa_nil)))
    (pss_cons (ps_set (i := 2) nd rfl (Or.inl rfl) (pv 4))
    (pss_cons (ps_while PassesOwn.never (pt_cmpR op_le (pe_callB call_len_seq (by rfl) T.len PySem.boot_len (pa_cons (pv 5) pa_nil)) (pe_callB call_len_seq (by rfl) T.len PySem.boot_len (pa_cons (pe_ix ix_tup (pv 3) pe_int (fun _ _ => rfl)) pa_nil)) (nomark _))
     (pss_cons (ps_set (i := 4) nd rfl (Or.inl rfl) (pe_op op_add (pe_op op_add (pv 2) pe_int) (pe_ix ix_list (pv 0) (pv 2) (fun _ _ => rfl))))
     (pss_cons (ps_expr (pe_bm PySem.F.plainAttrs_list PySem.F.slot_list_append PySem.F.type_list_append mt_append (pv 5) (pa_cons (pe_slice sl_list (pv 0) (po_some (pe_op op_add (pv 2) pe_int)) (po_some (pv 4))) pa_nil)))
     (pss_one (ps_set (i := 2) nd rfl (Or.inl rfl) (pv 4))))))
    (pss_one (ps_expr (pe_bm PySem.F.plainAttrs_list PySem.F.slot_list_append PySem.F.type_list_append mt_append (pv 1) (pa_cons (pv 5) pa_nil))))))))))
   (pss_one (ps_ret (pv 1))))), ?_⟩
  refine ⟨Nat.zero_le _, fun p hp => ?_⟩
  have s0 : Same H (upd H p (.lst [])) := (Same.refl H).upd_new hp
  refine while_ix cs.length (fun i σ H' => ∃ (Y : List CallY) (v3 v4 v5 : Option V), Same H H' /\ CallsZ H' p Y /\ Y.map rowsOf = cs.take i /\ (∀ b, InCalls p Y b -> H b = none) /\ (∀ z, (∃ y ∈ Y, z = y.1 \/ ∃ r ∈ y.2, z = r.1) -> z ≠ p) /\ σ = [some (.ref a), some (.ref p), some (natV (PyFlat.put (cs.take i)).length), v3, v4, v5])
   ⟨[], none, none, none, s0, ⟨upd_same, fun y hy => (by cases hy)⟩, rfl, fun b hb => ?_, fun z ⟨y, hy, _⟩ => (by cases hy), rfl⟩ ?_ ?_
  ·rcases hb with e | ⟨y, hy, _⟩
   ·rw [e]; exact hp
   ·cases hy
  ·rintro i σ H1 hi ⟨Y, v3, v4, v5, s1, cz, eY, fY, offP, rfl⟩
   obtain ⟨c, hc⟩ : ∃ c, cs[i]? = some c := ⟨_, List.getElem?_eq_getElem hi⟩
   obtain ⟨pl, a', xs, rfl, hsh⟩ := hok c (List.mem_of_getElem? hc)
   obtain ⟨j, fm, epl, hf, lf1, lf2, j16⟩ := shape_form hsh
   subst epl
   have ecs : cs = cs.take i ++ (((j : Int) :: a') :: xs) :: cs.drop (i + 1) := by
    obtain ⟨l1, e1⟩ := List.getElem?_eq_some_iff.mp hc
    rw [<- e1, <- List.drop_eq_getElem_cons l1, List.take_append_drop]
   obtain ⟨at0, eat⟩ : ∃ at0, at0 = (PyFlat.put (cs.take i)).length := ⟨_, rfl⟩
   obtain ⟨rst, erst⟩ : ∃ rst, rst = PyFlat.put (cs.drop (i + 1)) := ⟨_, rfl⟩
   have ens2 : ns = PyFlat.put (cs.take i) ++ (((j : Int) :: a') ++ (PyFlat.putRows xs ++ rst)) := by
    rw [ens]
    conv => lhs; rw [ecs]
    rw [put_app]
    show _ ++ ((((j : Int) :: a') ++ PyFlat.putRows xs) ++ PyFlat.put (cs.drop (i + 1))) = _
    rw [erst, List.append_assoc]
   rw [<- eat]
   have drop0 : ns.drop at0 = ((j : Int) :: a') ++ (PyFlat.putRows xs ++ rst) := by rw [ens2, eat, List.drop_left]
   have nlen : ns.length = at0 + (a'.length + 1) + (PyFlat.putRows xs).length + rst.length := by
    rw [ens2, List.length_append, List.length_append, List.length_append, eat, List.length_cons]
    omega
   have sq1 := s1.seq ha
   have hline : (ns.map V.int)[at0]? = some (V.int (j : Int)) := by
    have e1 : ns[at0]? = (ns.drop at0)[0]? := by rw [List.getElem?_drop, Nat.add_zero]
    rw [List.getElem?_map, e1, drop0]
    rfl
   obtain ⟨fv, hfv, tfv⟩ := hgxs.get (i := j) (t := formT fm) (by rw [List.getElem?_map, hf]; rfl)
   obtain ⟨fa, fxs, rfl, hfa, hfxs⟩ := tfv.tup_inv
   obtain ⟨x0, hx0, t0⟩ := hfxs.get (i := 0) (t := rgsT fm.1) rfl
   obtain ⟨x1, hx1, t1⟩ := hfxs.get (i := 1) (t := .tup (fm.2.map rowT)) rfl
   obtain ⟨a0, xs0, rfl, ha0, hxs0⟩ := t0.tup_inv
   obtain ⟨a1, xs1, rfl, ha1, hxs1⟩ := t1.tup_inv
   have l2 : xs.length <= 2 := by
    have h2 : ∀ f ∈ formsL, f.2.length <= 2 := by decide +kernel
    rw [<- lf2]
    exact h2 fm (List.mem_of_getElem? hf)
   have lx0 : xs0.length = a'.length := by rw [hxs0.length, List.length_map]; exact lf1
   have lx1 : xs1.length = xs.length := by rw [hxs1.length, List.length_map]; exact lf2
   refine ⟨fun Kq hK => ?_, ?_⟩
   ·refine ⟨_, rfl, _, rfl, a, _, rfl, .inl sq1, _, _, rfl, rfl, _, rfl, ?_⟩
    rw [decide_eq_true (by rw [List.length_map]; show (at0 : Int) < ((ns.length : Nat) : Int); omega)]
    exact hK
   ·refine ⟨_, rfl, _, rfl, a, _, _, _, rfl, rfl, sq1, atI_nat (j := at0) hline, ga, _, _, _, rfl, rfl, hga _, atI_nat (j := j) hfv, ?_⟩
    refine ⟨_, rfl, _, _, rfl, rfl, _, rfl, fa, _, _, _, rfl, rfl, hfa _, atI_nat (j := 0) hx0, a0, _, rfl, .inr (ha0 _), _, _, rfl, rfl, ?_⟩
    refine ⟨_, rfl, _, rfl, _, rfl, _, rfl, _, rfl, a, _, rfl, sq1, fun b hb => ?_⟩
    have ecut : cutV (ns.map V.int) (some ((at0 : Nat) : Int)) (some ((at0 : Int) + 1 + ((xs0.length : Nat) : Int))) = ((j : Int) :: a').map V.int := by
     have e1 : ((at0 : Int) + 1 + ((xs0.length : Nat) : Int)) = ((at0 + (((j : Int) :: a').map V.int).length : Nat) : Int) := by
      rw [List.length_map, List.length_cons, lx0]
      omega
     rw [e1]
     exact cut_mid (tl := (PyFlat.putRows xs ++ rst).map V.int) (by rw [<- List.map_drop, drop0, List.map_append]) (by rw [List.length_map]; omega)
    rw [ecut] at *
    have fb : H b = none := s1.free hb
    have s2 : Same H1 (upd H1 b (.lst (((j : Int) :: a').map V.int))) := (Same.refl H1).upd_new hb
    refine ⟨(by show 1 <= sizeLine; decide), fun y hy => ?_⟩
    have nby : b ≠ y := ne_of_none (upd_same : (upd H1 b (.lst (((j : Int) :: a').map V.int))) b = _) hy
    have fy1 : H1 y = none := s2.free hy
    have fy : H y = none := s1.free fy1
    have s3 : Same H1 (upd (upd H1 b (.lst (((j : Int) :: a').map V.int))) y (.lst [.ref b])) := s2.upd_new fy1
    have offY : ∀ z, InCalls p Y z -> z ≠ y /\ z ≠ b := fun z hz => by
     obtain ⟨_, e⟩ := cz.at_ hz
     exact ⟨ne_of_none e fy1, ne_of_none e hb⟩
    refine ⟨_, rfl, ?_⟩
    refine while_ix xs.length (fun m σ H' => ∃ (R : List (Addr × List Int)) (v4 : Option V), Same H H' /\ CallsZ H' p Y /\ CallZ H' (y, R) /\ R.map (·.2) = ((j : Int) :: a') :: xs.take m /\ (∀ r ∈ R, H r.1 = none /\ r.1 ≠ y /\ ¬ InCalls p Y r.1) /\
      σ = [some (.ref a), some (.ref p), some (natV (at0 + (a'.length + 1) + (PyFlat.putRows (xs.take m)).length)), some (.ref fa), v4, some (.ref y)])
     ⟨[(b, (j : Int) :: a')], some (V.int ((at0 : Int) + 1 + ((xs0.length : Nat) : Int))), s1.trans s3, cz.same s3, ⟨upd_same, fun r hr => ?_⟩, rfl, fun r hr => ?_, ?_⟩ ?_ ?_
    ·rw [List.mem_singleton.mp hr]
     show (upd (upd H1 b _) y _) b = _
     rw [upd_ne nby, upd_same]
    ·rw [List.mem_singleton.mp hr]
     exact ⟨fb, nby, fun z => (offY b z).2 rfl⟩
    ·have e1 : V.int ((at0 : Int) + 1 + ((xs0.length : Nat) : Int)) = natV (at0 + (a'.length + 1) + (PyFlat.putRows (xs.take 0)).length) := congrArg V.int (by
      rw [lx0]
      show _ = ((at0 + (a'.length + 1) + 0 : Nat) : Int)
      omega)
     exact congrArg (fun z => [some (V.ref a), some (V.ref p), some z, some (V.ref fa), some (V.int ((at0 : Int) + 1 + ((xs0.length : Nat) : Int))), some (V.ref y)]) e1
    ·rintro m σ H2 hm ⟨R, v4', sH2, cz2, cy2, eR, fR, rfl⟩
     have lR : R.length = m + 1 := by
      have := congrArg List.length eR
      rw [List.length_map, List.length_cons, List.length_take] at this
      omega
     obtain ⟨x, hx⟩ : ∃ x, xs[m]? = some x := ⟨_, List.getElem?_eq_getElem hm⟩
     obtain ⟨atm, eatm⟩ : ∃ atm, atm = at0 + (a'.length + 1) + (PyFlat.putRows (xs.take m)).length := ⟨_, rfl⟩
     rw [<- eatm]
     have exs : xs = xs.take m ++ x :: xs.drop (m + 1) := by
      obtain ⟨l1, e1⟩ := List.getElem?_eq_some_iff.mp hx
      rw [<- e1, <- List.drop_eq_getElem_cons l1, List.take_append_drop]
     have eput : PyFlat.putRows xs = PyFlat.putRows (xs.take m) ++ ((x.length : Int) :: (x ++ PyFlat.putRows (xs.drop (m + 1)))) := by
      conv => lhs; rw [exs]
      rw [putRows_app]
      rfl
     have dropm : ns.drop atm = (x.length : Int) :: (x ++ (PyFlat.putRows (xs.drop (m + 1)) ++ rst)) := by
      have e1 : ns.drop atm = (ns.drop at0).drop ((a'.length + 1) + (PyFlat.putRows (xs.take m)).length) := by
       rw [List.drop_drop, eatm, Nat.add_assoc]
      rw [e1, drop0, eput]
      have e2 : ((j : Int) :: a') ++ ((PyFlat.putRows (xs.take m) ++ ((x.length : Int) :: (x ++ PyFlat.putRows (xs.drop (m + 1))))) ++ rst) = (((j : Int) :: a') ++ PyFlat.putRows (xs.take m)) ++ ((x.length : Int) :: (x ++ (PyFlat.putRows (xs.drop (m + 1)) ++ rst))) := by
       simp [List.append_assoc]
      rw [e2]
      have e3 : (a'.length + 1) + (PyFlat.putRows (xs.take m)).length = (((j : Int) :: a') ++ PyFlat.putRows (xs.take m)).length := by
       rw [List.length_append, List.length_cons]
      rw [e3, List.drop_left]
     have sq2 := sH2.seq ha
     have lnm : atm < ns.length := by
      have e1 := congrArg List.length dropm
      rw [List.length_drop, List.length_cons] at e1
      omega
     have hline2 : (ns.map V.int)[atm]? = some (V.int (x.length : Int)) := by
      have e1 : ns[atm]? = (ns.drop atm)[0]? := by rw [List.getElem?_drop, Nat.add_zero]
      rw [List.getElem?_map, e1, dropm]
      rfl
     refine ⟨fun Kq hK => ?_, ?_⟩
     ·refine ⟨_, rfl, y, _, rfl, .inl (SqL.of cy2.lst), _, rfl, fa, _, _, _, rfl, rfl, hfa _, atI_nat (j := 1) hx1, a1, _, rfl, .inr (ha1 _), _, _, rfl, rfl, _, rfl, ?_⟩
      rw [decide_eq_true (by rw [List.length_map]; show ((R.length : Nat) : Int) <= ((xs1.length : Nat) : Int); omega)]
      exact hK
     ·refine ⟨_, rfl, _, _, rfl, rfl, _, rfl, _, rfl, a, _, _, _, rfl, rfl, sq2, atI_nat (j := atm) hline2, _, _, rfl, rfl, ?_⟩
      refine ⟨_, rfl, .inl ⟨rfl, _, SqL.of cy2.lst⟩, _, rfl, _, rfl, _, _, rfl, rfl, _, rfl, _, rfl, _, rfl, a, _, rfl, sq2, fun b2 hb2 => ?_⟩
      have ecut2 : cutV (ns.map V.int) (some ((atm : Int) + 1)) (some ((atm : Int) + 1 + (x.length : Int))) = x.map V.int := by
       have e1 : ((atm : Int) + 1) = ((atm + 1 : Nat) : Int) := rfl
       have e2 : ((atm : Int) + 1 + (x.length : Int)) = ((atm + 1 + (x.map V.int).length : Nat) : Int) := by rw [List.length_map]; omega
       rw [e2, e1]
       refine cut_mid (tl := (PyFlat.putRows (xs.drop (m + 1)) ++ rst).map V.int) ?_ (by rw [List.length_map]; omega)
       have e3 : ns.drop (atm + 1) = (ns.drop atm).drop 1 := by rw [List.drop_drop]
       rw [<- List.map_drop, e3, dropm, <- List.map_append]
       rfl
      have nyb : y ≠ b2 := ne_of_none cy2.lst hb2
      refine ⟨y, _, _, rfl, rfl, by rw [upd_ne nyb]; exact cy2.lst, by rw [List.length_map, lR]; exact Nat.lt_of_le_of_lt (by omega : _ <= 17) (by decide), ?_⟩
      refine ⟨_, rfl, ?_⟩
      have s4 : Same H2 (upd H2 b2 (.lst (cutV (ns.map V.int) (some ((atm : Int) + 1)) (some ((atm : Int) + 1 + (x.length : Int)))))) := (Same.refl H2).upd_new hb2
      have fb2 : H b2 = none := sH2.free hb2
      refine ⟨R ++ [(b2, x)], some (V.int ((atm : Int) + 1 + (x.length : Int))), (sH2.trans s4).upd_new fy, ?_, ⟨?_, fun r hr => ?_⟩, ?_, fun r hr => ?_, ?_⟩
      ·refine (cz2.same s4).keep fun z o hz e => ?_
       rw [upd_ne (offY z hz).1]
       exact e
      ·rw [upd_same, List.map_append]
       rfl
      ·rcases List.mem_append.mp hr with hr | hr
       ·rw [upd_ne (fR r hr).2.1]
        exact s4 _ _ (cy2.row r hr)
       ·rw [List.mem_singleton.mp hr, upd_ne (Ne.symm nyb), upd_same, ecut2]
      ·rw [List.map_append, eR, take_at hx]
       rfl
      ·rcases List.mem_append.mp hr with hr | hr
       ·exact fR r hr
       ·rw [List.mem_singleton.mp hr]
        refine ⟨fb2, Ne.symm nyb, fun z => ?_⟩
        obtain ⟨_, e⟩ := cz2.at_ z
        rw [hb2] at e
        cases e
      ·have e1 : V.int ((atm : Int) + 1 + (x.length : Int)) = natV (at0 + (a'.length + 1) + (PyFlat.putRows (xs.take (m + 1))).length) := congrArg V.int (by
        rw [take_at hx, putRows_app, List.length_append]
        show _ = ((at0 + (a'.length + 1) + ((PyFlat.putRows (xs.take m)).length + (((x.length : Int) :: x) ++ []).length) : Nat) : Int)
        rw [List.append_nil, List.length_cons, eatm]
        omega)
       exact congrArg (fun z => [some (V.ref a), some (V.ref p), some z, some (V.ref fa), some (V.int ((atm : Int) + 1 + (x.length : Int))), some (V.ref y)]) e1
    ·rintro σ H2 ⟨R, v4', sH2, cz2, cy2, eR, fR, rfl⟩
     have lR : R.length = xs.length + 1 := by
      have := congrArg List.length eR
      rw [List.length_map, List.length_cons, List.length_take] at this
      omega
     refine ⟨fun Kq hK => ?_, ?_⟩
     ·refine ⟨_, rfl, y, _, rfl, .inl (SqL.of cy2.lst), _, rfl, fa, _, _, _, rfl, rfl, hfa _, atI_nat (j := 1) hx1, a1, _, rfl, .inr (ha1 _), _, _, rfl, rfl, _, rfl, ?_⟩
      rw [decide_eq_false (by rw [List.length_map]; show ¬ ((R.length : Nat) : Int) <= ((xs1.length : Nat) : Int); omega)]
      exact hK
     ·have lY : Y.length = i := by
       have := congrArg List.length eY
       rw [List.length_map, List.length_take] at this
       omega
      refine ⟨_, rfl, .inl ⟨rfl, _, SqL.of cz2.lst⟩, _, rfl, p, _, _, rfl, rfl, cz2.lst, by rw [List.length_map, lY]; exact Nat.lt_of_le_of_lt (by omega : _ <= 1000) (by decide), ?_⟩
      have npy : y ≠ p := fun e => (offY p (.inl rfl)).1 e.symm
      refine ⟨Y ++ [(y, R)], some (.ref fa), v4', some (.ref y), sH2.upd_new hp, ⟨?_, fun y' hy' => ?_⟩, ?_, fun z hz => ?_, fun z hz => ?_, ?_⟩
      ·rw [upd_same, List.map_append]
       rfl
      ·have kp : ∀ z o, H2 z = some o -> z ≠ p -> (upd H2 p (.lst (Y.map (fun y => V.ref y.1) ++ [V.ref y]))) z = some o := fun z o e ne => by rw [upd_ne ne]; exact e
       rcases List.mem_append.mp hy' with hy' | hy'
       ·have c0 := cz2.call y' hy'
        have np : ∀ z, (z = y'.1 \/ ∃ r ∈ y'.2, z = r.1) -> z ≠ p := fun z hz => offP z ⟨y', hy', hz⟩
        exact ⟨kp _ _ c0.lst (np _ (.inl rfl)), fun r hr => kp _ _ (c0.row r hr) (np _ (.inr ⟨r, hr, rfl⟩))⟩
       ·rw [List.mem_singleton.mp hy']
        refine ⟨kp _ _ cy2.lst npy, fun r hr => kp _ _ (cy2.row r hr) fun e => (fR r hr).2.2 (.inl e)⟩
      ·rw [List.map_append, eY, take_at hc]
       show _ ++ [R.map (·.2)] = _
       rw [eR, List.take_length]
      ·rcases hz with e | ⟨y', hy', hz⟩
       ·rw [e]; exact hp
       ·rcases List.mem_append.mp hy' with hy' | hy'
        ·exact fY z (.inr ⟨y', hy', hz⟩)
        ·rw [List.mem_singleton.mp hy'] at hz
         rcases hz with e | ⟨r, hr, e⟩
         ·rw [e]; exact fy
         ·rw [e]; exact (fR r hr).1
      ·obtain ⟨y', hy', hz⟩ := hz
       rcases List.mem_append.mp hy' with hy' | hy'
       ·exact offP z ⟨y', hy', hz⟩
       ·rw [List.mem_singleton.mp hy'] at hz
        rcases hz with e | ⟨r, hr, e⟩
        ·rw [e]; exact npy
        ·rw [e]; exact fun e2 => (fR r hr).2.2 (.inl e2)
      ·have e1 : natV (at0 + (a'.length + 1) + (PyFlat.putRows (xs.take xs.length)).length) = natV (PyFlat.put (cs.take (i + 1))).length := by
        rw [take_at hc, put_app, List.length_append, <- eat, List.take_length]
        show natV _ = natV (at0 + ((((j : Int) :: a') ++ PyFlat.putRows xs) ++ []).length)
        rw [List.append_nil, List.length_append, List.length_cons, Nat.add_assoc]
       exact congrArg (fun z => [some (V.ref a), some (V.ref p), some z, some (V.ref fa), v4', some (V.ref y)]) e1
  ·rintro σ H1 ⟨Y, v3, v4, v5, s1, cz, eY, fY, offP, rfl⟩
   rw [List.take_length] at eY
   rw [List.take_length, <- ens]
   refine ⟨fun Kq hK => ?_, ?_⟩
   ·refine ⟨_, rfl, _, rfl, a, _, rfl, .inl (s1.seq ha), _, _, rfl, rfl, _, rfl, ?_⟩
    rw [decide_eq_false (by rw [List.length_map]; show ¬ ((ns.length : Nat) : Int) < ((ns.length : Nat) : Int); omega)]
    exact hK
   ·refine ⟨_, rfl, ?_⟩
    exact q H1 p Y s1 cz eY fY
end
end Mile
namespace Mile
open Vbahaq (within idOf dayOf milesOf costOf listOf pairsOf ranged Call Reading LASTDAY)
abbrev nI (n : Nat) : Int := (n : Int)
theorem within_isSome (lo hi : Nat) (z : Int) : (within lo hi z).isSome = (decide ((lo : Int) <= z) && decide (z <= (hi : Int))) := by
 unfold within
 by_cases c : (lo : Int) <= z /\ z <= (hi : Int)
 ·rw [if_pos c, decide_eq_true c.1, decide_eq_true c.2]; rfl
 ·rw [if_neg c]
  by_cases c1 : (lo : Int) <= z
  ·rw [decide_eq_true c1, decide_eq_false (fun c2 => c ⟨c1, c2⟩)]; rfl
  ·rw [decide_eq_false c1]; rfl
theorem within_inv {lo hi : Nat} {z : Int} {n : Nat} (h : within lo hi z = some n) : z = nI n /\ lo <= n /\ n <= hi := by
 unfold within at h
 by_cases c : (lo : Int) <= z /\ z <= (hi : Int)
 ·rw [if_pos c] at h
  have e := Option.some.inj h
  have e2 : z = nI n := by
   show z = (n : Int)
   omega
  exact ⟨e2, by omega, by omega⟩
 ·rw [if_neg c] at h
  cases h
theorem withinB_one (lo hi : Nat) : ∀ (l : List Int) (i : Nat), withinB [((lo : Int), (hi : Int))] i l = (l.mapM (within lo hi)).isSome
 | [], _ => rfl
 | z :: r, i => by
  have e : ([((lo : Int), (hi : Int))].getD (i % [((lo : Int), (hi : Int))].length) (0, 0)) = ((lo : Int), (hi : Int)) := by
   rw [show [((lo : Int), (hi : Int))].length = 1 from rfl, Nat.mod_one]
   rfl
  show (((decide (([((lo : Int), (hi : Int))].getD (i % [((lo : Int), (hi : Int))].length) (0, 0)).1 <= z) && decide (z <= ([((lo : Int), (hi : Int))].getD (i % [((lo : Int), (hi : Int))].length) (0, 0)).2))) && withinB [((lo : Int), (hi : Int))] (i + 1) r) = _
  rw [e, <- within_isSome, withinB_one lo hi r (i + 1), List.mapM_cons]
  cases within lo hi z with
  | none => rfl
  | some n =>
   cases r.mapM (within lo hi) with
   | none => rfl
   | some ns => rfl
theorem mapM_inv {lo hi : Nat} : ∀ {l : List Int} {ns : List Nat}, l.mapM (within lo hi) = some ns -> l = ns.map nI /\ (∀ n ∈ ns, lo <= n /\ n <= hi)
 | [], ns, h => by
  have e : ([] : List Nat) = ns := Option.some.inj h
  subst e
  exact ⟨rfl, fun n hn => by cases hn⟩
 | z :: r, ns, h => by
  rw [List.mapM_cons] at h
  cases e1 : within lo hi z with
  | none => rw [e1] at h; cases h
  | some n =>
   rw [e1] at h
   cases e2 : r.mapM (within lo hi) with
   | none => rw [e2] at h; cases h
   | some ms =>
    rw [e2] at h
    have e3 : n :: ms = ns := Option.some.inj h
    subst e3
    obtain ⟨e4, e5⟩ := mapM_inv e2
    obtain ⟨e6, e7⟩ := within_inv e1
    refine ⟨by rw [e6, e4]; rfl, fun m hm => ?_⟩
    rcases List.mem_cons.mp hm with rfl | hm
    ·exact e7
    ·exact e5 m hm
theorem listOf_inv {a b lo hi : Nat} {l : List Int} {ns : List Nat} (h : listOf a b (within lo hi) l = some ns) : l = ns.map nI /\ (∀ n ∈ ns, lo <= n /\ n <= hi) /\ a <= ns.length /\ ns.length <= b := by
 unfold listOf at h
 by_cases c : a <= l.length /\ l.length <= b
 ·rw [if_pos c] at h
  obtain ⟨e1, e2⟩ := mapM_inv h
  rw [e1, List.length_map] at c
  exact ⟨e1, e2, c⟩
 ·rw [if_neg c] at h
  cases h
theorem rowOk_list {a b lo hi : Nat} {ls : List Int} {l : List Int} (hls : ls.contains ((l.length : Nat) : Int) = decide (a <= l.length /\ l.length <= b)) : rowOk (ls, [((lo : Int), (hi : Int))]) l = (listOf a b (within lo hi) l).isSome := by
 unfold rowOk listOf
 dsimp only
 rw [hls, withinB_one]
 by_cases c : a <= l.length /\ l.length <= b
 ·rw [decide_eq_true c, if_pos c, Bool.true_and]
 ·rw [decide_eq_false c, if_neg c, Bool.false_and]; rfl
theorem withinB_two (rs : List Rg) (h : rs.length = 2) : ∀ (l : List Int) (i : Nat), withinB rs (i + 2) l = withinB rs i l
 | [], _ => rfl
 | z :: r, i => by
  have e : (i + 2) % rs.length = i % rs.length := by rw [h, Nat.add_mod_right]
  show (((decide ((rs.getD ((i + 2) % rs.length) (0, 0)).1 <= z) && decide (z <= (rs.getD ((i + 2) % rs.length) (0, 0)).2))) && withinB rs (i + 2 + 1) r) = (((decide ((rs.getD (i % rs.length) (0, 0)).1 <= z) && decide (z <= (rs.getD (i % rs.length) (0, 0)).2))) && withinB rs (i + 1) r)
  rw [e, show i + 2 + 1 = (i + 1) + 2 by omega, withinB_two rs h r (i + 1)]
theorem pairs_isSome : ∀ l : List Int, (pairsOf l).isSome = (decide (l.length % 2 = 0) && withinB [(0, 36524), idR] 0 l)
 | [] => rfl
 | [z] => by
  show (none : Option (List (Nat × Nat))).isSome = (decide (1 % 2 = 0) && _)
  rfl
 | a :: b :: r => by
  have e1 : (decide ((a :: b :: r).length % 2 = 0)) = decide (r.length % 2 = 0) := by
   rw [List.length_cons, List.length_cons]
   by_cases c : r.length % 2 = 0
   ·rw [decide_eq_true c, decide_eq_true (by omega)]
   ·rw [decide_eq_false c, decide_eq_false (by omega)]
  have e2 : withinB [(0, 36524), idR] 0 (a :: b :: r) = ((decide ((0 : Int) <= a) && decide (a <= 36524)) && ((decide ((1 : Int) <= b) && decide (b <= 1000000000)) && withinB [(0, 36524), idR] (0 + 2) r)) := rfl
  have w1 := within_isSome 0 36524 a
  have w2 := within_isSome 1 1000000000 b
  rw [e1, e2, withinB_two _ rfl]
  have w1' : (decide ((0 : Int) <= a) && decide (a <= 36524)) = (dayOf a).isSome := w1.symm
  have w2' : (decide ((1 : Int) <= b) && decide (b <= 1000000000)) = (costOf b).isSome := w2.symm
  rw [w1', w2']
  have ih := pairs_isSome r
  show (do let a <- dayOf a; let b <- costOf b; let l <- pairsOf r; return (a, b) :: l : Option (List (Nat × Nat))).isSome = _
  cases dayOf a with
  | none => cases decide (r.length % 2 = 0) <;> rfl
  | some x =>
   cases costOf b with
   | none => cases decide (r.length % 2 = 0) <;> rfl
   | some y =>
    show (do let l <- pairsOf r; return (x, y) :: l : Option (List (Nat × Nat))).isSome = (decide (r.length % 2 = 0) && (true && (true && withinB [(0, 36524), idR] 0 r)))
    rw [Bool.true_and, Bool.true_and, <- ih]
    cases pairsOf r <;> rfl
theorem pairs_inv : ∀ {l : List Int} {ps : List (Nat × Nat)}, pairsOf l = some ps -> l = ps.flatMap fun x => [nI x.1, nI x.2]
 | [], ps, h => by
  have e : ([] : List (Nat × Nat)) = ps := Option.some.inj h
  subst e
  rfl
 | [z], ps, h => by
  have h' : (none : Option (List (Nat × Nat))) = some ps := h
  cases h'
 | a :: b :: r, ps, h => by
  have h' : (do let a <- dayOf a; let b <- costOf b; let l <- pairsOf r; return (a, b) :: l : Option (List (Nat × Nat))) = some ps := h
  cases e1 : dayOf a with
  | none => rw [e1] at h'; cases h'
  | some x =>
   rw [e1] at h'
   cases e2 : costOf b with
   | none => rw [e2] at h'; cases h'
   | some y =>
    rw [e2] at h'
    cases e3 : pairsOf r with
    | none => rw [e3] at h'; cases h'
    | some qs =>
     rw [e3] at h'
     have e4 : (x, y) :: qs = ps := Option.some.inj h'
     subst e4
     rw [pairs_inv e3, (within_inv (lo := 0) (hi := LASTDAY) e1).1, (within_inv (lo := 1) (hi := 1000000000) e2).1]
     rfl
theorem planLen (n : Nat) : ([0, 2, 4, 6, 8, 10, 12, 14, 16, 18, 20, 22, 24, 26, 28, 30, 32, 34, 36, 38, 40] : List Int).contains ((n : Nat) : Int) = (decide (n <= 40) && decide (n % 2 = 0)) := by
 by_cases c : n <= 40
 ·have : ∀ m, m <= 40 -> ([0, 2, 4, 6, 8, 10, 12, 14, 16, 18, 20, 22, 24, 26, 28, 30, 32, 34, 36, 38, 40] : List Int).contains ((m : Nat) : Int) = (decide (m <= 40) && decide (m % 2 = 0)) := by
   intro m hm
   have h2 : ∀ k : Fin 41, ([0, 2, 4, 6, 8, 10, 12, 14, 16, 18, 20, 22, 24, 26, 28, 30, 32, 34, 36, 38, 40] : List Int).contains ((k.val : Nat) : Int) = (decide (k.val <= 40) && decide (k.val % 2 = 0)) := by decide +kernel
   exact h2 ⟨m, by omega⟩
  exact this n c
 ·rw [decide_eq_false c, Bool.false_and, Bool.eq_false_iff]
  intro h
  rw [List.contains_iff_mem] at h
  simp at h
  omega
theorem ranged_iff {c : Option Call} : (c.isSome = true -> ∃ x, ranged c = .call x) /\ (c.isSome = false -> ranged c = .range) := by
 cases c with
 | none => exact ⟨fun h => Bool.noConfusion h, fun _ => rfl⟩
 | some x => exact ⟨fun _ => ⟨x, rfl⟩, fun h => Bool.noConfusion h⟩
theorem ranged_inv {c : Option Call} {x : Call} (h : ranged c = .call x) : c = some x := by
 cases c with
 | none => cases h
 | some y =>
  have h' : Reading.call y = .call x := h
  injection h' with h'
  rw [h']
theorem opt1 {f : Nat -> Call} {a : Option Nat} : (do return f (<- a) : Option Call).isSome = a.isSome := by cases a <;> rfl
theorem opt2 {f : Nat -> Nat -> Call} {a b : Option Nat} : (do return f (<- a) (<- b) : Option Call).isSome = (a.isSome && b.isSome) := by cases a <;> cases b <;> rfl
theorem opt3 {f : Nat -> Nat -> Nat -> Call} {a b c : Option Nat} : (do return f (<- a) (<- b) (<- c) : Option Call).isSome = (a.isSome && (b.isSome && c.isSome)) := by cases a <;> cases b <;> cases c <;> rfl
theorem inR1 (lo hi : Nat) (z : Int) : inRange ([((lo : Int), (hi : Int))], []) [z] [] = (within lo hi z).isSome := by
 rw [within_isSome]
 show (((decide ((lo : Int) <= z) && decide (z <= (hi : Int))) && true) && true) = _
 rw [Bool.and_true, Bool.and_true]
theorem inR2 (lo hi lo2 hi2 : Nat) (z y : Int) : inRange ([((lo : Int), (hi : Int)), ((lo2 : Int), (hi2 : Int))], []) [z, y] [] = ((within lo hi z).isSome && (within lo2 hi2 y).isSome) := by
 rw [within_isSome, within_isSome]
 show (((decide ((lo : Int) <= z) && decide (z <= (hi : Int))) && ((decide ((lo2 : Int) <= y) && decide (y <= (hi2 : Int))) && true)) && true) = _
 rw [Bool.and_true, Bool.and_true]
theorem inR3 (lo hi lo2 hi2 lo3 hi3 : Nat) (z y x : Int) : inRange ([((lo : Int), (hi : Int)), ((lo2 : Int), (hi2 : Int)), ((lo3 : Int), (hi3 : Int))], []) [z, y, x] [] = ((within lo hi z).isSome && ((within lo2 hi2 y).isSome && (within lo3 hi3 x).isSome)) := by
 rw [within_isSome, within_isSome, within_isSome]
 show (((decide ((lo : Int) <= z) && decide (z <= (hi : Int))) && ((decide ((lo2 : Int) <= y) && decide (y <= (hi2 : Int))) && ((decide ((lo3 : Int) <= x) && decide (x <= (hi3 : Int))) && true))) && true) = _
 rw [Bool.and_true, Bool.and_true]
theorem len1 {α : Type} {l : List α} (h : 1 = l.length) : ∃ a, l = [a] := by
 match l, h with
 | [a], _ => exact ⟨a, rfl⟩
theorem len2 {α : Type} {l : List α} (h : 2 = l.length) : ∃ a b, l = [a, b] := by
 match l, h with
 | [a, b], _ => exact ⟨a, b, rfl⟩
theorem len3 {α : Type} {l : List α} (h : 3 = l.length) : ∃ a b c, l = [a, b, c] := by
 match l, h with
 | [a, b, c], _ => exact ⟨a, b, c, rfl⟩
theorem len0 {α : Type} {l : List α} (h : 0 = l.length) : l = [] := List.length_eq_zero_iff.mp h.symm
theorem listIn (a b : Nat) (hab : b < 100) (ls : List Int) (h : ∀ k : Fin 100, ls.contains ((k.val : Nat) : Int) = decide (a <= k.val /\ k.val <= b)) (hm : ∀ x ∈ ls, x <= 99) (l : List Int) : ls.contains ((l.length : Nat) : Int) = decide (a <= l.length /\ l.length <= b) := by
 by_cases c : l.length < 100
 ·exact h ⟨l.length, c⟩
 ·rw [decide_eq_false (by omega), Bool.eq_false_iff]
  intro h2
  rw [List.contains_iff_mem] at h2
  have := hm _ h2
  omega
theorem inR_rules (l : Int) (b t : List Int) : inRange ([(1, 1500)], [([4], [(0, 300)]), ([3], [(1, 1000000)])]) [l] [b, t] = ((within 1 1500 l).isSome && ((listOf 4 4 (within 0 300) b).isSome && (listOf 3 3 (within 1 1000000) t).isSome)) := by
 have e1 := rowOk_list (lo := 0) (hi := 300) (ls := [4]) (l := b) (listIn 4 4 (by decide) [4] (by decide +kernel) (by decide) b)
 have e2 := rowOk_list (lo := 1) (hi := 1000000) (ls := [3]) (l := t) (listIn 3 3 (by decide) [3] (by decide +kernel) (by decide) t)
 rw [within_isSome, <- e1, <- e2]
 show (((decide ((1 : Int) <= l) && decide (l <= 1500)) && true) && (rowOk ([4], [(0, 300)]) b && (rowOk ([3], [(1, 1000000)]) t && true))) = _
 rw [Bool.and_true, Bool.and_true]
 rfl
theorem inR_pool (l : List Int) : inRange ([], [([2, 3, 4, 5, 6], [idR])]) [] [l] = (listOf 2 6 idOf l).isSome := by
 have e1 := rowOk_list (lo := 1) (hi := 1000000000) (ls := [2, 3, 4, 5, 6]) (l := l) (listIn 2 6 (by decide) [2, 3, 4, 5, 6] (by decide +kernel) (by decide) l)
 show (true && (rowOk ([2, 3, 4, 5, 6], [idR]) l && true)) = _
 rw [Bool.and_true, Bool.true_and]
 exact e1
theorem inR_plan (i : Int) (l : List Int) : inRange ([idR], [([0, 2, 4, 6, 8, 10, 12, 14, 16, 18, 20, 22, 24, 26, 28, 30, 32, 34, 36, 38, 40], [(0, 36524), idR])]) [i] [l] = ((idOf i).isSome && (if l.length <= 40 then pairsOf l else none).isSome) := by
 have e0 : (if l.length <= 40 then pairsOf l else none).isSome = (decide (l.length <= 40) && (pairsOf l).isSome) := by
  by_cases c : l.length <= 40
  ·rw [if_pos c, decide_eq_true c, Bool.true_and]
  ·rw [if_neg c, decide_eq_false c, Bool.false_and]; rfl
 rw [e0, pairs_isSome, <- Bool.and_assoc (decide (l.length <= 40)), <- planLen]
 have e1 : (idOf i).isSome = (decide ((1 : Int) <= i) && decide (i <= 1000000000)) := within_isSome 1 1000000000 i
 rw [e1]
 show (((decide ((1 : Int) <= i) && decide (i <= 1000000000)) && true) && (rowOk _ l && true)) = _
 rw [Bool.and_true, Bool.and_true]
 rfl
theorem read_ok {j : Nat} {f : Form} (hf : formsL[j]? = some f) {plain : List Int} {rows : List (List Int)} (l1 : f.1.length = plain.length) (l2 : f.2.length = rows.length) :
  (inRange f plain rows = true -> ∃ c, Vbahaq.read ((nI j :: plain) :: rows) = .call c) /\ (inRange f plain rows = false -> Vbahaq.read ((nI j :: plain) :: rows) = .range) := by
 match j, hf with
 | 0, hf =>
  cases Option.some.inj hf
  obtain ⟨l, rfl⟩ := len1 (l := plain) l1
  obtain ⟨b, t, rfl⟩ := len2 (l := rows) l2
  have hr : Vbahaq.read ((nI 0 :: [l]) :: [b, t]) = ranged (do return .rules { life := (<- within 1 1500 l), bonus := (<- listOf 4 4 (within 0 300) b), steps := (<- listOf 3 3 (within 1 1000000) t) }) := rfl
  rw [hr, inR_rules]
  cases within 1 1500 l with
  | none => exact ⟨fun h => Bool.noConfusion h, fun _ => rfl⟩
  | some x =>
   cases listOf 4 4 (within 0 300) b with
   | none => exact ⟨fun h => Bool.noConfusion h, fun _ => rfl⟩
   | some y =>
    cases listOf 3 3 (within 1 1000000) t with
    | none => exact ⟨fun h => Bool.noConfusion h, fun _ => rfl⟩
    | some z => exact ⟨fun _ => ⟨_, rfl⟩, fun h => Bool.noConfusion h⟩
 | 1, hf =>
  cases Option.some.inj hf
  obtain ⟨i, rfl⟩ := len1 (l := plain) l1
  cases len0 (l := rows) l2
  have hr : Vbahaq.read ((nI 1 :: [i]) :: []) = ranged (do return .join (<- idOf i)) := rfl
  rw [hr, show inRange ([idR], []) [i] [] = (within 1 1000000000 i).isSome from inR1 1 1000000000 i, <- opt1 (f := Call.join)]
  exact ranged_iff
 | 2, hf =>
  cases Option.some.inj hf
  obtain ⟨i, m, p, rfl⟩ := len3 (l := plain) l1
  cases len0 (l := rows) l2
  have hr : Vbahaq.read ((nI 2 :: [i, m, p]) :: []) = ranged (do return .earn (<- idOf i) (<- milesOf m) (<- within 0 1000000 p)) := rfl
  rw [hr, show inRange ([idR, (1, 1000000), (0, 1000000)], []) [i, m, p] [] = ((within 1 1000000000 i).isSome && ((within 1 1000000 m).isSome && (within 0 1000000 p).isSome)) from inR3 1 1000000000 1 1000000 0 1000000 i m p, <- opt3 (f := Call.earn)]
  exact ranged_iff
 | 3, hf =>
  cases Option.some.inj hf
  obtain ⟨i, m, p, rfl⟩ := len3 (l := plain) l1
  cases len0 (l := rows) l2
  have hr : Vbahaq.read ((nI 3 :: [i, m, p]) :: []) = ranged (do return .award (<- idOf i) (<- idOf m) (<- costOf p)) := rfl
  rw [hr, show inRange ([idR, idR, idR], []) [i, m, p] [] = ((within 1 1000000000 i).isSome && ((within 1 1000000000 m).isSome && (within 1 1000000000 p).isSome)) from inR3 1 1000000000 1 1000000000 1 1000000000 i m p, <- opt3 (f := Call.award)]
  exact ranged_iff
 | 4, hf =>
  cases Option.some.inj hf
  obtain ⟨i, rfl⟩ := len1 (l := plain) l1
  cases len0 (l := rows) l2
  have hr : Vbahaq.read ((nI 4 :: [i]) :: []) = ranged (do return .cancel (<- idOf i)) := rfl
  rw [hr, show inRange ([idR], []) [i] [] = (within 1 1000000000 i).isSome from inR1 1 1000000000 i, <- opt1 (f := Call.cancel)]
  exact ranged_iff
 | 5, hf =>
  cases Option.some.inj hf
  cases len0 (l := plain) l1
  obtain ⟨l, rfl⟩ := len1 (l := rows) l2
  have hr : Vbahaq.read ((nI 5 :: []) :: [l]) = ranged (do return .pool (<- listOf 2 6 idOf l)) := rfl
  rw [hr, inR_pool]
  cases listOf 2 6 idOf l with
  | none => exact ⟨fun h => Bool.noConfusion h, fun _ => rfl⟩
  | some x => exact ⟨fun _ => ⟨_, rfl⟩, fun h => Bool.noConfusion h⟩
 | 6, hf =>
  cases Option.some.inj hf
  obtain ⟨i, rfl⟩ := len1 (l := plain) l1
  cases len0 (l := rows) l2
  have hr : Vbahaq.read ((nI 6 :: [i]) :: []) = ranged (do return .unpool (<- idOf i)) := rfl
  rw [hr, show inRange ([idR], []) [i] [] = (within 1 1000000000 i).isSome from inR1 1 1000000000 i, <- opt1 (f := Call.unpool)]
  exact ranged_iff
 | 7, hf =>
  cases Option.some.inj hf
  obtain ⟨i, m, p, rfl⟩ := len3 (l := plain) l1
  cases len0 (l := rows) l2
  have hr : Vbahaq.read ((nI 7 :: [i, m, p]) :: []) = ranged (do return .give (<- idOf i) (<- idOf m) (<- costOf p)) := rfl
  rw [hr, show inRange ([idR, idR, idR], []) [i, m, p] [] = ((within 1 1000000000 i).isSome && ((within 1 1000000000 m).isSome && (within 1 1000000000 p).isSome)) from inR3 1 1000000000 1 1000000000 1 1000000000 i m p, <- opt3 (f := Call.give)]
  exact ranged_iff
 | 8, hf =>
  cases Option.some.inj hf
  obtain ⟨i, rfl⟩ := len1 (l := plain) l1
  cases len0 (l := rows) l2
  have hr : Vbahaq.read ((nI 8 :: [i]) :: []) = ranged (do return .clock (<- dayOf i)) := rfl
  rw [hr, show inRange ([(0, 36524)], []) [i] [] = (within 0 36524 i).isSome from inR1 0 36524 i, <- opt1 (f := Call.clock)]
  exact ranged_iff
 | 9, hf =>
  cases Option.some.inj hf
  obtain ⟨i, rfl⟩ := len1 (l := plain) l1
  cases len0 (l := rows) l2
  have hr : Vbahaq.read ((nI 9 :: [i]) :: []) = ranged (do return .lots (<- idOf i)) := rfl
  rw [hr, show inRange ([idR], []) [i] [] = (within 1 1000000000 i).isSome from inR1 1 1000000000 i, <- opt1 (f := Call.lots)]
  exact ranged_iff
 | 10, hf =>
  cases Option.some.inj hf
  obtain ⟨i, rfl⟩ := len1 (l := plain) l1
  cases len0 (l := rows) l2
  have hr : Vbahaq.read ((nI 10 :: [i]) :: []) = ranged (do return .tier (<- idOf i)) := rfl
  rw [hr, show inRange ([idR], []) [i] [] = (within 1 1000000000 i).isSome from inR1 1 1000000000 i, <- opt1 (f := Call.tier)]
  exact ranged_iff
 | 11, hf =>
  cases Option.some.inj hf
  obtain ⟨i, rfl⟩ := len1 (l := plain) l1
  cases len0 (l := rows) l2
  have hr : Vbahaq.read ((nI 11 :: [i]) :: []) = ranged (do return .hand (<- idOf i)) := rfl
  rw [hr, show inRange ([idR], []) [i] [] = (within 1 1000000000 i).isSome from inR1 1 1000000000 i, <- opt1 (f := Call.hand)]
  exact ranged_iff
 | 12, hf =>
  cases Option.some.inj hf
  obtain ⟨i, m, rfl⟩ := len2 (l := plain) l1
  cases len0 (l := rows) l2
  have hr : Vbahaq.read ((nI 12 :: [i, m]) :: []) = ranged (do return .forecast (<- idOf i) (<- dayOf m)) := rfl
  rw [hr, show inRange ([idR, (0, 36524)], []) [i, m] [] = ((within 1 1000000000 i).isSome && (within 0 36524 m).isSome) from inR2 1 1000000000 0 36524 i m, <- opt2 (f := Call.forecast)]
  exact ranged_iff
 | 13, hf =>
  cases Option.some.inj hf
  obtain ⟨i, rfl⟩ := len1 (l := plain) l1
  obtain ⟨l, rfl⟩ := len1 (l := rows) l2
  have hr : Vbahaq.read ((nI 13 :: [i]) :: [l]) = ranged (do
    let i <- idOf i
    let l <- if l.length <= 40 then pairsOf l else none
    return .plan i l) := rfl
  rw [hr, inR_plan]
  cases idOf i with
  | none => exact ⟨fun h => Bool.noConfusion h, fun _ => rfl⟩
  | some x =>
   by_cases c : l.length <= 40
   ·simp only [if_pos c]
    cases pairsOf l with
    | none => exact ⟨fun h => Bool.noConfusion h, fun _ => rfl⟩
    | some y => exact ⟨fun _ => ⟨_, rfl⟩, fun h => Bool.noConfusion h⟩
   ·simp only [if_neg c]
    exact ⟨fun h => Bool.noConfusion h, fun _ => rfl⟩
 | 14, hf =>
  cases Option.some.inj hf
  cases len0 (l := plain) l1
  cases len0 (l := rows) l2
  exact ⟨fun _ => ⟨.totals, rfl⟩, fun h => Bool.noConfusion h⟩
 | 15, hf =>
  cases Option.some.inj hf
  cases len0 (l := plain) l1
  cases len0 (l := rows) l2
  exact ⟨fun _ => ⟨.awards, rfl⟩, fun h => Bool.noConfusion h⟩
 | j + 16, hf => cases hf
end Mile
namespace Mile
open PySem PySem.Spec PyProof.Rows L2
open Vbahaq (within idOf dayOf milesOf costOf listOf pairsOf ranged Call Reading LASTDAY State)
abbrev sAnswers : Stmt := top 65
abbrev sAnsCall : Stmt := top 66
abbrev sCarry : Stmt := top 67
abbrev sLook : Stmt := top 68
theorem o1_inv {f : Nat -> Call} {lo hi : Nat} {z : Int} {c : Call} (h : ranged (do return f (<- within lo hi z)) = .call c) : ∃ n, z = nI n /\ lo <= n /\ n <= hi /\ c = f n := by
 have h1 := ranged_inv h
 cases e : within lo hi z with
 | none => rw [e] at h1; cases h1
 | some n =>
  rw [e] at h1
  obtain ⟨e1, e2, e3⟩ := within_inv e
  exact ⟨n, e1, e2, e3, (Option.some.inj h1).symm⟩
theorem o2_inv {f : Nat -> Nat -> Call} {lo hi lo2 hi2 : Nat} {z y : Int} {c : Call} (h : ranged (do return f (<- within lo hi z) (<- within lo2 hi2 y)) = .call c) : ∃ n m, z = nI n /\ y = nI m /\ c = f n m := by
 have h1 := ranged_inv h
 cases e : within lo hi z with
 | none => rw [e] at h1; cases h1
 | some n =>
  rw [e] at h1
  cases e2 : within lo2 hi2 y with
  | none => rw [e2] at h1; cases h1
  | some m =>
   rw [e2] at h1
   exact ⟨n, m, (within_inv e).1, (within_inv e2).1, (Option.some.inj h1).symm⟩
theorem o3_inv {f : Nat -> Nat -> Nat -> Call} {lo hi lo2 hi2 lo3 hi3 : Nat} {z y x : Int} {c : Call} (h : ranged (do return f (<- within lo hi z) (<- within lo2 hi2 y) (<- within lo3 hi3 x)) = .call c) : ∃ n m k, z = nI n /\ y = nI m /\ x = nI k /\ (lo2 <= m /\ m <= hi2) /\ c = f n m k := by
 have h1 := ranged_inv h
 cases e : within lo hi z with
 | none => rw [e] at h1; cases h1
 | some n =>
  rw [e] at h1
  cases e2 : within lo2 hi2 y with
  | none => rw [e2] at h1; cases h1
  | some m =>
   rw [e2] at h1
   cases e3 : within lo3 hi3 x with
   | none => rw [e3] at h1; cases h1
   | some k =>
    rw [e3] at h1
    exact ⟨n, m, k, (within_inv e).1, (within_inv e2).1, (within_inv e3).1, (within_inv e2).2, (Option.some.inj h1).symm⟩
theorem rules_inv {l : Int} {b t : List Int} {c : Call} (h : Vbahaq.read ((nI 0 :: [l]) :: [b, t]) = .call c) : ∃ (n : Nat) (bs ts : List Nat), l = nI n /\ b = bs.map nI /\ t = ts.map nI /\ bs.length = 4 /\ ts.length = 3 /\ (∀ x ∈ bs, x <= 300) /\ c = .rules ⟨n, bs, ts⟩ := by
 have hr : Vbahaq.read ((nI 0 :: [l]) :: [b, t]) = ranged (do return .rules { life := (<- within 1 1500 l), bonus := (<- listOf 4 4 (within 0 300) b), steps := (<- listOf 3 3 (within 1 1000000) t) }) := rfl
 rw [hr] at h
 have h1 := ranged_inv h
 cases e : within 1 1500 l with
 | none => rw [e] at h1; cases h1
 | some n =>
  rw [e] at h1
  cases e2 : listOf 4 4 (within 0 300) b with
  | none => rw [e2] at h1; cases h1
  | some bs =>
   rw [e2] at h1
   cases e3 : listOf 3 3 (within 1 1000000) t with
   | none => rw [e3] at h1; cases h1
   | some ts =>
    rw [e3] at h1
    obtain ⟨b1, b2, b3, b4⟩ := listOf_inv e2
    obtain ⟨t1, t2, t3, t4⟩ := listOf_inv e3
    exact ⟨n, bs, ts, (within_inv e).1, b1, t1, by omega, by omega, fun x hx => (b2 x hx).2, (Option.some.inj h1).symm⟩
theorem pool_inv {l : List Int} {c : Call} (h : Vbahaq.read ((nI 5 :: []) :: [l]) = .call c) : ∃ ids : List Nat, l = ids.map nI /\ ids.length <= 6 /\ c = .pool ids := by
 have hr : Vbahaq.read ((nI 5 :: []) :: [l]) = ranged (do return .pool (<- listOf 2 6 idOf l)) := rfl
 rw [hr] at h
 have h1 := ranged_inv h
 cases e2 : listOf 2 6 idOf l with
 | none => rw [e2] at h1; cases h1
 | some ids =>
  rw [e2] at h1
  obtain ⟨b1, b2, b3, b4⟩ := listOf_inv (lo := 1) (hi := 1000000000) e2
  exact ⟨ids, b1, b4, (Option.some.inj h1).symm⟩
theorem plan_inv {i : Int} {l : List Int} {c : Call} (h : Vbahaq.read ((nI 13 :: [i]) :: [l]) = .call c) : ∃ (k : Nat) (ps : List (Nat × Nat)), i = nI k /\ l = (ps.flatMap fun x => [nI x.1, nI x.2]) /\ c = .plan k ps := by
 have hr : Vbahaq.read ((nI 13 :: [i]) :: [l]) = ranged (do
    let i <- idOf i
    let l <- if l.length <= 40 then pairsOf l else none
    return .plan i l) := rfl
 rw [hr] at h
 have h1 := ranged_inv h
 cases e : idOf i with
 | none => rw [e] at h1; cases h1
 | some k =>
  rw [e] at h1
  by_cases c1 : l.length <= 40
  ·simp only [if_pos c1] at h1
   cases e2 : pairsOf l with
   | none => rw [e2] at h1; cases h1
   | some ps =>
    rw [e2] at h1
    exact ⟨k, ps, (within_inv (lo := 1) (hi := 1000000000) e).1, pairs_inv e2, (Option.some.inj h1).symm⟩
  ·simp only [if_neg c1] at h1
   cases h1
theorem flatP_int (ps : List (Nat × Nat)) : (ps.flatMap fun x => [nI x.1, nI x.2]).map V.int = flatP ps := by
 induction ps with
 | nil => rfl
 | cons x r ih =>
  show V.int (nI x.1) :: V.int (nI x.2) :: (r.flatMap fun x => [nI x.1, nI x.2]).map V.int = _
  rw [ih]
  rfl
theorem natVs (ns : List Nat) : (ns.map nI).map V.int = ns.map natV := by rw [List.map_map]; rfl
theorem read_callOk {j : Nat} {f : Form} (hf : formsL[j]? = some f) {plain : List Int} {rows : List (List Int)} (l1 : f.1.length = plain.length) (l2 : f.2.length = rows.length) {c : Call} (h : Vbahaq.read ((nI j :: plain) :: rows) = .call c) : CallOk c := by
 match j, hf with
 | 0, hf =>
  cases Option.some.inj hf
  obtain ⟨l, rfl⟩ := len1 (l := plain) l1
  obtain ⟨b, t, rfl⟩ := len2 (l := rows) l2
  obtain ⟨n, bs, ts, _, _, _, h4, h5, h6, rfl⟩ := rules_inv h
  exact ⟨h4, h5, h6⟩
 | 1, hf =>
  cases Option.some.inj hf
  obtain ⟨i, rfl⟩ := len1 (l := plain) l1
  cases len0 (l := rows) l2
  obtain ⟨n, _, _, _, rfl⟩ := o1_inv (f := Call.join) (lo := 1) (hi := 1000000000) h
  trivial
 | 2, hf =>
  cases Option.some.inj hf
  obtain ⟨i, m, p, rfl⟩ := len3 (l := plain) l1
  cases len0 (l := rows) l2
  obtain ⟨n, m', k, _, _, _, hm, rfl⟩ := o3_inv (f := Call.earn) (lo := 1) (hi := 1000000000) (lo2 := 1) (hi2 := 1000000) (lo3 := 0) (hi3 := 1000000) h
  exact hm
 | 3, hf =>
  cases Option.some.inj hf
  obtain ⟨i, m, p, rfl⟩ := len3 (l := plain) l1
  cases len0 (l := rows) l2
  obtain ⟨n, m', k, _, _, _, hm, rfl⟩ := o3_inv (f := Call.award) (lo := 1) (hi := 1000000000) (lo2 := 1) (hi2 := 1000000000) (lo3 := 1) (hi3 := 1000000000) h
  trivial
 | 4, hf =>
  cases Option.some.inj hf
  obtain ⟨i, rfl⟩ := len1 (l := plain) l1
  cases len0 (l := rows) l2
  obtain ⟨n, _, _, _, rfl⟩ := o1_inv (f := Call.cancel) (lo := 1) (hi := 1000000000) h
  trivial
 | 5, hf =>
  cases Option.some.inj hf
  cases len0 (l := plain) l1
  obtain ⟨l, rfl⟩ := len1 (l := rows) l2
  obtain ⟨ids, _, h6, rfl⟩ := pool_inv h
  exact h6
 | 6, hf =>
  cases Option.some.inj hf
  obtain ⟨i, rfl⟩ := len1 (l := plain) l1
  cases len0 (l := rows) l2
  obtain ⟨n, _, _, _, rfl⟩ := o1_inv (f := Call.unpool) (lo := 1) (hi := 1000000000) h
  trivial
 | 7, hf =>
  cases Option.some.inj hf
  obtain ⟨i, m, p, rfl⟩ := len3 (l := plain) l1
  cases len0 (l := rows) l2
  obtain ⟨n, m', k, _, _, _, hm, rfl⟩ := o3_inv (f := Call.give) (lo := 1) (hi := 1000000000) (lo2 := 1) (hi2 := 1000000000) (lo3 := 1) (hi3 := 1000000000) h
  trivial
 | 8, hf =>
  cases Option.some.inj hf
  obtain ⟨i, rfl⟩ := len1 (l := plain) l1
  cases len0 (l := rows) l2
  obtain ⟨n, _, _, _, rfl⟩ := o1_inv (f := Call.clock) (lo := 0) (hi := LASTDAY) h
  trivial
 | 9, hf =>
  cases Option.some.inj hf
  obtain ⟨i, rfl⟩ := len1 (l := plain) l1
  cases len0 (l := rows) l2
  obtain ⟨n, _, _, _, rfl⟩ := o1_inv (f := Call.lots) (lo := 1) (hi := 1000000000) h
  trivial
 | 10, hf =>
  cases Option.some.inj hf
  obtain ⟨i, rfl⟩ := len1 (l := plain) l1
  cases len0 (l := rows) l2
  obtain ⟨n, _, _, _, rfl⟩ := o1_inv (f := Call.tier) (lo := 1) (hi := 1000000000) h
  trivial
 | 11, hf =>
  cases Option.some.inj hf
  obtain ⟨i, rfl⟩ := len1 (l := plain) l1
  cases len0 (l := rows) l2
  obtain ⟨n, _, _, _, rfl⟩ := o1_inv (f := Call.hand) (lo := 1) (hi := 1000000000) h
  trivial
 | 12, hf =>
  cases Option.some.inj hf
  obtain ⟨i, m, rfl⟩ := len2 (l := plain) l1
  cases len0 (l := rows) l2
  obtain ⟨n, m', _, _, rfl⟩ := o2_inv (f := Call.forecast) (lo := 1) (hi := 1000000000) (lo2 := 0) (hi2 := LASTDAY) h
  trivial
 | 13, hf =>
  cases Option.some.inj hf
  obtain ⟨i, rfl⟩ := len1 (l := plain) l1
  obtain ⟨l, rfl⟩ := len1 (l := rows) l2
  obtain ⟨k, ps, _, _, rfl⟩ := plan_inv h
  trivial
 | 14, hf =>
  cases Option.some.inj hf
  cases len0 (l := plain) l1
  cases len0 (l := rows) l2
  have e : Reading.call .totals = .call c := h
  injection e with e
  subst e
  trivial
 | 15, hf =>
  cases Option.some.inj hf
  cases len0 (l := plain) l1
  cases len0 (l := rows) l2
  have e : Reading.call .awards = .call c := h
  injection e with e
  subst e
  trivial
 | j + 16, hf => cases hf
structure TxtX (P : Program) (w : World) (K : PySem.W.Frag) (mg : Str -> Option Value) (base : Heap) (C : Cs) : Prop where
 cRules : Cal P w K mg base "set_rules" 1 ["house", "life", "bonuses", "steps"] (spRules C)
 cJoin : Cal P w K mg base "add_member" 3 ["house", "newcomer"] (spJoin C)
 cEarn : Cal P w K mg base "earn_miles" 4 ["house", "earner", "miles", "points"] (spEarn C)
 cBook : Cal P w K mg base "book_award" 3 ["house", "asker", "booking", "cost"] (spBook C)
 cCancel : Cal P w K mg base "cancel_award" 2 ["house", "booking"] (spCancel C)
 cMakeP : Cal P w K mg base "make_pool" 2 ["house", "poolers"] (spMakeP C)
 cEndP : Cal P w K mg base "end_pool" 2 ["house", "pooler"] (spEndP C)
 cGive : Cal P w K mg base "give_miles" 3 ["house", "giver", "taker", "miles"] (spGive C)
 cClock : Cal P w K mg base "move_clock" 3 ["house", "day"] (spClock C)
 cTLots : Cal P w K mg base "tell_lots" 1 ["house", "asked"] (spTLots C)
 cTTier : Cal P w K mg base "tell_tier" 4 ["house", "asked"] (spTTier C)
 cTHand : Cal P w K mg base "tell_hand" 3 ["house", "asked"] (spTHand C)
 cTFore : Cal P w K mg base "tell_forecast" 2 ["house", "asked", "day"] (spTFore C)
 cPlan : Cal P w K mg base "try_plan" 3 ["house", "planner", "pairs"] (spPlan C)
 cTTot : Cal P w K mg base "tell_totals" 2 ["house"] (spTTot C)
 cTAws : Cal P w K mg base "tell_awards" 2 ["house"] (spTAws C)
theorem eqSkip {x y : Int} {A B : Prop} (h : x ≠ y) (b : B) : if decide (V.int x = V.int y) = true then A else B := by
 rw [if_neg (fun z => h (by have := of_decide_eq_true z; injection this))]
 exact b
theorem eqHit {x y : Int} {A B : Prop} (h : x = y) (a : A) : if decide (V.int x = V.int y) = true then A else B := by
 rw [if_pos (decide_eq_true (by rw [h]))]
 exact a
section
variable {P : Program} {w : World} {K : PySem.W.Frag} {mg : Str -> Option Value} {base : Heap} {C : Cs}
structure Handed (C : Cs) (H : Hp) (L : HL) (s : State) (D : List Nat) (pa ra : Addr) (j : Nat) (plain : List Int) (rest : List (Addr × List Int)) (c : Call) (Q : VK) : Prop where
 at_ : HouseAt C H L s
 wf : WF D s
 few : D.length <= 1000
 pl : H pa = some (.lst (plain.map V.int))
 rl : H ra = some (.lst (rest.map fun r => V.ref r.1))
 row : ∀ r ∈ rest, H r.1 = some (.lst (r.2.map V.int))
 form : ∃ f, formsL[j]? = some f /\ f.1.length = plain.length /\ f.2.length = rest.length
 rd : Vbahaq.read ((nI j :: plain) :: rest.map (·.2)) = .call c
 ans : Answers C H L (Vbahaq.step s c) Q
def spCarry (C : Cs) (lo hi : Nat) : Sp := fun vs H Q _ => ∃ (L : HL) (s : State) (D : List Nat) (pa ra : Addr) (j : Nat) (plain : List Int) (rest : List (Addr × List Int)) (c : Call), vs = [.ref L.h, natV j, .ref pa, .ref ra] /\ lo <= j /\ j <= hi /\ Handed C H L s D pa ra j plain rest c Q
theorem scCarry : FnScope ["house", "place", "plain", "rows"] ["house", "place", "plain", "rows"] (defScope sCarry) := ⟨rfl, rfl, rfl, by decide +kernel, rfl, by decide +kernel, by decide +kernel⟩
theorem ok_carry {f : Addr} {fd : FuncData} (F : Fun K "carry_out" "carry_out" sCarry f fd) (T : TxtX P w K mg base C) : FnOk P w K mg base CX0 5 f fd ["house", "place", "plain", "rows"] (spCarry C 0 8) := by
 refine F.ok scCarry (fun vs H Q E h => ?_) (fun cdv A outer s H vs Q E hr h => ?_)
 ·obtain ⟨L, st, D, pa, ra, j, plain, rest, c, rfl, _⟩ := h
  rfl
 ·obtain ⟨L, st, D, pa, ra, j, plain, rest, c, rfl, _, j8, hd⟩ := h
  have hr1 : Room 1 _ := hr.mono (by decide)
  have hr2 : Room 2 _ := hr.mono (by decide)
  have hr3 : Room 3 _ := hr.mono (by decide)
  refine ⟨_, pss_cons (ps_if (pt_cmpR op_eq (pv 1) pe_int (nomark _)) (pss_one (ps_ret (pe_cal T.cRules hr1 rfl (pa_cons (pv 0) (pa_cons (pe_ix ix_list (pv 2) pe_int (fun _ _ => rfl)) (pa_cons (pe_ix ix_list (pv 3) pe_int (fun _ _ => rfl)) (pa_cons (pe_ix ix_list (pv 3) pe_int (fun _ _ => rfl)) pa_nil))))))) pss_nil)
   (pss_cons (ps_if (pt_cmpR op_eq (pv 1) pe_int (nomark _)) (pss_one (ps_ret (pe_cal T.cJoin hr3 rfl (pa_cons (pv 0) (pa_cons (pe_ix ix_list (pv 2) pe_int (fun _ _ => rfl)) pa_nil))))) pss_nil)
   (pss_cons (ps_if (pt_cmpR op_eq (pv 1) pe_int (nomark _)) (pss_one (ps_ret (pe_cal T.cEarn hr rfl (pa_cons (pv 0) (pa_cons (pe_ix ix_list (pv 2) pe_int (fun _ _ => rfl)) (pa_cons (pe_ix ix_list (pv 2) pe_int (fun _ _ => rfl)) (pa_cons (pe_ix ix_list (pv 2) pe_int (fun _ _ => rfl)) pa_nil))))))) pss_nil)
   (pss_cons (ps_if (pt_cmpR op_eq (pv 1) pe_int (nomark _)) (pss_one (ps_ret (pe_cal T.cBook hr3 rfl (pa_cons (pv 0) (pa_cons (pe_ix ix_list (pv 2) pe_int (fun _ _ => rfl)) (pa_cons (pe_ix ix_list (pv 2) pe_int (fun _ _ => rfl)) (pa_cons (pe_ix ix_list (pv 2) pe_int (fun _ _ => rfl)) pa_nil))))))) pss_nil)
   (pss_cons (ps_if (pt_cmpR op_eq (pv 1) pe_int (nomark _)) (pss_one (ps_ret (pe_cal T.cCancel hr2 rfl (pa_cons (pv 0) (pa_cons (pe_ix ix_list (pv 2) pe_int (fun _ _ => rfl)) pa_nil))))) pss_nil)
   (pss_cons (ps_if (pt_cmpR op_eq (pv 1) pe_int (nomark _)) (pss_one (ps_ret (pe_cal T.cMakeP hr2 rfl (pa_cons (pv 0) (pa_cons (pe_ix ix_list (pv 3) pe_int (fun _ _ => rfl)) pa_nil))))) pss_nil)
   (pss_cons (ps_if (pt_cmpR op_eq (pv 1) pe_int (nomark _)) (pss_one (ps_ret (pe_cal T.cEndP hr2 rfl (pa_cons (pv 0) (pa_cons (pe_ix ix_list (pv 2) pe_int (fun _ _ => rfl)) pa_nil))))) pss_nil)
   (pss_cons (ps_if (pt_cmpR op_eq (pv 1) pe_int (nomark _)) (pss_one (ps_ret (pe_cal T.cGive hr3 rfl (pa_cons (pv 0) (pa_cons (pe_ix ix_list (pv 2) pe_int (fun _ _ => rfl)) (pa_cons (pe_ix ix_list (pv 2) pe_int (fun _ _ => rfl)) (pa_cons (pe_ix ix_list (pv 2) pe_int (fun _ _ => rfl)) pa_nil))))))) pss_nil)
   (pss_one (ps_ret (pe_cal T.cClock hr3 rfl (pa_cons (pv 0) (pa_cons (pe_ix ix_list (pv 2) pe_int (fun _ _ => rfl)) pa_nil)))))))))))), ?_⟩
  obtain ⟨hh, wf, hD, hpl, hrl, hrow, ⟨fm, hf, l1, l2⟩, hrd, q⟩ := hd
  match j, hf, j8 with
  | 0, hf, _ =>
   cases Option.some.inj hf
   obtain ⟨l, rfl⟩ := len1 (l := plain) l1
   obtain ⟨r1, r2, rfl⟩ := len2 (l := rest) l2
   obtain ⟨n, bs, ts, e1, e2, e3, h4, h5, h6, rfl⟩ := rules_inv (b := r1.2) (t := r2.2) hrd
   subst e1
   obtain ⟨x, y, z, e5⟩ := len3 (l := ts) h5.symm
   have g1 := hrow r1 List.mem_cons_self
   have g2 := hrow r2 (List.mem_cons_of_mem _ List.mem_cons_self)
   rw [e2, natVs] at g1
   rw [e3, natVs] at g2
   refine ⟨_, rfl, rfl, _, rfl, eqHit rfl ?_⟩
   exact ⟨_, rfl, _, rfl, pa, _, _, _, rfl, rfl, SqL.of hpl, atI_nat (j := 0) rfl, _, rfl, ra, _, _, _, rfl, rfl, SqL.of hrl, atI_nat (j := 0) rfl, _, rfl, ra, _, _, _, rfl, rfl, SqL.of hrl, atI_nat (j := 1) rfl, L, st, r1.1, r2.1, ⟨n, bs, ts⟩, x, y, z, rfl, hh, g1, g2, e5, q⟩
  | 1, hf, _ =>
   cases Option.some.inj hf
   obtain ⟨i, rfl⟩ := len1 (l := plain) l1
   cases len0 (l := rest) l2
   obtain ⟨n, e1, _, _, rfl⟩ := o1_inv (f := Call.join) (lo := 1) (hi := 1000000000) hrd
   subst e1
   refine ⟨_, rfl, rfl, _, rfl, eqSkip (by decide) ⟨_, rfl, rfl, _, rfl, eqHit rfl ?_⟩⟩
   exact ⟨_, rfl, _, rfl, pa, _, _, _, rfl, rfl, SqL.of hpl, atI_nat (j := 0) rfl, L, st, n, rfl, hh, wf.mlen, q⟩
  | 2, hf, _ =>
   cases Option.some.inj hf
   obtain ⟨i, m, p, rfl⟩ := len3 (l := plain) l1
   cases len0 (l := rest) l2
   obtain ⟨n, m', k, e1, e2, e3, hm, rfl⟩ := o3_inv (f := Call.earn) (lo := 1) (hi := 1000000000) (lo2 := 1) (hi2 := 1000000) (lo3 := 0) (hi3 := 1000000) hrd
   subst e1 e2 e3
   refine ⟨_, rfl, rfl, _, rfl, eqSkip (by decide) ⟨_, rfl, rfl, _, rfl, eqSkip (by decide) ⟨_, rfl, rfl, _, rfl, eqHit rfl ?_⟩⟩⟩
   exact ⟨_, rfl, _, rfl, pa, _, _, _, rfl, rfl, SqL.of hpl, atI_nat (j := 0) rfl, _, rfl, pa, _, _, _, rfl, rfl, SqL.of hpl, atI_nat (j := 1) rfl, _, rfl, pa, _, _, _, rfl, rfl, SqL.of hpl, atI_nat (j := 2) rfl, L, st, D, n, m', k, rfl, hh, wf, hD, hm.1, hm.2, q⟩
  | 3, hf, _ =>
   cases Option.some.inj hf
   obtain ⟨i, m, p, rfl⟩ := len3 (l := plain) l1
   cases len0 (l := rest) l2
   obtain ⟨n, m', k, e1, e2, e3, hm, rfl⟩ := o3_inv (f := Call.award) (lo := 1) (hi := 1000000000) (lo2 := 1) (hi2 := 1000000000) (lo3 := 1) (hi3 := 1000000000) hrd
   subst e1 e2 e3
   refine ⟨_, rfl, rfl, _, rfl, eqSkip (by decide) ⟨_, rfl, rfl, _, rfl, eqSkip (by decide) ⟨_, rfl, rfl, _, rfl, eqSkip (by decide) ⟨_, rfl, rfl, _, rfl, eqHit rfl ?_⟩⟩⟩⟩
   exact ⟨_, rfl, _, rfl, pa, _, _, _, rfl, rfl, SqL.of hpl, atI_nat (j := 0) rfl, _, rfl, pa, _, _, _, rfl, rfl, SqL.of hpl, atI_nat (j := 1) rfl, _, rfl, pa, _, _, _, rfl, rfl, SqL.of hpl, atI_nat (j := 2) rfl, L, st, D, n, m', k, rfl, hh, wf, hD, q⟩
  | 4, hf, _ =>
   cases Option.some.inj hf
   obtain ⟨i, rfl⟩ := len1 (l := plain) l1
   cases len0 (l := rest) l2
   obtain ⟨n, e1, _, _, rfl⟩ := o1_inv (f := Call.cancel) (lo := 1) (hi := 1000000000) hrd
   subst e1
   refine ⟨_, rfl, rfl, _, rfl, eqSkip (by decide) ⟨_, rfl, rfl, _, rfl, eqSkip (by decide) ⟨_, rfl, rfl, _, rfl, eqSkip (by decide) ⟨_, rfl, rfl, _, rfl, eqSkip (by decide) ⟨_, rfl, rfl, _, rfl, eqHit rfl ?_⟩⟩⟩⟩⟩
   exact ⟨_, rfl, _, rfl, pa, _, _, _, rfl, rfl, SqL.of hpl, atI_nat (j := 0) rfl, L, st, D, n, rfl, hh, wf, hD, q⟩
  | 5, hf, _ =>
   cases Option.some.inj hf
   cases len0 (l := plain) l1
   obtain ⟨r1, rfl⟩ := len1 (l := rest) l2
   obtain ⟨ids, e1, h6, rfl⟩ := pool_inv (l := r1.2) hrd
   have g1 := hrow r1 List.mem_cons_self
   rw [e1, natVs] at g1
   refine ⟨_, rfl, rfl, _, rfl, eqSkip (by decide) ⟨_, rfl, rfl, _, rfl, eqSkip (by decide) ⟨_, rfl, rfl, _, rfl, eqSkip (by decide) ⟨_, rfl, rfl, _, rfl, eqSkip (by decide) ⟨_, rfl, rfl, _, rfl, eqSkip (by decide) ⟨_, rfl, rfl, _, rfl, eqHit rfl ?_⟩⟩⟩⟩⟩⟩
   exact ⟨_, rfl, _, rfl, ra, _, _, _, rfl, rfl, SqL.of hrl, atI_nat (j := 0) rfl, L, st, r1.1, ids, rfl, hh, g1, h6, wf.plen, q⟩
  | 6, hf, _ =>
   cases Option.some.inj hf
   obtain ⟨i, rfl⟩ := len1 (l := plain) l1
   cases len0 (l := rest) l2
   obtain ⟨n, e1, _, _, rfl⟩ := o1_inv (f := Call.unpool) (lo := 1) (hi := 1000000000) hrd
   subst e1
   refine ⟨_, rfl, rfl, _, rfl, eqSkip (by decide) ⟨_, rfl, rfl, _, rfl, eqSkip (by decide) ⟨_, rfl, rfl, _, rfl, eqSkip (by decide) ⟨_, rfl, rfl, _, rfl, eqSkip (by decide) ⟨_, rfl, rfl, _, rfl, eqSkip (by decide) ⟨_, rfl, rfl, _, rfl, eqSkip (by decide) ⟨_, rfl, rfl, _, rfl, eqHit rfl ?_⟩⟩⟩⟩⟩⟩⟩
   exact ⟨_, rfl, _, rfl, pa, _, _, _, rfl, rfl, SqL.of hpl, atI_nat (j := 0) rfl, L, st, n, rfl, hh, wf.apart, q⟩
  | 7, hf, _ =>
   cases Option.some.inj hf
   obtain ⟨i, m, p, rfl⟩ := len3 (l := plain) l1
   cases len0 (l := rest) l2
   obtain ⟨n, m', k, e1, e2, e3, hm, rfl⟩ := o3_inv (f := Call.give) (lo := 1) (hi := 1000000000) (lo2 := 1) (hi2 := 1000000000) (lo3 := 1) (hi3 := 1000000000) hrd
   subst e1 e2 e3
   refine ⟨_, rfl, rfl, _, rfl, eqSkip (by decide) ⟨_, rfl, rfl, _, rfl, eqSkip (by decide) ⟨_, rfl, rfl, _, rfl, eqSkip (by decide) ⟨_, rfl, rfl, _, rfl, eqSkip (by decide) ⟨_, rfl, rfl, _, rfl, eqSkip (by decide) ⟨_, rfl, rfl, _, rfl, eqSkip (by decide) ⟨_, rfl, rfl, _, rfl, eqSkip (by decide) ⟨_, rfl, rfl, _, rfl, eqHit rfl ?_⟩⟩⟩⟩⟩⟩⟩⟩
   exact ⟨_, rfl, _, rfl, pa, _, _, _, rfl, rfl, SqL.of hpl, atI_nat (j := 0) rfl, _, rfl, pa, _, _, _, rfl, rfl, SqL.of hpl, atI_nat (j := 1) rfl, _, rfl, pa, _, _, _, rfl, rfl, SqL.of hpl, atI_nat (j := 2) rfl, L, st, D, n, m', k, rfl, hh, wf, hD, q⟩
  | 8, hf, _ =>
   cases Option.some.inj hf
   obtain ⟨i, rfl⟩ := len1 (l := plain) l1
   cases len0 (l := rest) l2
   obtain ⟨n, e1, _, _, rfl⟩ := o1_inv (f := Call.clock) (lo := 0) (hi := LASTDAY) hrd
   subst e1
   refine ⟨_, rfl, rfl, _, rfl, eqSkip (by decide) ⟨_, rfl, rfl, _, rfl, eqSkip (by decide) ⟨_, rfl, rfl, _, rfl, eqSkip (by decide) ⟨_, rfl, rfl, _, rfl, eqSkip (by decide) ⟨_, rfl, rfl, _, rfl, eqSkip (by decide) ⟨_, rfl, rfl, _, rfl, eqSkip (by decide) ⟨_, rfl, rfl, _, rfl, eqSkip (by decide) ⟨_, rfl, rfl, _, rfl, eqSkip (by decide) ?_⟩⟩⟩⟩⟩⟩⟩⟩
   exact ⟨_, rfl, _, rfl, pa, _, _, _, rfl, rfl, SqL.of hpl, atI_nat (j := 0) rfl, L, st, D, n, rfl, hh, wf, hD, q⟩
  | j + 9, _, hj => omega
theorem scLook : FnScope ["house", "place", "plain", "rows"] ["house", "place", "plain", "rows"] (defScope sLook) := ⟨rfl, rfl, rfl, by decide +kernel, rfl, by decide +kernel, by decide +kernel⟩
theorem ok_look {f : Addr} {fd : FuncData} (F : Fun K "look_up" "look_up" sLook f fd) (T : TxtX P w K mg base C) : FnOk P w K mg base CX0 5 f fd ["house", "place", "plain", "rows"] (spCarry C 9 15) := by
 refine F.ok scLook (fun vs H Q E h => ?_) (fun cdv A outer s H vs Q E hr h => ?_)
 ·obtain ⟨L, st, D, pa, ra, j, plain, rest, c, rfl, _⟩ := h
  rfl
 ·obtain ⟨L, st, D, pa, ra, j, plain, rest, c, rfl, j9, j15, hd⟩ := h
  have hr1 : Room 1 _ := hr.mono (by decide)
  have hr2 : Room 2 _ := hr.mono (by decide)
  have hr3 : Room 3 _ := hr.mono (by decide)
  refine ⟨_, pss_cons (ps_if (pt_cmpR op_eq (pv 1) pe_int (nomark _)) (pss_one (ps_ret (pe_cal T.cTLots hr1 rfl (pa_cons (pv 0) (pa_cons (pe_ix ix_list (pv 2) pe_int (fun _ _ => rfl)) pa_nil))))) pss_nil)
   (pss_cons (ps_if (pt_cmpR op_eq (pv 1) pe_int (nomark _)) (pss_one (ps_ret (pe_cal T.cTTier hr rfl (pa_cons (pv 0) (pa_cons (pe_ix ix_list (pv 2) pe_int (fun _ _ => rfl)) pa_nil))))) pss_nil)
   (pss_cons (ps_if (pt_cmpR op_eq (pv 1) pe_int (nomark _)) (pss_one (ps_ret (pe_cal T.cTHand hr3 rfl (pa_cons (pv 0) (pa_cons (pe_ix ix_list (pv 2) pe_int (fun _ _ => rfl)) pa_nil))))) pss_nil)
   (pss_cons (ps_if (pt_cmpR op_eq (pv 1) pe_int (nomark _)) (pss_one (ps_ret (pe_cal T.cTFore hr2 rfl (pa_cons (pv 0) (pa_cons (pe_ix ix_list (pv 2) pe_int (fun _ _ => rfl)) (pa_cons (pe_ix ix_list (pv 2) pe_int (fun _ _ => rfl)) pa_nil)))))) pss_nil)
   (pss_cons (ps_if (pt_cmpR op_eq (pv 1) pe_int (nomark _)) (pss_one (ps_ret (pe_cal T.cPlan hr3 rfl (pa_cons (pv 0) (pa_cons (pe_ix ix_list (pv 2) pe_int (fun _ _ => rfl)) (pa_cons (pe_ix ix_list (pv 3) pe_int (fun _ _ => rfl)) pa_nil)))))) pss_nil)
   (pss_cons (ps_if (pt_cmpR op_eq (pv 1) pe_int (nomark _)) (pss_one (ps_ret (pe_cal T.cTTot hr2 rfl (pa_cons (pv 0) pa_nil)))) pss_nil)
   (pss_one (ps_ret (pe_cal T.cTAws hr2 rfl (pa_cons (pv 0) pa_nil))))))))), ?_⟩
  obtain ⟨hh, wf, hD, hpl, hrl, hrow, ⟨fm, hf, l1, l2⟩, hrd, q⟩ := hd
  match j, hf, j9, j15 with
  | 9, hf, _, _ =>
   cases Option.some.inj hf
   obtain ⟨i, rfl⟩ := len1 (l := plain) l1
   cases len0 (l := rest) l2
   obtain ⟨n, e1, _, _, rfl⟩ := o1_inv (f := Call.lots) (lo := 1) (hi := 1000000000) hrd
   subst e1
   refine ⟨_, rfl, rfl, _, rfl, eqHit rfl ?_⟩
   exact ⟨_, rfl, _, rfl, pa, _, _, _, rfl, rfl, SqL.of hpl, atI_nat (j := 0) rfl, L, st, D, n, rfl, hh, wf, hD, q⟩
  | 10, hf, _, _ =>
   cases Option.some.inj hf
   obtain ⟨i, rfl⟩ := len1 (l := plain) l1
   cases len0 (l := rest) l2
   obtain ⟨n, e1, _, _, rfl⟩ := o1_inv (f := Call.tier) (lo := 1) (hi := 1000000000) hrd
   subst e1
   refine ⟨_, rfl, rfl, _, rfl, eqSkip (by decide) ⟨_, rfl, rfl, _, rfl, eqHit rfl ?_⟩⟩
   exact ⟨_, rfl, _, rfl, pa, _, _, _, rfl, rfl, SqL.of hpl, atI_nat (j := 0) rfl, L, st, D, n, rfl, hh, wf, q⟩
  | 11, hf, _, _ =>
   cases Option.some.inj hf
   obtain ⟨i, rfl⟩ := len1 (l := plain) l1
   cases len0 (l := rest) l2
   obtain ⟨n, e1, _, _, rfl⟩ := o1_inv (f := Call.hand) (lo := 1) (hi := 1000000000) hrd
   subst e1
   refine ⟨_, rfl, rfl, _, rfl, eqSkip (by decide) ⟨_, rfl, rfl, _, rfl, eqSkip (by decide) ⟨_, rfl, rfl, _, rfl, eqHit rfl ?_⟩⟩⟩
   exact ⟨_, rfl, _, rfl, pa, _, _, _, rfl, rfl, SqL.of hpl, atI_nat (j := 0) rfl, L, st, D, n, rfl, hh, wf, q⟩
  | 12, hf, _, _ =>
   cases Option.some.inj hf
   obtain ⟨i, m, rfl⟩ := len2 (l := plain) l1
   cases len0 (l := rest) l2
   obtain ⟨n, m', e1, e2, rfl⟩ := o2_inv (f := Call.forecast) (lo := 1) (hi := 1000000000) (lo2 := 0) (hi2 := LASTDAY) hrd
   subst e1 e2
   refine ⟨_, rfl, rfl, _, rfl, eqSkip (by decide) ⟨_, rfl, rfl, _, rfl, eqSkip (by decide) ⟨_, rfl, rfl, _, rfl, eqSkip (by decide) ⟨_, rfl, rfl, _, rfl, eqHit rfl ?_⟩⟩⟩⟩
   exact ⟨_, rfl, _, rfl, pa, _, _, _, rfl, rfl, SqL.of hpl, atI_nat (j := 0) rfl, _, rfl, pa, _, _, _, rfl, rfl, SqL.of hpl, atI_nat (j := 1) rfl, L, st, D, n, m', rfl, hh, wf, hD, q⟩
  | 13, hf, _, _ =>
   cases Option.some.inj hf
   obtain ⟨i, rfl⟩ := len1 (l := plain) l1
   obtain ⟨r1, rfl⟩ := len1 (l := rest) l2
   obtain ⟨k, ps, e1, e2, rfl⟩ := plan_inv (l := r1.2) hrd
   subst e1
   have g1 := hrow r1 List.mem_cons_self
   rw [e2, flatP_int] at g1
   refine ⟨_, rfl, rfl, _, rfl, eqSkip (by decide) ⟨_, rfl, rfl, _, rfl, eqSkip (by decide) ⟨_, rfl, rfl, _, rfl, eqSkip (by decide) ⟨_, rfl, rfl, _, rfl, eqSkip (by decide) ⟨_, rfl, rfl, _, rfl, eqHit rfl ?_⟩⟩⟩⟩⟩
   exact ⟨_, rfl, _, rfl, pa, _, _, _, rfl, rfl, SqL.of hpl, atI_nat (j := 0) rfl, _, rfl, ra, _, _, _, rfl, rfl, SqL.of hrl, atI_nat (j := 0) rfl, L, st, D, k, r1.1, ps, rfl, hh, wf, hD, g1, q⟩
  | 14, hf, _, _ =>
   cases Option.some.inj hf
   cases len0 (l := plain) l1
   cases len0 (l := rest) l2
   have e : Reading.call .totals = .call c := hrd
   injection e with e
   subst e
   refine ⟨_, rfl, rfl, _, rfl, eqSkip (by decide) ⟨_, rfl, rfl, _, rfl, eqSkip (by decide) ⟨_, rfl, rfl, _, rfl, eqSkip (by decide) ⟨_, rfl, rfl, _, rfl, eqSkip (by decide) ⟨_, rfl, rfl, _, rfl, eqSkip (by decide) ⟨_, rfl, rfl, _, rfl, eqHit rfl ?_⟩⟩⟩⟩⟩⟩
   exact ⟨_, rfl, L, st, D, rfl, hh, wf, q⟩
  | 15, hf, _, _ =>
   cases Option.some.inj hf
   cases len0 (l := plain) l1
   cases len0 (l := rest) l2
   have e : Reading.call .awards = .call c := hrd
   injection e with e
   subst e
   refine ⟨_, rfl, rfl, _, rfl, eqSkip (by decide) ⟨_, rfl, rfl, _, rfl, eqSkip (by decide) ⟨_, rfl, rfl, _, rfl, eqSkip (by decide) ⟨_, rfl, rfl, _, rfl, eqSkip (by decide) ⟨_, rfl, rfl, _, rfl, eqSkip (by decide) ⟨_, rfl, rfl, _, rfl, eqSkip (by decide) ?_⟩⟩⟩⟩⟩⟩
   exact ⟨_, rfl, L, st, D, rfl, hh, wf, q⟩
  | 0, _, h, _ | 1, _, h, _ | 2, _, h, _ | 3, _, h, _ | 4, _, h, _ | 5, _, h, _ | 6, _, h, _ | 7, _, h, _ | 8, _, h, _ => omega
  | j + 16, _, _, hj => omega
end
end Mile
namespace Mile
open Vbahaq
theorem fm_len {α β : Type} (f : α -> List β) (k : Nat) (hf : ∀ a, (f a).length = k) : ∀ l : List α, (l.flatMap f).length = k * l.length
 | [] => rfl
 | a :: r => by
  rw [List.flatMap_cons, List.length_append, hf, fm_len f k hf r, List.length_cons, Nat.mul_add, Nat.mul_one, Nat.add_comm]
theorem ok_len (l : List Nat) : (ok l).length = l.length + 1 := by
 unfold ok Vbahaq.ints
 rw [List.length_cons, List.length_map]
theorem lotsOf_len {D : List Nat} {s : State} (wf : WF D s) (k : Nat) : (lotsOf s k).length <= D.length := by
 unfold lotsOf
 cases e : memberOf s k with
 | none => exact Nat.zero_le _
 | some m => exact wf.few (memberOf_mem e).1
theorem handLots_len {D : List Nat} {s : State} (wf : WF D s) {k : Nat} (hk : k ∈ s.members.map (·.id)) : (handLots s k).length <= 6 * D.length := by
 obtain ⟨_, h6, _⟩ := wf.hand hk
 unfold handLots
 rw [(sortL_perm _).length_eq]
 have : ∀ l : List Nat, (l.flatMap fun k => (lotsOf s k).map fun x => (x.1, k, x.2)).length <= l.length * D.length := fun l => by
  induction l with
  | nil => exact Nat.zero_le _
  | cons a r ih =>
   rw [List.flatMap_cons, List.length_append, List.length_map, List.length_cons, Nat.add_mul, Nat.one_mul]
   have := lotsOf_len wf a
   omega
 refine Nat.le_trans (this _) ?_
 exact Nat.mul_le_mul_right _ h6
theorem step_len {D : List Nat} {s : State} (wf : WF D s) (hD : D.length <= 500) (c : Call) : (step s c).2.length <= 20000 := by
 cases c with
 | rules r =>
  unfold step
  dsimp only
  split
  ·show 1 <= 20000; decide
  ·show 1 <= 20000; decide
 | join id =>
  unfold step
  dsimp only
  split
  ·show 1 <= 20000; decide
  ·split
   ·show 1 <= 20000; decide
   ·show 1 <= 20000; decide
 | earn id m p =>
  unfold step onMember
  dsimp only
  split
  ·show 1 <= 20000; decide
  ·split
   ·show 1 <= 20000; decide
   ·show 3 <= 20000; decide
 | award id b cost =>
  unfold step onMember
  dsimp only
  cases e : memberOf s id with
  | none => show 1 <= 20000; decide
  | some m =>
   have hk : id ∈ s.members.map (·.id) := by
    obtain ⟨h1, h2⟩ := memberOf_mem e
    rw [<- h2]
    exact List.mem_map.mpr ⟨m, h1, rfl⟩
   dsimp only
   split
   ·show 1 <= 20000; decide
   ·split
    ·show 1 <= 20000; decide
    ·split
     ·show 1 <= 20000; decide
     ·show (ok ((drawn cost (handLots s id)).flatMap fun d => [d.id, d.day, d.n])).length <= 20000
      rw [ok_len, fm_len _ 3 (fun _ => rfl)]
      have h1 := drawn_len (handLots s id) cost
      have h2 := handLots_len wf hk
      omega
 | cancel b =>
  unfold step
  dsimp only
  split
  ·show 1 <= 20000; decide
  ·show 3 <= 20000; decide
 | pool ids =>
  unfold step
  dsimp only
  split
  ·show 1 <= 20000; decide
  ·split
   ·show 1 <= 20000; decide
   ·split
    ·show 1 <= 20000; decide
    ·show 1 <= 20000; decide
 | unpool id =>
  unfold step
  dsimp only
  split
  ·show 1 <= 20000; decide
  ·show 1 <= 20000; decide
 | give id t n =>
  unfold step onMember
  dsimp only
  cases e : memberOf s id with
  | none => show 1 <= 20000; decide
  | some m =>
   dsimp only
   split
   ·show 1 <= 20000; decide
   ·split
    ·show 1 <= 20000; decide
    ·split
     ·show 1 <= 20000; decide
     ·show (ok ((oldest n m.lots).1.flatMap fun y => [y.1, y.2])).length <= 20000
      rw [ok_len, fm_len _ 2 (fun _ => rfl)]
      have h1 := oldest_len m.lots n
      have h2 := wf.few (memberOf_mem e).1
      omega
 | clock d =>
  unfold step
  dsimp only
  split
  ·show 1 <= 20000; decide
  ·rw [ok_len, List.length_cons, fm_len _ 2 (fun _ => rfl), List.length_map]
   have h1 := List.length_filter_le (fun m : Member => decide (0 < stale d m.lots)) s.members
   have h2 := wf.mlen
   omega
 | lots id =>
  unfold step onMember
  dsimp only
  cases e : memberOf s id with
  | none => show 1 <= 20000; decide
  | some m =>
   show (ok (m.lots.flatMap fun x => [x.1, x.2])).length <= 20000
   rw [ok_len, fm_len _ 2 (fun _ => rfl)]
   have h2 := wf.few (memberOf_mem e).1
   omega
 | tier id =>
  unfold step onMember
  dsimp only
  split
  ·show 1 <= 20000; decide
  ·show 3 <= 20000; decide
 | hand id =>
  unfold step onMember
  dsimp only
  split
  ·show 1 <= 20000; decide
  ·show 2 <= 20000; decide
 | forecast id d =>
  unfold step onMember
  dsimp only
  split
  ·show 1 <= 20000; decide
  ·show 2 <= 20000; decide
 | plan id l =>
  unfold step onMember
  dsimp only
  split
  ·show 1 <= 20000; decide
  ·split
   ·show 1 <= 20000; decide
   ·show 3 <= 20000; decide
 | totals => show 6 <= 20000; decide
 | awards =>
  show (ok (s.awards.flatMap fun a => [a.booking, a.id, drawSum a.draws])).length <= 20000
  rw [ok_len, fm_len _ 3 (fun _ => rfl)]
  have := wf.alen
  omega
theorem stepRows_len {D : List Nat} {s : State} (wf : WF D s) (hD : D.length <= 500) (c : List (List Int)) : (stepRows s c).2.length <= 20000 := by
 unfold stepRows
 split
 ·show 1 <= 20000; decide
 ·show 1 <= 20000; decide
 ·exact step_len wf hD _
theorem stepRows_wf {D : List Nat} {s : State} (wf : WF D s) {c : List (List Int)} (hc : PyFlat.okCall PyVbahaq.shape c) : ∃ D', D'.length <= D.length + 1 /\ WF D' (stepRows s c).1 := by
 obtain ⟨p, a, xs, rfl, hs⟩ := hc
 obtain ⟨j, f, rfl, hf, l1, l2, _⟩ := shape_form hs
 unfold stepRows
 cases e : read ((((j : Nat) : Int) :: a) :: xs) with
 | form => exact ⟨D, Nat.le_succ _, wf⟩
 | range => exact ⟨D, Nat.le_succ _, wf⟩
 | call c => exact wf.step (read_callOk hf l1 l2 e)
theorem whole_eq (c : List (List Int)) : PyVbahaq.whole c = c := by
 unfold PyVbahaq.whole
 split <;> rfl
theorem asked_inv {ns : List Int} (h : PyVbahaq.answers_asked ns = true) : ∃ cs, ns = PyFlat.put cs /\ (∀ c ∈ cs, PyFlat.okCall PyVbahaq.shape c) /\ cs.length <= 400 /\ PyVbahaq.answers ns = PyFlat.told (PyFlat.played stepRows start cs) := by
 unfold PyVbahaq.answers_asked at h
 have hc : ∀ cs, PyVbahaq.calls ns = some cs -> PyFlat.calls PyVbahaq.shape ns.length ns = some cs := fun cs e => by
  unfold PyVbahaq.calls at e
  cases e2 : PyFlat.calls PyVbahaq.shape ns.length ns with
  | none => rw [e2] at e; cases e
  | some ds =>
   rw [e2] at e
   have e3 : ds.map PyVbahaq.whole = cs := Option.some.inj e
   have e4 : ds.map PyVbahaq.whole = ds := by
    rw [show PyVbahaq.whole = id from funext whole_eq, List.map_id]
   rw [e4] at e3
   rw [e3]
 cases e : PyVbahaq.calls ns with
 | none => rw [e] at h; cases h
 | some cs =>
  rw [e] at h
  have h' : (PyFlat.atMost 400 cs && VbahaqNeutral.asked cs) = true := h
  rw [Bool.and_eq_true] at h'
  obtain ⟨h1, h2⟩ := PyFlat.put_calls _ _ _ (hc cs e)
  refine ⟨cs, h1, h2, of_decide_eq_true h'.1, ?_⟩
  unfold PyVbahaq.answers
  rw [e]
  rfl
end Mile
namespace Mile
open PySem PySem.Spec PyProof.Rows L2
open Vbahaq (Call State stepRows)
theorem Answers.same {C : Cs} {H H1 : Hp} {L : HL} {s : State} {r : State × List Int} {Q : VK} (A : Answers C H L r Q) (h : HouseAt C H L s) (k : Same H H1) : Answers C H1 L r Q := fun H' L' p m hp he hn => A H' L' p ((h.mv k).trans m) (k.free hp) he hn
theorem HouseAt.off_muts {C : Cs} {H : Hp} {L : HL} {s : State} (h : HouseAt C H L s) {b : Addr} {xs : List V} (e : H b = some (.lst xs)) (n : b ∉ L.lists) : b ∉ L.muts := fun m => by
 rcases List.mem_cons.mp m with z | m
 ·rw [z, h.house] at e; cases e
 ·rcases List.mem_cons.mp m with z | m
  ·exact n (by rw [z]; exact HL.ap_in)
  ·rcases List.mem_append.mp m with m | m
   ·obtain ⟨_, e2⟩ := h.dict_at m
    rw [e2] at e; cases e
   ·rcases List.mem_append.mp m with m | m
    ·exact n (HL.pa_in m)
    ·obtain ⟨r, hr, z⟩ := List.mem_map.mp m
     have z' : r.1.a = b := z
     rw [<- z', (h.member r hr).ins] at e
     cases e
structure TxtZ (P : Program) (w : World) (K : PySem.W.Frag) (mg : Str -> Option Value) (base : Heap) (C : Cs) : Prop where
 has : Cal P w K mg base "has_form" 1 ["call"] spHas
 range : Cal P w K mg base "is_in_range" 2 ["call"] spInRange
 carry : Cal P w K mg base "carry_out" 5 ["house", "place", "plain", "rows"] (spCarry C 0 8)
 look : Cal P w K mg base "look_up" 5 ["house", "place", "plain", "rows"] (spCarry C 9 15)
 notForm : GInt mg "NOT_OF_FORM" (-1)
 outOf : GInt mg "OUT_OF_RANGE" (-2)
 last : GInt mg "LAST_THAT_CHANGES" 8
section
variable {P : Program} {w : World} {K : PySem.W.Frag} {mg : Str -> Option Value} {base : Heap} {C : Cs}
def spAC (C : Cs) : Sp := fun vs H Q _ => ∃ (L : HL) (s : State) (D : List Nat) (y : CallY), vs = [.ref L.h, .ref y.1] /\ HouseAt C H L s /\ WF D s /\ D.length <= 1000 /\ CallZ H y /\ PyFlat.okCall PyVbahaq.shape (rowsOf y) /\ Answers C H L (stepRows s (rowsOf y)) Q
theorem scAC : FnScope ["house", "call", "place"] ["house", "call"] (defScope sAnsCall) := ⟨rfl, rfl, rfl, by decide +kernel, rfl, by decide +kernel, by decide +kernel⟩
theorem ok_ac {f : Addr} {fd : FuncData} (F : Fun K "answer_call" "answer_call" sAnsCall f fd) (T : TxtZ P w K mg base C) : FnOk P w K mg base CX0 6 f fd ["house", "call"] (spAC C) := by
 refine F.ok scAC (fun vs H Q E h => ?_) (fun cdv A outer s H vs Q E hr h => ?_)
 ·obtain ⟨L, st, D, y, rfl, _⟩ := h
  rfl
 ·obtain ⟨L, st, D, y, rfl, hh, wf, hD, hy, hok, q⟩ := h
  have nd := scAC.nd
  have hr1 : Room 1 _ := hr.mono (by decide)
  have hr2 : Room 2 _ := hr.mono (by decide)
  refine ⟨_, pss_cons (ps_if (pt_not (pt_val (pe_cal T.has hr1 rfl (pa_cons (pv 1) pa_nil)))) (pss_one (ps_ret (pe_lst (pa_cons (pe_gint T.notForm (by rfl)) pa_nil)))) pss_nil)
   (pss_cons (ps_if (pt_not (pt_val (pe_cal T.range hr2 rfl (pa_cons (pv 1) pa_nil)))) (pss_one (ps_ret (pe_lst (pa_cons (pe_gint T.outOf (by rfl)) pa_nil)))) pss_nil)
   (pss_cons (ps_set (i := 2) nd rfl (Or.inl rfl) (pe_ix ix_list (pe_ix ix_list (pv 1) pe_int (fun _ _ => rfl)) pe_int (fun _ _ => rfl)))
   (pss_cons (ps_if (pt_cmpR op_le (pv 2) (pe_gint T.last (by rfl)) (nomark _)) (pss_one (ps_ret (pe_cal T.carry hr rfl (pa_cons (pv 0) (pa_cons (pv 2) (pa_cons (pe_slice sl_list (pe_ix ix_list (pv 1) pe_int (fun _ _ => rfl)) (po_some pe_int) po_none) (pa_cons (pe_slice sl_list (pv 1) (po_some pe_int) po_none) pa_nil))))))) pss_nil)
   (pss_one (ps_ret (pe_cal T.look hr rfl (pa_cons (pv 0) (pa_cons (pv 2) (pa_cons (pe_slice sl_list (pe_ix ix_list (pv 1) pe_int (fun _ _ => rfl)) (po_some pe_int) po_none) (pa_cons (pe_slice sl_list (pv 1) (po_some pe_int) po_none) pa_nil)))))))))), ?_⟩
  obtain ⟨pl, plain, xs, ec, hsh⟩ := hok
  obtain ⟨j, fm, rfl, hf, l1, l2, j16⟩ := shape_form hsh
  obtain ⟨ra, rest, ey, ex⟩ : ∃ (ra : Addr) (rest : List (Addr × List Int)), y.2 = (ra, (j : Int) :: plain) :: rest /\ rest.map (·.2) = xs := by
   have ec' : y.2.map (·.2) = ((j : Int) :: plain) :: xs := ec
   match hy2 : y.2, ec' with
   | [], e => cases e
   | r :: rs, e =>
    obtain ⟨e1, e2⟩ := List.cons.inj e
    have e1' : r.2 = (j : Int) :: plain := e1
    exact ⟨r.1, rs, by rw [<- e1'], e2⟩
  have l2' : fm.2.length = rest.length := by rw [l2, <- ex, List.length_map]
  have hrows : rowsOf y = ((j : Int) :: plain) :: rest.map (·.2) := by
   show y.2.map (·.2) = _
   rw [ey]
   rfl
  rw [hrows] at q
  have hl0 : H y.1 = some (.lst (V.ref ra :: rest.map fun r => V.ref r.1)) := by rw [hy.lst, ey]; rfl
  have hr0 : H ra = some (.lst (V.int (j : Int) :: plain.map V.int)) := hy.row (ra, (j : Int) :: plain) (by rw [ey]; exact List.mem_cons_self)
  have hrest : ∀ r ∈ rest, H r.1 = some (.lst (r.2.map V.int)) := fun r hr => hy.row r (by rw [ey]; exact List.mem_cons_of_mem _ hr)
  refine ⟨_, rfl, y, ra, j, plain, rest, fm, rfl, hy, ey, hf, l1, l2', _, rfl, ?_⟩
  refine ite2 (fun z => absurd z (by simp)) (fun _ => ?_)
  refine ⟨_, rfl, y, ra, j, plain, rest, fm, rfl, hy, ey, hf, l1, l2', fun H1 s1 => ⟨_, rfl, ?_⟩⟩
  have rok := read_ok (j := j) hf l1 (rows := rest.map (·.2)) (by rw [List.length_map]; exact l2')
  unfold stepRows at q
  cases c0 : inRange fm plain (rest.map (·.2)) with
  | false =>
   have e1 := rok.2 c0
   rw [e1] at q
   refine ite2 (fun _ => ?_) (fun z => absurd rfl z)
   refine ⟨(by show 1 <= sizeLine; decide), fun p hp => ?_⟩
   exact Answers.lst q (hh.mv s1) hp rfl
  | true =>
   obtain ⟨c, e1⟩ := rok.1 c0
   rw [e1] at q
   refine ite2 (fun z => absurd z (by simp)) (fun _ => ?_)
   have hl1 := s1 _ _ hl0
   have hr1' := s1 _ _ hr0
   refine ⟨_, rfl, y.1, _, _, _, rfl, rfl, SqL.of hl1, atI_nat (j := 0) rfl, ra, _, _, _, rfl, rfl, SqL.of hr1', atI_nat (j := 0) rfl, ?_⟩
   refine ⟨_, rfl, _, _, rfl, rfl, _, rfl, ?_⟩
   have fin : ∀ (b1 b2 : Addr), H1 b1 = none -> (upd H1 b1 (.lst (cutV (V.int (j : Int) :: plain.map V.int) (some 1) none))) b2 = none ->
     Handed C (upd (upd H1 b1 (.lst (cutV (V.int (j : Int) :: plain.map V.int) (some 1) none))) b2 (.lst (cutV (V.ref ra :: rest.map fun r => V.ref r.1) (some 1) none))) L st D b1 b2 j plain rest c Q := fun b1 b2 hb1 hb2 => by
    have s2 : Same H1 (upd H1 b1 (.lst (cutV (V.int (j : Int) :: plain.map V.int) (some 1) none))) := (Same.refl H1).upd_new hb1
    have s3 : Same H1 (upd (upd H1 b1 (.lst (cutV (V.int (j : Int) :: plain.map V.int) (some 1) none))) b2 (.lst (cutV (V.ref ra :: rest.map fun r => V.ref r.1) (some 1) none))) := s2.upd_new (s2.free hb2)
    have n12 : b1 ≠ b2 := ne_of_none (upd_same : (upd H1 b1 (.lst (cutV (V.int (j : Int) :: plain.map V.int) (some 1) none))) b1 = _) hb2
    exact ⟨hh.same (s1.trans s3), wf, hD, by rw [upd_ne n12, upd_same, cut_tail], by rw [upd_same, cut_tail], fun r hr => s3 _ _ (s1 _ _ (hrest r hr)), ⟨fm, hf, l1, l2'⟩, e1, q.same hh (s1.trans s3)⟩
   by_cases c8 : j <= 8
   ·refine ite2 (fun _ => ?_) (fun z => absurd (decide_eq_true (by show (j : Int) <= 8; omega)) z)
    refine ⟨_, rfl, _, rfl, _, rfl, y.1, _, _, _, rfl, rfl, SqL.of hl1, atI_nat (j := 0) rfl, _, rfl, ra, _, rfl, SqL.of hr1', fun b1 hb1 => ?_⟩
    have s2 : Same H1 (upd H1 b1 (.lst (cutV (V.int (j : Int) :: plain.map V.int) (some 1) none))) := (Same.refl H1).upd_new hb1
    refine ⟨_, rfl, _, rfl, y.1, _, rfl, SqL.of (s2 _ _ hl1), fun b2 hb2 => ?_⟩
    exact ⟨L, st, D, b1, b2, j, plain, rest, c, rfl, Nat.zero_le _, c8, fin b1 b2 hb1 hb2⟩
   ·refine ite2 (fun z => absurd (of_decide_eq_true z) (by show ¬ (j : Int) <= 8; omega)) (fun _ => ?_)
    refine ⟨_, rfl, _, rfl, _, rfl, y.1, _, _, _, rfl, rfl, SqL.of hl1, atI_nat (j := 0) rfl, _, rfl, ra, _, rfl, SqL.of hr1', fun b1 hb1 => ?_⟩
    have s2 : Same H1 (upd H1 b1 (.lst (cutV (V.int (j : Int) :: plain.map V.int) (some 1) none))) := (Same.refl H1).upd_new hb1
    refine ⟨_, rfl, _, rfl, y.1, _, rfl, SqL.of (s2 _ _ hl1), fun b2 hb2 => ?_⟩
    exact ⟨L, st, D, b1, b2, j, plain, rest, c, rfl, by omega, by omega, fin b1 b2 hb1 hb2⟩
structure TxtAll (P : Program) (w : World) (K : PySem.W.Frag) (mg : Str -> Option Value) (base : Heap) (C : Cs) : Prop where
 ac : Cal P w K mg base "answer_call" 6 ["house", "call"] (spAC C)
 split : Cal P w K mg base "split_calls" 1 ["line"] (spSplit K)
 house : Ctor P w K mg base "House" C.H 1 ["self"] (spInitH C)
 len : mg "len" = none
def spAnswers (K : PySem.W.Frag) : Sp := fun vs H Q _ => ∃ (a : Addr) (ns : List Int), vs = [.ref a] /\ SqL K H a (ns.map V.int) /\ PyVbahaq.answers_asked ns = true /\ ∀ (H' : Hp) (p : Addr), H' p = some (.lst ((PyVbahaq.answers ns).map V.int)) -> Q (.ref p) H'
theorem scAnswers : FnScope ["calls", "house", "told", "call", "answer"] ["calls"] (defScope sAnswers) := ⟨rfl, rfl, rfl, by decide +kernel, rfl, by decide +kernel, by decide +kernel⟩
theorem told_snoc (l : List (List Int)) (a : List Int) : PyFlat.told (l ++ [a]) = PyFlat.told l ++ ((a.length : Int) :: a) := by
 unfold PyFlat.told
 rw [List.flatMap_append]
 simp
theorem ok_answers {f : Addr} {fd : FuncData} (F : Fun K "answers" "answers" sAnswers f fd) (T : TxtAll P w K mg base C) : FnOk P w K mg base CX0 7 f fd ["calls"] (spAnswers K) := by
 refine F.ok scAnswers (fun vs H Q E h => ?_) (fun cdv A outer s H vs Q E hr h => ?_)
 ·obtain ⟨a, ns, rfl, _⟩ := h
  rfl
 ·obtain ⟨a, ns, rfl, ha, hask, q⟩ := h
  have nd := scAnswers.nd
  have hr1 : Room 1 _ := hr.mono (by decide)
  have hr2 : Room 2 _ := hr.mono (by decide)
  obtain ⟨cs, ens, hok, hlen, eans⟩ := asked_inv hask
  refine ⟨_, pss_cons (ps_set (i := 1) nd rfl (Or.inl rfl) (pe_ctor0 T.house hr2 rfl))
   (pss_cons (ps_set (i := 2) nd rfl (Or.inl rfl) (pe_lst pa_nil))
   (pss_cons (ps_for PassesOwn.never rfl (pi_list (pe_cal T.split hr1 rfl (pa_cons (pv 0) pa_nil))) (pg_name (i := 3) nd rfl (Or.inl rfl))
    (pss_cons (ps_set (i := 4) nd rfl (Or.inl rfl) (pe_cal T.ac hr rfl (pa_cons (pv 1) (pa_cons (pv 3) pa_nil))))
    (pss_cons (ps_expr (pe_bm PySem.F.plainAttrs_list PySem.F.slot_list_append PySem.F.type_list_append mt_append (pv 2) (pa_cons (pe_callB call_len_seq (by rfl) T.len PySem.boot_len (pa_cons (pv 4) pa_nil)) pa_nil)))
    (pss_one (ps_expr (pe_bm PySem.F.plainAttrs_list PySem.F.slot_list_extend PySem.F.type_list_extend mt_extend (pv 2) (pa_cons (pv 4) pa_nil)))))))
   (pss_one (ps_ret (pv 2))))), ?_⟩
  intro x dx hx hdx hne
  refine ⟨x, dx, rfl, upd_same, fun H1 L eL hh hfl _ hkp => ⟨rfl, ?_⟩⟩
  have s1 : Same H H1 := Same.made hx hdx hkp
  subst eL
  refine ⟨Nat.zero_le _, fun tl htl => ?_⟩
  have s2 : Same H1 (upd H1 tl (.lst [])) := (Same.refl H1).upd_new htl
  have h2 := hh.same s2
  refine ⟨_, rfl, a, ns, cs, rfl, (s1.trans s2).seq ha, ens, hok, by omega, fun H3 p Y s3 cz eY fY => ?_⟩
  have h3 := h2.same s3
  have offC : ∀ b, InCalls p Y b -> b ∉ L.lists := fun b hb => h2.off_new (fY b hb)
  have ntl : ¬ InCalls p Y tl := fun z => by
   have := fY tl z
   rw [upd_same] at this
   cases this
  refine ⟨p, rfl, ⟨_, SqL.of cz.lst⟩, for_list (K := K) (a := p) (xs := Y.map fun y => V.ref y.1)
   (fun i σ H' => ∃ (L' : HL) (s' : State) (D : List Nat) (outs : List (List Int)), HouseAt C H' L' s' /\ L'.h = L.h /\ WF D s' /\ D.length <= i /\ CallsZ H' p Y /\ (∀ b, InCalls p Y b -> b ∉ L'.lists) /\ tl ∉ L'.lists /\
    H' tl = some (.lst ((PyFlat.told outs).map V.int)) /\ (PyFlat.told outs).length <= i * 20001 /\ PyFlat.played stepRows Vbahaq.start cs = outs ++ PyFlat.played stepRows s' (cs.drop i) /\
    ∃ v3 v4, σ = [some (.ref a), some (.ref L.h), some (.ref tl), v3, v4])
   ⟨L, Vbahaq.start, [], [], h3, rfl, WF.start, Nat.le_refl _, cz, offC, hh.off_new htl, s3 _ _ upd_same, Nat.zero_le _, rfl, none, none, rfl⟩ (fun i σ H' _ ⟨_, _, _, _, _, _, _, _, e, _⟩ => SqL.of e.lst) ?_ ?_⟩
  ·rintro i v σ H4 hi ⟨L4, s4, D, outs, h4, eh, wf, hD, cz4, off4, ntl4, htl4, len4, ep, v3, v4, rfl⟩
   obtain ⟨y, hyi, rfl⟩ := at_map hi
   have hym := List.mem_of_getElem? hyi
   have lY : Y.length = cs.length := by rw [<- eY, List.length_map]
   have il : i < cs.length := by rw [<- lY]; exact (List.getElem?_eq_some_iff.mp hyi).1
   have hci : cs[i]? = some (rowsOf y) := by rw [<- eY, List.getElem?_map, hyi]; rfl
   have hokc := hok _ (List.mem_of_getElem? hci)
   have hD5 : D.length <= 500 := by omega
   refine ⟨_, rfl, _, rfl, L4, s4, D, y, by rw [eh]; rfl, h4, wf, by omega, cz4.call y hym, hokc, fun H5 L5 an m5 hna hans noff => ?_⟩
   have h5 := m5.at_
   have keepL : ∀ b xs, H4 b = some (.lst xs) -> b ∉ L4.lists -> H5 b = some (.lst xs) /\ b ∉ L5.lists := fun b xs e n => by
    refine ⟨m5.kept b _ e (h4.off_muts e n), fun m => ?_⟩
    rcases m5.lists b m with z | z
    ·exact n z
    ·rw [z] at e; cases e
   obtain ⟨htl5, ntl5⟩ := keepL tl _ htl4 ntl4
   have cz5 : CallsZ H5 p Y := cz4.keep fun b o hb e => by
    obtain ⟨xs, e2⟩ := cz4.at_ hb
    rw [e2] at e
    cases e
    exact (keepL b xs e2 (off4 b hb)).1
   have off5 : ∀ b, InCalls p Y b -> b ∉ L5.lists := fun b hb => by
    obtain ⟨xs, e2⟩ := cz4.at_ hb
    exact (keepL b xs e2 (off4 b hb)).2
   have nta : an ≠ tl := fun e => by rw [e, htl4] at hna; cases hna
   have alen := stepRows_len wf hD5 (rowsOf y)
   refine ⟨_, rfl, .inl ⟨rfl, _, SqL.of htl5⟩, _, rfl, an, _, rfl, .inl (SqL.of hans), tl, _, _, rfl, rfl, htl5, ?_, ?_⟩
   ·rw [List.length_map]
    refine Nat.lt_of_le_of_lt (Nat.le_trans len4 (Nat.mul_le_mul_right _ (by omega : i <= 400))) (by decide)
   ·have htl6 : (upd H5 tl (.lst ((PyFlat.told outs).map V.int ++ [V.int (((stepRows s4 (rowsOf y)).2.map V.int).length : Int)]))) tl = some (.lst ((PyFlat.told outs).map V.int ++ [V.int (((stepRows s4 (rowsOf y)).2.map V.int).length : Int)])) := upd_same
    refine ⟨_, rfl, .inl ⟨rfl, _, SqL.of htl6⟩, _, rfl, tl, an, _, _, rfl, rfl, htl6, by rw [upd_ne nta]; exact hans, ?_, ?_⟩
    ·rw [List.length_append, List.length_map, List.length_map]
     have e1 : i * 20001 <= 400 * 20001 := Nat.mul_le_mul_right _ (by omega)
     refine Nat.le_trans (show _ <= 400 * 20001 + 1 + 20000 from ?_) (by decide)
     show (PyFlat.told outs).length + 1 + (stepRows s4 (rowsOf y)).2.length <= _
     omega
    ·obtain ⟨D', hD', wf'⟩ := stepRows_wf wf hokc
     have h6 := h5.off (ys := (PyFlat.told outs).map V.int ++ [V.int (((stepRows s4 (rowsOf y)).2.map V.int).length : Int)]) htl5 ntl5
     have h7 := h6.off (ys := ((PyFlat.told outs).map V.int ++ [V.int (((stepRows s4 (rowsOf y)).2.map V.int).length : Int)]) ++ (stepRows s4 (rowsOf y)).2.map V.int) htl6 ntl5
     refine ⟨L5, (stepRows s4 (rowsOf y)).1, D', outs ++ [(stepRows s4 (rowsOf y)).2], h7, m5.hh.trans eh, wf', by omega, ?_, off5, ntl5, ?_, ?_, ?_, some (.ref y.1), some (.ref an), rfl⟩
     ·refine cz5.keep fun b o hb e => ?_
      have nb : b ≠ tl := fun z => ntl (by rw [<- z]; exact hb)
      rw [upd_ne nb, upd_ne nb]
      exact e
     ·rw [upd_same, told_snoc, List.map_append, List.map_cons, List.length_map, List.append_assoc]
      rfl
     ·rw [told_snoc, List.length_append, List.length_cons, Nat.add_mul, Nat.one_mul]
      omega
     ·rw [ep]
      obtain ⟨l1, e1⟩ := List.getElem?_eq_some_iff.mp hci
      rw [List.drop_eq_getElem_cons l1, e1, List.append_assoc]
      rfl
  ·rintro σ H4 ⟨L4, s4, D, outs, h4, eh, wf, hD, cz4, off4, ntl4, htl4, len4, ep, v3, v4, rfl⟩
   have lY : (Y.map fun y => V.ref y.1).length = cs.length := by rw [List.length_map, <- eY, List.length_map]
   rw [lY, List.drop_length] at ep
   refine ⟨_, rfl, ?_⟩
   refine q H4 tl ?_
   rw [htl4, eans, ep]
   show _ = some (HO.lst ((PyFlat.told (outs ++ [])).map V.int))
   rw [List.append_nil]
end
end Mile
namespace L2
open PySem PySem.Spec PyProof.Rows
open PySem.W (WData Codec OpenSpec Well WellAll ReadsW ReadsAllW)
mutual
inductive Dw (K : PySem.W.Frag) (H : Hp) : V -> WData -> Prop
 | non : Dw K H .non .none
 | bl (b : Bool) : Dw K H (.bl b) (.bool b)
 | int (i : Int) : Dw K H (.int i) (.int i)
 | str (x : Str) : Dw K H (.str x) (.str x)
 | byt (b : Array UInt8) : Dw K H (.byt b) (.bytes b.toList)
 | lst {a : Addr} {xs : List V} {ds : List WData} : SqL K H a xs -> DwAll K H xs ds -> Dw K H (.ref a) (.list ds)
 | tup {a : Addr} {xs : List V} {ds : List WData} : SqT K H a xs -> DwAll K H xs ds -> Dw K H (.ref a) (.tuple ds)
inductive DwAll (K : PySem.W.Frag) (H : Hp) : List V -> List WData -> Prop
 | nil : DwAll K H [] []
 | cons {v : V} {vs : List V} {d : WData} {ds : List WData} : Dw K H v d -> DwAll K H vs ds -> DwAll K H (v :: vs) (d :: ds)
end
theorem dw_ints {K : PySem.W.Frag} {H : Hp} : ∀ ns : List Int, DwAll K H (ns.map V.int) (ns.map WData.int)
 | [] => .nil
 | n :: r => .cons (.int n) (dw_ints r)
theorem ints_dw {K : PySem.W.Frag} {H : Hp} : ∀ (ns : List Int) (xs : List V), DwAll K H xs (ns.map WData.int) -> xs = ns.map V.int
 | [], xs, h => by
  cases h
  rfl
 | n :: r, xs, h => by
  cases h with
  | cons h1 h2 =>
   cases h1
   rw [ints_dw r _ h2] <;> rfl
section
variable {P : Program} {w : World} {K : PySem.W.Frag} {H : Hp} {h : Heap} {R : PySem.W.WRecords} {cl : Str -> Option Addr}
theorem sqL_at {a : Addr} {xs : List V} (hok : HOk P w H h) (KX : K.In h) (q : SqL K H a xs) : ∃ (its : List Value) (o : Obj) (n : Nat), Vals xs its /\ h.get? a = some o /\ o.cls = .type "list" /\ o.data = .seq its.toArray n := by
 rcases q with q | ⟨o, its, n, e, hc, _, hd, _, hv⟩
 ·obtain ⟨_, its, n, hv, e⟩ := (show ObjOk P w H h a (.lst xs) from q.ok hok)
  exact ⟨its, _, n, hv, e, rfl, rfl⟩
 ·exact ⟨its.toList, o, n, hv, KX _ _ e, hc, by simp [hd]⟩
theorem sqT_at {a : Addr} {xs : List V} (hok : HOk P w H h) (KX : K.In h) (q : SqT K H a xs) : ∃ (its : List Value) (o : Obj) (n : Nat), Vals xs its /\ h.get? a = some o /\ o.cls = .type "tuple" /\ o.data = .seq its.toArray n := by
 rcases q with q | ⟨o, its, n, e, hc, hd, _, hv⟩
 ·obtain ⟨_, its, hv, o, e, hc, n, hd⟩ := (show ObjOk P w H h a (.tup xs) from q.ok hok)
  exact ⟨its, o, n, hv, e, hc, hd⟩
 ·exact ⟨its.toList, o, n, hv, KX _ _ e, hc, by simp [hd]⟩
mutual
theorem Dw.reads (hok : HOk P w H h) (KX : K.In h) : ∀ (d : WData) (v : V) (u : Value), Dw K H v d -> RelV v u -> ∃ as, ReadsW R cl h u d as
 | .none, _, _, x, r => by
  cases x
  cases r
  exact ⟨_, ReadsW.none⟩
 | .bool b, _, _, x, r => by
  cases x
  cases r
  exact ⟨_, ReadsW.bool b⟩
 | .int i, _, _, x, r => by
  cases x
  obtain ⟨t, rfl⟩ := r
  exact ⟨_, ReadsW.int i t⟩
 | .str s, _, _, x, r => by
  cases x
  obtain ⟨t, rfl⟩ := r
  exact ⟨_, ReadsW.str s t⟩
 | .bytes b, _, _, x, r => by
  cases x
  obtain ⟨t, rfl⟩ := r
  exact ⟨_, ReadsW.bytes _ t⟩
 | .list ds, _, _, x, r => by
  cases x with
  | lst hs ha =>
   cases r
   obtain ⟨its, o, n, rv, ho, hc, hd⟩ := sqL_at hok KX hs
   obtain ⟨as, hr⟩ := Dw.readsAll hok KX ds _ its ha rv
   exact ⟨_, ReadsW.list ho hc hd hr⟩
 | .tuple ds, _, _, x, r => by
  cases x with
  | tup hs ha =>
   cases r
   obtain ⟨its, o, n, rv, ho, hc, hd⟩ := sqT_at hok KX hs
   obtain ⟨as, hr⟩ := Dw.readsAll hok KX ds _ its ha rv
   exact ⟨_, ReadsW.tuple ho hc hd hr⟩
 | .float _, _, _, x, _ => by cases x
 | .dict _, _, _, x, _ => by cases x
 | .bytearray _, _, _, x, _ => by cases x
 | .set _, _, _, x, _ => by cases x
 | .frozenset _, _, _, x, _ => by cases x
 | .obj _ _, _, _, x, _ => by cases x
theorem Dw.readsAll (hok : HOk P w H h) (KX : K.In h) : ∀ (ds : List WData) (vs : List V) (us : List Value), DwAll K H vs ds -> Vals vs us -> ∃ as, ReadsAllW R cl h us ds as
 | [], _, _, x, r => by
  cases x
  cases r
  exact ⟨_, ReadsAllW.nil⟩
 | d :: ds, _, _, x, r => by
  cases x with
  | cons h1 h2 =>
   cases r with
   | cons r1 r2 =>
    obtain ⟨as, q1⟩ := Dw.reads hok KX d _ _ h1 r1
    obtain ⟨bs, q2⟩ := Dw.readsAll hok KX ds _ _ h2 r2
    exact ⟨_, ReadsAllW.cons q1 q2⟩
end
end
mutual
def plW : WData -> Bool
 | .none => true
 | .bool _ => true
 | .int _ => true
 | .str _ => true
 | .bytes _ => true
 | .list xs => plWs xs
 | .tuple xs => plWs xs
 | _ => false
def plWs : List WData -> Bool
 | [] => true
 | x :: r => plW x && plWs r
end
theorem plWs_map {α : Type} {f : α -> WData} (h : ∀ a, plW (f a) = true) : ∀ l : List α, plWs (l.map f) = true
 | [] => rfl
 | x :: r => by
  show (plW (f x) && plWs (r.map f)) = true
  rw [h x, plWs_map h r] <;> rfl
theorem pl_enc : ∀ (c : Codec) (a : c.denote), plW (c.enc a) = true
 | .unit, _ => rfl
 | .bool, _ => rfl
 | .int _ _, _ => rfl
 | .nat _ _, _ => rfl
 | .u8, _ => rfl
 | .bytes _ _, _ => rfl
 | .text _ _ _ _, _ => rfl
 | .list _ _ c, a => plWs_map (fun x => pl_enc c x) a
 | .pair c d, a => by
  show (plW (c.enc a.1) && (plW (d.enc a.2) && true)) = true
  rw [pl_enc c a.1, pl_enc d a.2] <;> rfl
 | .triple c d e, a => by
  show (plW (c.enc a.1) && (plW (d.enc a.2.1) && (plW (e.enc a.2.2) && true))) = true
  rw [pl_enc c a.1, pl_enc d a.2.1, pl_enc e a.2.2] <;> rfl
 | .option c, none => rfl
 | .option c, some x => pl_enc c x
theorem pl_encAll : ∀ (cs : List Codec) (a : Codec.denoteAll cs), plWs (Codec.encAll cs a) = true
 | [], _ => rfl
 | c :: cs, a => by
  show (plW (c.enc a.1) && plWs (Codec.encAll cs a.2)) = true
  rw [pl_enc c a.1, pl_encAll cs a.2] <;> rfl
theorem weight_mem : ∀ {xs : List WData} {d : WData}, d ∈ xs -> d.weight <= WData.weightAll xs
 | [], d, h => absurd h (by simp)
 | x :: r, d, h => by
  show d.weight <= x.weight + 1 + WData.weightAll r
  rcases List.mem_cons.mp h with e | m
  ·rw [e]
   omega
  ·have z := weight_mem m
   omega
def toV : Value -> V
 | .none => .non
 | .bool b => .bl b
 | .int i _ => .int i
 | .str x _ => .str x
 | .bytes b _ => .byt b
 | .ref a => .ref a
 | _ => .non
def OkU (A : List Addr) : Value -> Prop
 | .none => True
 | .bool _ => True
 | .int _ _ => True
 | .str _ _ => True
 | .bytes _ _ => True
 | .ref a => a ∈ A
 | _ => False
theorem OkU.mono {A B : List Addr} (h : ∀ a ∈ A, a ∈ B) : ∀ {u : Value}, OkU A u -> OkU B u := fun {u} x => by
 cases u with
 | ref a => exact h a x
 | none => trivial
 | bool b => trivial
 | int i t => trivial
 | str s t => trivial
 | bytes b t => trivial
 | _ => exact False.elim x
theorem relV_toV {A : List Addr} {u : Value} (x : OkU A u) : RelV (toV u) u := by
 cases u with
 | ref a => rfl
 | none => rfl
 | bool b => rfl
 | int i t => exact ⟨t, rfl⟩
 | str s t => exact ⟨t, rfl⟩
 | bytes b t => exact ⟨t, rfl⟩
 | _ => exact False.elim x
theorem vals_toV {A : List Addr} : ∀ {vs : List Value}, (∀ u ∈ vs, OkU A u) -> Vals (vs.map toV) vs
 | [], _ => .nil
 | u :: r, h => .cons (relV_toV (h u (List.mem_cons_self ..))) (vals_toV fun x hx => h x (List.mem_cons_of_mem _ hx))
def ArgOb (h : Heap) (A : List Addr) (a : Addr) : Prop := ∃ vs : List Value, vs.length <= sizeLine /\ (∀ u ∈ vs, OkU A u) /\
 (h.get? a = some { cls := .type "list", data := .seq vs.toArray } \/ h.get? a = some { cls := .type "tuple", data := .seq vs.toArray })
theorem ArgOb.mono {h : Heap} {A B : List Addr} {a : Addr} (k : ∀ a ∈ A, a ∈ B) (x : ArgOb h A a) : ArgOb h B a := by
 obtain ⟨vs, h1, h2, h3⟩ := x
 exact ⟨vs, h1, fun u hu => (h2 u hu).mono k, h3⟩
theorem wellAll_len {P : Params} {h : Heap} : ∀ {vs : List Value} {ds : List WData}, WellAll P h vs ds -> vs.length = ds.length
 | _, _, .nil => rfl
 | _, _, .cons _ b => by
  show _ + 1 = _ + 1
  rw [wellAll_len b]
theorem well_list {P : Params} {h : Heap} {v : Value} {ds : List WData} (x : Well P h v (.list ds)) : ∃ (a : Addr) (vs : List Value), v = .ref a /\ h.get? a = some { cls := .type "list", data := .seq vs.toArray } /\ WellAll P h vs ds := by
 cases x with
 | list ho hall => exact ⟨_, _, rfl, ho, hall⟩
theorem well_tuple {P : Params} {h : Heap} {v : Value} {ds : List WData} (x : Well P h v (.tuple ds)) : ∃ (a : Addr) (vs : List Value), v = .ref a /\ h.get? a = some { cls := .type "tuple", data := .seq vs.toArray } /\ WellAll P h vs ds := by
 cases x with
 | tuple ho hall => exact ⟨_, _, rfl, ho, hall⟩
theorem well_cons {P : Params} {h : Heap} {us : List Value} {d : WData} {ds : List WData} (x : WellAll P h us (d :: ds)) : ∃ (v : Value) (vs : List Value), us = v :: vs /\ Well P h v d /\ WellAll P h vs ds := by
 cases x with
 | cons a b => exact ⟨_, _, rfl, a, b⟩
theorem line_of {n : Nat} (h : n <= 1048576) : n <= sizeLine := Nat.le_trans h (by decide)
section
variable {P : Params} {h : Heap}
mutual
theorem area_one : ∀ (d : WData) (v : Value), Well P h v d -> plW d = true -> d.weight <= 1048576 -> ∃ A : List Addr, OkU A v /\ ∀ a ∈ A, ArgOb h A a
 | .none, _, x, _, _ => by
  cases x
  exact ⟨[], trivial, fun a m => absurd m (by simp)⟩
 | .bool b, _, x, _, _ => by
  cases x
  exact ⟨[], trivial, fun a m => absurd m (by simp)⟩
 | .int i, _, x, _, _ => by
  cases x
  exact ⟨[], trivial, fun a m => absurd m (by simp)⟩
 | .str s, _, x, _, _ => by
  cases x
  exact ⟨[], trivial, fun a m => absurd m (by simp)⟩
 | .bytes b, _, x, _, _ => by
  cases x
  exact ⟨[], trivial, fun a m => absurd m (by simp)⟩
 | .list ds, _, x, p, z => by
  obtain ⟨a, vs, rfl, ho, hall⟩ := well_list x
  have z2 : WData.weightAll ds <= 1048576 := z
  obtain ⟨A, h1, h2⟩ := area_all ds _ hall p fun d hd => Nat.le_trans (weight_mem hd) z2
  have k : ∀ b ∈ A, b ∈ a :: A := fun b hb => List.mem_cons_of_mem _ hb
  refine ⟨a :: A, List.mem_cons_self .., fun b hb => ?_⟩
  rcases List.mem_cons.mp hb with e | m
  ·rw [e]
   exact ⟨vs, line_of (by rw [wellAll_len hall]; exact Nat.le_trans (PySem.W.length_le_weightAllW ds) z2), fun u hu => (h1 u hu).mono k, .inl ho⟩
  ·exact (h2 b m).mono k
 | .tuple ds, _, x, p, z => by
  obtain ⟨a, vs, rfl, ho, hall⟩ := well_tuple x
  have z2 : WData.weightAll ds <= 1048576 := z
  obtain ⟨A, h1, h2⟩ := area_all ds _ hall p fun d hd => Nat.le_trans (weight_mem hd) z2
  have k : ∀ b ∈ A, b ∈ a :: A := fun b hb => List.mem_cons_of_mem _ hb
  refine ⟨a :: A, List.mem_cons_self .., fun b hb => ?_⟩
  rcases List.mem_cons.mp hb with e | m
  ·rw [e]
   exact ⟨vs, line_of (by rw [wellAll_len hall]; exact Nat.le_trans (PySem.W.length_le_weightAllW ds) z2), fun u hu => (h1 u hu).mono k, .inr ho⟩
  ·exact (h2 b m).mono k
 | .float _, _, _, p, _ => Bool.noConfusion (show false = true from p)
 | .dict _, _, _, p, _ => Bool.noConfusion (show false = true from p)
 | .bytearray _, _, _, p, _ => Bool.noConfusion (show false = true from p)
 | .set _, _, _, p, _ => Bool.noConfusion (show false = true from p)
 | .frozenset _, _, _, p, _ => Bool.noConfusion (show false = true from p)
 | .obj _ _, _, _, p, _ => Bool.noConfusion (show false = true from p)
theorem area_all : ∀ (ds : List WData) (vs : List Value), WellAll P h vs ds -> plWs ds = true -> (∀ d ∈ ds, d.weight <= 1048576) -> ∃ A : List Addr, (∀ u ∈ vs, OkU A u) /\ ∀ a ∈ A, ArgOb h A a
 | [], _, x, _, _ => by
  cases x
  exact ⟨[], fun u m => absurd m (by simp), fun a m => absurd m (by simp)⟩
 | d :: ds, _, x, p, z => by
  obtain ⟨v, vs, rfl, x1, x2⟩ := well_cons x
  have q : plW d = true /\ plWs ds = true := Bool.and_eq_true_iff.mp p
  obtain ⟨A, a1, a2⟩ := area_one d v x1 q.1 (z d (List.mem_cons_self ..))
  obtain ⟨B, b1, b2⟩ := area_all ds vs x2 q.2 fun e he => z e (List.mem_cons_of_mem _ he)
  have kA : ∀ b ∈ A, b ∈ A ++ B := fun b hb => List.mem_append.mpr (.inl hb)
  have kB : ∀ b ∈ B, b ∈ A ++ B := fun b hb => List.mem_append.mpr (.inr hb)
  refine ⟨A ++ B, fun u hu => ?_, fun b hb => ?_⟩
  ·rcases List.mem_cons.mp hu with e | m
   ·rw [e]
    exact a1.mono kA
   ·exact (b1 u m).mono kB
  ·rcases List.mem_append.mp hb with m | m
   ·exact (a2 b m).mono kA
   ·exact (b2 b m).mono kB
end
end
def hoOf (o : Obj) : Option HO := match o.data with
 | .seq vs _ => if (o.cls == Value.type "list") = true then some (.frz o (.lst (vs.toList.map toV))) else some (.frz o (.tup (vs.toList.map toV)))
 | _ => none
def argH (K : PySem.W.Frag) (h : Heap) (A : List Addr) : Hp := fun b => if b ∈ A then (if (K.lookup b).isNone = true then (h.get? b).bind hoOf else none) else none
def OnlyF (H : Hp) : Prop := ∀ b, H b = none \/ ∃ o u, H b = some (.frz o u)
theorem hoOf_lst (vs : List Value) : hoOf { cls := .type "list", data := .seq vs.toArray } = some (.frz { cls := .type "list", data := .seq vs.toArray } (.lst (vs.map toV))) := by
 show (if (Value.type "list" == Value.type "list") = true then some (HO.frz { cls := .type "list", data := .seq vs.toArray } (.lst (vs.toArray.toList.map toV))) else some (HO.frz { cls := .type "list", data := .seq vs.toArray } (.tup (vs.toArray.toList.map toV)))) = _
 rw [if_pos (beq_self_eq_true _)]
theorem hoOf_tup (vs : List Value) : hoOf { cls := .type "tuple", data := .seq vs.toArray } = some (.frz { cls := .type "tuple", data := .seq vs.toArray } (.tup (vs.map toV))) := by
 show (if (Value.type "tuple" == Value.type "list") = true then some (HO.frz { cls := .type "tuple", data := .seq vs.toArray } (.lst (vs.toArray.toList.map toV))) else some (HO.frz { cls := .type "tuple", data := .seq vs.toArray } (.tup (vs.toArray.toList.map toV)))) = _
 rw [if_neg (by decide)]
section
variable {P : Program} {w : World} {K : PySem.W.Frag} {h : Heap} {A : List Addr}
theorem argH_at {b : Addr} {o : Obj} (hb : b ∈ A) (hk : K.lookup b = none) (e : h.get? b = some o) : argH K h A b = hoOf o := by
 unfold argH
 rw [if_pos hb, hk, if_pos (show (none : Option Obj).isNone = true from rfl), e] <;> rfl
theorem of_argH {b : Addr} {u : HO} (q : argH K h A b = some u) : b ∈ A /\ K.lookup b = none := by
 unfold argH at q
 by_cases hb : b ∈ A
 ·rw [if_pos hb] at q
  cases hk : K.lookup b with
  | none => exact ⟨hb, rfl⟩
  | some o =>
   rw [hk, if_neg (by simp)] at q
   cases q
 ·rw [if_neg hb] at q
  cases q
theorem argH_is (ar : ∀ a ∈ A, ArgOb h A a) {b : Addr} {u : HO} (q : argH K h A b = some u) : K.lookup b = none /\ ∃ vs : List Value, vs.length <= sizeLine /\ (∀ u ∈ vs, OkU A u) /\
  ((h.get? b = some { cls := .type "list", data := .seq vs.toArray } /\ u = .frz { cls := .type "list", data := .seq vs.toArray } (.lst (vs.map toV))) \/
   (h.get? b = some { cls := .type "tuple", data := .seq vs.toArray } /\ u = .frz { cls := .type "tuple", data := .seq vs.toArray } (.tup (vs.map toV)))) := by
 obtain ⟨hb, hk⟩ := of_argH q
 obtain ⟨vs, h1, h2, h3⟩ := ar b hb
 refine ⟨hk, vs, h1, h2, ?_⟩
 rcases h3 with e | e
 ·rw [argH_at hb hk e, hoOf_lst] at q
  exact .inl ⟨e, (Option.some.inj q).symm⟩
 ·rw [argH_at hb hk e, hoOf_tup] at q
  exact .inr ⟨e, (Option.some.inj q).symm⟩
theorem argH_only (ar : ∀ a ∈ A, ArgOb h A a) : OnlyF (argH K h A) := fun b => by
 cases q : argH K h A b with
 | none => exact .inl rfl
 | some u =>
  obtain ⟨_, vs, _, _, ⟨_, e⟩ | ⟨_, e⟩⟩ := argH_is ar q
  ·exact .inr ⟨_, _, by rw [e]⟩
  ·exact .inr ⟨_, _, by rw [e]⟩
theorem argH_ok (ar : ∀ a ∈ A, ArgOb h A a) : HOk P w (argH K h A) h := fun b u q => by
 obtain ⟨_, vs, h1, h2, ⟨e, rfl⟩ | ⟨e, rfl⟩⟩ := argH_is ar q
 ·exact ⟨e, by rw [List.length_map]; exact h1, vs, _, vals_toV h2, e⟩
 ·exact ⟨e, by rw [List.length_map]; exact h1, vs, vals_toV h2, _, e, rfl, _, rfl⟩
theorem seq_inj {c c' : Value} {vs us : List Value} (e : (some { cls := c, data := .seq vs.toArray } : Option Obj) = some { cls := c', data := .seq us.toArray }) : c = c' /\ vs = us := by
 have e1 := Option.some.inj e
 have e2 : c = c' := congrArg Obj.cls e1
 have e3 : Data.seq vs.toArray = Data.seq us.toArray := congrArg Obj.data e1
 injection e3 with e4
 refine ⟨e2, ?_⟩
 have e5 := congrArg Array.toList e4
 simpa using e5
theorem argL (KX : K.In h) (ar : ∀ a ∈ A, ArgOb h A a) {a : Addr} {vs : List Value} (ha : a ∈ A) (e : h.get? a = some { cls := .type "list", data := .seq vs.toArray }) : (∀ u ∈ vs, OkU A u) /\ SqL K (argH K h A) a (vs.map toV) := by
 obtain ⟨us, h1, h2, h3⟩ := ar a ha
 have hu : us = vs := by
  rcases h3 with q | q
  ·rw [e] at q
   exact (seq_inj q).2.symm
  ·rw [e] at q
   exact absurd (Value.type.inj (seq_inj q).1) (by decide)
 subst hu
 refine ⟨h2, ?_⟩
 cases hk : K.lookup a with
 | none => exact .inl (.inr ⟨_, by rw [argH_at ha hk e, hoOf_lst]⟩)
 | some o =>
  have e2 := KX a o hk
  rw [e] at e2
  obtain rfl := Option.some.inj e2
  exact .inr ⟨_, us.toArray, _, hk, rfl, rfl, rfl, by rw [List.size_toArray]; exact h1, by simpa using vals_toV h2⟩
theorem argT (KX : K.In h) (ar : ∀ a ∈ A, ArgOb h A a) {a : Addr} {vs : List Value} (ha : a ∈ A) (e : h.get? a = some { cls := .type "tuple", data := .seq vs.toArray }) : (∀ u ∈ vs, OkU A u) /\ SqT K (argH K h A) a (vs.map toV) := by
 obtain ⟨us, h1, h2, h3⟩ := ar a ha
 have hu : us = vs := by
  rcases h3 with q | q
  ·rw [e] at q
   exact absurd (Value.type.inj (seq_inj q).1) (by decide)
  ·rw [e] at q
   exact (seq_inj q).2.symm
 subst hu
 refine ⟨h2, ?_⟩
 cases hk : K.lookup a with
 | none => exact .inl (.inr ⟨_, by rw [argH_at ha hk e, hoOf_tup]⟩)
 | some o =>
  have e2 := KX a o hk
  rw [e] at e2
  obtain rfl := Option.some.inj e2
  exact .inr ⟨_, us.toArray, _, hk, rfl, rfl, by rw [List.size_toArray]; exact h1, by simpa using vals_toV h2⟩
mutual
theorem dw_one {Pm : Params} (KX : K.In h) (ar : ∀ a ∈ A, ArgOb h A a) : ∀ (d : WData) (v : Value), Well Pm h v d -> plW d = true -> OkU A v -> Dw K (argH K h A) (toV v) d
 | .none, _, x, _, _ => by
  cases x
  exact .non
 | .bool b, _, x, _, _ => by
  cases x
  exact .bl b
 | .int i, _, x, _, _ => by
  cases x
  exact .int i
 | .str s, _, x, _, _ => by
  cases x
  exact .str s
 | .bytes b, _, x, _, _ => by
  cases x
  have z := Dw.byt (K := K) (H := argH K h A) b.toArray
  exact z
 | .list ds, _, x, p, hu => by
  obtain ⟨a, vs, rfl, ho, hall⟩ := well_list x
  obtain ⟨h2, hs⟩ := argL KX ar hu ho
  exact .lst hs (dw_all KX ar ds _ hall p h2)
 | .tuple ds, _, x, p, hu => by
  obtain ⟨a, vs, rfl, ho, hall⟩ := well_tuple x
  obtain ⟨h2, hs⟩ := argT KX ar hu ho
  exact .tup hs (dw_all KX ar ds _ hall p h2)
 | .float _, _, _, p, _ => Bool.noConfusion (show false = true from p)
 | .dict _, _, _, p, _ => Bool.noConfusion (show false = true from p)
 | .bytearray _, _, _, p, _ => Bool.noConfusion (show false = true from p)
 | .set _, _, _, p, _ => Bool.noConfusion (show false = true from p)
 | .frozenset _, _, _, p, _ => Bool.noConfusion (show false = true from p)
 | .obj _ _, _, _, p, _ => Bool.noConfusion (show false = true from p)
theorem dw_all {Pm : Params} (KX : K.In h) (ar : ∀ a ∈ A, ArgOb h A a) : ∀ (ds : List WData) (vs : List Value), WellAll Pm h vs ds -> plWs ds = true -> (∀ u ∈ vs, OkU A u) -> DwAll K (argH K h A) (vs.map toV) ds
 | [], _, x, _, _ => by
  cases x
  exact .nil
 | d :: ds, _, x, p, hu => by
  obtain ⟨v, vs, rfl, x1, x2⟩ := well_cons x
  have q : plW d = true /\ plWs ds = true := Bool.and_eq_true_iff.mp p
  exact .cons (dw_one KX ar d v x1 q.1 (hu _ (List.mem_cons_self ..))) (dw_all KX ar ds vs x2 q.2 fun u m => hu u (List.mem_cons_of_mem _ m))
end
end
theorem spec_call {P : Program} {w : World} {K : PySem.W.Frag} {mg mb : Str -> Option Value} {CX : CXT} {k : Nat} {fa : Addr} {fd : FuncData} {ps : List Str} {sp : Sp} {s₁ : Shared} {vals : List Value} {ds : List WData} {R : PySem.W.WRecords} {cl : Str -> Option Addr} {d0 : WData}
  (KX : K.In s₁.heap) (hns : s₁.heap.Ns mainGlobals mg) (hb : s₁.heap.Ns builtinsNs mb) (hbb : ∀ x : Str, x ≠ "__name__" -> mb x = bootBuiltins x) (hlim : s₁.heap.NoLimit) (hg : s₁.gens = #[])
  (hwl : WellAll w.params s₁.heap vals ds) (hpl : plWs ds = true) (hwt : ∀ d ∈ ds, d.weight <= 1048576) (hr : Room k callerA)
  (F : ∀ base : Heap, K.In base -> base.Ns mainGlobals mg -> FnOk P w K mg base CX k fa fd ps sp) (hbind : ∀ (s : Shared) (us : List Value), us.length = ps.length -> BindsTo s fd ⟨us, []⟩ (ps.zip us)) (hlen : ds.length = ps.length)
  (hsp : ∀ (H : Hp) (xs : List V), OnlyF H -> DwAll K H xs ds -> sp xs H (fun v H' => Dw K H' v d0) fun _ _ _ => False)
  (hCX : ∀ H e s', CX [] H s₁ (fun _ _ _ => False) e s' -> False) :
  codeAny (model P w) callerA (.call (.ref fa) ⟨vals, []⟩) (fun r s' => ∃ u as, r = .ok (.ret u) /\ ReadsW R cl s'.heap u d0 as /\ OldK s₁.heap s'.heap /\ s'.os = s₁.os /\ AllBare s'.gens) s₁ := by
 obtain ⟨A, ho, ar⟩ := area_all ds vals hwl hpl hwt
 have hO : OnlyF (argH K s₁.heap A) := argH_only ar
 have hok : HOk P w (argH K s₁.heap A) s₁.heap := argH_ok ar
 have hS := dw_all KX ar ds vals hwl hpl ho
 have hV := vals_toV ho
 have hK : ∀ b u, argH K s₁.heap A b = some u -> K.lookup b = none := fun b u q => (argH_is ar q).1
 have noA : ∀ {b : Addr} {o : Obj} {es : Array DictEntry} {ep : Nat}, s₁.heap.get? b = some o -> o.data = .dict es ep -> argH K s₁.heap A b = none := fun {b o es ep} e d => by
  cases q : argH K s₁.heap A b with
  | none => rfl
  | some u =>
   obtain ⟨_, vs, _, _, ⟨e2, _⟩ | ⟨e2, _⟩⟩ := argH_is ar q
   ·rw [e2] at e
    cases e
    have d' : Data.seq vs.toArray _ = Data.dict es ep := d
    cases d'
   ·rw [e2] at e
    cases e
    have d' : Data.seq vs.toArray _ = Data.dict es ep := d
    cases d'
 generalize argH K s₁.heap A = H at hO hok hS hK noA
 have base_of : ∀ {b : Addr} {o : Obj}, s₁.heap.get? b = some o -> H b = none -> (hidT s₁.heap H).get? b = some o := fun e n => hidT_get e n
 have nsK : ∀ {b : Addr} {m : Str -> Option Value}, s₁.heap.Ns b m -> (hidT s₁.heap H).Ns b m := fun {b m} ⟨o, es, ep, e, d, r⟩ => ⟨o, es, ep, base_of e (noA e d), d, r⟩
 have nK : ∀ b o, K.lookup b = some o -> H b = none := fun b o e => by
  cases q : H b with
  | none => rfl
  | some u =>
   rw [hK b u q] at e
   cases e
 have hKb : K.In (hidT s₁.heap H) := fun b o e => base_of (KX b o e) (nK b o e)
 have hM : Mod K mg (hidT s₁.heap H) := ⟨hKb, nsK hns, ⟨mb, nsK hb, hbb⟩, let ⟨mc, h1, h2⟩ := hlim; ⟨mc, nsK h1, h2⟩⟩
 have e0 : Env0 P w K mg (hidT s₁.heap H) callerA [] s₁ H := ⟨rfl, hM, fun b o e => of_hidT e, Nat.le_of_eq (hidT_size _ _), trivial, fun b hb => absurd (show b ∈ ([] : List Addr) from hb) (by simp), hok, .of_eq hg⟩
 have hl : vals.length = ps.length := by rw [wellAll_len hwl]; exact hlen
 refine codeAny_mono ((F _ hKb (nsK hns)).run callerA [] s₁ H ⟨vals, []⟩ vals (vals.map toV) _ _ hr e0 (hbind s₁ vals hl) hV (hsp H _ hO hS)) fun r s' x => ?_
 cases r with
 | error e => exact (hCX H e s' x).elim
 | ok fl =>
  cases fl with
  | next => exact False.elim x
  | brk => exact False.elim x
  | cont => exact False.elim x
  | ret u =>
   obtain ⟨v, H', os, bare, un, hok', r', q⟩ := x
   have kept : ∀ b o, s₁.heap.get? b = some o -> s'.heap.get? b = some o := fun b o e => by
    cases q2 : H b with
    | none => exact un.keep b o e q2 (by intro z; exact absurd (show b ∈ ([] : List Addr) from z) (by simp)) (by simp)
    | some u2 =>
     rcases hO b with z | ⟨ob, u3, z⟩
     ·rw [q2] at z
      cases z
     ·have z2 := un.frzs b ob _ z
      obtain ⟨e1, _⟩ := hok b _ z
      obtain ⟨e2, _⟩ := hok' b _ z2
      rw [e] at e1
      cases e1
      exact e2
   have KX' : K.In s'.heap := fun b o e => kept b o (KX b o e)
   obtain ⟨as, hrd⟩ := Dw.reads (R := R) (cl := cl) hok' KX' d0 v u q r'
   exact ⟨u, as, rfl, hrd, OldK.of_keep kept, os, bare⟩
theorem layable_weight {ds : List WData} (h : WData.layableAll ds = true) : ∀ d ∈ ds, d.weight <= 1048576 := fun d hd =>
 (PySem.W.layableW_iff.mp (List.all_eq_true.mp h d hd)).2.2
theorem encAll_len : ∀ (cs : List Codec) (a : Codec.denoteAll cs), (Codec.encAll cs a).length = cs.length
 | [], _ => rfl
 | c :: cs, a => by
  show (Codec.encAll cs a.2).length + 1 = cs.length + 1
  rw [encAll_len cs a.2]
theorem walk_spec {r : OpenSpec} {k : Nat} {q : Program} {loose : List Str} {XP : (Str -> Option Value) -> Heap -> Prop} {YP : World -> Heap -> Prop} {d : DefRec} {K : Params -> PySem.W.Frag} {CX : World -> CXT} {ps : List Str} {sp : World -> Sp}
  (hwell : r.wellSaid = true) (hdf : d.params.defaults = []) (hlen : r.args.length = ps.length) (hr : Room k callerA)
  (hY : ∀ (w : World) (h : Heap), YP w h -> (K w.params).In h)
  (F : ∀ (w : World) (mg : Str -> Option Value) (fa : Addr) (h : Heap), YP w h -> (K w.params).In h -> h.Ns mainGlobals mg -> mg d.name = some (.ref fa) ->
   ∃ fd : FuncData, (∀ (s : Shared) (us : List Value), us.length = ps.length -> BindsTo s fd ⟨us, []⟩ (ps.zip us)) /\
    ∀ base : Heap, (K w.params).In base -> base.Ns mainGlobals mg -> FnOk r.prog w (K w.params) mg base (CX w) k fa fd ps (sp w))
  (hsp : ∀ (w : World) (H : Hp) (xs : List V) (a : Codec.denoteAll r.args), OnlyF H -> Codec.withinAll r.args a = true -> Codec.app r.args r.asked a = true -> DwAll (K w.params) H xs (Codec.encAll r.args a) ->
   sp w xs H (fun v H' => Dw (K w.params) H' v (r.ret.enc (Codec.app r.args r.f a))) fun _ _ _ => False)
  (hCX : ∀ (w : World) (H : Hp) (s : Shared) (e : Value) (s' : Shared), CX w [] H s (fun _ _ _ => False) e s' -> False) :
  PySem.W.WalkOS q loose XP YP r d [] (fun f vs => PySem.call f vs) := by
 intro w s_0 s₁ mg mb G Y fa o pm cd doc dV kV ho hd hcd hD hmg hg args vals as hpre hlay hrd hwl hlo
 obtain ⟨a, e1, e2⟩ := PySem.W.os_pre_some hpre
 obtain ⟨e3, hwi⟩ := Codec.encAll_of_decAll r.args args a e1
 subst e3
 have KX := hY w _ Y
 obtain ⟨fd, hb, hF⟩ := F w mg fa _ Y KX G.T.g hmg
 refine PySem.W.enter_call (codeAny_mono (spec_call (R := []) (cl := classAt s_0.heap) (d0 := r.ret.enc (Codec.app r.args r.f a)) KX G.T.g G.T.b G.T.builtins G.T.nolimit hg hwl (pl_encAll _ _) (layable_weight hlay) hr hF hb (by rw [encAll_len]; exact hlen)
  (fun H xs hO hS => hsp w H xs a hO hwi e2 hS) fun H e s' => hCX w H s₁ e s') fun r' s' hq => ?_)
 obtain ⟨u, as', rfl, h1, h2, h3, h4⟩ := hq
 exact ⟨.inl ⟨u, _, as', rfl, fun _ => rfl, h1, (OpenSpec.post_iff hwell hwi _ _).mpr rfl, fun z => Bool.noConfusion (show false = true from z)⟩, h2, h3, h4⟩
theorem walk_specK {r : OpenSpec} {k : Nat} {q : Program} {loose : List Str} {XP : (Str -> Option Value) -> Heap -> Prop} {YP : World -> Heap -> Prop} {d : DefRec} {K : Params -> PySem.W.Frag} {CX : CXT} {ps : List Str} {sp : PySem.W.Frag -> Sp}
  (hwell : r.wellSaid = true) (hdf : d.params.defaults = []) (hlen : r.args.length = ps.length) (hr : Room k callerA)
  (hY : ∀ (w : World) (h : Heap), YP w h -> (K w.params).In h)
  (F : ∀ (w : World) (mg : Str -> Option Value) (fa : Addr) (h : Heap), YP w h -> (K w.params).In h -> h.Ns mainGlobals mg -> mg d.name = some (.ref fa) ->
   ∃ fd : FuncData, (∀ (s : Shared) (us : List Value), us.length = ps.length -> BindsTo s fd ⟨us, []⟩ (ps.zip us)) /\
    ∀ base : Heap, (K w.params).In base -> base.Ns mainGlobals mg -> FnOk r.prog w (K w.params) mg base CX k fa fd ps (sp (K w.params)))
  (hsp : ∀ (K : PySem.W.Frag) (H : Hp) (xs : List V) (a : Codec.denoteAll r.args), OnlyF H -> Codec.withinAll r.args a = true -> Codec.app r.args r.asked a = true -> DwAll K H xs (Codec.encAll r.args a) ->
   sp K xs H (fun v H' => Dw K H' v (r.ret.enc (Codec.app r.args r.f a))) fun _ _ _ => False)
  (hCX : ∀ (H : Hp) (s : Shared) (e : Value) (s' : Shared), CX [] H s (fun _ _ _ => False) e s' -> False) :
  PySem.W.WalkOS q loose XP YP r d [] (fun f vs => PySem.call f vs) :=
 walk_spec (K := K) (CX := fun _ => CX) (sp := fun w => sp (K w.params)) hwell hdf hlen hr hY F (fun w H xs a h1 h2 h3 h4 => hsp (K w.params) H xs a h1 h2 h3 h4) fun _ H s e s' => hCX H s e s'
end L2
namespace Mile
open PySem PySem.Spec PyProof.Rows L2
open Vbahaq (State)
def FAt (K : PySem.W.Frag) (x : Str) (st : Stmt) : Prop := ∃ (f : Addr) (fd : FuncData), Fun K x x st f fd /\ PySem.W.nsIn K mainGlobals x = some (some (.ref f))
theorem fat {K : PySem.W.Frag} {x : Str} {st : Stmt} {f : Addr} {oc : Value} {od an : Option Addr} {osl : Array (Option Value)} {kV doc pm cdv ct : Value} (a : PySem.W.nsIn K mainGlobals x = some (some (.ref f)))
  (l : K.lookup f = some ⟨oc, od, .func (PySem.W.fnOf x x (defArgs st) (defBody st) (defScope st) .none kV doc pm an cdv ct), osl⟩) (c : PySem.W.codeIn K cdv x = true) (k : PySem.W.keepIn K (.ref f) = true) : FAt K x st := ⟨f, _, fun_mk l c k, a⟩
def CAt (K : PySem.W.Frag) (x q : Str) (st : Stmt) (C : Addr) : Prop := PySem.W.nsIn K mainGlobals x = some (some (.ref C)) /\ Cls K C /\ ∃ (f : Addr) (fd : FuncData), Fun K "__init__" q st f fd /\ Mk K C f
theorem cat {K : PySem.W.Frag} {x q : Str} {st : Stmt} {C f : Addr} {oc : Value} {od an : Option Addr} {osl : Array (Option Value)} {kV doc pm cdv ct : Value} (aC : PySem.W.nsIn K mainGlobals x = some (some (.ref C)))
  (a : PySem.W.findIn K (.ref C) "__init__" = some (some (.ref f))) (i : PySem.W.isFn K (.ref f) = true)
  (l : K.lookup f = some ⟨oc, od, .func (PySem.W.fnOf "__init__" q (defArgs st) (defBody st) (defScope st) .none kV doc pm an cdv ct), osl⟩) (c : PySem.W.codeIn K cdv q = true) (k : PySem.W.keepIn K (.ref f) = true)
  (pg : PySem.W.plainGet K C Str.empty = true) (hd : PySem.W.hasDictIn K C = true) (po : PySem.W.plainOver K C = true) (sa : PySem.W.findIn K (.ref C) "__setattr__" = some (some (.builtin "object.__setattr__"))) (mk : PySem.W.makesIn K C = true) (kc : PySem.W.keepIn K (.ref C) = true) :
  CAt K x q st C := ⟨aC, ⟨pg, hd, po, sa⟩, f, _, fun_mk l c k, ⟨mk, a, i, kc⟩⟩
def NAt (K : PySem.W.Frag) (x : Str) (i : Int) : Prop := ∃ t, PySem.W.nsIn K mainGlobals x = some (some (Value.int i t))
theorem nat_ {K : PySem.W.Frag} {x : Str} {i : Int} {t : Tok} (a : PySem.W.nsIn K mainGlobals x = some (some (Value.int i t))) : NAt K x i := ⟨t, a⟩
def deepF (K : PySem.W.Frag) : Nat -> Value -> Option Tr
 | 0, .int i _ => some (.int i)
 | 0, _ => none
 | n + 1, v => match v with
  | .int i _ => some (.int i)
  | .ref a => match K.lookup a with
   | some o => (match o.cls, o.data with
    | .type "tuple", .seq xs _ => if xs.size <= 1000 then (xs.toList.mapM (deepF K n)).map Tr.tup else none
    | _, _ => none)
   | none => none
  | _ => none
theorem deepF_list {K : PySem.W.Frag} {g : Value -> Option Tr} (ih : ∀ v t, g v = some t -> ∃ x, RelV x v /\ TrV K x t) : ∀ (vs : List Value) (ts : List Tr), vs.mapM g = some ts -> ∃ xs, Vals xs vs /\ TrVs K xs ts
 | [], ts, h => by
  have e : ([] : List Tr) = ts := Option.some.inj h
  subst e
  exact ⟨[], .nil, .nil⟩
 | v :: r, ts, h => by
  rw [List.mapM_cons] at h
  cases e : g v with
  | none => rw [e] at h; cases h
  | some t =>
   rw [e] at h
   cases e2 : r.mapM g with
   | none => rw [e2] at h; cases h
   | some l =>
    rw [e2] at h
    have e3 : t :: l = ts := Option.some.inj h
    subst e3
    obtain ⟨x, r1, t1⟩ := ih v t e
    obtain ⟨xs, r2, t2⟩ := deepF_list ih r l e2
    exact ⟨x :: xs, .cons r1 r2, .cons t1 t2⟩
theorem deepF_of {K : PySem.W.Frag} : ∀ (n : Nat) (v : Value) (t : Tr), deepF K n v = some t -> ∃ x, RelV x v /\ TrV K x t
 | 0, v, t, h => by
  cases v <;> simp only [deepF] at h <;> first | cases h | skip
  ·exact ⟨.int _, ⟨_, rfl⟩, .int _⟩
 | n + 1, v, t, h => by
  cases v <;> simp only [deepF] at h <;> first | cases h | skip
  ·exact ⟨.int _, ⟨_, rfl⟩, .int _⟩
  ·rename_i a
   split at h
   ·rename_i o ho
    split at h
    ·rename_i xs k hc hd
     split at h
     ·rename_i hz
      cases e : xs.toList.mapM (deepF K n) with
      | none => rw [e] at h; cases h
      | some l =>
       rw [e] at h
       have e3 : Tr.tup l = t := Option.some.inj h
       subst e3
       obtain ⟨ys, r1, t1⟩ := deepF_list (fun v t => deepF_of n v t) _ _ e
       exact ⟨.ref a, rfl, .tup (fun H => .inr ⟨o, xs, k, ho, hc, hd, Nat.le_trans hz (by decide), r1⟩) t1⟩
     ·cases h
    ·cases h
   ·cases h
section
variable {P : Program} {w : World} {K : PySem.W.Frag} {mg : Str -> Option Value} {base h : Heap}
theorem FAt.cal {x : Str} {st : Stmt} {ps : List Str} {n : Nat} {sp : Sp} (A : FAt K x st) (X : K.In h) (G : h.Ns mainGlobals mg)
  (b : ∀ (kV doc pm : Value) (an : Option Addr) (cdv ct : Value) (us : List Value), us.length = ps.length -> bindArgs (PySem.W.fnOf x x (defArgs st) (defBody st) (defScope st) .none kV doc pm an cdv ct) ⟨us, []⟩ = pure (ps.zip us))
  (ok : ∀ f fd, Fun K x x st f fd -> FnOk P w K mg base CX0 n f fd ps sp) : Cal P w K mg base x n ps sp := by
 obtain ⟨f, fd, F, a⟩ := A
 exact ⟨f, fd, PySem.W.mg_of X G a, F.kp, F.binds b, ok f fd F⟩
theorem CAt.ctor {x q : Str} {st : Stmt} {C : Addr} {ps : List Str} {n : Nat} {sp : Sp} (A : CAt K x q st C) (X : K.In h) (G : h.Ns mainGlobals mg)
  (b : ∀ (kV doc pm : Value) (an : Option Addr) (cdv ct : Value) (us : List Value), us.length = ps.length -> bindArgs (PySem.W.fnOf "__init__" q (defArgs st) (defBody st) (defScope st) .none kV doc pm an cdv ct) ⟨us, []⟩ = pure (ps.zip us))
  (ok : ∀ f fd, Fun K "__init__" q st f fd -> FnOk P w K mg base CX0 n f fd ps sp) : Ctor P w K mg base x C n ps sp := by
 obtain ⟨a, _, f, fd, F, M⟩ := A
 exact ⟨f, fd, PySem.W.mg_of X G a, M, F.binds b, ok f fd F⟩
theorem NAt.g {x : Str} {i : Int} (A : NAt K x i) (X : K.In h) (G : h.Ns mainGlobals mg) : GInt mg x i := by
 obtain ⟨t, e⟩ := A
 exact ⟨t, PySem.W.mg_of X G e⟩
theorem all_mk {fa CM CA CH fz : Addr} {vF oc kV doc pm cdv ct : Value} {od an : Option Addr} {osl : Array (Option Value)} (X : K.In h) (G : h.Ns mainGlobals mg) (hfa : mg "answers" = some (.ref fa))
  (f_put_miles : FAt K "put_miles" sPut)
  (f_take_miles : FAt K "take_miles" sTake)
  (f_count_miles : FAt K "count_miles" sCount)
  (f_miles_before : FAt K "miles_before" sBefore)
  (f_run_out_before : FAt K "run_out_before" sRunOut)
  (f_oldest_first : FAt K "oldest_first" sOrder)
  (f_take_oldest : FAt K "take_oldest" sOldest)
  (f_make_pool : FAt K "make_pool" sMakeP)
  (f_end_pool : FAt K "end_pool" sEndP)
  (f_pool_of : FAt K "pool_of" sPoolOf)
  (f_at_hand : FAt K "at_hand" sHand)
  (f_book_award : FAt K "book_award" sBook)
  (f_cost_of : FAt K "cost_of" sCost)
  (f_cancel_award : FAt K "cancel_award" sCancel)
  (f_set_rules : FAt K "set_rules" sRules)
  (f_add_member : FAt K "add_member" sJoin)
  (f_counts_on : FAt K "counts_on" sCounts)
  (f_points_of_year : FAt K "points_of_year" sPoy)
  (f_tier_of : FAt K "tier_of" sTier)
  (f_earn_miles : FAt K "earn_miles" sEarn)
  (f_give_miles : FAt K "give_miles" sGive)
  (f_move_clock : FAt K "move_clock" sClock)
  (f_split_calls : FAt K "split_calls" sSplit)
  (f_has_form : FAt K "has_form" sHasForm)
  (f_is_in_range : FAt K "is_in_range" sInRange)
  (f_are_within : FAt K "are_within" sWithin)
  (f_try_plan : FAt K "try_plan" sPlan)
  (f_goes_back : FAt K "goes_back" sGoes)
  (f_tell_lots : FAt K "tell_lots" sTLots)
  (f_tell_tier : FAt K "tell_tier" sTTier)
  (f_tell_hand : FAt K "tell_hand" sTHand)
  (f_tell_forecast : FAt K "tell_forecast" sTFore)
  (f_tell_totals : FAt K "tell_totals" sTTot)
  (f_tell_awards : FAt K "tell_awards" sTAws)
  (f_answer_call : FAt K "answer_call" sAnsCall)
  (f_carry_out : FAt K "carry_out" sCarry)
  (f_look_up : FAt K "look_up" sLook)
  (cM : CAt K "Member" "Member.__init__" sInitM CM)
  (cA : CAt K "Award" "Award.__init__" sInitA CA)
  (cH : CAt K "House" "House.__init__" sInitH CH)
  (n_NOT_OF_FORM : NAt K "NOT_OF_FORM" (-1))
  (n_OUT_OF_RANGE : NAt K "OUT_OF_RANGE" (-2))
  (n_NO_MEMBER : NAt K "NO_MEMBER" (-3))
  (n_THERE_ALREADY : NAt K "THERE_ALREADY" (-4))
  (n_AT_ODDS : NAt K "AT_ODDS" (-5))
  (n_FULL : NAt K "FULL" (-6))
  (n_TOO_FEW_MILES : NAt K "TOO_FEW_MILES" (-7))
  (n_NO_AWARD : NAt K "NO_AWARD" (-8))
  (n_WRONG_POOL : NAt K "WRONG_POOL" (-9))
  (n_TOO_EARLY : NAt K "TOO_EARLY" (-10))
  (n_MOST_POOLS : NAt K "MOST_POOLS" (8))
  (n_MOST_AWARDS : NAt K "MOST_AWARDS" (100))
  (n_MOST_MEMBERS : NAt K "MOST_MEMBERS" (30))
  (n_MOST_PAIRS : NAt K "MOST_PAIRS" (60))
  (n_LAST_OF_DAYS : NAt K "LAST_OF_DAYS" (36524))
  (n_YEAR : NAt K "YEAR" (365))
  (n_LAST_THAT_CHANGES : NAt K "LAST_THAT_CHANGES" (8))
  (z_sum : PySem.W.nsIn K mainGlobals "sum" = some none)
  (z_sorted : PySem.W.nsIn K mainGlobals "sorted" = some none)
  (z_min : PySem.W.nsIn K mainGlobals "min" = some none)
  (z_enumerate : PySem.W.nsIn K mainGlobals "enumerate" = some none)
  (z_any : PySem.W.nsIn K mainGlobals "any" = some none)
  (z_len : PySem.W.nsIn K mainGlobals "len" = some none)
  (z_set : PySem.W.nsIn K mainGlobals "set" = some none)
  (z_list : PySem.W.nsIn K mainGlobals "list" = some none)
  (z_zip : PySem.W.nsIn K mainGlobals "zip" = some none)
  (z_dict : PySem.W.nsIn K mainGlobals "dict" = some none)
  (tM_lots : PySem.W.findIn K (.ref CM) "lots" = some none)
  (tM_points : PySem.W.findIn K (.ref CM) "points" = some none)
  (tA_asker : PySem.W.findIn K (.ref CA) "asker" = some none)
  (tA_draws : PySem.W.findIn K (.ref CA) "draws" = some none)
  (tH_today : PySem.W.findIn K (.ref CH) "today" = some none)
  (tH_life : PySem.W.findIn K (.ref CH) "life" = some none)
  (tH_bonuses : PySem.W.findIn K (.ref CH) "bonuses" = some none)
  (tH_steps : PySem.W.findIn K (.ref CH) "steps" = some none)
  (tH_members : PySem.W.findIn K (.ref CH) "members" = some none)
  (tH_pools : PySem.W.findIn K (.ref CH) "pools" = some none)
  (tH_awards : PySem.W.findIn K (.ref CH) "awards" = some none)
  (tH_earned : PySem.W.findIn K (.ref CH) "earned" = some none)
  (tH_spent : PySem.W.findIn K (.ref CH) "spent" = some none)
  (tH_returned : PySem.W.findIn K (.ref CH) "returned" = some none)
  (tH_run_out : PySem.W.findIn K (.ref CH) "run_out" = some none)
  (a_forms : PySem.W.nsIn K mainGlobals "FORMS" = some (some vF)) (d_forms : deepF K 6 vF = some formsT)
  (a_ans : PySem.W.nsIn K mainGlobals "answers" = some (some (.ref fz))) (l_ans : K.lookup fz = some ⟨oc, od, .func (PySem.W.fnOf "answers" "answers" (defArgs sAnswers) (defBody sAnswers) (defScope sAnswers) .none kV doc pm an cdv ct), osl⟩) (c_ans : PySem.W.codeIn K cdv "answers" = true) (k_ans : PySem.W.keepIn K (.ref fz) = true)
  : ∃ fd : FuncData, (∀ (s : Shared) (us : List Value), us.length = (["calls"] : List Str).length -> BindsTo s fd ⟨us, []⟩ ((["calls"] : List Str).zip us)) /\ ∀ base : Heap, K.In base -> base.Ns mainGlobals mg -> FnOk P w K mg base CX0 7 fa fd ["calls"] (spAnswers K) := by
 have e := hfa.symm.trans (PySem.W.mg_of X G a_ans)
 cases e
 refine ⟨PySem.W.fnOf "answers" "answers" (defArgs sAnswers) (defBody sAnswers) (defScope sAnswers) .none kV doc pm an cdv ct, fun s us hu => match us, hu with | [_], _ => .of_eq rfl, fun base _ _ => ?_⟩
 let C : Cs := ⟨CM, CA, CH⟩
 have m_sum : mg "sum" = none := PySem.W.mg_none_of X G z_sum
 have m_sorted : mg "sorted" = none := PySem.W.mg_none_of X G z_sorted
 have m_min : mg "min" = none := PySem.W.mg_none_of X G z_min
 have m_enumerate : mg "enumerate" = none := PySem.W.mg_none_of X G z_enumerate
 have m_any : mg "any" = none := PySem.W.mg_none_of X G z_any
 have m_len : mg "len" = none := PySem.W.mg_none_of X G z_len
 have m_set : mg "set" = none := PySem.W.mg_none_of X G z_set
 have m_list : mg "list" = none := PySem.W.mg_none_of X G z_list
 have m_zip : mg "zip" = none := PySem.W.mg_none_of X G z_zip
 have m_dict : mg "dict" = none := PySem.W.mg_none_of X G z_dict
 have gNOT_OF_FORM := n_NOT_OF_FORM.g X G
 have gOUT_OF_RANGE := n_OUT_OF_RANGE.g X G
 have gNO_MEMBER := n_NO_MEMBER.g X G
 have gTHERE_ALREADY := n_THERE_ALREADY.g X G
 have gAT_ODDS := n_AT_ODDS.g X G
 have gFULL := n_FULL.g X G
 have gTOO_FEW_MILES := n_TOO_FEW_MILES.g X G
 have gNO_AWARD := n_NO_AWARD.g X G
 have gWRONG_POOL := n_WRONG_POOL.g X G
 have gTOO_EARLY := n_TOO_EARLY.g X G
 have gMOST_POOLS := n_MOST_POOLS.g X G
 have gMOST_AWARDS := n_MOST_AWARDS.g X G
 have gMOST_MEMBERS := n_MOST_MEMBERS.g X G
 have gMOST_PAIRS := n_MOST_PAIRS.g X G
 have gLAST_OF_DAYS := n_LAST_OF_DAYS.g X G
 have gYEAR := n_YEAR.g X G
 have gLAST_THAT_CHANGES := n_LAST_THAT_CHANGES.g X G
 have TC : TxtC K mg C := ⟨cM.2.1, cA.2.1, cH.2.1, tM_lots, tM_points, tA_asker, tA_draws, tH_today, tH_life, tH_bonuses, tH_steps, tH_members, tH_pools, tH_awards, tH_earned, tH_spent, tH_returned, tH_run_out⟩
 have T0 : Txt0 mg := ⟨m_sum, m_sorted, m_min, m_enumerate⟩
 have k_put_miles : Cal P w K mg base "put_miles" 1 ["lots", "last_day", "miles"] spPut := f_put_miles.cal X G (fun _ _ _ _ _ _ us hl => match us, hl with | [_, _, _], _ => rfl) fun _ _ F => ok_put F
 have k_take_miles : Cal P w K mg base "take_miles" 1 ["lots", "last_day", "miles"] spTake := f_take_miles.cal X G (fun _ _ _ _ _ _ us hl => match us, hl with | [_, _, _], _ => rfl) fun _ _ F => ok_take F
 have k_count_miles : Cal P w K mg base "count_miles" 1 ["holdings"] spCount := f_count_miles.cal X G (fun _ _ _ _ _ _ us hl => match us, hl with | [_], _ => rfl) fun _ _ F => ok_count F T0
 have k_miles_before : Cal P w K mg base "miles_before" 1 ["lots", "day"] spBefore := f_miles_before.cal X G (fun _ _ _ _ _ _ us hl => match us, hl with | [_, _], _ => rfl) fun _ _ F => ok_before F T0
 have k_oldest_first : Cal P w K mg base "oldest_first" 1 ["holdings"] spOrder := f_oldest_first.cal X G (fun _ _ _ _ _ _ us hl => match us, hl with | [_], _ => rfl) fun _ _ F => ok_order F T0
 have T1 : Txt1 P w K mg base := { T0 with order := k_oldest_first, take := k_take_miles }
 have k_take_oldest : Cal P w K mg base "take_oldest" 2 ["holdings", "wanted"] spOldest := f_take_oldest.cal X G (fun _ _ _ _ _ _ us hl => match us, hl with | [_, _], _ => rfl) fun _ _ F => ok_oldest F T1
 have TB : TxtB P w K mg base := ⟨m_list, k_miles_before⟩
 have k_run_out_before : Cal P w K mg base "run_out_before" 2 ["lots", "day"] spRunOut := f_run_out_before.cal X G (fun _ _ _ _ _ _ us hl => match us, hl with | [_, _], _ => rfl) fun _ _ F => ok_runOut F TB
 have k_pool_of : Cal P w K mg base "pool_of" 1 ["house", "pooler"] (spPoolOf C) := f_pool_of.cal X G (fun _ _ _ _ _ _ us hl => match us, hl with | [_, _], _ => rfl) fun _ _ F => ok_poolOf F TC
 have TP : TxtP P w K mg base C := { TC with poolOf := k_pool_of }
 have k_at_hand : Cal P w K mg base "at_hand" 2 ["house", "asker"] (spHand C) := f_at_hand.cal X G (fun _ _ _ _ _ _ us hl => match us, hl with | [_, _], _ => rfl) fun _ _ F => ok_hand F TP
 have TQ : TxtQ P w K mg base C := { TP with any := m_any, len := m_len, set := m_set, list := m_list, noMember := gNO_MEMBER, wrongPool := gWRONG_POOL, full := gFULL, mostPools := gMOST_POOLS }
 have k_make_pool : Cal P w K mg base "make_pool" 2 ["house", "poolers"] (spMakeP C) := f_make_pool.cal X G (fun _ _ _ _ _ _ us hl => match us, hl with | [_, _], _ => rfl) fun _ _ F => ok_makeP F TQ
 have k_end_pool : Cal P w K mg base "end_pool" 2 ["house", "pooler"] (spEndP C) := f_end_pool.cal X G (fun _ _ _ _ _ _ us hl => match us, hl with | [_, _], _ => rfl) fun _ _ F => ok_endP F TQ
 have k_counts_on : Cal P w K mg base "counts_on" 1 ["day", "today"] spCounts := f_counts_on.cal X G (fun _ _ _ _ _ _ us hl => match us, hl with | [_, _], _ => rfl) fun _ _ F => ok_counts F gYEAR
 have ctM : Ctor P w K mg base "Member" C.M 1 ["self"] (spInitM C) := cM.ctor X G (fun _ _ _ _ _ _ us hl => match us, hl with | [_], _ => rfl) fun _ _ F => ok_initM F TC
 have ctA : Ctor P w K mg base "Award" C.A 1 ["self", "asker", "draws"] (spInitA C) := cA.ctor X G (fun _ _ _ _ _ _ us hl => match us, hl with | [_, _, _], _ => rfl) fun _ _ F => ok_initA F TC
 have ctH : Ctor P w K mg base "House" C.H 1 ["self"] (spInitH C) := cH.ctor X G (fun _ _ _ _ _ _ us hl => match us, hl with | [_], _ => rfl) fun _ _ F => ok_initH F TC
 have TM : TxtM P w K mg base C := { TQ with sum := m_sum, min := m_min, atOdds := gAT_ODDS, there := gTHERE_ALREADY, mostMembers := gMOST_MEMBERS, year := gYEAR, counts := k_counts_on, member := ctM }
 have k_set_rules : Cal P w K mg base "set_rules" 1 ["house", "life", "bonuses", "steps"] (spRules C) := f_set_rules.cal X G (fun _ _ _ _ _ _ us hl => match us, hl with | [_, _, _, _], _ => rfl) fun _ _ F => ok_rules F TM
 have k_add_member : Cal P w K mg base "add_member" 3 ["house", "newcomer"] (spJoin C) := f_add_member.cal X G (fun _ _ _ _ _ _ us hl => match us, hl with | [_, _], _ => rfl) fun _ _ F => ok_join F TM
 have k_points_of_year : Cal P w K mg base "points_of_year" 2 ["house", "member"] (spPoy C) := f_points_of_year.cal X G (fun _ _ _ _ _ _ us hl => match us, hl with | [_, _], _ => rfl) fun _ _ F => ok_poy F TM
 have TN : TxtN P w K mg base C := { TM with poy := k_points_of_year }
 have k_tier_of : Cal P w K mg base "tier_of" 3 ["house", "member"] (spTier C) := f_tier_of.cal X G (fun _ _ _ _ _ _ us hl => match us, hl with | [_, _], _ => rfl) fun _ _ F => ok_tier F TN
 have TE : TxtE P w K mg base C := { TN with tier := k_tier_of, put := k_put_miles, mostPairs := gMOST_PAIRS, lastDay := gLAST_OF_DAYS }
 have k_earn_miles : Cal P w K mg base "earn_miles" 4 ["house", "earner", "miles", "points"] (spEarn C) := f_earn_miles.cal X G (fun _ _ _ _ _ _ us hl => match us, hl with | [_, _, _, _], _ => rfl) fun _ _ F => ok_earn F TE
 have TG : TxtG P w K mg base C := { TE with count := k_count_miles, oldest := k_take_oldest, tooFew := gTOO_FEW_MILES }
 have k_give_miles : Cal P w K mg base "give_miles" 3 ["house", "giver", "taker", "miles"] (spGive C) := f_give_miles.cal X G (fun _ _ _ _ _ _ us hl => match us, hl with | [_, _, _, _], _ => rfl) fun _ _ F => ok_give F TG
 have TA : TxtA P w K mg base C := { TG with hand := k_at_hand, award := ctA, mostAwards := gMOST_AWARDS, noAward := gNO_AWARD }
 have k_book_award : Cal P w K mg base "book_award" 3 ["house", "asker", "booking", "cost"] (spBook C) := f_book_award.cal X G (fun _ _ _ _ _ _ us hl => match us, hl with | [_, _, _, _], _ => rfl) fun _ _ F => ok_book F TA
 have k_cost_of : Cal P w K mg base "cost_of" 1 ["award"] (spCost C) := f_cost_of.cal X G (fun _ _ _ _ _ _ us hl => match us, hl with | [_], _ => rfl) fun _ _ F => ok_cost F TA
 have k_cancel_award : Cal P w K mg base "cancel_award" 2 ["house", "booking"] (spCancel C) := f_cancel_award.cal X G (fun _ _ _ _ _ _ us hl => match us, hl with | [_, _], _ => rfl) fun _ _ F => ok_cancel F TA
 have TS : TxtS P w K mg base C := { TA with sorted := m_sorted, before := k_miles_before, cost := k_cost_of }
 have k_tell_lots : Cal P w K mg base "tell_lots" 1 ["house", "asked"] (spTLots C) := f_tell_lots.cal X G (fun _ _ _ _ _ _ us hl => match us, hl with | [_, _], _ => rfl) fun _ _ F => ok_tLots F TS
 have k_tell_tier : Cal P w K mg base "tell_tier" 4 ["house", "asked"] (spTTier C) := f_tell_tier.cal X G (fun _ _ _ _ _ _ us hl => match us, hl with | [_, _], _ => rfl) fun _ _ F => ok_tTier F TS
 have k_tell_hand : Cal P w K mg base "tell_hand" 3 ["house", "asked"] (spTHand C) := f_tell_hand.cal X G (fun _ _ _ _ _ _ us hl => match us, hl with | [_, _], _ => rfl) fun _ _ F => ok_tHand F TS
 have k_tell_forecast : Cal P w K mg base "tell_forecast" 2 ["house", "asked", "day"] (spTFore C) := f_tell_forecast.cal X G (fun _ _ _ _ _ _ us hl => match us, hl with | [_, _, _], _ => rfl) fun _ _ F => ok_tFore F TS
 have k_tell_totals : Cal P w K mg base "tell_totals" 2 ["house"] (spTTot C) := f_tell_totals.cal X G (fun _ _ _ _ _ _ us hl => match us, hl with | [_], _ => rfl) fun _ _ F => ok_tTot F TS
 have k_tell_awards : Cal P w K mg base "tell_awards" 2 ["house"] (spTAws C) := f_tell_awards.cal X G (fun _ _ _ _ _ _ us hl => match us, hl with | [_], _ => rfl) fun _ _ F => ok_tAws F TS
 have TK : TxtK P w K mg base C := { TS with runOut := k_run_out_before, tooEarly := gTOO_EARLY }
 have k_move_clock : Cal P w K mg base "move_clock" 3 ["house", "day"] (spClock C) := f_move_clock.cal X G (fun _ _ _ _ _ _ us hl => match us, hl with | [_, _], _ => rfl) fun _ _ F => ok_clock F TK
 have TL : TxtL P w K mg base C := { TK with zip := m_zip, dict := m_dict }
 have k_goes_back : Cal P w K mg base "goes_back" 1 ["today", "days"] (spGoes K) := f_goes_back.cal X G (fun _ _ _ _ _ _ us hl => match us, hl with | [_, _], _ => rfl) fun _ _ F => ok_goes F
 have TV : TxtV P w K mg base C := { TL with goes := k_goes_back }
 have k_try_plan : Cal P w K mg base "try_plan" 3 ["house", "planner", "pairs"] (spPlan C) := f_try_plan.cal X G (fun _ _ _ _ _ _ us hl => match us, hl with | [_, _, _], _ => rfl) fun _ _ F => ok_plan F TV
 have hF : GTr K mg "FORMS" formsT := by
  obtain ⟨x, r1, t1⟩ := deepF_of 6 vF formsT d_forms
  exact ⟨x, vF, PySem.W.mg_of X G a_forms, r1, t1⟩
 have TF : TxtF K mg := ⟨m_len, m_enumerate, m_zip, hF⟩
 have k_are_within : Cal P w K mg base "are_within" 1 ["numbers", "ranges"] (spWithin K) := f_are_within.cal X G (fun _ _ _ _ _ _ us hl => match us, hl with | [_, _], _ => rfl) fun _ _ F => ok_within F TF
 have TR : TxtR P w K mg base := { TF with within := k_are_within }
 have k_is_in_range : Cal P w K mg base "is_in_range" 2 ["call"] spInRange := f_is_in_range.cal X G (fun _ _ _ _ _ _ us hl => match us, hl with | [_], _ => rfl) fun _ _ F => ok_inRange F TR
 have k_has_form : Cal P w K mg base "has_form" 1 ["call"] spHas := f_has_form.cal X G (fun _ _ _ _ _ _ us hl => match us, hl with | [_], _ => rfl) fun _ _ F => ok_has F TF
 have k_split_calls : Cal P w K mg base "split_calls" 1 ["line"] (spSplit K) := f_split_calls.cal X G (fun _ _ _ _ _ _ us hl => match us, hl with | [_], _ => rfl) fun _ _ F => ok_split F TF
 have TX : TxtX P w K mg base C := ⟨k_set_rules, k_add_member, k_earn_miles, k_book_award, k_cancel_award, k_make_pool, k_end_pool, k_give_miles, k_move_clock, k_tell_lots, k_tell_tier, k_tell_hand, k_tell_forecast, k_try_plan, k_tell_totals, k_tell_awards⟩
 have k_carry_out : Cal P w K mg base "carry_out" 5 ["house", "place", "plain", "rows"] (spCarry C 0 8) := f_carry_out.cal X G (fun _ _ _ _ _ _ us hl => match us, hl with | [_, _, _, _], _ => rfl) fun _ _ F => ok_carry F TX
 have k_look_up : Cal P w K mg base "look_up" 5 ["house", "place", "plain", "rows"] (spCarry C 9 15) := f_look_up.cal X G (fun _ _ _ _ _ _ us hl => match us, hl with | [_, _, _, _], _ => rfl) fun _ _ F => ok_look F TX
 have TZ : TxtZ P w K mg base C := ⟨k_has_form, k_is_in_range, k_carry_out, k_look_up, gNOT_OF_FORM, gOUT_OF_RANGE, gLAST_THAT_CHANGES⟩
 have k_answer_call : Cal P w K mg base "answer_call" 6 ["house", "call"] (spAC C) := f_answer_call.cal X G (fun _ _ _ _ _ _ us hl => match us, hl with | [_, _], _ => rfl) fun _ _ F => ok_ac F TZ
 have TAll : TxtAll P w K mg base C := ⟨k_answer_call, k_split_calls, ctH, m_len⟩
 exact ok_answers (fun_mk l_ans c_ans k_ans) TAll
end
end Mile
namespace PySem.W.Fast
def tw12672386563078493884:=0
def tw11452204663503479376:=0
def tw14739767688637890088:=0
def tw7601490075765362753:=0
def tw6923526977849155871:=0
def tw12202293600614954118:=0
def tw15926947717522693588:=0
def tw11240882037987842050:=0
def tw8194563566719344881:=0
def tw3402240237147845262:=0
def tw15298489023974661184:=0
def tw13127014338170278920:=0
def tw714826968310034791:=0
def tw11057816635675670821:=0
def tw3249520650746061922:=0
def tw1098330316750124141:=0
def tw2262112949875993064:=0
def tw9922972744588688289:=0
def tw15108081127888577391:=0
def tw10378507175328135569:=0
def tw1232390582710922790:=0
def tw1420208680566908103:=0
def tw4055679849778263683:=0
def tw699899382319767467:=0
def tw4608049917408120119:=0
def tw7496014376000937517:=0
def tw13448749073083658326:=0
def tw13760212753389642926:=0
def tw5076667052493952425:=0
def tw991398628106165436:=0
def tw4306700801244332767:=0
def tw15509572544220778094:=0
def tw15431928524518981225:=0
def tw5296655775938547619:=0
def tw8495231748601877933:=0
def tw4045322425815430039:=0
def tw2245886500204313132:=0
def tw11442756301943010815:=0
def tw12624082149901567753:=0
def tw17638542254735960662:=0
def tw8769321001347296295:=0
def tw7753467556071315520:=0
def tw2710870805755527931:=0
def tw15061112778467508361:=0
def tw17739380811082900079:=0
def tw14060318603944864436:=0
def tw11952219937641426479:=0
def tw13915299453863165771:=0
def tw17827289684895751245:=0
def tw8514595188157661366:=0
def tw3800249472728460643:=0
def tw14549656157967174141:=0
def tw15896938006563408437:=0
def tw7692402436282353870:=0
def tw9430975339327379160:=0
def tw7303175665093343245:=0
def tw8578113964618539541:=0
def tw1007704784338524252:=0
def tw5769806623997931217:=0
def tw3114559096717253288:=0
def tw8639478044191293814:=0
def tw16286339029549352331:=0
def tw15133916944148700126:=0
def tw13186433355223925118:=0
def tw10697348325739722834:=0
def tw11134141976030125285:=0
def tw13535032807550721792:=0
def tw8946445883193822731:=0
def tw14939324940204488927:=0
def tw25925884695562965:=0
def tw16817589652279824340:=0
def tw15877012609213804318:=0
def tw6992529302476588968:=0
def tw2615090879183319313:=0
def tw8366702268688840256:=0
def tw7603697866306481072:=0
def tw17655586442376194811:=0
def tw16864544437384537115:=0
def tw15792116515396951533:=0
def tw15239363595579778187:=0
def tw8217798133540297688:=0
def tw7832317409397140426:=0
def tw4005456998754310287:=0
def tw18037428239824679588:=0
def tw6129838144306906218:=0
def tw6532272944614125015:=0
def tw15123839534311375402:=0
def tw8454458096939283060:=0
def tw473249674324971454:=0
def tw279616830242985272:=0
def tw12670662671807509104:=0
def tw10638015836944978383:=0
def tw7947497388457729902:=0
def tw16570910400007519869:=0
def tw1810204960249872757:=0
def tw39941634696744184:=0
def tw13736662680257669261:=0
def tw8023888222197592178:=0
def tw7935186283000217894:=0
def tw8003035500793499955:=0
def tw12713015344133702122:=0
def tw12035753611458186032:=0
def tw17231645404068634660:=0
def tw18443810878026488591:=0
def tw2111934758393574085:=0
def tw1542638224104584312:=0
def tw847300062142678758:=0
def tw12286516084782363414:=0
def tw14076410462521440119:=0
def tw11991373547400132133:=0
def tw7822339446006740023:=0
def tw9980309775536002786:=0
def tw15712629054420690954:=0
def tw3059919289499580802:=0
def tw2623232653002124226:=0
def tw17914043719215577704:=0
def tw7312585619812189794:=0
def tw16898407366150427805:=0
def tw240158885406008826:=0
def tw14138281758086957410:=0
def tw1095370471233714164:=0
def tw2576191050678061035:=0
def tw6627549205724944359:=0
def tw11840919760176015994:=0
def tw12276263358956871079:=0
def tw8959044200246129555:=0
def tw12757455732759655560:=0
def tw3189823454666801500:=0
def tw16764585309789200506:=0
def tw17808497168759737705:=0
def tw258587486617522966:=0
def tw1287157965610630740:=0
def tw15309036249133851263:=0
def tw7904192668768090338:=0
def tw8140441130163591602:=0
def tw8413641602952344649:=0
def tw2150230995402967696:=0
def tw4756147896299544111:=0
def tw15796751425809810254:=0
def tw10334084526590650159:=0
def tw1785168822128002634:=0
def tw5852660260517969119:=0
def tw85603975548206356:=0
def tw18205599195674182619:=0
def tw3981130762013966638:=0
def tw6453650200151535220:=0
def tw16791788917731244823:=0
def tw7843183794372605635:=0
def tw1979195015499334587:=0
def tw14940588184893537645:=0
def tw10411811181894522738:=0
def tw3521904811177705782:=0
def tw9803392699519034071:=0
def tw1933746414108456347:=0
def tw8941583050830098967:=0
def tw12404669816715309288:=0
def tw8560740345967867190:=0
def tw1193902598104238921:=0
def tw16803318761718653638:=0
def tw16932884730725382355:=0
def tw13518986717082006:=0
def tw12883291011618554633:=0
def tw11629425951011047523:=0
def tw15480321599929684401:=0
def tw391223098853219477:=0
def tw5030199899463969954:=0
def tw9776406925347369947:=0
def tw6650238711381158399:=0
def tw7265396136053926660:=0
def tw17578727042650000011:=0
def tw12483898627279933937:=0
def tw8797095107493010947:=0
def tw16785298900814840073:=0
def tw14231191670048560533:=0
def tw1529814637738596392:=0
def tw16463559975711282739:=0
def tw13095659128779116800:=0
def tw16797206789271576539:=0
def tw10178810301477003591:=0
def tw6243408271278462150:=0
def tw4199413262269179838:=0
def tw17493291006986969113:=0
def tw18311628194537654210:=0
def tw16210754441341952391:=0
def tw16605409752512641306:=0
def tw13515338247109837781:=0
def tw719655493527563488:=0
def tw3271624792541293582:=0
def tw14731372130052898636:=0
def tw18276604604014903044:=0
def tw12996115300187100202:=0
def tw1570587761598454673:=0
def tw15374672269095940346:=0
def tw8911653677152990024:=0
def tw1379008110571384548:=0
def tw6294636835142637735:=0
def tw3253616727746499618:=0
def tw6809747902423117466:=0
def tw2690561018925711363:=0
def tw8889172156276722002:=0
def tw16215030824110220457:=0
def tw6624852892733616682:=0
def tw7852077491992401199:=0
def tw9820689813565335926:=0
def tw2939862998344939700:=0
def tw17803832034992251081:=0
def tw4205086448525796500:=0
def tw2999905023122378775:=0
def tw13349760081410911402:=0
def tw13478724708592286193:=0
def tw9339487369418853648:=0
def tw7916724915719805046:=0
def tw10150410802769721732:=0
def tw11278663982011805910:=0
def tw6627652998638975452:=0
def tw15576921495310990457:=0
def tw15689966006228481056:=0
def tw15351090301767226431:=0
def tw7699238144560850304:=0
def tw8479047686531349563:=0
def tw7351367633258149396:=0
def tw4065993929495531106:=0
def tw4126827290759774818:=0
def tw16017791276728679144:=0
def tw15436627060769868050:=0
def tw11918814114851894664:=0
def tw18056229928194214187:=0
def tw2138483596778449256:=0
def tw10987812025291670030:=0
def tw2206371652772161949:=0
def tw14102657193511455769:=0
def tw8846666051467982978:=0
def tw2250187049123460093:=0
def tw10424818011420714443:=0
def tw8944967365351876760:=0
def tw11804551170946832168:=0
def tw11433225132150358723:=0
def tw1593305447950188237:=0
def tw13753970849875748318:=0
def tw9528379739040455007:=0
def tw18257164144312624615:=0
def tw6754445738780361248:=0
def tw10591128393237635933:=0
def tw2020199381955565998:=0
def tw5938748082107477527:=0
def tw2176135195827038952:=0
def tw4106687007201426763:=0
def tw9190636178665350693:=0
def tw14813099836073410773:=0
def tw17751856662925198169:=0
def tw17275163156043925321:=0
def tw8325400319978290238:=0
def tw6420021927078334003:=0
def tw10401559811967198326:=0
def tw8432170651187328475:=0
def tw1957284405136216327:=0
def tw5329222264433829979:=0
def tw15458230532740357327:=0
def tw2747745138061524198:=0
def tw4551411754457893587:=0
def tw14830721896100776031:=0
def tw12346732957508436174:=0
def tw11444064256027314096:=0
def tw10494277408378874164:=0
def tw12147348503220507424:=0
def tw7942352293725440147:=0
def tw13558499986454321050:=0
def tw13767480371442744098:=0
def tw4104928829915116166:=0
def tw8906466633976284943:=0
def tw969271030079437182:=0
def tw14094382888681893411:=0
def tw15473416535897727290:=0
def tw7963560099826521974:=0
def tw11335669793132777787:=0
def tw5630547628312226098:=0
def tw3373058429183904164:=0
def tw13863640167438477480:=0
def tw17639010131426317398:=0
def tw5628561841689066245:=0
def tw4513600644747115730:=0
def tw15578735562431245386:=0
def tw16925770106620490765:=0
def tw13183519705121439192:=0
def tw15713296283047370047:=0
def tw5361000630515516363:=0
def tw4846625134698178011:=0
def tw7292692812191260653:=0
def tw17508718496921046204:=0
def tw6421651900077329119:=0
def tw15984915893832777423:=0
def tw3348583725934036178:=0
def tw15082784398320571469:=0
def tw14074887904951747087:=0
def tw13946955403097916374:=0
def tw14676230366023072393:=0
def tw12586095990435344237:=0
def tw225498010720286935:=0
def tw9086808562439079241:=0
def tw10670450235468064222:=0
def tw3442581274593869688:=0
def tw10795168046173407249:=0
def tw11916979843799075062:=0
def tw6859997176528086994:=0
def tw16456709223530511807:=0
def tw10460379850176850206:=0
def tw12956334735653349866:=0
def tw4257415468018566370:=0
def tw4863266563982667525:=0
def tw243663956576675277:=0
def tw10688571538207297068:=0
def tw16870101797332867070:=0
def tw11065065881410754980:=0
def tw17237775120112462443:=0
def tw11775921370551422383:=0
def tw17666200810536165383:=0
def tw10779271220496375321:=0
def tw11542444868660642690:=0
def tw7330237534525649692:=0
def tw595772709984562064:=0
def tw2728825383750308429:=0
def tw9343271100802599585:=0
def tw3077230592942105566:=0
def tw708516804860599542:=0
def tw10845386763055063110:=0
def tw8648858982748643331:=0
def tw16560516831557386981:=0
def tw10353551290747683829:=0
def tw11310548359374144312:=0
def tw11245296404260687597:=0
def tw7590151655558462873:=0
def tw8169363889736038689:=0
def tw9849712765704516834:=0
def tw9075019830180153223:=0
def tw5800214508774930911:=0
def tw18381704519374873649:=0
def tw538524484455104769:=0
def tw9432059117773554755:=0
def tw10147507934606344877:=0
def tw6291700264117650542:=0
def tw3920423993733232066:=0
def tw6257544263384415511:=0
def tw14189611395617556361:=0
def tw17005680628651140327:=0
def tw15283004087890885804:=0
def tw11404512877930041982:=0
def tw3029913395543563350:=0
def tw2317559879308771468:=0
def tw14727704421198371323:=0
def tw8196283983837249980:=0
def tw11309411492905431177:=0
def tw3453011119850234872:=0
def tw15364743345607216548:=0
def tw12799182651636423203:=0
def tw15000252413724212628:=0
def tw4154556287918440503:=0
def tw18195714709205437207:=0
def tw7421966209230489268:=0
def tw7757129930927291811:=0
def tw9382453116642948300:=0
def tw7308826098010541081:=0
def tw7642927399941295293:=0
def tw11274420621262699430:=0
def tw9967897216670461596:=0
def tw8438897871250678443:=0
def tw13448601565102592758:=0
def tw14392717687194216608:=0
def tw12133210031531473260:=0
def tw1475127590966290571:=0
def tw9754909983782312700:=0
def tw357641675226012413:=0
def tw12799441518263563798:=0
def tw10697691045898599070:=0
def tw3205762097352579571:=0
def tw12488181719053092380:=0
def tw7226209477381247563:=0
def tw17787672942629920842:=0
def tw9556437673087033238:=0
def tw2276725884226933019:=0
def tw3270968802867746876:=0
def tw486467753559745099:=0
def tw964379601038141236:=0
def tw16730297780188024865:=0
def tw3313583454265772471:=0
def tw1797802808643392461:=0
def tw5309232118929947352:=0
def tw4185425435685413527:=0
def tw935080808595474244:=0
def tw3479396921443401566:=0
def tw3562550397505209113:=0
def tw13955569871030829710:=0
end PySem.W.Fast
open PySem PySem.W PyProof.Rows
set_option maxRecDepth 100000 in
set_option maxHeartbeats 0 in
theorem PySem.Challenge.cw_milehouse_s01_answers_holds : PySem.Challenge.rw_milehouse_s01_answers.Holds := by
 w_on; k_headS; (case hw => exact ⟨[.list [.int 15]], by decide +kernel, by decide +kernel⟩)
 k_fillS
 refine L2.walk_specK (r := PySem.Challenge.rw_milehouse_s01_answers) (k := 7) (CX := L2.CX0) (ps := ["calls"]) (sp := Mile.spAnswers) (by decide +kernel) rfl rfl ⟨rfl, by decide, by decide⟩ (fun w h Y => PySem.W.kIn_of Y) ?F ?S (fun _ _ _ _ z => z)
 case F =>
  intro w mg fa h Y KX G hmg
  refine' Mile.all_mk KX G hmg ?f_put_miles ?f_take_miles ?f_count_miles ?f_miles_before ?f_run_out_before ?f_oldest_first ?f_take_oldest ?f_make_pool ?f_end_pool ?f_pool_of ?f_at_hand ?f_book_award ?f_cost_of ?f_cancel_award ?f_set_rules ?f_add_member ?f_counts_on ?f_points_of_year ?f_tier_of ?f_earn_miles ?f_give_miles ?f_move_clock ?f_split_calls ?f_has_form ?f_is_in_range ?f_are_within ?f_try_plan ?f_goes_back ?f_tell_lots ?f_tell_tier ?f_tell_hand ?f_tell_forecast ?f_tell_totals ?f_tell_awards ?f_answer_call ?f_carry_out ?f_look_up ?cM ?cA ?cH ?n_NOT_OF_FORM ?n_OUT_OF_RANGE ?n_NO_MEMBER ?n_THERE_ALREADY ?n_AT_ODDS ?n_FULL ?n_TOO_FEW_MILES ?n_NO_AWARD ?n_WRONG_POOL ?n_TOO_EARLY ?n_MOST_POOLS ?n_MOST_AWARDS ?n_MOST_MEMBERS ?n_MOST_PAIRS ?n_LAST_OF_DAYS ?n_YEAR ?n_LAST_THAT_CHANGES ?z_sum ?z_sorted ?z_min ?z_enumerate ?z_any ?z_len ?z_set ?z_list ?z_zip ?z_dict ?tM_lots ?tM_points ?tA_asker ?tA_draws ?tH_today ?tH_life ?tH_bonuses ?tH_steps ?tH_members ?tH_pools ?tH_awards ?tH_earned ?tH_spent ?tH_returned ?tH_run_out ?a_forms ?d_forms ?a_ans ?l_ans ?c_ans ?k_ans
  (case cM => (refine' Mile.cat ?aC ?a ?i ?l ?c ?k ?pg ?hd ?po ?sa ?mk ?kc; (case aC => k_is); (case a => k_is); (case i => k_is); (case l => k_is); (case c => k_is); (case k => k_is); (case pg => k_is); (case hd => k_is); (case po => k_is); (case sa => k_is); (case mk => k_is); (case kc => k_is)))
  (case cA => (refine' Mile.cat ?aC ?a ?i ?l ?c ?k ?pg ?hd ?po ?sa ?mk ?kc; (case aC => k_is); (case a => k_is); (case i => k_is); (case l => k_is); (case c => k_is); (case k => k_is); (case pg => k_is); (case hd => k_is); (case po => k_is); (case sa => k_is); (case mk => k_is); (case kc => k_is)))
  (case cH => (refine' Mile.cat ?aC ?a ?i ?l ?c ?k ?pg ?hd ?po ?sa ?mk ?kc; (case aC => k_is); (case a => k_is); (case i => k_is); (case l => k_is); (case c => k_is); (case k => k_is); (case pg => k_is); (case hd => k_is); (case po => k_is); (case sa => k_is); (case mk => k_is); (case kc => k_is)))
  (case f_put_miles => (refine' Mile.fat ?a ?l ?c ?k; (case a => k_is); (case l => k_is); (case c => k_is); (case k => k_is)))
  (case f_take_miles => (refine' Mile.fat ?a ?l ?c ?k; (case a => k_is); (case l => k_is); (case c => k_is); (case k => k_is)))
  (case f_count_miles => (refine' Mile.fat ?a ?l ?c ?k; (case a => k_is); (case l => k_is); (case c => k_is); (case k => k_is)))
  (case f_miles_before => (refine' Mile.fat ?a ?l ?c ?k; (case a => k_is); (case l => k_is); (case c => k_is); (case k => k_is)))
  (case f_run_out_before => (refine' Mile.fat ?a ?l ?c ?k; (case a => k_is); (case l => k_is); (case c => k_is); (case k => k_is)))
  (case f_oldest_first => (refine' Mile.fat ?a ?l ?c ?k; (case a => k_is); (case l => k_is); (case c => k_is); (case k => k_is)))
  (case f_take_oldest => (refine' Mile.fat ?a ?l ?c ?k; (case a => k_is); (case l => k_is); (case c => k_is); (case k => k_is)))
  (case f_make_pool => (refine' Mile.fat ?a ?l ?c ?k; (case a => k_is); (case l => k_is); (case c => k_is); (case k => k_is)))
  (case f_end_pool => (refine' Mile.fat ?a ?l ?c ?k; (case a => k_is); (case l => k_is); (case c => k_is); (case k => k_is)))
  (case f_pool_of => (refine' Mile.fat ?a ?l ?c ?k; (case a => k_is); (case l => k_is); (case c => k_is); (case k => k_is)))
  (case f_at_hand => (refine' Mile.fat ?a ?l ?c ?k; (case a => k_is); (case l => k_is); (case c => k_is); (case k => k_is)))
  (case f_book_award => (refine' Mile.fat ?a ?l ?c ?k; (case a => k_is); (case l => k_is); (case c => k_is); (case k => k_is)))
  (case f_cost_of => (refine' Mile.fat ?a ?l ?c ?k; (case a => k_is); (case l => k_is); (case c => k_is); (case k => k_is)))
  (case f_cancel_award => (refine' Mile.fat ?a ?l ?c ?k; (case a => k_is); (case l => k_is); (case c => k_is); (case k => k_is)))
  (case f_set_rules => (refine' Mile.fat ?a ?l ?c ?k; (case a => k_is); (case l => k_is); (case c => k_is); (case k => k_is)))
  (case f_add_member => (refine' Mile.fat ?a ?l ?c ?k; (case a => k_is); (case l => k_is); (case c => k_is); (case k => k_is)))
  (case f_counts_on => (refine' Mile.fat ?a ?l ?c ?k; (case a => k_is); (case l => k_is); (case c => k_is); (case k => k_is)))
  (case f_points_of_year => (refine' Mile.fat ?a ?l ?c ?k; (case a => k_is); (case l => k_is); (case c => k_is); (case k => k_is)))
  (case f_tier_of => (refine' Mile.fat ?a ?l ?c ?k; (case a => k_is); (case l => k_is); (case c => k_is); (case k => k_is)))
  (case f_earn_miles => (refine' Mile.fat ?a ?l ?c ?k; (case a => k_is); (case l => k_is); (case c => k_is); (case k => k_is)))
  (case f_give_miles => (refine' Mile.fat ?a ?l ?c ?k; (case a => k_is); (case l => k_is); (case c => k_is); (case k => k_is)))
  (case f_move_clock => (refine' Mile.fat ?a ?l ?c ?k; (case a => k_is); (case l => k_is); (case c => k_is); (case k => k_is)))
  (case f_split_calls => (refine' Mile.fat ?a ?l ?c ?k; (case a => k_is); (case l => k_is); (case c => k_is); (case k => k_is)))
  (case f_has_form => (refine' Mile.fat ?a ?l ?c ?k; (case a => k_is); (case l => k_is); (case c => k_is); (case k => k_is)))
  (case f_is_in_range => (refine' Mile.fat ?a ?l ?c ?k; (case a => k_is); (case l => k_is); (case c => k_is); (case k => k_is)))
  (case f_are_within => (refine' Mile.fat ?a ?l ?c ?k; (case a => k_is); (case l => k_is); (case c => k_is); (case k => k_is)))
  (case f_try_plan => (refine' Mile.fat ?a ?l ?c ?k; (case a => k_is); (case l => k_is); (case c => k_is); (case k => k_is)))
  (case f_goes_back => (refine' Mile.fat ?a ?l ?c ?k; (case a => k_is); (case l => k_is); (case c => k_is); (case k => k_is)))
  (case f_tell_lots => (refine' Mile.fat ?a ?l ?c ?k; (case a => k_is); (case l => k_is); (case c => k_is); (case k => k_is)))
  (case f_tell_tier => (refine' Mile.fat ?a ?l ?c ?k; (case a => k_is); (case l => k_is); (case c => k_is); (case k => k_is)))
  (case f_tell_hand => (refine' Mile.fat ?a ?l ?c ?k; (case a => k_is); (case l => k_is); (case c => k_is); (case k => k_is)))
  (case f_tell_forecast => (refine' Mile.fat ?a ?l ?c ?k; (case a => k_is); (case l => k_is); (case c => k_is); (case k => k_is)))
  (case f_tell_totals => (refine' Mile.fat ?a ?l ?c ?k; (case a => k_is); (case l => k_is); (case c => k_is); (case k => k_is)))
  (case f_tell_awards => (refine' Mile.fat ?a ?l ?c ?k; (case a => k_is); (case l => k_is); (case c => k_is); (case k => k_is)))
  (case f_answer_call => (refine' Mile.fat ?a ?l ?c ?k; (case a => k_is); (case l => k_is); (case c => k_is); (case k => k_is)))
  (case f_carry_out => (refine' Mile.fat ?a ?l ?c ?k; (case a => k_is); (case l => k_is); (case c => k_is); (case k => k_is)))
  (case f_look_up => (refine' Mile.fat ?a ?l ?c ?k; (case a => k_is); (case l => k_is); (case c => k_is); (case k => k_is)))
  (case n_NOT_OF_FORM => (refine' Mile.nat_ ?a; (case a => k_is)))
  (case n_OUT_OF_RANGE => (refine' Mile.nat_ ?a; (case a => k_is)))
  (case n_NO_MEMBER => (refine' Mile.nat_ ?a; (case a => k_is)))
  (case n_THERE_ALREADY => (refine' Mile.nat_ ?a; (case a => k_is)))
  (case n_AT_ODDS => (refine' Mile.nat_ ?a; (case a => k_is)))
  (case n_FULL => (refine' Mile.nat_ ?a; (case a => k_is)))
  (case n_TOO_FEW_MILES => (refine' Mile.nat_ ?a; (case a => k_is)))
  (case n_NO_AWARD => (refine' Mile.nat_ ?a; (case a => k_is)))
  (case n_WRONG_POOL => (refine' Mile.nat_ ?a; (case a => k_is)))
  (case n_TOO_EARLY => (refine' Mile.nat_ ?a; (case a => k_is)))
  (case n_MOST_POOLS => (refine' Mile.nat_ ?a; (case a => k_is)))
  (case n_MOST_AWARDS => (refine' Mile.nat_ ?a; (case a => k_is)))
  (case n_MOST_MEMBERS => (refine' Mile.nat_ ?a; (case a => k_is)))
  (case n_MOST_PAIRS => (refine' Mile.nat_ ?a; (case a => k_is)))
  (case n_LAST_OF_DAYS => (refine' Mile.nat_ ?a; (case a => k_is)))
  (case n_YEAR => (refine' Mile.nat_ ?a; (case a => k_is)))
  (case n_LAST_THAT_CHANGES => (refine' Mile.nat_ ?a; (case a => k_is)))
  (case z_sum => k_is)
  (case z_sorted => k_is)
  (case z_min => k_is)
  (case z_enumerate => k_is)
  (case z_any => k_is)
  (case z_len => k_is)
  (case z_set => k_is)
  (case z_list => k_is)
  (case z_zip => k_is)
  (case z_dict => k_is)
  (case tM_lots => k_is)
  (case tM_points => k_is)
  (case tA_asker => k_is)
  (case tA_draws => k_is)
  (case tH_today => k_is)
  (case tH_life => k_is)
  (case tH_bonuses => k_is)
  (case tH_steps => k_is)
  (case tH_members => k_is)
  (case tH_pools => k_is)
  (case tH_awards => k_is)
  (case tH_earned => k_is)
  (case tH_spent => k_is)
  (case tH_returned => k_is)
  (case tH_run_out => k_is)
  (case a_forms => k_is); (case a_ans => k_is); (case l_ans => k_is); (case c_ans => k_is); (case k_ans => k_is)
  (case d_forms => kernel_rfl)
 case S =>
  intro K H xs a hO hwi hask hx
  cases hx with
  | cons h1 h2 =>
   cases h2
   cases h1 with
   | lst hs ha =>
    have e := L2.ints_dw a.1 _ ha
    subst e
    exact ⟨_, a.1, rfl, hs, hask, fun H' p hp => .lst (L2.SqL.of hp) (L2.dw_ints _)⟩
#print axioms PySem.Challenge.cw_milehouse_s01_answers_holds
