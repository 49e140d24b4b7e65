import PyProof.Rows.All
import Wide.All
import OpenK.AllK
import Wide.FinOn
import PyProof.EqAt
import PyProof.EqKinds
import PyProof.TupleCall
import KE.BitLaws
import Open.SpecLaws
import KE.OsHead
import KE.OsGo
import PySem.Challenge.RW_markedtext_s01_answers
import VaesccSpec
import VaesccNeutral
import PyVaescc
set_option Elab.async false
set_option linter.all false
set_option maxRecDepth 100000
set_option maxHeartbeats 0
theorem ML.well : PySem.Challenge.rw_markedtext_s01_answers.wellSaid = true := by decide +kernel
section
namespace L2
open PySem PySem.Spec PyProof.Rows
abbrev Key := Sum Int Str
def keyIs : Key → Value → Bool
 | .inl k, v => Value.isInt k v
 | .inr x, v => Value.isStrOf x v
def keyH (w : World) : Key → Int
 | .inl k => hashInt k
 | .inr x => hashStr w x
theorem keyIs_shape : ∀ {k : Key} {v : Value}, keyIs k v = true → (∃ i t, k = Sum.inl i ∧ v = Value.int i t) ∨ (∃ x t, k = Sum.inr x ∧ v = Value.str x t)
 | .inl i, v, h => by
  obtain ⟨t, e⟩ := Value.isInt_shape (k := i) (v := v) h
  exact .inl ⟨i, t, rfl, e⟩
 | .inr x, v, h => by
  obtain ⟨t, e⟩ := Value.isStrOf_shape (x := x) (v := v) h
  exact .inr ⟨x, t, rfl, e⟩
theorem keyIs_int (i : Int) (t : Tok) : keyIs (.inl i) (.int i t) = true := by simp [keyIs, Value.isInt]
theorem keyIs_str (x : Str) (t : Tok) : keyIs (.inr x) (.str x t) = true := by simp [keyIs, Value.isStrOf]
theorem key_ll (a b : Int) : decide ((Sum.inl a : Key) = Sum.inl b) = (a == b) := by
 by_cases e : a = b
 ·subst e; simp
 ·have h : ¬ (Sum.inl a : Key) = Sum.inl b := fun q => e (Sum.inl.inj q)
  rw [decide_eq_false h]
  exact (beq_eq_false_iff_ne.mpr e).symm
theorem key_rr (a b : Str) : decide ((Sum.inr a : Key) = Sum.inr b) = decide (a = b) := by
 by_cases e : a = b
 ·subst e; simp
 ·have h : ¬ (Sum.inr a : Key) = Sum.inr b := fun q => e (Sum.inr.inj q)
  rw [decide_eq_false h, decide_eq_false e]
theorem key_lr (a : Int) (b : Str) : decide ((Sum.inl a : Key) = Sum.inr b) = false := decide_eq_false (fun q => nomatch q)
theorem key_rl (a : Str) (b : Int) : decide ((Sum.inr a : Key) = Sum.inl b) = false := decide_eq_false (fun q => nomatch q)
def mixKind (prog : Program) (w : World) : PySem.KeyKind prog w Key where
 is := keyIs
 hash := keyH w
 inj := fun v a b ha hb => by
  rcases keyIs_shape ha with ⟨i, t, rfl, rfl⟩ | ⟨x, t, rfl, rfl⟩
  ·rcases keyIs_shape hb with ⟨j, u, rfl, e⟩ | ⟨y, u, rfl, e⟩
   ·injection e with e1 _; rw [e1]
   ·exact nomatch e
  ·rcases keyIs_shape hb with ⟨j, u, rfl, e⟩ | ⟨y, u, rfl, e⟩
   ·exact nomatch e
   ·injection e with e1 _; rw [e1]
 byValue := fun k v h => by
  rcases keyIs_shape h with ⟨i, t, rfl, rfl⟩ | ⟨x, t, rfl, rfl⟩ <;> rfl
 pyHash := fun hv h => by
  rcases keyIs_shape hv with ⟨i, t, rfl, rfl⟩ | ⟨x, t, rfl, rfl⟩
  ·exact wpAny_pyHash_int h
  ·exact wpAny_pyHash_str h
 eqBool := fun hu hv h => by
  rcases keyIs_shape hu with ⟨i, t, rfl, rfl⟩ | ⟨x, t, rfl, rfl⟩
  ·rcases keyIs_shape hv with ⟨j, u, rfl, rfl⟩ | ⟨y, u, rfl, rfl⟩
   ·rw [key_ll] at h; exact wpAny_eqBool_int h
   ·rw [key_lr] at h; exact SeqAt.EqAt.int_str i t y u _ _ _ _ h
  ·rcases keyIs_shape hv with ⟨j, u, rfl, rfl⟩ | ⟨y, u, rfl, rfl⟩
   ·rw [key_rl] at h; exact SeqAt.EqAt.str_int x t j u _ _ _ _ h
   ·rw [key_rr] at h; exact wpAny_eqBool_str h
 «strs» := fun k x t v h => by
  rcases keyIs_shape h with ⟨i, u, rfl, e⟩ | ⟨y, u, rfl, e⟩
  ·exact nomatch e
  ·injection e with e1 _
   subst e1
   cases v <;> rfl
theorem mixKind_int (prog : Program) (w : World) (i : Int) (t : Tok) : (mixKind prog w).is (.inl i) (.int i t) = true := keyIs_int i t
theorem mixKind_str (prog : Program) (w : World) (x : Str) (t : Tok) : (mixKind prog w).is (.inr x) (.str x t) = true := keyIs_str x t
inductive V where
 | non | bl (b : Bool) | int (i : Int) | str (x : Str) | byt (b : Array UInt8) | flt (b : UInt64) | ref (a : Addr) | ty (n : String)
 deriving DecidableEq
def RelV : V → Value → Prop
 | .non, u => u = Value.none
 | .bl b, u => u = Value.bool b
 | .int i, u => ∃ t, u = Value.int i t
 | .str x, u => ∃ t, u = Value.str x t
 | .byt b, u => ∃ t, u = Value.bytes b t
 | .flt b, u => ∃ t, u = Value.float b t
 | .ref a, u => u = Value.ref a
 | .ty n, u => u = Value.type n
abbrev Vals : List V → List Value → Prop := Paired RelV
theorem Vals.length {xs : List V} {us : List Value} (r : Vals xs us) : xs.length = us.length := Paired.length r
theorem Vals.get : ∀ {xs : List V} {us : List Value} {i : Nat} {x : V}, Vals xs us → xs[i]? = some x → ∃ u, us[i]? = some u ∧ RelV x u
 | _, _, _, _, .nil, e => by simp at e
 | _, _, 0, _, .cons r _, e => by simp at e; subst e; exact ⟨_, rfl, r⟩
 | _, _, i + 1, x, .cons _ t, e => by
  obtain ⟨u, h1, h2⟩ := Vals.get (i := i) (x := x) t (by simpa using e)
  exact ⟨u, by simpa using h1, h2⟩
theorem Vals.set {x : V} {u : Value} (r : RelV x u) : ∀ {xs : List V} {us : List Value} (i : Nat), Vals xs us → Vals (xs.set i x) (us.set i u)
 | _, _, _, .nil => .nil
 | _, _, 0, .cons _ t => .cons r t
 | _, _, i + 1, .cons q t => .cons q (Vals.set r i t)
theorem Vals.append : ∀ {xs ys : List V} {us ws : List Value}, Vals xs us → Vals ys ws → Vals (xs ++ ys) (us ++ ws)
 | _, _, _, _, .nil, s => s
 | _, _, _, _, .cons r t, s => .cons r (Vals.append t s)
theorem Vals.take : ∀ {xs : List V} {us : List Value} (n : Nat), Vals xs us → Vals (xs.take n) (us.take n)
 | _, _, 0, _ => .nil
 | _, _, _ + 1, .nil => .nil
 | _, _, n + 1, .cons r t => .cons r (Vals.take n t)
theorem Vals.drop : ∀ {xs : List V} {us : List Value} (n : Nat), Vals xs us → Vals (xs.drop n) (us.drop n)
 | _, _, 0, r => r
 | _, _, _ + 1, .nil => .nil
 | _, _, n + 1, .cons _ t => Vals.drop n t
theorem Vals.none_of : ∀ {xs : List V} {us : List Value} {i : Nat}, Vals xs us → xs[i]? = none → us[i]? = none := fun {xs us i} r e => by
 have h1 := r.length
 have h2 : xs.length ≤ i := List.getElem?_eq_none_iff.mp e
 exact List.getElem?_eq_none_iff.mpr (by omega)
def RelO : Option V → Option Value → Prop
 | some v, some u => RelV v u
 | none, none => True
 | _, _ => False
def KV {κ : Type} : List (κ × V) → List (κ × Value) → Prop := Paired fun (p : κ × V) (q : κ × Value) => p.1 = q.1 ∧ RelV p.2 q.2
def kV : Key → V
 | .inl i => .int i
 | .inr x => .str x
inductive HO where
 | lst (xs : List V)
 | tup (xs : List V)
 | dK (kvs : List (Key × V)) | dT (kvs : List (List Key × V))
 | set (S : Int → Bool) (n : Nat)
 | ins (C dx : Addr) (fs : List (Str × V))
 | own (x : Addr)
 | xd (fs : List (Str × V))
 | met (f x : Addr)
 | rng (lo hi : Int)
 | frz (o : Obj) (u : HO)
 | tbl (ps : Array Value)
 | ext (φ : Heap → Prop)
abbrev Hp := Addr → Option HO
def upd (H : Hp) (a : Addr) (o : HO) : Hp := fun b => if b = a then some o else H b
theorem upd_same {H : Hp} {a : Addr} {o : HO} : upd H a o a = some o := by unfold upd; rw [if_pos rfl]
theorem upd_ne {H : Hp} {a b : Addr} {o : HO} (h : b ≠ a) : upd H a o b = H b := by unfold upd; rw [if_neg h]
theorem ne_of {H : Hp} {a b : Addr} {o u : HO} (h : H a = some o) (h' : H b = some u) (d : o ≠ u) : a ≠ b := by
 intro e; subst e; rw [h] at h'; exact d (Option.some.inj h')
theorem ne_of_none {H : Hp} {a b : Addr} {o : HO} (h : H a = some o) (h' : H b = none) : a ≠ b := by
 intro e; subst e; rw [h] at h'; cases h'
section
variable (P : Program) (w : World)
def ObjOk (H : Hp) (h : Heap) (a : Addr) : HO → Prop
 | .lst xs => xs.length ≤ sizeLine ∧ ∃ (its : List Value) (n : Nat), Vals xs its ∧ h.get? a = some { cls := .type "list", data := .seq its.toArray n }
 | .tup xs => xs.length ≤ sizeLine ∧ ∃ its : List Value, Vals xs its ∧ IsTup h a its.toArray
 | .dK kvs => kvs.length ≤ sizeLine ∧ (a == sysModules) = false ∧ ∃ vs, KV kvs vs ∧ h.DictOf (mixKind P w) a vs
 | .dT kvs => kvs.length ≤ sizeLine ∧ (a == sysModules) = false ∧ ∃ xs : List (List Key × Addr × Value),
   Paired (fun (p : List Key × V) (q : List Key × Addr × Value) => p.1 = q.1 ∧ H q.2.1 = some (.tup (p.1.map kV)) ∧ RelV p.2 q.2.2) kvs xs ∧
   ∃ o es ep, h.get? a = some o ∧ o.ExactDict ∧ o.data = .dict es ep ∧ es.toList = xs.map (entryOfKey (tupleKind (mixKind P w))) ∧ (xs.map (·.1)).Nodup
 | .set S n => h.SetOf (intKind P w) a S n
 | .ins C dx fs => H dx = some (.own a) ∧ fs.length ≤ 1000 ∧ dx ≠ a ∧ h.get? a = some (PySem.W.instObj C dx) ∧
   ∃ mA, h.Ns1 dx mA ∧ (∀ f, RelO (fs.lookup f) (mA f)) ∧ PySem.Within mA (fs.map (·.1))
 | .own _ => ∃ o, h.get? a = some o
 | .xd fs => ∃ mA, h.Ns1 a mA ∧ ∀ f, RelO (fs.lookup f) (mA f)
 | .rng lo hi => ∃ t u v, h.get? a = some { cls := .type "range", data := .fields #[.int lo t, .int hi u, .int 1 v] }
 | .frz o u => h.get? a = some o ∧ ObjOk H h a u
 | .tbl ps => h.get? a = some { cls := .none, data := .fields ps }
 | .met f x => h.get? a = some (PySem.W.methodObj (.ref f) (.ref x))
 | .ext φ => φ h ∧ (∃ o, h.get? a = some o) ∧ ∀ h1 h2 : Heap, φ h1 → (∀ o, h1.get? a = some o → h2.get? a = some o) → φ h2
def HOk (H : Hp) (h : Heap) : Prop := ∀ a o, H a = some o → ObjOk P w H h a o
end
section
variable {P : Program} {w : World} {H H' : Hp} {h h' : Heap} {a : Addr} {o : HO}
theorem ObjOk.lt (x : ObjOk P w H h a o) : a < h.objs.size := by
 cases o with
 | lst xs => obtain ⟨_, _, _, _, e⟩ := x; exact Heap.lt_size e
 | tup xs => obtain ⟨_, _, _, p⟩ := x; exact p.lt
 | dK kvs => obtain ⟨_, _, _, _, o, _, _, e, _⟩ := x; exact Heap.lt_size e
 | dT kvs => obtain ⟨_, _, _, _, o, _, _, e, _⟩ := x; exact Heap.lt_size e
 | set S n => obtain ⟨o, _, _, _, e, _⟩ := x; exact Heap.lt_size e
 | ins C dx fs => obtain ⟨_, _, _, e, _⟩ := x; exact Heap.lt_size e
 | own y => obtain ⟨_, e⟩ := x; exact Heap.lt_size e
 | xd fs => obtain ⟨_, ⟨_, _, _, e, _⟩, _⟩ := x; exact Heap.lt_size e
 | rng lo hi => obtain ⟨_, _, _, e⟩ := x; exact Heap.lt_size e
 | frz ob u => obtain ⟨e, _⟩ := x; exact Heap.lt_size e
 | tbl ps => exact Heap.lt_size (show h.get? a = some _ from x)
 | met f y => exact Heap.lt_size (show h.get? a = some _ from x)
 | ext φ => obtain ⟨_, ⟨_, e⟩, _⟩ := x; exact Heap.lt_size e
theorem Paired.mapP {α β : Type} {F G : α → β → Prop} : ∀ {l₁ : List α} {l₂ : List β}, Paired F l₁ l₂ → (∀ a b, F a b → G a b) → Paired G l₁ l₂
 | _, _, .nil, _ => .nil
 | _, _, .cons r t, f => .cons (f _ _ r) (Paired.mapP t f)
theorem ObjOk.stay (x : ObjOk P w H h a o) (k : ∀ b u, (b = a ∨ H b = some (.own a)) → h.get? b = some u → h'.get? b = some u)
  (ho : ∀ b, H b = some (.own a) → H' b = some (.own a)) (ht : ∀ b xs, H b = some (.tup xs) → H' b = some (.tup xs)) : ObjOk P w H' h' a o := by
 induction o with
 | lst xs => obtain ⟨z, its, n, r, e⟩ := x; exact ⟨z, its, n, r, k _ _ (.inl rfl) e⟩
 | tup xs => obtain ⟨z, its, r, ob, e, c⟩ := x; exact ⟨z, its, r, ob, k _ _ (.inl rfl) e, c⟩
 | dK kvs => obtain ⟨z, y, vs, r, ob, es, ep, e, c⟩ := x; exact ⟨z, y, vs, r, ob, es, ep, k _ _ (.inl rfl) e, c⟩
 | dT kvs =>
  obtain ⟨z, y, xs, r, ob, es, ep, e, c⟩ := x
  exact ⟨z, y, xs, Paired.mapP r fun p q z => ⟨z.1, ht _ _ z.2.1, z.2.2⟩, ob, es, ep, k _ _ (.inl rfl) e, c⟩
 | set S n => obtain ⟨ob, es, ep, t, e, c⟩ := x; exact ⟨ob, es, ep, t, k _ _ (.inl rfl) e, c⟩
 | ins C dx fs =>
  obtain ⟨d, z, ne, e, mA, ⟨od, es, ep, e2, c⟩, r⟩ := x
  exact ⟨ho _ d, z, ne, k _ _ (.inl rfl) e, mA, ⟨od, es, ep, k _ _ (.inr d) e2, c⟩, r⟩
 | own y => obtain ⟨ob, e⟩ := x; exact ⟨ob, k _ _ (.inl rfl) e⟩
 | xd fs => obtain ⟨mA, ⟨od, es, ep, e, c⟩, r⟩ := x; exact ⟨mA, ⟨od, es, ep, k _ _ (.inl rfl) e, c⟩, r⟩
 | rng lo hi => obtain ⟨t, u, v, e⟩ := x; exact ⟨t, u, v, k _ _ (.inl rfl) e⟩
 | frz ob u ih => obtain ⟨e, q⟩ := x; exact ⟨k _ _ (.inl rfl) e, ih q⟩
 | tbl ps =>
  have e : h.get? a = some { cls := .none, data := .fields ps } := x
  show h'.get? a = some { cls := .none, data := .fields ps }
  exact k a _ (.inl rfl) e
 | met f y =>
  have e : h.get? a = some (PySem.W.methodObj (.ref f) (.ref y)) := x
  show h'.get? a = some (PySem.W.methodObj (.ref f) (.ref y))
  exact k a _ (.inl rfl) e
 | ext φ => obtain ⟨p, ⟨o, e⟩, st⟩ := x; exact ⟨st _ _ p fun o q => k _ _ (.inl rfl) q, ⟨o, k _ _ (.inl rfl) e⟩, st⟩
theorem HOk.lt (x : HOk P w H h) (e : H a = some o) : a < h.objs.size := (x a o e).lt
theorem HOk.fresh (x : HOk P w H h) (e : h.objs.size ≤ a) : H a = none := by
 cases q : H a with
 | none => rfl
 | some u => exact absurd (Nat.lt_of_lt_of_le (x.lt q) e) (Nat.lt_irrefl _)
theorem HOk.kept (x : HOk P w H h) (k : ∀ b u, h.get? b = some u → h'.get? b = some u) : HOk P w H h' := fun a o e =>
 (x a o e).stay (fun b u _ q => k b u q) (fun _ q => q) fun _ _ q => q
theorem HOk.laid (x : HOk P w H h) (k : ∀ b u, h.get? b = some u → h'.get? b = some u) (hp : h.objs.size ≤ a) (new : ObjOk P w (upd H a o) h' a o) : HOk P w (upd H a o) h' := fun b u e => by
 have hn := x.fresh hp
 by_cases hb : b = a
 ·subst hb; rw [upd_same] at e; cases e; exact new
 ·rw [upd_ne hb] at e
  exact (x b u e).stay (fun c v _ q => k c v q) (fun c q => by rw [upd_ne (ne_of_none q hn)]; exact q) fun c xs q => by rw [upd_ne (ne_of_none q hn)]; exact q
end
def Rd (H : Hp) (a : Addr) (u : HO) : Prop := H a = some u ∨ ∃ o, H a = some (.frz o u)
theorem Rd.of {H : Hp} {a : Addr} {u : HO} (h : H a = some u) : Rd H a u := .inl h
theorem Rd.ok {P : Program} {w : World} {H : Hp} {h : Heap} {a : Addr} {u : HO} (r : Rd H a u) (x : HOk P w H h) : ObjOk P w H h a u := by
 rcases r with r | ⟨o, r⟩
 ·exact x a u r
 ·obtain ⟨_, q⟩ := x a _ r
  exact q
def Mut : Option HO → Prop
 | some (.lst _) => True
 | some (.dK _) => True
 | some (.dT _) => True
 | some (.set _ _) => True
 | some (.ins _ _ _) => True
 | some (.ext _) => True
 | _ => False
section
variable {P : Program} {w : World} {H : Hp} {h h' : Heap} {x e : Addr} {o' : HO}
theorem HOk.write (ok : HOk P w H h) (mu : Mut (H x)) (he : e = x ∨ H e = some (.own x)) (k : ∀ b u, b ≠ e → h.get? b = some u → h'.get? b = some u) (heo : ∃ u, h'.get? e = some u)
  (new : ObjOk P w (upd H x o') h' x o') : HOk P w (upd H x o') h' := fun b u q => by
 have nown : ∀ c y, H c = some (.own y) → c ≠ x := fun c y r z => by subst z; rw [r] at mu; exact mu
 have ntup : ∀ c xs, H c = some (.tup xs) → c ≠ x := fun c xs r z => by subst z; rw [r] at mu; exact mu
 by_cases hb : b = x
 ·subst hb; rw [upd_same] at q; cases q; exact new
 ·rw [upd_ne hb] at q
  by_cases hbe : b = e
  ·have q' : H b = some (.own x) := by
    rcases he with z | z
    ·exact absurd (hbe.trans z) hb
    ·rw [hbe]; exact z
   rw [q] at q'; cases q'
   obtain ⟨v, hv⟩ := heo
   exact ⟨v, by rw [hbe]; exact hv⟩
  ·refine (ok b u q).stay (fun c v hc r => k c v ?_ r) (fun c r => by rw [upd_ne (nown c b r)]; exact r) fun c xs r => by rw [upd_ne (ntup c xs r)]; exact r
   rcases hc with rfl | hc
   ·exact hbe
   ·rintro rfl
    rcases he with z | z
    ·exact nown c b hc z
    ·rw [hc] at z; cases z; exact hb rfl
end
structure Un (fs ex : List Addr) (H H' : Hp) (h h' : Heap) : Prop where
 keep : ∀ b o, h.get? b = some o → H b = none → b ∉ fs → b ∉ ex → h'.get? b = some o
 slot : ∀ b o, h.get? b = some o → H b = none → b ∈ fs → b ∉ ex → ∃ sl, h'.get? b = some { o with slots := sl }
 free : ∀ b o, h.get? b = some o → H b = none → b ∉ ex → H' b = none
 there : ∀ b o, h.get? b = some o → b ∉ ex → ∃ o', h'.get? b = some o'
 tups : ∀ b xs, H b = some (.tup xs) → H' b = some (.tup xs)
 frzs : ∀ b o u, H b = some (.frz o u) → H' b = some (.frz o u)
 tbls : ∀ b ps, H b = some (.tbl ps) → ∃ more, H' b = some (.tbl (ps ++ more))
section
variable {fs fs' ex ex' : List Addr} {H H1 H2 : Hp} {h h1 h2 h' : Heap} {a x e : Addr} {o : HO}
theorem Un.any (u : Un fs ex H H1 h h1) {b : Addr} {ob : Obj} (q : h.get? b = some ob) (n : H b = none) (hx : b ∉ ex) : ∃ sl, h1.get? b = some { ob with slots := sl } := by
 by_cases hb : b ∈ fs
 ·exact u.slot b ob q n hb hx
 ·exact ⟨ob.slots, u.keep b ob q n hb hx⟩
theorem Un.trans (a : Un fs ex H H1 h h1) (b : Un fs ex H1 H2 h1 h2) : Un fs ex H H2 h h2 where
 keep := fun c ob q n hc hx => b.keep c ob (a.keep c ob q n hc hx) (a.free c ob q n hx) hc hx
 slot := fun c ob q n hc hx => by
  obtain ⟨sl, e1⟩ := a.slot c ob q n hc hx
  obtain ⟨sl', e2⟩ := b.slot c _ e1 (a.free c ob q n hx) hc hx
  exact ⟨sl', e2⟩
 free := fun c ob q n hx => by
  obtain ⟨o', e1⟩ := a.there c ob q hx
  exact b.free c o' e1 (a.free c ob q n hx) hx
 there := fun c ob q hx => by
  obtain ⟨o', e1⟩ := a.there c ob q hx
  exact b.there c o' e1 hx
 tups := fun c xs q => b.tups c xs (a.tups c xs q)
 frzs := fun c ob xs q => b.frzs c ob xs (a.frzs c ob xs q)
 tbls := fun c ps q => by
  obtain ⟨m1, e1⟩ := a.tbls c ps q
  obtain ⟨m2, e2⟩ := b.tbls c _ e1
  exact ⟨m1 ++ m2, by rw [e2, Array.append_assoc]⟩
theorem Un.kept (k : ∀ b u, h.get? b = some u → h'.get? b = some u) : Un fs ex H H h h' :=
 ⟨fun b ob q _ _ _ => k b ob q, fun b ob q _ _ _ => ⟨ob.slots, k b ob q⟩, fun _ _ _ n _ => n, fun b ob q _ => ⟨ob, k b ob q⟩, fun _ _ q => q, fun _ _ _ q => q, fun _ ps q => ⟨#[], by rw [q]; simp⟩⟩
theorem Un.refl : Un fs ex H H h h := Un.kept fun _ _ q => q
theorem Un.laid (k : ∀ b u, h.get? b = some u → h'.get? b = some u) (hp : h.objs.size ≤ a) (hn : H a = none) : Un fs ex H (upd H a o) h h' where
 keep := fun b u q _ _ _ => k b u q
 slot := fun b u q _ _ _ => ⟨u.slots, k b u q⟩
 free := fun b u q n _ => by rw [upd_ne (Nat.ne_of_lt (Nat.lt_of_lt_of_le (Heap.lt_size q) hp))]; exact n
 there := fun b u q _ => ⟨u, k b u q⟩
 tups := fun b xs q => by rw [upd_ne (ne_of_none q hn)]; exact q
 frzs := fun b u xs q => by rw [upd_ne (ne_of_none q hn)]; exact q
 tbls := fun b ps q => ⟨#[], by rw [upd_ne (ne_of_none q hn), q]; simp⟩
theorem Un.write (mu : Mut (H x)) (he : e = x ∨ H e = some (.own x)) (k : ∀ b u, b ≠ e → h.get? b = some u → h'.get? b = some u) (heo : ∃ u, h'.get? e = some u) : Un fs ex H (upd H x o) h h' := by
 have hx : ∀ b, H b = none → b ≠ x := fun b n z => by subst z; rw [n] at mu; exact mu
 have hb : ∀ b, H b = none → b ≠ e := fun b n z => by
  subst z
  rcases he with r | r
  ·exact hx b n r
  ·rw [n] at r; cases r
 have hm : ∀ b u, H b = some u → ¬ Mut (some u) → b ≠ x := fun b u q nm z => by subst z; rw [q] at mu; exact nm mu
 refine ⟨fun b u q n _ _ => k b u (hb b n) q, fun b u q n _ _ => ⟨u.slots, k b u (hb b n) q⟩, fun b u q n _ => by rw [upd_ne (hx b n)]; exact n, fun b u q _ => ?_,
  fun b xs q => by rw [upd_ne (hm b _ q fun z => z)]; exact q, fun b u xs q => by rw [upd_ne (hm b _ q fun z => z)]; exact q, fun b ps q => ⟨#[], by rw [upd_ne (hm b _ q fun z => z), q]; simp⟩⟩
 by_cases hbe : b = e
 ·subst hbe; exact heo
 ·exact ⟨u, k b u hbe q⟩
theorem Un.mono (u : Un fs ex H H1 h h1) (hs : ∀ b ∈ fs, b ∈ fs') (hx : ∀ b ∈ ex, b ∈ ex') : Un fs' ex' H H1 h h1 :=
 ⟨fun b ob q n hb he => u.keep b ob q n (fun z => hb (hs b z)) fun z => he (hx b z), fun _ _ q n _ he => u.any q n fun z => he (hx _ z), fun b ob q n he => u.free b ob q n fun z => he (hx b z), fun b ob q he => u.there b ob q fun z => he (hx b z), u.tups, u.frzs, u.tbls⟩
end
def trk (h : Heap) (H : Hp) : List Addr := (List.range h.objs.size).filter fun a => (H a).isSome
def hidT (h : Heap) (H : Hp) : Heap := PySem.W.hideAll h (trk h H)
theorem hidT_size (h : Heap) (H : Hp) : (hidT h H).objs.size = h.objs.size := PySem.W.hideAll_size _ _
theorem hidT_get {h : Heap} {H : Hp} {b : Addr} {o : Obj} (e : h.get? b = some o) (n : H b = none) : (hidT h H).get? b = some o :=
 PySem.W.hideAll_get _ e fun hm => by
  have q : (H b).isSome = true := (List.mem_filter.mp hm).2
  rw [n] at q; simp at q
theorem of_hidT {h : Heap} {H : Hp} {b : Addr} {o : Obj} (e : (hidT h H).get? b = some o) : h.get? b = some o ∧ H b = none := by
 have e' : h.get? b = some o := PySem.W.of_hideAll (trk h H) e
 refine ⟨e', ?_⟩
 cases q : H b with
 | none => rfl
 | some x =>
  have hm : b ∈ trk h H := List.mem_filter.mpr ⟨List.mem_range.mpr (Heap.lt_size e'), by simp [q]⟩
  have z : (hidT h H).get? b = none := PySem.W.hideAll_none (trk h H) hm
  rw [z] at e; cases e
def allNews (g h : Heap) (L : Addr) : List (Addr × Obj) := (List.range h.objs.size).filterMap fun a => if a = L ∨ (g.get? a).isSome = true then none else (h.get? a).map fun o => (a, o)
def rest (g h : Heap) (L d : Addr) : List (Addr × Obj) := (allNews g h L).filter fun p => decide (p.1 ≠ d)
structure Mod (K : PySem.W.Frag) (mg : Str → Option Value) (base : Heap) : Prop where
 kin : K.In base
 glob : base.Ns mainGlobals mg
 blt : ∃ mb, base.Ns builtinsNs mb ∧ ∀ x : Str, x ≠ "__name__" → mb x = bootBuiltins x
 nolimit : base.NoLimit
structure Cx where
 prog : Program
 w : World
 K : PySem.W.Frag
 mg : Str → Option Value
 base : Heap
 A : Around
 N : List Str
 s_0 : Shared
 H_0 : Hp
 env : Env
 outer : List Env
 stack : List Env
 ex : List Addr
 fn : Str → Bool
 calm : Bool
 pn : List (Addr × Obj)
 xe : Value → Shared → Prop
def frs (l : List Env) : List Addr := l.filterMap (·.frame)
abbrev Cx.fs (X : Cx) : List Addr := frs X.outer
def Vis (sc : Scope) (x : Str) : Prop := sc.names.lookup x = some .local ∨ sc.names.lookup x = some .cell ∨ sc.names.lookup x = some .free
def Loc (sc : Scope) (x : Str) : Prop := sc.names.lookup x = some .local ∨ sc.names.lookup x = some .cell
def Look (env : Env) (h : Heap) (m : Str → Option Value) (x : Str) (u : Value) : Prop :=
 (env.kindOf x = some .local ∧ m x = some u) ∨ ((env.kindOf x = some .cell ∨ env.kindOf x = some .free) ∧ ∃ c, env.cells.lookup x = some c ∧ h.IsCell c (some u))
structure Cx.Ok (X : Cx) : Prop where
 mod : Mod X.K X.mg X.base
 kind : X.env.scope.kind = .function
 glob : X.env.globals = mainGlobals
 blt : X.env.builtins = builtinsNs
 above : X.s_0.heap.objs.size ≤ X.env.locals
 inj : ∀ x y c, X.env.cells.lookup x = some c → X.env.cells.lookup y = some c → x = y
 has : ∀ x, (X.env.kindOf x = some .cell ∨ X.env.kindOf x = some .free) → ∃ c, X.env.cells.lookup x = some c
 cab : ∀ x c, X.fn x = true → X.env.cells.lookup x = some c → X.s_0.heap.objs.size ≤ c
 hd : X.calm = true → X.A.handled = none
 frames : X.A.frames = some X.stack
 stk : X.stack = X.outer ∨ (X.stack = X.env :: X.outer ∧ X.env.frame = some X.env.locals)
 exf : ∀ b ∈ X.ex, b ≠ X.env.locals ∧ ∀ x c, X.env.cells.lookup x = some c → c ≠ b
 bs : ∀ b o, X.base.get? b = some o → X.s_0.heap.get? b = some o ∧ X.H_0 b = none
 bsz : X.base.objs.size ≤ X.s_0.heap.objs.size
 noex : ∀ b o, X.base.get? b = some o → b ∉ X.ex
 exfs : ∀ b ∈ X.ex, b ∉ X.fs
 funs : X.s_0.heap.FunFrames X.base X.outer
 frf : ∀ b ∈ X.fs, X.H_0 b = none
structure Inv (X : Cx) (pins : List (Addr × Obj)) (σ : List (Option V)) (H : Hp) (s : Shared) : Prop where
 ok : X.Ok
 os : s.os = X.s_0.os
 bare : AllBare s.gens
 base : Un X.fs X.ex X.H_0 H X.s_0.heap s.heap
 loc : ∃ m, s.heap.Ns X.env.locals m ∧ ∀ (i : Nat) (x : Str) (v : V), X.N[i]? = some x → σ[i]? = some (some v) → Vis X.env.scope x → ∃ u, RelV v u ∧ Look X.env s.heap m x u
 cell : ∀ x c, X.env.cells.lookup x = some c → ∃ v, s.heap.IsCell c v
 free : H X.env.locals = none
 freeC : ∀ x c, X.env.cells.lookup x = some c → H c = none
 pin : ∀ p ∈ X.pn ++ pins, s.heap.get? p.1 = some p.2 ∧ H p.1 = none ∧ p.1 ≠ X.env.locals ∧ p.1 ∉ X.fs ∧ ∀ v, p.2.data ≠ .cell v
 hok : HOk X.prog X.w H s.heap
 len : σ.length = X.N.length
section
variable {X : Cx} {pins : List (Addr × Obj)} {σ : List (Option V)} {H H' : Hp} {s : Shared} {h' : Heap}
theorem Cx.Ok.nofr (ok : X.Ok) {b : Addr} {o : Obj} (e : X.base.get? b = some o) : b ∉ X.fs := fun hb => by
 have := (ok.funs.mem hb).1
 rw [e] at this; cases this
theorem Inv.bs (I : Inv X pins σ H s) : ∀ b o, X.base.get? b = some o → s.heap.get? b = some o ∧ H b = none := fun b o e =>
 ⟨I.base.keep b o (I.ok.bs b o e).1 (I.ok.bs b o e).2 (I.ok.nofr e) (I.ok.noex b o e), I.base.free b o (I.ok.bs b o e).1 (I.ok.bs b o e).2 (I.ok.noex b o e)⟩
theorem Inv.bk (I : Inv X pins σ H s) : ∀ b o, X.base.get? b = some o → s.heap.get? b = some o := fun b o e => (I.bs b o e).1
theorem Inv.mod (I : Inv X pins σ H s) : Mod X.K X.mg X.base := I.ok.mod
theorem Inv.kIn (I : Inv X pins σ H s) : X.K.In s.heap := I.ok.mod.kin.keeps I.bk
theorem Inv.nolimit (I : Inv X pins σ H s) : s.heap.NoLimit := I.ok.mod.nolimit.keeps I.bk
theorem Inv.lt (I : Inv X pins σ H s) : X.env.locals < s.heap.objs.size := let ⟨_, hn, _⟩ := I.loc; hn.lt
theorem Inv.sz (I : Inv X pins σ H s) : X.s_0.heap.objs.size ≤ s.heap.objs.size := Nat.le_trans I.ok.above (Nat.le_of_lt I.lt)
theorem Inv.nofs (I : Inv X pins σ H s) {a : Addr} (h : s.heap.objs.size ≤ a) : a ∉ X.fs := fun hb => by
 obtain ⟨_, o, ho, _⟩ := I.ok.funs.mem hb
 exact absurd (Nat.lt_of_lt_of_le (Heap.lt_size ho) (Nat.le_trans I.sz h)) (Nat.lt_irrefl _)
theorem Inv.cne (I : Inv X pins σ H s) : ∀ x c, X.env.cells.lookup x = some c → c ≠ X.env.locals := fun x c e z => by
 obtain ⟨v, o, ho, hd⟩ := I.cell x c e
 obtain ⟨m, ⟨o', es, ep, ho', hd', _⟩, _⟩ := I.loc
 rw [z, ho'] at ho; cases ho; rw [hd'] at hd; cases hd
theorem Inv.funs (I : Inv X pins σ H s) : s.heap.FunFrames X.base X.outer := by
 have all : ∀ (l : List Env), (∀ b ∈ frs l, b ∈ X.fs) → X.s_0.heap.FunFrames X.base l → s.heap.FunFrames X.base l := by
  intro l
  induction l with
  | nil => intro _ _; trivial
  | cons env r ih =>
   intro hs hl
   obtain ⟨hk, ⟨L, o, hf, hn, ho, hd⟩, hr⟩ := hl
   have hL : L ∈ X.fs := hs L (by unfold frs; rw [List.filterMap_cons, hf]; exact List.mem_cons_self)
   obtain ⟨sl, e⟩ := I.base.slot L o ho (I.ok.frf L hL) hL fun z => I.ok.exfs L z hL
   exact ⟨hk, ⟨L, _, hf, hn, e, hd⟩, ih (fun b hb => hs b (by unfold frs; rw [List.filterMap_cons, hf]; exact List.mem_cons_of_mem _ hb)) hr⟩
 exact all X.outer (fun _ hb => hb) I.ok.funs
theorem Inv.stack (I : Inv X pins σ H s) : s.heap.FunFrames X.base X.stack := by
 rcases I.ok.stk with e | ⟨e, hf⟩
 ·rw [e]; exact I.funs
 ·rw [e]
  obtain ⟨m, hn, _⟩ := I.loc
  refine .cons (by rw [I.ok.kind]; decide) hf hn ?_ I.funs
  exact Heap.get?_none_of_le (Nat.le_trans I.ok.bsz I.ok.above)
theorem Inv.stkSub (I : Inv X pins σ H s) : ∀ b ∈ frs X.stack, b ∈ X.env.locals :: X.fs := fun b hb => by
 rcases I.ok.stk with e | ⟨e, hf⟩
 ·rw [e] at hb; exact List.mem_cons_of_mem _ hb
 ·rw [e] at hb
  unfold frs at hb
  rw [List.filterMap_cons, hf] at hb
  exact hb
theorem Inv.stkFree (I : Inv X pins σ H s) : ∀ b ∈ frs X.stack, H b = none := fun b hb => by
 rcases List.mem_cons.mp (I.stkSub b hb) with e | hb
 ·rw [e]; exact I.free
 ·obtain ⟨_, o, ho, _⟩ := I.ok.funs.mem hb
  exact I.base.free b o ho (I.ok.frf b hb) fun z => I.ok.exfs b z hb
theorem Inv.step {g' : Array GenState} {t' : Nat} {d' : Drawn} {ch : List Addr} (I : Inv X pins σ H s)
  (hch : ∀ b ∈ ch, (b ∈ X.ex ∨ X.s_0.heap.objs.size ≤ b) ∧ b ≠ X.env.locals ∧ (∀ x c, X.env.cells.lookup x = some c → c ≠ b) ∧ ∀ p ∈ X.pn ++ pins, p.1 ≠ b)
  (keep : ∀ b o, b ≠ X.env.locals → b ∉ X.fs → b ∉ ch → s.heap.get? b = some o → H b = none → h'.get? b = some o)
  (slot : ∀ b o, b ≠ X.env.locals → b ∈ X.fs → b ∉ ch → s.heap.get? b = some o → H b = none → ∃ sl, h'.get? b = some { o with slots := sl }) (free : ∀ b o, b ∉ ch → s.heap.get? b = some o → H b = none → H' b = none)
  (there : ∀ b o, b ∉ ch → s.heap.get? b = some o → ∃ o', h'.get? b = some o')
  (tups : ∀ b xs, H b = some (.tup xs) → H' b = some (.tup xs)) (frzs : ∀ b o u, H b = some (.frz o u) → H' b = some (.frz o u)) (tbls : ∀ b ps, H b = some (.tbl ps) → ∃ more, H' b = some (.tbl (ps ++ more)))
  (ns : ∀ m, s.heap.Ns X.env.locals m → h'.Ns X.env.locals m) (hok : HOk X.prog X.w H' h') (hg : AllBare g') :
  Inv X pins σ H' { s with heap := h', gens := g', drawn := d', toks := t' } := by
 have neL : ∀ b o, X.s_0.heap.get? b = some o → b ≠ X.env.locals := fun b o e => Nat.ne_of_lt (Nat.lt_of_lt_of_le (Heap.lt_size e) I.ok.above)
 have neC : ∀ b o, X.s_0.heap.get? b = some o → b ∉ X.ex → b ∉ ch := fun b o e hx hb => by
  rcases (hch b hb).1 with z | z
  ·exact hx z
  ·exact absurd (Nat.lt_of_lt_of_le (Heap.lt_size e) z) (Nat.lt_irrefl _)
 have cellK : ∀ x c, X.env.cells.lookup x = some c → ∀ v, s.heap.IsCell c v → h'.IsCell c v := fun x c e v ⟨o, ho, hd⟩ => by
  have nch : c ∉ ch := fun z => (hch c z).2.2.1 x c e rfl
  by_cases hc : c ∈ X.fs
  ·obtain ⟨sl, q⟩ := slot c o (I.cne x c e) hc nch ho (I.freeC x c e)
   exact ⟨_, q, hd⟩
  ·exact ⟨o, keep c o (I.cne x c e) hc nch ho (I.freeC x c e), hd⟩
 refine ⟨I.ok, I.os, hg, ⟨fun b o e n hb hx => ?_, fun b o e n hb hx => ?_, fun b o e n hx => ?_, fun b o e hx => ?_, fun b xs e => tups b xs (I.base.tups b xs e), fun b o xs e => frzs b o xs (I.base.frzs b o xs e), fun b ps e => ?_⟩, ?_, fun x c e => ?_, ?_, fun x c e => ?_, fun p hp => ?_, hok, I.len⟩
 ·exact keep b o (neL b o e) hb (neC b o e hx) (I.base.keep b o e n hb hx) (I.base.free b o e n hx)
 ·obtain ⟨sl, e1⟩ := I.base.slot b o e n hb hx
  obtain ⟨sl', e2⟩ := slot b _ (neL b o e) hb (neC b o e hx) e1 (I.base.free b o e n hx)
  exact ⟨sl', e2⟩
 ·obtain ⟨o', e1⟩ := I.base.there b o e hx
  exact free b o' (neC b o e hx) e1 (I.base.free b o e n hx)
 ·obtain ⟨o', e1⟩ := I.base.there b o e hx
  exact there b o' (neC b o e hx) e1
 ·obtain ⟨m1, e1⟩ := I.base.tbls b ps e
  obtain ⟨m2, e2⟩ := tbls b _ e1
  exact ⟨m1 ++ m2, by rw [e2, Array.append_assoc]⟩
 ·obtain ⟨m, hn, hl⟩ := I.loc
  refine ⟨m, ns m hn, fun i x v e1 e2 e3 => ?_⟩
  obtain ⟨u, r, l⟩ := hl i x v e1 e2 e3
  refine ⟨u, r, ?_⟩
  rcases l with l | ⟨k, c, e, z⟩
  ·exact .inl l
  ·exact .inr ⟨k, c, e, cellK x c e _ z⟩
 ·obtain ⟨v, z⟩ := I.cell x c e
  exact ⟨v, cellK x c e v z⟩
 ·obtain ⟨m, ⟨o, _, _, ho, _⟩, _⟩ := I.loc
  exact free _ o (fun z => (hch _ z).2.1 rfl) ho I.free
 ·obtain ⟨v, o, ho, hd⟩ := I.cell x c e
  exact free c o (fun z => (hch c z).2.2.1 x c e rfl) ho (I.freeC x c e)
 ·obtain ⟨e, n, ne, nf, d⟩ := I.pin p hp
  have nch : p.1 ∉ ch := fun z => (hch p.1 z).2.2.2 p hp rfl
  exact ⟨keep p.1 p.2 ne nf nch e n, free p.1 p.2 nch e n, ne, nf, d⟩
theorem Inv.un {t' : Nat} (I : Inv X pins σ H s) (u : Un X.fs [] H H' s.heap h') (hok : HOk X.prog X.w H' h') : Inv X pins σ H' { s with heap := h', toks := t' } := by
 obtain ⟨m, ⟨o, es, ep, ho, r⟩, _⟩ := id I.loc
 obtain ⟨sl, hL⟩ := u.any ho I.free (by simp)
 exact I.step (g' := s.gens) (d' := s.drawn) (ch := []) (fun _ z => nomatch z) (fun b o _ hb _ e n => u.keep b o e n hb (by simp)) (fun b o _ hb _ e n => u.slot b o e n hb (by simp)) (fun b o _ e n => u.free b o e n (by simp)) (fun b o _ e => u.there b o e (by simp)) u.tups u.frzs u.tbls (fun m' hm => by
  obtain ⟨o', es', ep', ho', r'⟩ := hm
  rw [ho] at ho'; cases ho'
  exact ⟨_, es', ep', hL, r'⟩) hok I.bare
theorem Inv.call {g' : Array GenState} {t' : Nat} {d' : Drawn} {ch : List Addr} (I : Inv X pins σ H s) (u : Un (frs X.stack) ch H H' s.heap h') (hok : HOk X.prog X.w H' h') (hg : AllBare g')
  (hch : ∀ b ∈ ch, (b ∈ X.ex ∨ X.s_0.heap.objs.size ≤ b) ∧ b ≠ X.env.locals ∧ (∀ x c, X.env.cells.lookup x = some c → c ≠ b) ∧ ∀ p ∈ X.pn ++ pins, p.1 ≠ b) :
  Inv X pins σ H' { s with heap := h', gens := g', drawn := d', toks := t' } := by
 obtain ⟨m, ⟨o, es, ep, ho, r⟩, _⟩ := id I.loc
 obtain ⟨sl, hL⟩ := u.any ho I.free fun z => (hch _ z).2.1 rfl
 exact I.step (ch := ch) hch (fun b o hL hb hc e n => u.keep b o e n (fun z => (List.mem_cons.mp (I.stkSub b z)).elim hL hb) hc) (fun b o _ _ hc e n => u.any e n hc) (fun b o hc e n => u.free b o e n hc) (fun b o hc e => u.there b o e hc) u.tups u.frzs u.tbls (fun m' hm => by
  obtain ⟨o', es', ep', ho', r'⟩ := hm
  rw [ho] at ho'; cases ho'
  exact ⟨_, es', ep', hL, r'⟩) hok hg
theorem Inv.turned {t' : Nat} {it : Addr} (I : Inv X pins σ H s) (k : ∀ b o, b ≠ it → s.heap.get? b = some o → h'.get? b = some o) (hn : H it = none) (hL : it ≠ X.env.locals)
  (h1 : it ∈ X.ex ∨ X.s_0.heap.objs.size ≤ it) (h2 : ∀ x c, X.env.cells.lookup x = some c → c ≠ it) (h3 : ∀ p ∈ X.pn ++ pins, p.1 ≠ it) : Inv X pins σ H { s with heap := h', toks := t' } := by
 have nit : ∀ b u, H b = some u → b ≠ it := fun b u e z => by rw [z, hn] at e; cases e
 refine I.step (g' := s.gens) (d' := s.drawn) (ch := [it]) (fun b hb => ?_) (fun b o _ _ hc e _ => k b o (fun z => hc (by simp [z])) e) (fun b o _ _ hc e _ => ⟨o.slots, k b o (fun z => hc (by simp [z])) e⟩) (fun _ _ _ _ n => n)
  (fun b o hc e => ⟨o, k b o (fun z => hc (by simp [z])) e⟩) (fun _ _ e => e) (fun _ _ _ e => e) (fun b ps e => ⟨#[], by rw [e]; simp⟩) (fun m hm => ?_) (fun b u e => ?_) I.bare
 ·have e : b = it := by simpa using hb
  subst e
  exact ⟨h1, hL, h2, h3⟩
 ·obtain ⟨o, es, ep, ho, r⟩ := hm
  exact ⟨o, es, ep, k _ o (Ne.symm hL) ho, r⟩
 ·refine (I.hok b u e).stay (fun c v hc q => k c v ?_ q) (fun _ q => q) fun _ _ q => q
  rcases hc with z | z
  ·rw [z]; exact nit b u e
  ·exact nit c _ z
theorem Inv.tok (I : Inv X pins σ H s) (t : Nat) : Inv X pins σ H { s with toks := t } := I.un (h' := s.heap) (t' := t) Un.refl I.hok
theorem Inv.kept {t' : Nat} (I : Inv X pins σ H s) (k : ∀ b u, s.heap.get? b = some u → h'.get? b = some u) : Inv X pins σ H { s with heap := h', toks := t' } := I.un (Un.kept k) (I.hok.kept k)
theorem Inv.laid {a : Addr} {o : HO} {t' : Nat} (I : Inv X pins σ H s) (k : ∀ b u, s.heap.get? b = some u → h'.get? b = some u) (hp : s.heap.objs.size ≤ a) (new : ObjOk X.prog X.w (upd H a o) h' a o) :
  Inv X pins σ (upd H a o) { s with heap := h', toks := t' } := I.un (Un.laid k hp (I.hok.fresh hp)) (I.hok.laid k hp new)
theorem Inv.write {x e : Addr} {o : HO} {t' : Nat} (I : Inv X pins σ H s) (mu : Mut (H x)) (he : e = x ∨ H e = some (.own x)) (k : ∀ b u, b ≠ e → s.heap.get? b = some u → h'.get? b = some u) (heo : ∃ u, h'.get? e = some u)
  (new : ObjOk X.prog X.w (upd H x o) h' x o) : Inv X pins σ (upd H x o) { s with heap := h', toks := t' } := I.un (Un.write mu he k heo) (I.hok.write mu he k heo new)
theorem Inv.weak {σ' : List (Option V)} (I : Inv X pins σ H s) (hl : σ'.length = σ.length) (w : ∀ (i : Nat) v, σ'[i]? = some (some v) → σ[i]? = some (some v)) : Inv X pins σ' H s :=
 ⟨I.ok, I.os, I.bare, I.base, let ⟨m, hn, hl'⟩ := I.loc; ⟨m, hn, fun i x v e1 e2 e3 => hl' i x v e1 (w i v e2) e3⟩, I.cell, I.free, I.freeC, I.pin, I.hok, hl.trans I.len⟩
theorem Inv.pins_of {pins' : List (Addr × Obj)} (I : Inv X pins σ H s) (h : ∀ p ∈ pins', s.heap.get? p.1 = some p.2 ∧ H p.1 = none ∧ p.1 ≠ X.env.locals ∧ p.1 ∉ X.fs ∧ ∀ v, p.2.data ≠ .cell v) : Inv X pins' σ H s :=
 ⟨I.ok, I.os, I.bare, I.base, I.loc, I.cell, I.free, I.freeC, fun p hp => (List.mem_append.mp hp).elim (fun z => I.pin p (List.mem_append_left _ z)) (h p), I.hok, I.len⟩
theorem nodup_ix {N : List Str} (hN : N.Nodup) {i j : Nat} {x : Str} (a : N[i]? = some x) (b : N[j]? = some x) : i = j := by
 obtain ⟨h1, e1⟩ := List.getElem?_eq_some_iff.mp a
 obtain ⟨h2, e2⟩ := List.getElem?_eq_some_iff.mp b
 exact (List.getElem_inj hN).mp (e1.trans e2.symm)
theorem store_ok2 {M : Model} {A : Around} {E : Value → Shared → Prop} {i : Nat} {x : Str} {v : V} {u : Value} {Q : Unit → Shared → Prop} (I : Inv X pins σ H s) (hN : X.N.Nodup) (hi : X.N[i]? = some x) (hx : Loc X.env.scope x) (r : RelV v u)
  (h : ∀ s', Inv X pins (σ.set i (some v)) H s' → (∃ a, Heap.SameBut a s.heap s'.heap ∧ (a = X.env.locals ∨ X.env.cells.lookup x = some a)) → Q () s') (hf : X.fn x = true ∨ X.env.scope.names.lookup x = some .local := by first | exact .inl rfl | exact .inr rfl | assumption) : wpAny M A (storeName X.env x u) Q E s := by
 obtain ⟨m, hn, hl⟩ := id I.loc
 have hcls : (X.env.scope.kind == .class || (X.env.scope.kind == .module && X.env.locals != X.env.globals)) = false := by rw [I.ok.kind]; rfl
 have hiσ : i < σ.length := by rw [I.len]; exact (List.getElem?_eq_some_iff.mp hi).1
 have cne := I.cne
 have tracked : ∀ {a : Addr} {h' : Heap}, (∃ o, s.heap.get? a = some o ∧ H a = none) → Heap.SameBut a s.heap h' → HOk X.prog X.w H h' := fun {a h'} ha hs b ob e => by
  obtain ⟨_, _, hfree⟩ := ha
  refine (I.hok b ob e).stay (fun c w' hc q => (hs.2 c ?_).trans q) (fun _ q => q) fun _ _ q => q
  rintro rfl
  rcases hc with rfl | hc
  ·rw [hfree] at e; cases e
  ·rw [hfree] at hc; cases hc
 rcases hx with hk | hk
 ·refine wpAny_storeName_local hk hn (fun h' hn' hs => ?_) hcls
  obtain ⟨oL, _, _, hoL, _⟩ := id hn
  refine h _ ⟨I.ok, I.os, I.bare, ⟨fun b o e n hb hx => ?_, fun b o e n hb hx => ?_, I.base.free, fun b o e hx => ?_, I.base.tups, I.base.frzs, I.base.tbls⟩, ⟨_, hn', fun j y v' e1 e2 e3 => ?_⟩, fun y c e => ?_, I.free, I.freeC, fun p hp => ?_, tracked ⟨oL, hoL, I.free⟩ hs, by simpa using I.len⟩ ⟨_, hs, .inl rfl⟩
  ·exact (hs.2 b (Nat.ne_of_lt (Nat.lt_of_lt_of_le (Heap.lt_size e) I.ok.above))).trans (I.base.keep b o e n hb hx)
  ·obtain ⟨sl, e1⟩ := I.base.slot b o e n hb hx
   exact ⟨sl, (hs.2 b (Nat.ne_of_lt (Nat.lt_of_lt_of_le (Heap.lt_size e) I.ok.above))).trans e1⟩
  ·obtain ⟨o', e1⟩ := I.base.there b o e hx
   exact ⟨o', (hs.2 b (Nat.ne_of_lt (Nat.lt_of_lt_of_le (Heap.lt_size e) I.ok.above))).trans e1⟩
  ·by_cases hj : j = i
   ·subst hj
    rw [hi] at e1; cases e1
    rw [List.getElem?_set_self hiσ] at e2
    cases e2
    exact ⟨u, r, .inl ⟨hk, by simp⟩⟩
   ·rw [List.getElem?_set_ne (Ne.symm hj)] at e2
    obtain ⟨u', r', q⟩ := hl j y v' e1 e2 e3
    refine ⟨u', r', ?_⟩
    rcases q with ⟨k, e⟩ | ⟨k, c, e, z⟩
    ·refine .inl ⟨k, ?_⟩
     have : y ≠ x := fun e => hj (nodup_ix hN e1 (e ▸ hi))
     simp [this, e]
    ·exact .inr ⟨k, c, e, z.sameBut hs (cne y c e)⟩
  ·obtain ⟨w', z⟩ := I.cell y c e
   exact ⟨w', z.sameBut hs (cne y c e)⟩
  ·obtain ⟨e, n, ne, nf, d⟩ := I.pin p hp
   exact ⟨(hs.2 p.1 ne).trans e, n, ne, nf, d⟩
 ·have hfn : X.fn x = true := by
   rcases hf with z | z
   ·exact z
   ·rw [z] at hk; cases hk
  obtain ⟨c, hc⟩ := I.ok.has x (.inl hk)
  obtain ⟨w', z⟩ := I.cell x c hc
  refine wpAny_storeName_cell I.ok.kind hk hc z (fun h' hc' hs => ?_)
  obtain ⟨oc, hoc, hocd⟩ := id z
  refine h { s with heap := h' } ⟨I.ok, I.os, I.bare, ⟨fun b o e n hb hx => ?_, fun b o e n hb hx => ?_, I.base.free, fun b o e hx => ?_, I.base.tups, I.base.frzs, I.base.tbls⟩, ⟨m, hn.sameBut hs (Ne.symm (cne x c hc)), fun j y v' e1 e2 e3 => ?_⟩, fun y c' e => ?_, I.free, I.freeC, fun p hp => ?_, tracked ⟨oc, hoc, I.freeC x c hc⟩ hs, by simpa using I.len⟩ ⟨c, hs, .inr hc⟩
  ·exact (hs.2 b (Nat.ne_of_lt (Nat.lt_of_lt_of_le (Heap.lt_size e) (I.ok.cab x c hfn hc)))).trans (I.base.keep b o e n hb hx)
  ·obtain ⟨sl, e1⟩ := I.base.slot b o e n hb hx
   exact ⟨sl, (hs.2 b (Nat.ne_of_lt (Nat.lt_of_lt_of_le (Heap.lt_size e) (I.ok.cab x c hfn hc)))).trans e1⟩
  ·obtain ⟨o', e1⟩ := I.base.there b o e hx
   exact ⟨o', (hs.2 b (Nat.ne_of_lt (Nat.lt_of_lt_of_le (Heap.lt_size e) (I.ok.cab x c hfn hc)))).trans e1⟩
  ·by_cases hj : j = i
   ·subst hj
    rw [hi] at e1; cases e1
    rw [List.getElem?_set_self hiσ] at e2
    cases e2
    exact ⟨u, r, .inr ⟨.inl hk, c, hc, hc'⟩⟩
   ·rw [List.getElem?_set_ne (Ne.symm hj)] at e2
    obtain ⟨u', r', q⟩ := hl j y v' e1 e2 e3
    refine ⟨u', r', ?_⟩
    rcases q with q | ⟨k, c', e, z'⟩
    ·exact .inl q
    ·refine .inr ⟨k, c', e, z'.sameBut hs ?_⟩
     rintro rfl
     exact hj (nodup_ix hN e1 (I.ok.inj _ _ _ e hc ▸ hi))
  ·by_cases hcc : c' = c
   ·subst hcc; exact ⟨_, hc'⟩
   ·obtain ⟨w2, z2⟩ := I.cell y c' e
    exact ⟨w2, z2.sameBut hs hcc⟩
  ·obtain ⟨e, n, ne, nf, d⟩ := I.pin p hp
   refine ⟨(hs.2 p.1 ?_).trans e, n, ne, nf, d⟩
   intro q
   rw [q, hoc] at e
   have q' : oc = p.2 := Option.some.inj e
   exact d w' (by rw [← q']; exact hocd)
theorem store_ok {M : Model} {A : Around} {E : Value → Shared → Prop} {i : Nat} {x : Str} {v : V} {u : Value} {Q : Unit → Shared → Prop} (I : Inv X pins σ H s) (hN : X.N.Nodup) (hi : X.N[i]? = some x) (hx : Loc X.env.scope x) (r : RelV v u)
  (h : ∀ s', Inv X pins (σ.set i (some v)) H s' → Q () s') (hf : X.fn x = true ∨ X.env.scope.names.lookup x = some .local := by first | exact .inl rfl | exact .inr rfl | assumption) : wpAny M A (storeName X.env x u) Q E s :=
 store_ok2 I hN hi hx r (fun s' I' _ => h s' I') hf
theorem Inv.call' {s' : Shared} {ch : List Addr} (I : Inv X pins σ H s) (ho : s'.os = s.os) (u : Un (frs X.stack) ch H H' s.heap s'.heap) (hok : HOk X.prog X.w H' s'.heap) (hg : AllBare s'.gens)
  (hch : ∀ b ∈ ch, (b ∈ X.ex ∨ X.s_0.heap.objs.size ≤ b) ∧ b ≠ X.env.locals ∧ (∀ x c, X.env.cells.lookup x = some c → c ≠ b) ∧ ∀ p ∈ X.pn ++ pins, p.1 ≠ b) : Inv X pins σ H' s' := by
 obtain ⟨h', g', d', t', o'⟩ := s'
 have e : o' = s.os := ho
 subst e
 exact I.call (g' := g') (t' := t') (d' := d') u hok hg hch
end
abbrev XK := Value → Option Addr → Hp → Prop
abbrev St := List (Option V)
abbrev VK := V → Hp → Prop
abbrev TE := St → Hp → VK → Prop
abbrev TT := St → Hp → (Bool → Hp → Prop) → Prop
abbrev TA := St → Hp → (List V → Hp → Prop) → Prop
structure Ends where
 nx : St → Hp → Prop
 rt : VK
 bk : St → Hp → Prop := fun _ _ => False
 ct : St → Hp → Prop := fun _ _ => False
abbrev TS := Ends → St → Hp → Prop
def EP (X : Cx) (pins : List (Addr × Obj)) (σ : St) (Q : VK) (u : Value) (s' : Shared) : Prop := ∃ v H', Inv X pins σ H' s' ∧ RelV v u ∧ Q v H'
def TP (X : Cx) (pins : List (Addr × Obj)) (σ : St) (Q : Bool → Hp → Prop) (b : Bool) (s' : Shared) : Prop := ∃ H', Inv X pins σ H' s' ∧ Q b H'
def AP (X : Cx) (pins : List (Addr × Obj)) (σ : St) (Q : List V → Hp → Prop) (us : List Value) (s' : Shared) : Prop := ∃ vs H', Inv X pins σ H' s' ∧ Vals vs us ∧ Q vs H'
def SP (X : Cx) (pins : List (Addr × Obj)) (D : Ends) (f : Flow) (s' : Shared) : Prop :=
 match f with
 | .next => ∃ σ' H', Inv X pins σ' H' s' ∧ D.nx σ' H'
 | .brk => ∃ σ' H', Inv X pins σ' H' s' ∧ D.bk σ' H'
 | .cont => ∃ σ' H', Inv X pins σ' H' s' ∧ D.ct σ' H'
 | .ret u => ∃ v σ' H', Inv X pins σ' H' s' ∧ RelV v u ∧ D.rt v H'
def PE (X : Cx) (e : Expr) (t : TE) : Prop :=
 ∀ (pins : List (Addr × Obj)) (s : Shared) (σ : St) (H : Hp) (Q : VK), Inv X pins σ H s → t σ H Q → wpAny (model X.prog X.w) X.A (eval e X.env) (EP X pins σ Q) X.xe s
def PT (X : Cx) (e : Expr) (t : TT) : Prop :=
 ∀ (pins : List (Addr × Obj)) (s : Shared) (σ : St) (H : Hp) (Q : Bool → Hp → Prop), Inv X pins σ H s → t σ H Q → wpAny (model X.prog X.w) X.A (isTrue e X.env (eval e X.env)) (TP X pins σ Q) X.xe s
def PW (X : Cx) (e : Expr) (t : TT) : Prop :=
 ∀ (whole : Sem Value) (pins : List (Addr × Obj)) (s : Shared) (σ : St) (H : Hp) (Q : Bool → Hp → Prop), Inv X pins σ H s → t σ H Q → wpAny (model X.prog X.w) X.A (isTrue e X.env whole) (TP X pins σ Q) X.xe s
theorem PW.pt {X : Cx} {e : Expr} {t : TT} (h : PW X e t) : PT X e t := h _
def PA (X : Cx) (es : List Expr) (t : TA) : Prop :=
 ∀ (pos : Pos) (pins : List (Addr × Obj)) (s : Shared) (σ : St) (H : Hp) (Q : List V → Hp → Prop), Inv X pins σ H s → t σ H Q → wpAny (model X.prog X.w) X.A (spliced (backTo pos (starEach es X.env))) (AP X pins σ Q) X.xe s
def PS (X : Cx) (st : Stmt) (t : TS) : Prop :=
 ∀ (pins : List (Addr × Obj)) (s : Shared) (σ : St) (H : Hp) (D : Ends), Inv X pins σ H s → t D σ H → wpAny (model X.prog X.w) X.A (exec st X.env) (SP X pins D) X.xe s
def PSs (X : Cx) (st : List Stmt) (t : TS) : Prop :=
 ∀ (pins : List (Addr × Obj)) (s : Shared) (σ : St) (H : Hp) (D : Ends), Inv X pins σ H s → t D σ H → wpAny (model X.prog X.w) X.A (execs st X.env) (SP X pins D) X.xe s
theorem thn {α : Type} {t : Sem α} {Q Q' : α → Shared → Prop} {M : Model} {A : Around} {E : Value → Shared → Prop} {s : Shared} (h : wpAny M A t Q E s) (hQ : ∀ a s, Q a s → Q' a s) : wpAny M A t Q' E s := wpAny_mono h hQ fun _ _ x => x
section
variable {X : Cx}
def tVar (i : Nat) : TE := fun σ H Q => ∃ v, σ[i]? = some (some v) ∧ Q v H
def tC (v : V) : TE := fun _ H Q => Q v H
theorem pe_var {i : Nat} {x : Str} {pos : Pos} (hN : X.N[i]? = some x) (hv : Vis X.env.scope x) (hd : (x == ("__debug__" : Str)) = false := by decide) (hcd : (x == ("__classdict__" : Str)) = false := by decide) : PE X (.Name x pos) (tVar i) := by
 intro pins s σ H Q I h
 obtain ⟨v, e, h⟩ := h
 obtain ⟨m, hn, hl⟩ := I.loc
 obtain ⟨u, r, l⟩ := hl i x v hN e hv
 have fin : EP X pins σ Q u s := ⟨v, H, I, r, h⟩
 rcases l with ⟨hk, hm⟩ | ⟨hk, c, hc, hcell⟩
 ·exact wpAny_Name (wpAny_loadName_local I.ok.kind hk hn hm fin) hd
 ·rcases hk with hk | hk
  ·exact wpAny_Name (wpAny_loadName_cell I.ok.kind hk hc hcell fin) hd
  ·exact wpAny_Name (wpAny_loadName_free I.ok.kind hk hc hcell fin hcd) hd
theorem pe_int {i j pos} : PE X (.Constant (.int i) j pos) (tC (.int i)) := fun _ _ _ H _ I h => wpAny_Constant_int ⟨.int i, H, I.tok _, ⟨_, rfl⟩, h⟩
theorem pe_bl {b j pos} : PE X (.Constant (.bool b) j pos) (tC (.bl b)) := fun _ _ _ H _ I h => Constant_bool ⟨.bl b, H, I, rfl, h⟩
theorem pe_str {x j pos} : PE X (.Constant (.str x) j pos) (tC (.str x)) := fun _ _ _ H _ I h => Calls.Constant_str ⟨.str x, H, I.tok _, ⟨_, rfl⟩, h⟩
def Gl (X : Cx) (x : Str) : Prop := X.env.kindOf x = some .globalImplicit
theorem ld_glob {E : Value → Shared → Prop} {pins : List (Addr × Obj)} {s : Shared} {σ : St} {H : Hp} {x : Str} {u : Value} {pos : Pos} {Q : Value → Shared → Prop} (I : Inv X pins σ H s) (hg : Gl X x) (hm : X.mg x = some u) (h : Q u s)
  (hd : (x == ("__debug__" : Str)) = false := by decide) : wpAny (model X.prog X.w) X.A (eval (.Name x pos) X.env) Q E s :=
 Calls.Name_function_global I.ok.kind hg (Calls.loadGlobal_global (by rw [I.ok.glob]; exact I.mod.glob.keeps I.bk) hm h) hd
theorem ld_blt {E : Value → Shared → Prop} {pins : List (Addr × Obj)} {s : Shared} {σ : St} {H : Hp} {x : Str} {u : Value} {pos : Pos} {Q : Value → Shared → Prop} (I : Inv X pins σ H s) (hg : Gl X x) (hm : X.mg x = none) (hv : bootBuiltins x = some u) (h : Q u s)
  (hn : x ≠ "__name__" := by decide) (hd : (x == ("__debug__" : Str)) = false := by decide) : wpAny (model X.prog X.w) X.A (eval (.Name x pos) X.env) Q E s := by
 obtain ⟨mb, h1, h2⟩ := I.mod.blt
 exact Calls.Name_function_global I.ok.kind hg (Calls.loadGlobal_builtin (by rw [I.ok.glob]; exact I.mod.glob.keeps I.bk) hm (by rw [I.ok.blt]; exact h1.keeps I.bk) ((h2 x hn).trans hv) h) hd
theorem pe_glob {x : Str} {v : V} {u : Value} {pos : Pos} (hg : Gl X x) (hm : X.mg x = some u) (r : RelV v u) (hd : (x == ("__debug__" : Str)) = false := by decide) : PE X (.Name x pos) (tC v) :=
 fun _ _ _ H _ I h => ld_glob I hg hm ⟨v, H, I, r, h⟩ hd
variable {a b : Expr} {ta tb : TE} {pos : Pos}
def PC (X : Cx) (op : CmpOp) (a b : Expr) (t : TE) : Prop :=
 ∀ (pins : List (Addr × Obj)) (s : Shared) (σ : St) (H : Hp) (Q : VK), Inv X pins σ H s → t σ H Q →
  wpAny (model X.prog X.w) X.A (eval a X.env) (fun v s₁ => wpAny (model X.prog X.w) X.A (eval b X.env) (fun u s₂ => wpAny (model X.prog X.w) X.A (compareOp op v u) (EP X pins σ Q) X.xe s₂) X.xe s₁) X.xe s
theorem nobehind (b : Expr) {op : CmpOp} (h : op ≠ .In) (h2 : op ≠ .NotIn) : behindInMarks op b = false := by
 have e1 : (op == CmpOp.In) = false := by cases op <;> first | rfl | exact absurd rfl h
 have e2 : (op == CmpOp.NotIn) = false := by cases op <;> first | rfl | exact absurd rfl h2
 cases b <;> simp [behindInMarks, e1, e2]
def tB (t : TE) : TT := fun σ H Q => t σ H fun x H1 => ∃ c, x = .bl c ∧ Q c H1
theorem pe_cmp {op : CmpOp} {t : TE} (h : PC X op a b t) (h1 : behindInMarks op b = false := by first | exact nobehind _ (by decide) (by decide) | rfl) : PE X (.Compare a [op] [b] pos) t := fun pins s σ H Q I hw => wpAny_Compare1 (h pins s σ H Q I hw) h1
theorem pt_cmp {op : CmpOp} {t : TE} (h : PC X op a b t) (h1 : behindInMarks op b = false := by first | exact nobehind _ (by decide) (by decide) | rfl) : PT X (.Compare a [op] [b] pos) (tB t) := by
 intro pins s σ H Q I hw
 refine wpAny_isTrue_Compare1 (thn (h pins s σ H _ I hw) fun v s1 h1 => thn h1 fun u s2 h2 => thn h2 fun c s3 ⟨x, H1, I1, r1, q1⟩ => ?_) h1
 obtain ⟨d, rfl, q⟩ := q1
 cases r1
 exact wpAny_truthy_bool ⟨H1, I1, q⟩
variable {tA tB' : TT} {rest : List Expr}
def tAnd (t u : TT) : TT := fun σ H Q => t σ H fun c H1 => if c = true then u σ H1 Q else Q false H1
def tOr (t u : TT) : TT := fun σ H Q => t σ H fun c H1 => if c = true then Q true H1 else u σ H1 Q
def tNot (t : TT) : TT := fun σ H Q => t σ H fun c H1 => Q (!c) H1
theorem pw_and1 (ha : PT X a tA) : PW X (.BoolOp .And [a] pos) tA := by
 intro wh pins s σ H Q I h
 refine isTrue_and (thn (ha pins s σ H Q I h) fun c s1 e => ?_)
 cases c with
 | true => exact isTrue_and_nil e
 | false => exact e
theorem pw_or1 (ha : PT X a tA) : PW X (.BoolOp .Or [a] pos) tA := by
 intro wh pins s σ H Q I h
 refine isTrue_or (thn (ha pins s σ H Q I h) fun c s1 e => ?_)
 cases c with
 | false => exact isTrue_or_nil e
 | true => exact e
theorem pw_and (ha : PT X a tA) (hb : PW X (.BoolOp .And (b :: rest) pos) tB') : PW X (.BoolOp .And (a :: b :: rest) pos) (tAnd tA tB') := by
 intro wh pins s σ H Q I h
 refine isTrue_and (thn (ha pins s σ H _ I h) fun c s1 ⟨H1, I1, q1⟩ => ?_)
 cases c with
 | true => exact hb wh pins s1 σ H1 Q I1 q1
 | false => exact ⟨H1, I1, q1⟩
theorem pw_or (ha : PT X a tA) (hb : PW X (.BoolOp .Or (b :: rest) pos) tB') : PW X (.BoolOp .Or (a :: b :: rest) pos) (tOr tA tB') := by
 intro wh pins s σ H Q I h
 refine isTrue_or (thn (ha pins s σ H _ I h) fun c s1 ⟨H1, I1, q1⟩ => ?_)
 cases c with
 | true => exact ⟨H1, I1, q1⟩
 | false => exact hb wh pins s1 σ H1 Q I1 q1
theorem pt_not (ha : PT X a tA) : PT X (.UnaryOp .Not a pos) (tNot tA) := by
 intro pins s σ H Q I h
 exact isTrue_not (ha pins s σ H (fun c H1 => Q (!c) H1) I h)
def tAndV (ta tb : TE) : TE := fun σ H Q => ta σ H fun x H1 => ∃ c, x = .bl c ∧ if c = true then tb σ H1 Q else Q (.bl false) H1
def tOrV (ta tb : TE) : TE := fun σ H Q => ta σ H fun x H1 => ∃ c, x = .bl c ∧ if c = true then Q (.bl true) H1 else tb σ H1 Q
def tNotV (ta : TE) : TE := fun σ H Q => ta σ H fun x H1 => ∃ c, x = .bl c ∧ Q (.bl (!c)) H1
theorem pe_one {op} {t : TE} (h : PE X a t) : PE X (.BoolOp op [a] pos) t := fun pins s σ H Q I hw => BoolOp_one (h pins s σ H Q I hw)
theorem pe_and (ha : PE X a ta) (hb : PE X (.BoolOp .And (b :: rest) pos) tb) : PE X (.BoolOp .And (a :: b :: rest) pos) (tAndV ta tb) := by
 intro pins s σ H Q I h
 refine BoolOp_and (thn (ha pins s σ H _ I h) fun v s1 ⟨x, H1, I1, r1, q1⟩ => ?_)
 obtain ⟨c, rfl, q1⟩ := q1
 cases r1
 refine wpAny_truthy_bool ?_
 cases c with
 | true => exact hb pins s1 σ H1 Q I1 q1
 | false => exact ⟨.bl false, H1, I1, rfl, q1⟩
theorem pe_or (ha : PE X a ta) (hb : PE X (.BoolOp .Or (b :: rest) pos) tb) : PE X (.BoolOp .Or (a :: b :: rest) pos) (tOrV ta tb) := by
 intro pins s σ H Q I h
 refine BoolOp_or (thn (ha pins s σ H _ I h) fun v s1 ⟨x, H1, I1, r1, q1⟩ => ?_)
 obtain ⟨c, rfl, q1⟩ := q1
 cases r1
 refine wpAny_truthy_bool ?_
 cases c with
 | false => exact hb pins s1 σ H1 Q I1 q1
 | true => exact ⟨.bl true, H1, I1, rfl, q1⟩
theorem pe_not (ha : PE X a ta) : PE X (.UnaryOp .Not a pos) (tNotV ta) := by
 intro pins s σ H Q I h
 refine UnaryOp_ (thn (ha pins s σ H _ I h) fun v s1 ⟨x, H1, I1, r1, q1⟩ => ?_)
 obtain ⟨c, rfl, q1⟩ := q1
 cases r1
 exact not_of (wpAny_truthy_bool ⟨.bl (!c), H1, I1, rfl, q1⟩)
def tIf (t : TT) (ta tb : TE) : TE := fun σ H Q => t σ H fun c H1 => if c = true then ta σ H1 Q else tb σ H1 Q
theorem pe_ifExp {c : Expr} (hc : PT X c tA) (ha : PE X a ta) (hb : PE X b tb) : PE X (.IfExp c a b pos) (tIf tA ta tb) := by
 intro pins s σ H Q I h
 refine wpAny_IfExp (thn (hc pins s σ H _ I h) fun d s1 ⟨H1, I1, q1⟩ => ?_)
 cases d with
 | true => exact ha pins s1 σ H1 Q I1 q1
 | false => exact hb pins s1 σ H1 Q I1 q1
end
def SqL (K : PySem.W.Frag) (H : Hp) (a : Addr) (xs : List V) : Prop :=
 Rd H a (.lst xs) ∨
  ∃ (o : Obj) (its : Array Value) (n : Nat), K.lookup a = some o ∧ o.cls = .type "list" ∧ o.dict = none ∧ o.data = .seq its n ∧ its.size ≤ sizeLine ∧ Vals xs its.toList
def SqT (K : PySem.W.Frag) (H : Hp) (a : Addr) (xs : List V) : Prop :=
 Rd H a (.tup xs) ∨
  ∃ (o : Obj) (its : Array Value) (n : Nat), K.lookup a = some o ∧ o.cls = .type "tuple" ∧ o.data = .seq its n ∧ its.size ≤ sizeLine ∧ Vals xs its.toList
def absV : Value → Option V
 | .none => some .non
 | .bool b => some (.bl b)
 | .int i _ => some (.int i)
 | .str x _ => some (.str x)
 | .bytes b _ => some (.byt b)
 | .float b _ => some (.flt b)
 | .ref a => some (.ref a)
 | .type n => some (.ty n)
 | _ => none
theorem RelV.abs {x : V} {u : Value} (r : RelV x u) : absV u = some x := by
 cases x with
 | non => cases r; rfl
 | bl _ => cases r; rfl
 | int _ => obtain ⟨t, rfl⟩ := r; rfl
 | str _ => obtain ⟨t, rfl⟩ := r; rfl
 | byt _ => obtain ⟨t, rfl⟩ := r; rfl
 | flt _ => obtain ⟨t, rfl⟩ := r; rfl
 | ref _ => cases r; rfl
 | ty _ => cases r; rfl
theorem RelV.inj {x y : V} {u : Value} (r : RelV x u) (q : RelV y u) : x = y := Option.some.inj (r.abs.symm.trans q.abs)
theorem Vals.inj : ∀ {xs ys : List V} {us : List Value}, Vals xs us → Vals ys us → xs = ys
 | _, _, _, .nil, .nil => rfl
 | _, _, _, .cons r t, .cons r' t' => by rw [r.inj r', Vals.inj t t']
section
variable {X : Cx} {pins : List (Addr × Obj)} {σ : St} {H : Hp} {s : Shared} {a : Addr} {xs ys : List V}
theorem SqL.of {K : PySem.W.Frag} (h : H a = some (.lst xs)) : SqL K H a xs := .inl (.inl h)
theorem SqT.of {K : PySem.W.Frag} (h : H a = some (.tup xs)) : SqT K H a xs := .inl (.inl h)
theorem Inv.list (I : Inv X pins σ H s) (h : SqL X.K H a xs) : ∃ its : List Value, Vals xs its ∧ PlainL s.heap a its.toArray ∧ xs.length ≤ sizeLine := by
 rcases h with h | ⟨o, its, n, hk, hc, hd, hs, hz, r⟩
 ·obtain ⟨z, its, n, r, e⟩ := h.ok I.hok
  exact ⟨its, r, ⟨_, n, e, rfl, rfl, rfl⟩, z⟩
 ·refine ⟨its.toList, r, ⟨o, n, I.kIn a o hk, hc, hd, by simpa using hs⟩, ?_⟩
  have e := r.length
  simp only [Array.length_toList] at e
  omega
theorem Inv.tuple (I : Inv X pins σ H s) (h : SqT X.K H a xs) : ∃ its : List Value, Vals xs its ∧ IsTup s.heap a its.toArray ∧ xs.length ≤ sizeLine := by
 rcases h with h | ⟨o, its, n, hk, hc, hs, hz, r⟩
 ·obtain ⟨z, its, r, p⟩ := h.ok I.hok
  exact ⟨its, r, p, z⟩
 ·refine ⟨its.toList, r, ⟨o, I.kIn a o hk, hc, n, by simpa using hs⟩, ?_⟩
  have e := r.length
  simp only [Array.length_toList] at e
  omega
theorem Inv.list_inj (I : Inv X pins σ H s) (h : SqL X.K H a xs) (h' : SqL X.K H a ys) : xs = ys := by
 obtain ⟨its, r, ⟨o, n, e, _, _, d⟩, _⟩ := I.list h
 obtain ⟨its', r', ⟨o', n', e', _, _, d'⟩, _⟩ := I.list h'
 rw [e] at e'; cases e'
 rw [d] at d'
 injection d' with d1 _
 have : its = its' := by simpa using congrArg Array.toList d1
 subst this
 exact r.inj r'
end
abbrev Cx.wish (X : Cx) (E : Value → Shared → Prop) : Cx := { X with xe := E }
abbrev Cx.nox (X : Cx) : Cx := X.wish fun _ _ => False
theorem Cx.Ok.wish {X : Cx} (ok : X.Ok) (E : Value → Shared → Prop) : (X.wish E).Ok :=
 ⟨ok.mod, ok.kind, ok.glob, ok.blt, ok.above, ok.inj, ok.has, ok.cab, ok.hd, ok.frames, ok.stk, ok.exf, ok.bs, ok.bsz, ok.noex, ok.exfs, ok.funs, ok.frf⟩
theorem Cx.Ok.unwish {X : Cx} {E : Value → Shared → Prop} (ok : (X.wish E).Ok) : X.Ok :=
 ⟨ok.mod, ok.kind, ok.glob, ok.blt, ok.above, ok.inj, ok.has, ok.cab, ok.hd, ok.frames, ok.stk, ok.exf, ok.bs, ok.bsz, ok.noex, ok.exfs, ok.funs, ok.frf⟩
section
variable {X : Cx} {pins : List (Addr × Obj)} {σ : St} {H : Hp} {s : Shared} {E : Value → Shared → Prop}
theorem Inv.wish (I : Inv X pins σ H s) (E : Value → Shared → Prop) : Inv (X.wish E) pins σ H s := ⟨I.ok.wish E, I.os, I.bare, I.base, I.loc, I.cell, I.free, I.freeC, I.pin, I.hok, I.len⟩
theorem Inv.unwish (I : Inv (X.wish E) pins σ H s) : Inv X pins σ H s := ⟨I.ok.unwish, I.os, I.bare, I.base, I.loc, I.cell, I.free, I.freeC, I.pin, I.hok, I.len⟩
theorem SP.unwish {D : Ends} {f : Flow} {s' : Shared} (h : SP (X.wish E) pins D f s') : SP X pins D f s' := by
 cases f with
 | next => obtain ⟨σ', H', I, q⟩ := h; exact ⟨σ', H', I.unwish, q⟩
 | brk => obtain ⟨σ', H', I, q⟩ := h; exact ⟨σ', H', I.unwish, q⟩
 | cont => obtain ⟨σ', H', I, q⟩ := h; exact ⟨σ', H', I.unwish, q⟩
 | ret u => obtain ⟨v, σ', H', I, r, q⟩ := h; exact ⟨v, σ', H', I.unwish, r, q⟩
theorem PE.nox {e : Expr} {t : TE} (h : PE X.nox e t) : PE X e t := fun pins s σ H Q I hw =>
 wpAny_mono (h pins s σ H Q (I.wish _) hw) (fun _ _ ⟨v, H', I', r, q⟩ => ⟨v, H', I'.unwish, r, q⟩) fun _ _ z => False.elim z
theorem PT.nox {e : Expr} {t : TT} (h : PT X.nox e t) : PT X e t := fun pins s σ H Q I hw =>
 wpAny_mono (h pins s σ H Q (I.wish _) hw) (fun _ _ ⟨H', I', q⟩ => ⟨H', I'.unwish, q⟩) fun _ _ z => False.elim z
theorem PSs.nox {st : List Stmt} {t : TS} (h : PSs X.nox st t) : PSs X st t := fun pins s σ H D I hw =>
 wpAny_mono (h pins s σ H D (I.wish _) hw) (fun _ _ q => q.unwish) fun _ _ z => False.elim z
end
section
variable {X : Cx} {st : Stmt} {rest : List Stmt} {t u : TS} {e : Expr} {te : TE} {pos : Pos}
def tNext : TS := fun D σ H => D.nx σ H
def tSeq (t u : TS) : TS := fun D σ H => t { D with nx := u D } σ H
theorem pss_nil : PSs X [] tNext := fun _ _ σ H _ I h => wpAny_execs_nil ⟨σ, H, I, h⟩
theorem pss_cons (h1 : PS X st t) (h2 : PSs X rest u) : PSs X (st :: rest) (tSeq t u) := by
 intro pins s σ H D I h
 refine wpAny_execs_cons (thn (h1 pins s σ H { D with nx := u D } I h) fun f s1 q => ?_)
 cases f with
 | next =>
  obtain ⟨σ', H', I', q⟩ := q
  exact h2 pins s1 σ' H' D I' q
 | ret v => exact q
 | brk => exact q
 | cont => exact q
theorem pss_one (h1 : PS X st t) : PSs X [st] t := by
 intro pins s σ H D I h
 refine wpAny_execs_cons (thn (h1 pins s σ H D I h) fun f s1 q => ?_)
 cases f with
 | next => exact wpAny_execs_nil q
 | ret v => exact q
 | brk => exact q
 | cont => exact q
theorem Inv.quiet {pins : List (Addr × Obj)} {σ : St} {H : Hp} {s : Shared} (I : Inv X pins σ H s) : interactive X.env = false := by simp [interactive, I.ok.kind]
def tDrop (te : TE) : TS := fun D σ H => te σ H fun _ H1 => D.nx σ H1
theorem ps_expr (he : PE X e te) (hs : swapsWith e none pos.line X.env = pure false := by rfl) : PS X (.Expr e pos) (tDrop te) := by
 intro pins s σ H D I h
 exact wpAny_Expr_any (thn (he pins s σ H _ I h) fun v s1 ⟨x, H1, I1, r1, q1⟩ => ⟨σ, H1, I1, q1⟩) I.quiet hs
def tRet (te : TE) : TS := fun D σ H => te σ H D.rt
theorem ps_ret (he : PE X e te) : PS X (.Return (some e) pos) (tRet te) := by
 intro pins s σ H D I h
 exact wpAny_Return_some (thn (he pins s σ H _ I h) fun v s1 ⟨x, H1, I1, r1, q1⟩ => ⟨x, σ, H1, I1, r1, q1⟩)
def tIfS (c : TT) (t u : TS) : TS := fun D σ H => c σ H fun b H1 => if b = true then t D σ H1 else u D σ H1
theorem ps_if {c : Expr} {a b : List Stmt} {tc : TT} (hc : PT X c tc) (ha : PSs X a t) (hb : PSs X b u) : PS X (.If c a b pos) (tIfS tc t u) := by
 intro pins s σ H D I h
 refine wpAny_If (thn (hc pins s σ H _ I h) fun d s1 ⟨H1, I1, q1⟩ => ?_)
 cases d with
 | true => exact ha pins s1 σ H1 D I1 q1
 | false => exact hb pins s1 σ H1 D I1 q1
end
abbrev TG := V → St → Hp → (St → Hp → Prop) → Prop
def PG (X : Cx) (target : Expr) (t : TG) : Prop :=
 ∀ (pins : List (Addr × Obj)) (s : Shared) (σ : St) (H : Hp) (v : V) (u : Value) (Q : St → Hp → Prop), Inv X pins σ H s → RelV v u → t v σ H Q →
  wpAny (model X.prog X.w) X.A (assign target X.env u) (fun _ s' => ∃ σ' H', Inv X pins σ' H' s' ∧ Q σ' H') X.xe s
abbrev TIp := V → V → Hp → VK → Prop
def PIp (X : Cx) (op : Operator) (t : TIp) : Prop :=
 ∀ (pins : List (Addr × Obj)) (s : Shared) (σ : St) (H : Hp) (x y : V) (v u : Value) (Q : VK), Inv X pins σ H s → RelV x v → RelV y u → t x y H Q →
  wpAny (model X.prog X.w) X.A (inplaceOp op v u) (EP X pins σ Q) X.xe s
section
variable {X : Cx} {pos : Pos}
def gName (i : Nat) : TG := fun v σ H Q => Q (σ.set i (some v)) H
theorem pg_name {i : Nat} {x : Str} (hN : X.N.Nodup) (hi : X.N[i]? = some x) (hx : Loc X.env.scope x) (hf : X.fn x = true ∨ X.env.scope.names.lookup x = some .local := by first | exact .inl rfl | exact .inr rfl | assumption) : PG X (.Name x pos) (gName i) := by
 intro pins s σ H v u Q I r h
 exact wpAny_assign_Name (store_ok I hN hi hx r (fun s' I' => ⟨_, H, I', h⟩) hf)
def tAsg (te : TE) (g : TG) : TS := fun D σ H => te σ H fun x H1 => g x σ H1 D.nx
theorem ps_set {i : Nat} {x : Str} {e : Expr} {te : TE} {pos' : Pos} (hN : X.N.Nodup) (hi : X.N[i]? = some x) (hx : Loc X.env.scope x) (he : PE X e te) (hs : swapsWith e (some (.Name x pos')) pos.line X.env = pure false := by rfl) (hf : X.fn x = true ∨ X.env.scope.names.lookup x = some .local := by first | exact .inl rfl | exact .inr rfl | assumption) :
  PS X (.Assign [.Name x pos'] e pos) (tAsg te (gName i)) := by
 intro pins s σ H D I h
 refine wpAny_Assign_Name (thn (he pins s σ H _ I h) fun v s1 ⟨y, H1, I1, r1, q1⟩ => ?_) hs
 exact store_ok I1 hN hi hx r1 (fun s2 I2 => ⟨_, H1, I2, q1⟩) hf
def tAug (i : Nat) (te : TE) (ti : TIp) : TS := fun D σ H => ∃ x, σ[i]? = some (some x) ∧ te σ H fun y H1 => ti x y H1 fun z H2 => D.nx (σ.set i (some z)) H2
theorem ps_aug {i : Nat} {x : Str} {e : Expr} {te : TE} {op : Operator} {ti : TIp} {pos' : Pos} (hN : X.N.Nodup) (hi : X.N[i]? = some x) (hx : Loc X.env.scope x) (he : PE X e te) (ho : PIp X op ti) (hf : X.fn x = true ∨ X.env.scope.names.lookup x = some .local := by first | exact .inl rfl | exact .inr rfl | assumption) :
  PS X (.AugAssign (.Name x pos') op e pos) (tAug i te ti) := by
 intro pins s σ H D I h
 obtain ⟨v, e1, h⟩ := h
 obtain ⟨m, hn, hl⟩ := I.loc
 have vis : Vis X.env.scope x := by rcases hx with k | k; exact .inl k; exact .inr (.inl k)
 obtain ⟨u, r, l⟩ := hl i x v hi e1 vis
 refine wpAny_AugAssign_Name ?_
 have go : wpAny (model X.prog X.w) X.A (eval e X.env) (fun w s₂ => wpAny (model X.prog X.w) X.A (inplaceOp op u w) (fun r s₃ => wpAny (model X.prog X.w) X.A (storeName X.env x r) (fun _ => SP X pins D .next) X.xe s₃) X.xe s₂) X.xe s := by
  refine thn (he pins s σ H _ I h) fun w s1 ⟨y, H1, I1, r1, q1⟩ => ?_
  refine thn (ho pins s1 σ H1 v y u w _ I1 r r1 q1) fun z s2 ⟨zv, H2, I2, r2, q2⟩ => ?_
  exact store_ok I2 hN hi hx r2 (fun s3 I3 => ⟨_, H2, I3, q2⟩) hf
 rcases l with ⟨hk, hm⟩ | ⟨hk, c, hc, hcell⟩
 ·exact wpAny_loadName_local I.ok.kind hk hn hm go
 ·rcases hk with hk | hk
  ·exact wpAny_loadName_cell I.ok.kind hk hc hcell go
  ·rcases hx with k | k
   ·have : X.env.scope.names.lookup x = some .free := hk
    rw [k] at this; cases this
   ·have : X.env.scope.names.lookup x = some .free := hk
    rw [k] at this; cases this
def ipI (f : Int → Int → Int) : TIp := fun x y H Q => ∃ i j, x = .int i ∧ y = .int j ∧ Q (.int (f i j)) H
theorem ip_add : PIp X .Add (ipI fun i j => i + j) := by
 intro pins s σ H x y v u Q I r1 r2 h
 obtain ⟨i, j, e1, e2, q⟩ := h
 subst e1; subst e2
 obtain ⟨t, rfl⟩ := r1
 obtain ⟨t', rfl⟩ := r2
 exact iadd_int ⟨.int _, H, I.tok _, ⟨_, rfl⟩, q⟩
end
section
variable {X : Cx} {pos : Pos}
def tWhile (c : TT) (tb : TS) : TS := fun D σ H => ∃ W : Nat → St → Hp → Prop, (∃ m, W m σ H) ∧ ∀ m σ H, W m σ H →
 c σ H fun b H1 => if b = true then ∃ N : St → Hp → Prop, (∀ σ' H', N σ' H' → ∃ m', m' < m ∧ W m' σ' H') ∧ tb { D with nx := N, ct := N, bk := D.nx } σ H1 else D.nx σ H1
theorem ps_while {c : Expr} {body : List Stmt} {tc : TT} {tb : TS} (hp : PassesOwn (model X.prog X.w) X.A X.env X.xe) (hc : PT X c tc) (hb : PSs X body tb) : PS X (.While c body [] pos) (tWhile tc tb) := by
 intro pins s σ H D I h
 obtain ⟨W, ⟨m0, w0⟩, turn⟩ := h
 refine wpAny_While (codeAny_whileLoop (fun n s' => ∃ σ' H', Inv X pins σ' H' s' ∧ W n σ' H') ?_ m0 ⟨σ, H, I, w0⟩)
 rintro n s1 ⟨σ1, H1, I1, w1⟩
 refine wpAny_passesOwn hp (thn (hc pins s1 σ1 H1 _ I1 (turn n σ1 H1 w1)) fun b s2 ⟨H2, I2, q2⟩ => ?_)
 cases b with
 | true =>
  obtain ⟨N, hN, q2⟩ := q2
  rw [if_pos rfl]
  refine wpAny_passesOwn hp (thn (hb pins s2 σ1 H2 _ I2 q2) fun f s3 q3 => ?_)
  cases f with
  | next =>
   obtain ⟨σ3, H3, I3, n3⟩ := q3
   obtain ⟨m', hm, w3⟩ := hN σ3 H3 n3
   exact ⟨m', hm, σ3, H3, I3, w3⟩
  | cont =>
   obtain ⟨σ3, H3, I3, n3⟩ := q3
   obtain ⟨m', hm, w3⟩ := hN σ3 H3 n3
   exact ⟨m', hm, σ3, H3, I3, w3⟩
  | brk => exact q3
  | ret v => exact q3
 | false =>
  rw [if_neg Bool.false_ne_true]
  exact wpAny_execs_nil ⟨σ1, H2, I2, q2⟩
end
structure It where
 go : Nat → Hp → Prop
 yld : Nat → Hp → V → Hp → Prop
 stop : Nat → Hp → Prop
def FpOk (X : Cx) (pins : List (Addr × Obj)) (H : Hp) (b : Addr) : Prop :=
 H b = none ∧ b ≠ X.env.locals ∧ b ∉ X.fs ∧ (b ∈ X.ex ∨ X.s_0.heap.objs.size ≤ b) ∧ (∀ x c, X.env.cells.lookup x = some c → c ≠ b) ∧ ∀ p ∈ X.pn ++ pins, p.1 ≠ b
theorem Inv.fpOk {X : Cx} {pins : List (Addr × Obj)} {σ : St} {H H' : Hp} {s : Shared} {b : Addr} (I : Inv X pins σ H s) (hb : s.heap.objs.size ≤ b) (hn : H' b = none) : FpOk X pins H' b := by
 refine ⟨hn, Nat.ne_of_gt (Nat.lt_of_lt_of_le I.lt hb), I.nofs hb, .inr (Nat.le_trans I.sz hb), fun x c e z => ?_, fun p hp z => ?_⟩
 ·obtain ⟨v, q⟩ := I.cell x c e
  exact absurd (Nat.lt_of_lt_of_le q.lt (by rw [z]; exact hb)) (Nat.lt_irrefl _)
 ·exact absurd (Nat.lt_of_lt_of_le (Heap.lt_size (I.pin p hp).1) (by rw [z]; exact hb)) (Nat.lt_irrefl _)
structure Turn (P : Program) (w : World) (K : PySem.W.Frag) (tg : Expr) (J : It) (fp : List Addr) (it : Addr) (tn : Nat → Heap → Prop) : Prop where
 mem : it ∈ fp
 obj : ∀ i h, tn i h → ∀ b ∈ fp, ∃ o, h.get? b = some o ∧ ∀ v, o.data ≠ .cell v
 keep : ∀ i h h', tn i h → (∀ b ∈ fp, ∀ o, h.get? b = some o → h'.get? b = some o) → tn i h'
 item : ∀ (X : Cx), X.prog = P → X.w = w → X.K = K → X.calm = true → ∀ (i : Nat) (pins : List (Addr × Obj)) (s : Shared) (σ : St) (H : Hp) (E : Value → Shared → Prop), Inv X pins σ H s → (∀ b ∈ fp, FpOk X pins H b) → tn i s.heap → J.go i H →
  wpAny (model P w) X.A (pyNext (.ref it)) (fun r s1 => ∃ u, r = some u ∧
   wpAny (model P w) X.A (letOwnedTupleGo tg (.ref it) u) (fun _ s2 => ∃ x H', Inv X pins σ H' s2 ∧ RelV x u ∧ J.yld i H x H' ∧ tn (i + 1) s2.heap ∧ ∀ b ∈ fp, H' b = none) E s1) E s
 done : ∀ (X : Cx), X.prog = P → X.w = w → X.K = K → X.calm = true → ∀ (i : Nat) (pins : List (Addr × Obj)) (s : Shared) (σ : St) (H : Hp) (E : Value → Shared → Prop), Inv X pins σ H s → (∀ b ∈ fp, FpOk X pins H b) → tn i s.heap → J.stop i H →
  wpAny (model P w) X.A (pyNext (.ref it)) (fun r s1 => r = none ∧ Inv X pins σ H s1) E s
 self : ∀ (A : Around) (i : Nat) (s : Shared) (Q : Value → Shared → Prop) (E : Value → Shared → Prop), tn i s.heap → Q (.ref it) s → wpAny (model P w) A (pyIter (.ref it)) Q E s
abbrev TI := St → Hp → (It → Hp → Prop) → Prop
def PIE (X : Cx) (pins : List (Addr × Obj)) (σ : St) (tg : Expr) (R : It → Hp → Prop) (itv : Value) (s2 : Shared) : Prop :=
 ∃ (it : Addr) (fp : List Addr) (tn : Nat → Heap → Prop) (J : It) (H' : Hp), itv = .ref it ∧ Inv X pins σ H' s2 ∧ Turn X.prog X.w X.K tg J fp it tn ∧ tn 0 s2.heap ∧ (∀ b ∈ fp, FpOk X pins H' b) ∧ R J H'
def PI (X : Cx) (tg iter : Expr) (wi : TI) : Prop :=
 ∀ (pins : List (Addr × Obj)) (s : Shared) (σ : St) (H : Hp) (R : It → Hp → Prop), Inv X pins σ H s → wi σ H R →
  wpAny (model X.prog X.w) X.A (eval iter X.env) (fun v s1 => wpAny (model X.prog X.w) X.A (pyIter v) (PIE X pins σ tg R) X.xe s1) X.xe s
theorem go_of {M : Model} {A : Around} {E : Value → Shared → Prop} {s : Shared} {tg : Expr} {it : Addr} {u : Value} {o : Obj} {n : String} {vs : Array Value} {Q : Unit → Shared → Prop} (ho : s.heap.get? it = some o) (hc : o.cls = .type n) (hd : o.data = .fields vs)
  (hn : ["enumerate", "zip", "dict_itemiterator", "dict_reverseitemiterator", "odict_iterator", "itertools.zip_longest", "itertools.pairwise"].contains n = false) (hQ : Q () s) : wpAny M A (letOwnedTupleGo tg (.ref it) u) Q E s := by
 unfold letOwnedTupleGo
 cases tg <;> first
  | exact wpAny_pure hQ
  | (cases u <;> first
    | exact wpAny_pure hQ
    | (refine wpAny_bind (wpAny_load ho ?_); rw [hc, hd]; show wpAny M A (if (["enumerate", "zip", "dict_itemiterator", "dict_reverseitemiterator", "odict_iterator", "itertools.zip_longest", "itertools.pairwise"].contains n && vs[0]? == some (rawInt _)) = true then _ else _) Q E s; rw [if_neg (by intro h; rw [hn, Bool.false_and] at h; cases h)]; exact wpAny_pure hQ))
def Itl (K : PySem.W.Frag) (a : Addr) : It :=
 ⟨fun i H => ∃ xs x, SqL K H a xs ∧ xs[i]? = some x, fun i H x H' => H' = H ∧ ∀ xs, SqL K H a xs → xs[i]? = some x, fun i H => ∃ xs, SqL K H a xs ∧ xs.length ≤ i⟩
theorem turn_list {P : Program} {w : World} {K : PySem.W.Frag} {tg : Expr} (a it : Addr) : Turn P w K tg (Itl K a) [it] it (fun i h => h.IsListIter it a i) where
 mem := by simp
 obj := fun i h st b hb => by
  have e : b = it := by simpa using hb
  subst e
  obtain ⟨o, e, c, d⟩ := st
  exact ⟨o, e, fun v z => by rw [d] at z; cases z⟩
 keep := fun i h h' st k => st.at fun o e => k it (by simp) o e
 item := by
  intro X hP hw hK hc i pins s σ H E I hf st hg
  subst hP hw hK
  obtain ⟨xs, x, hq, hx⟩ := hg
  obtain ⟨its, rv, p, hz⟩ := I.list hq
  obtain ⟨u, hu, ru⟩ := rv.get hx
  obtain ⟨f0, f1, f2, f3, f4, f5⟩ := hf it (by simp)
  refine wpAny_pyNext_list_item st p.isList (x := u) (by simpa using hu) fun h' st' sb => ?_
  have I1 : Inv X pins σ H { s with heap := h' } := I.turned (t' := s.toks) (fun b o hb e => (sb.2 b hb).trans e) f0 f1 f3 f4 f5
  obtain ⟨o, e, c, d⟩ := id st'
  exact ⟨u, rfl, go_of (s := { s with heap := h' }) e c d (by decide) ⟨x, H, I1, ru, ⟨rfl, fun ys hy => by rw [I.list_inj hy hq]; exact hx⟩, st', fun b hb => (hf b hb).1⟩⟩
 done := by
  intro X hP hw hK hc i pins s σ H E I hf st hg
  subst hP hw hK
  obtain ⟨xs, hq, hx⟩ := hg
  obtain ⟨its, rv, p, hz⟩ := I.list hq
  obtain ⟨f0, f1, f2, f3, f4, f5⟩ := hf it (by simp)
  have hl := rv.length
  exact wpAny_pyNext_list_end (I.ok.hd hc) st p.isList (by simp; omega) fun h' eb => ⟨rfl, I.turned (t' := s.toks) (fun b o hb e => eb b o hb e) f0 f1 f3 f4 f5⟩
 self := fun _ _ _ _ _ st h => wpAny_pyIter_listiter st h
section
variable {X : Cx} {tg : Expr}
def iList (K : PySem.W.Frag) (tl : TE) : TI := fun σ H R => tl σ H fun x H1 => ∃ a, x = .ref a ∧ (∃ xs, SqL K H1 a xs) ∧ R (Itl K a) H1
theorem pi_list {l : Expr} {tl : TE} (hl : PE X l tl) : PI X tg l (iList X.K tl) := by
 intro pins s σ H R I h
 refine thn (hl pins s σ H _ I h) fun v s1 ⟨x, H1, I1, r1, q1⟩ => ?_
 obtain ⟨a, e, ⟨xs, hq⟩, q⟩ := q1
 subst e
 cases r1
 obtain ⟨its, rv, p, hz⟩ := I1.list hq
 refine wpAny_pyIter_list p.isList ?_
 refine ⟨s1.heap.objs.size, [s1.heap.objs.size], _, _, H1, rfl, I1.kept (t' := s1.toks) fun b o e => Heap.get?_push_of_some _ e, turn_list a _, ⟨_, Heap.get?_push_size _ rfl, rfl, rfl⟩, fun b hb => ?_, q⟩
 have e : b = s1.heap.objs.size := by simpa using hb
 subst e
 exact I1.fpOk (Nat.le_refl _) (I1.hok.fresh (Nat.le_refl _))
def tFor (wi : TI) (g : TG) (tb : TS) : TS := fun D σ H => wi σ H fun J H1 => ∃ W : Nat → Nat → St → Hp → Prop, (∃ m, W 0 m σ H1) ∧ ∀ i m σ H, W i m σ H →
 (J.stop i H ∧ D.nx σ H) ∨ (J.go i H ∧ ∃ N : St → Hp → Prop, (∀ σ' H', N σ' H' → ∃ m', m' < m ∧ W (i + 1) m' σ' H') ∧ ∀ x H', J.yld i H x H' → g x σ H' fun σ2 H2 => tb { D with nx := N, ct := N, bk := D.nx } σ2 H2)
def pinsAt (fp : List Addr) (h : Heap) : List (Addr × Obj) := fp.filterMap fun b => (h.get? b).map fun o => (b, o)
theorem mem_pinsAt {fp : List Addr} {h : Heap} {b : Addr} {o : Obj} (hb : b ∈ fp) (e : h.get? b = some o) : (b, o) ∈ pinsAt fp h := List.mem_filterMap.mpr ⟨b, hb, by rw [e]; rfl⟩
theorem of_pinsAt {fp : List Addr} {h : Heap} {p : Addr × Obj} (hp : p ∈ pinsAt fp h) : p.1 ∈ fp ∧ h.get? p.1 = some p.2 := by
 obtain ⟨b, hb, e⟩ := List.mem_filterMap.mp hp
 cases q : h.get? b with
 | none => rw [q] at e; cases e
 | some o =>
  rw [q] at e
  have e' : (b, o) = p := Option.some.inj e
  subst e'
  exact ⟨hb, q⟩
theorem Inv.pinned {pins : List (Addr × Obj)} {σ : St} {H : Hp} {s : Shared} {fp : List Addr} (I : Inv X pins σ H s) (hf : ∀ b ∈ fp, FpOk X pins H b) (ho : ∀ b ∈ fp, ∃ o, s.heap.get? b = some o ∧ ∀ v, o.data ≠ .cell v) : Inv X (pins ++ pinsAt fp s.heap) σ H s :=
 I.pins_of fun p hp => (List.mem_append.mp hp).elim (fun z => I.pin p (List.mem_append_right _ z)) fun z => by
  obtain ⟨hb, e⟩ := of_pinsAt z
  obtain ⟨f0, f1, f2, _⟩ := hf p.1 hb
  obtain ⟨o, e', d⟩ := ho p.1 hb
  rw [e] at e'; cases e'
  exact ⟨e, f0, f1, f2, d⟩
theorem Inv.unpinned {pins pl : List (Addr × Obj)} {σ : St} {H : Hp} {s : Shared} (I : Inv X (pins ++ pl) σ H s) : Inv X pins σ H s := I.pins_of fun p hp => I.pin p (List.mem_append_right _ (List.mem_append_left _ hp))
theorem ps_for {iter : Expr} {body : List Stmt} {wi : TI} {g : TG} {tb : TS} {pos : Pos} (hp : PassesOwn (model X.prog X.w) X.A X.env X.xe) (hc : X.calm = true) (hi : PI X tg iter wi) (hg : PG X tg g) (hb : PSs X body tb)
  (hs : ∀ x, foldedSetIterable iter X.env x = pure x := by intro _; rfl) : PS X (.For tg iter body [] pos) (tFor wi g tb) := by
 intro pins s σ H D I h
 refine wpAny_For (thn (hi pins s σ H _ I h) fun v s1 h1 => thn h1 fun itv s2 h2 => ?_) hs
 obtain ⟨it, fp, tn, J, H2, e, I2, T, st2, f2, W, ⟨m0, w0⟩, turn⟩ := h2
 subst e
 have stat : ∀ {H' : Hp}, (∀ b ∈ fp, H' b = none) → ∀ b ∈ fp, FpOk X pins H' b := fun hn b hb => ⟨hn b hb, (f2 b hb).2⟩
 refine codeAny_forLoop_any (fun n s' => ∃ i σ' H', Inv X pins σ' H' s' ∧ tn i s'.heap ∧ (∀ b ∈ fp, H' b = none) ∧ W i n σ' H') ?_ m0 ⟨0, σ, H2, I2, st2, fun b hb => (f2 b hb).1, w0⟩
 rintro n s3 ⟨i, σ3, H3, I3, st3, fr3, w3⟩
 rcases turn i n σ3 H3 w3 with ⟨stop, qn⟩ | ⟨go, N, hN, step⟩
 ·refine wpAny_passesOwn hp (thn (T.done X rfl rfl rfl hc i pins s3 σ3 H3 X.xe I3 (stat fr3) st3 stop) fun r s4 ⟨hr, I4⟩ => ?_)
  subst hr
  exact wpAny_execs_nil ⟨σ3, H3, I4, qn⟩
 ·refine wpAny_passesOwn hp (thn (T.item X rfl rfl rfl hc i pins s3 σ3 H3 X.xe I3 (stat fr3) st3 go) fun r s4 ⟨u, hr, h4⟩ => ?_)
  subst hr
  refine wpAny_passesOwn hp (thn h4 fun _ s5 ⟨x, H5, I5, r5, y5, st5, fr5⟩ => ?_)
  have I5' := I5.pinned (stat fr5) (T.obj _ _ st5)
  refine wpAny_passesOwn hp (thn (hg _ s5 σ3 H5 x u _ I5' r5 (step x H5 y5)) fun _ s6 ⟨σ6, H6, I6, q6⟩ => ?_)
  refine wpAny_passesOwn hp (thn (hb _ s6 σ6 H6 _ I6 q6) fun f s7 q7 => ?_)
  have again : ∀ {σ7 : St} {H7 : Hp}, Inv X (pins ++ pinsAt fp s5.heap) σ7 H7 s7 → N σ7 H7 → ∃ m, m < n ∧ ∃ i σ' H', Inv X pins σ' H' s7 ∧ tn i s7.heap ∧ (∀ b ∈ fp, H' b = none) ∧ W i m σ' H' := fun {σ7 H7} I7 n7 => by
   obtain ⟨m', hm, w7⟩ := hN σ7 H7 n7
   refine ⟨m', hm, i + 1, σ7, H7, I7.unpinned, T.keep _ _ _ st5 fun b hb o e => (I7.pin (b, o) (List.mem_append_right _ (List.mem_append_right _ (mem_pinsAt hb e)))).1, fun b hb => ?_, w7⟩
   obtain ⟨o, e, d⟩ := T.obj _ _ st5 b hb
   exact (I7.pin (b, o) (List.mem_append_right _ (List.mem_append_right _ (mem_pinsAt hb e)))).2.1
  cases f with
  | next => obtain ⟨σ7, H7, I7, n7⟩ := q7; exact again I7 n7
  | cont => obtain ⟨σ7, H7, I7, n7⟩ := q7; exact again I7 n7
  | brk => obtain ⟨σ7, H7, I7, q7⟩ := q7; exact ⟨σ7, H7, I7.unpinned, q7⟩
  | ret v => obtain ⟨x7, σ7, H7, I7, r7, q7⟩ := q7; exact ⟨x7, σ7, H7, I7.unpinned, r7, q7⟩
end
theorem for_list {K : PySem.W.Frag} {a : Addr} {xs : List V} {g : TG} {tb : TS} {D : Ends} {σ : St} {H : Hp} (Pv : Nat → St → Hp → Prop) (h0 : Pv 0 σ H) (hl : ∀ i σ H, i ≤ xs.length → Pv i σ H → SqL K H a xs)
  (hs : ∀ i x σ H, xs[i]? = some x → Pv i σ H → g x σ H fun σ2 H2 => tb { D with nx := Pv (i + 1), ct := Pv (i + 1), bk := D.nx } σ2 H2) (hd : ∀ σ H, Pv xs.length σ H → D.nx σ H) :
  ∃ W : Nat → Nat → St → Hp → Prop, (∃ m, W 0 m σ H) ∧ ∀ i m σ H, W i m σ H →
   ((Itl K a).stop i H ∧ D.nx σ H) ∨ ((Itl K a).go i H ∧ ∃ N : St → Hp → Prop, (∀ σ' H', N σ' H' → ∃ m', m' < m ∧ W (i + 1) m' σ' H') ∧ ∀ x H', (Itl K a).yld i H x H' → g x σ H' fun σ2 H2 => tb { D with nx := N, ct := N, bk := D.nx } σ2 H2) := by
 refine ⟨fun i m σ H => m = xs.length - i ∧ i ≤ xs.length ∧ Pv i σ H, ⟨xs.length, by simp, Nat.zero_le _, h0⟩, ?_⟩
 rintro i m σ H ⟨rfl, hi, p⟩
 have q := hl i σ H hi p
 by_cases hlt : i < xs.length
 ·refine .inr ⟨⟨xs, xs[i], q, by simp [hlt]⟩, Pv (i + 1), fun σ' H' p' => ⟨xs.length - (i + 1), by omega, rfl, hlt, p'⟩, fun x H' y => ?_⟩
  obtain ⟨e, y⟩ := y
  subst e
  exact hs i x σ _ (y xs q) p
 ·have e : i = xs.length := by omega
  subst e
  exact .inl ⟨⟨xs, q, Nat.le_refl _⟩, hd σ H p⟩
theorem while_by {c : TT} {tb : TS} {D : Ends} {σ : St} {H : Hp} (Pv : St → Hp → Prop) (μ : St → Hp → Nat) (h0 : Pv σ H)
  (hs : ∀ σ H, Pv σ H → c σ H fun b H1 => if b = true then tb { D with nx := fun σ' H' => Pv σ' H' ∧ μ σ' H' < μ σ H, ct := fun σ' H' => Pv σ' H' ∧ μ σ' H' < μ σ H, bk := D.nx } σ H1 else D.nx σ H1)
  (mono : ∀ σ H Q Q', (∀ b H1, Q b H1 → Q' b H1) → c σ H Q → c σ H Q') : tWhile c tb D σ H := by
 refine ⟨fun m σ H => m = μ σ H ∧ Pv σ H, ⟨_, rfl, h0⟩, ?_⟩
 rintro m σ H ⟨rfl, p⟩
 refine mono σ H _ _ (fun b H1 q => ?_) (hs σ H p)
 cases b with
 | true => exact ⟨_, fun σ' H' ⟨p', l⟩ => ⟨_, l, rfl, p'⟩, q⟩
 | false => exact q
abbrev R2 := V → V → Hp → VK → Prop
def OpR (X : Cx) (f : Value → Value → Sem Value) (r : R2) : Prop :=
 ∀ (pins : List (Addr × Obj)) (s : Shared) (σ : St) (H : Hp) (x y : V) (v u : Value) (Q : VK), Inv X pins σ H s → RelV x v → RelV y u → r x y H Q →
  wpAny (model X.prog X.w) X.A (f v u) (EP X pins σ Q) X.xe s
def CallR (X : Cx) (f : Value) (r : List V → Hp → VK → Prop) : Prop :=
 ∀ (pins : List (Addr × Obj)) (s : Shared) (σ : St) (H : Hp) (xs : List V) (us : List Value) (Q : VK), Inv X pins σ H s → Vals xs us → r xs H Q →
  wpAny (model X.prog X.w) X.A (call f us) (EP X pins σ Q) X.xe s
def TruR (X : Cx) (r : V → Hp → (Bool → Hp → Prop) → Prop) : Prop :=
 ∀ (pins : List (Addr × Obj)) (s : Shared) (σ : St) (H : Hp) (x : V) (v : Value) (Q : Bool → Hp → Prop), Inv X pins σ H s → RelV x v → r x H Q →
  wpAny (model X.prog X.w) X.A (truthy v) (TP X pins σ Q) X.xe s
def tOp (r : R2) (ta tb : TE) : TE := fun σ H Q => ta σ H fun x H1 => tb σ H1 fun y H2 => r x y H2 Q
def rI (C : Int → Int → Prop) (g : Int → Int → V) : R2 := fun x y H Q => ∃ i j, x = .int i ∧ y = .int j ∧ C i j ∧ Q (g i j) H
def rI0 (g : Int → Int → V) : R2 := fun x y H Q => ∃ i j, x = .int i ∧ y = .int j ∧ Q (g i j) H
section
variable {X : Cx} {a b c : Expr} {ta tb tc : TE} {pos : Pos}
theorem binT (ha : PE X a ta) (hb : PE X b tb) {pins : List (Addr × Obj)} {s : Shared} {σ : St} {H : Hp} {R : V → V → Hp → Prop} (I : Inv X pins σ H s)
  (h : ta σ H fun x H1 => tb σ H1 fun y H2 => R x y H2) {Q : Value → Shared → Prop} {f : Value → Value → Sem Value}
  (hf : ∀ v u s2 x y H2, Inv X pins σ H2 s2 → RelV x v → RelV y u → R x y H2 → wpAny (model X.prog X.w) X.A (f v u) Q X.xe s2) :
  wpAny (model X.prog X.w) X.A (eval a X.env) (fun v s₁ => wpAny (model X.prog X.w) X.A (eval b X.env) (fun u s₂ => wpAny (model X.prog X.w) X.A (f v u) Q X.xe s₂) X.xe s₁) X.xe s := by
 refine thn (ha pins s σ H _ I h) fun v s1 ⟨x, H1, I1, r1, q1⟩ => ?_
 refine thn (hb pins s1 σ H1 _ I1 q1) fun u s2 ⟨y, H2, I2, r2, q2⟩ => ?_
 exact hf v u s2 x y H2 I2 r1 r2 q2
theorem pe_op {op : Operator} {r : R2} (ho : OpR X (binaryOp op) r) (ha : PE X a ta) (hb : PE X b tb) : PE X (.BinOp a op b pos) (tOp r ta tb) := by
 intro pins s σ H Q I h
 exact wpAny_BinOp (binT ha hb I h fun v u s2 x y H2 I2 rx ry q => ho pins s2 σ H2 x y v u Q I2 rx ry q)
theorem opI {f : Value → Value → Sem Value} {C : Int → Int → Prop} {g : Int → Int → Int}
  (rule : ∀ (i j : Int) (t u : Tok) (s : Shared) (Q : Value → Shared → Prop) (E : Value → Shared → Prop), C i j → Q (.int (g i j) s.toks) { s with toks := s.toks + 1 } → wpAny (model X.prog X.w) X.A (f (.int i t) (.int j u)) Q E s) :
  OpR X f (rI C fun i j => .int (g i j)) := by
 intro pins s σ H x y v u Q I rx ry h
 obtain ⟨i, j, rfl, rfl, hc, q⟩ := h
 obtain ⟨t, rfl⟩ := rx
 obtain ⟨t', rfl⟩ := ry
 exact rule i j t t' s _ _ hc ⟨.int (g i j), H, I.tok _, ⟨_, rfl⟩, q⟩
theorem opI0 {f : Value → Value → Sem Value} {g : Int → Int → Int}
  (rule : ∀ (i j : Int) (t u : Tok) (s : Shared) (Q : Value → Shared → Prop) (E : Value → Shared → Prop), Q (.int (g i j) s.toks) { s with toks := s.toks + 1 } → wpAny (model X.prog X.w) X.A (f (.int i t) (.int j u)) Q E s) :
  OpR X f (rI0 fun i j => .int (g i j)) := by
 intro pins s σ H x y v u Q I rx ry h
 obtain ⟨i, j, rfl, rfl, q⟩ := h
 obtain ⟨t, rfl⟩ := rx
 obtain ⟨t', rfl⟩ := ry
 exact rule i j t t' s _ _ ⟨.int (g i j), H, I.tok _, ⟨_, rfl⟩, q⟩
theorem opB0 {f : Value → Value → Sem Value} {g : Int → Int → Bool}
  (rule : ∀ (i j : Int) (t u : Tok) (s : Shared) (Q : Value → Shared → Prop) (E : Value → Shared → Prop), Q (.bool (g i j)) s → wpAny (model X.prog X.w) X.A (f (.int i t) (.int j u)) Q E s) :
  OpR X f (rI0 fun i j => .bl (g i j)) := by
 intro pins s σ H x y v u Q I rx ry h
 obtain ⟨i, j, rfl, rfl, q⟩ := h
 obtain ⟨t, rfl⟩ := rx
 obtain ⟨t', rfl⟩ := ry
 exact rule i j t t' s _ _ ⟨.bl (g i j), H, I, rfl, q⟩
def CMul (i j : Int) : Prop := (-(2 ^ 64) < i ∧ i < 2 ^ 64) ∨ (-(2 ^ 64) < j ∧ j < 2 ^ 64)
theorem CMul.ok {i j : Int} (h : CMul i j) : IntMulOk i j := by
 rcases h with ⟨h1, h2⟩ | ⟨h1, h2⟩
 ·exact .of_left (intBits_le_64 h1 h2)
 ·exact .of_right (intBits_le_64 h1 h2)
theorem op_add : OpR X (binaryOp .Add) (rI0 fun i j => .int (i + j)) := opI0 fun _ _ _ _ _ _ _ q => add_int q
theorem op_sub : OpR X (binaryOp .Sub) (rI0 fun i j => .int (i - j)) := opI0 fun _ _ _ _ _ _ _ q => sub_int q
theorem op_mul : OpR X (binaryOp .Mult) (rI CMul fun i j => .int (i * j)) := opI fun _ _ _ _ _ _ _ hc q => mul_int q hc.ok
end
def scal : V → V → Bool
 | .non, .non => true | .non, .int _ => true | .int _, .non => true | .non, .bl _ => true | .bl _, .non => true | .non, .str _ => true | .str _, .non => true
 | .int _, .int _ => true | .bl _, .bl _ => true | .str _, .str _ => true | .byt _, .byt _ => true
 | .int _, .str _ => true | .str _, .int _ => true | .bl _, .str _ => true | .str _, .bl _ => true
 | _, _ => false
def rEq : R2 := fun x y H Q => scal x y = true ∧ Q (.bl (decide (x = y))) H
def rNe : R2 := fun x y H Q => scal x y = true ∧ Q (.bl (!decide (x = y))) H
theorem dec_int {i j : Int} : decide (V.int i = V.int j) = (i == j) := by
 rw [Bool.eq_iff_iff]
 simp
theorem dec_bl {i j : Bool} : decide (V.bl i = V.bl j) = (i == j) := by
 rw [Bool.eq_iff_iff]
 simp
theorem dec_str {i j : Str} : decide (V.str i = V.str j) = (i == j) := by
 rw [Bool.eq_iff_iff]
 simp
theorem dec_byt {i j : Array UInt8} : decide (V.byt i = V.byt j) = (i.toList == j.toList) := by
 rw [Bool.eq_iff_iff]
 cases i
 cases j
 simp
section
variable {X : Cx} {a b c : Expr} {ta tb tc : TE} {pos : Pos}
theorem fin_bl {pins : List (Addr × Obj)} {σ : St} {H : Hp} {s : Shared} {Q : VK} {k k' : Bool} (I : Inv X pins σ H s) (q : Q (.bl k) H) (e : k = k') : EP X pins σ Q (.bool k') s := by
 subst e
 exact ⟨.bl k, H, I, rfl, q⟩
theorem op_eq : OpR X (compareOp .Eq) rEq := by
 intro pins s σ H x y v u Q I rx ry h
 obtain ⟨hs, q⟩ := h
 cases x with
 | non =>
  cases rx
  cases y with
  | non => cases ry; exact PySem.EqNone.eq_none_none (fin_bl I q (by simp))
  | bl j => cases ry; exact PySem.EqNone.eq_none_bool (fin_bl I q (by simp))
  | int j => obtain ⟨t', rfl⟩ := ry; exact PySem.EqNone.eq_none_int (fin_bl I q (by simp))
  | str j => obtain ⟨t', rfl⟩ := ry; exact PySem.EqNone.eq_none_str (fin_bl I q (by simp))
  | _ => exact absurd (show false = true from hs) Bool.false_ne_true
 | bl i =>
  cases rx
  cases y with
  | non => cases ry; exact PySem.EqNone.eq_bool_none (fin_bl I q (by simp))
  | bl j => cases ry; exact eq_bool (fin_bl I q dec_bl)
  | str j => obtain ⟨t', rfl⟩ := ry; exact PySem.EqMixed.eq_bool_str (fin_bl I q (by simp))
  | _ => exact absurd (show false = true from hs) Bool.false_ne_true
 | int i =>
  obtain ⟨t, rfl⟩ := rx
  cases y with
  | non => cases ry; exact PySem.EqNone.eq_int_none (fin_bl I q (by simp))
  | int j => obtain ⟨t', rfl⟩ := ry; exact eq_int (fin_bl I q dec_int)
  | str j => obtain ⟨t', rfl⟩ := ry; exact PySem.EqMixed.eq_int_str (fin_bl I q (by simp))
  | _ => exact absurd (show false = true from hs) Bool.false_ne_true
 | str i =>
  obtain ⟨t, rfl⟩ := rx
  cases y with
  | non => cases ry; exact PySem.EqNone.eq_str_none (fin_bl I q (by simp))
  | bl j => cases ry; exact PySem.EqMixed.eq_str_bool (fin_bl I q (by simp))
  | int j => obtain ⟨t', rfl⟩ := ry; exact PySem.EqMixed.eq_str_int (fin_bl I q (by simp))
  | str j => obtain ⟨t', rfl⟩ := ry; exact eq_str (fin_bl I q dec_str)
  | _ => exact absurd (show false = true from hs) Bool.false_ne_true
 | byt i =>
  obtain ⟨t, rfl⟩ := rx
  cases y with
  | byt j => obtain ⟨t', rfl⟩ := ry; exact PySem.W.eq_bytes (fin_bl I q dec_byt)
  | _ => exact absurd (show false = true from hs) Bool.false_ne_true
 | _ => cases y <;> exact absurd (show false = true from hs) Bool.false_ne_true
theorem op_ne : OpR X (compareOp .NotEq) rNe := by
 intro pins s σ H x y v u Q I rx ry h
 obtain ⟨hs, q⟩ := h
 cases x with
 | non =>
  cases rx
  cases y with
  | non => cases ry; exact PySem.EqNone.ne_none_none (fin_bl I q (by simp))
  | bl j => cases ry; exact PySem.EqNone.ne_none_bool (fin_bl I q (by simp))
  | int j => obtain ⟨t', rfl⟩ := ry; exact PySem.EqNone.ne_none_int (fin_bl I q (by simp))
  | str j => obtain ⟨t', rfl⟩ := ry; exact PySem.EqNone.ne_none_str (fin_bl I q (by simp))
  | _ => exact absurd (show false = true from hs) Bool.false_ne_true
 | bl i =>
  cases rx
  cases y with
  | non => cases ry; exact PySem.EqNone.ne_bool_none (fin_bl I q (by simp))
  | bl j => cases ry; exact ne_bool (fin_bl I q (congrArg not dec_bl))
  | str j => obtain ⟨t', rfl⟩ := ry; exact PySem.EqMixed.ne_bool_str (fin_bl I q (by simp))
  | _ => exact absurd (show false = true from hs) Bool.false_ne_true
 | int i =>
  obtain ⟨t, rfl⟩ := rx
  cases y with
  | non => cases ry; exact PySem.EqNone.ne_int_none (fin_bl I q (by simp))
  | int j => obtain ⟨t', rfl⟩ := ry; exact ne_int (fin_bl I q (congrArg not dec_int))
  | str j => obtain ⟨t', rfl⟩ := ry; exact PySem.EqMixed.ne_int_str (fin_bl I q (by simp))
  | _ => exact absurd (show false = true from hs) Bool.false_ne_true
 | str i =>
  obtain ⟨t, rfl⟩ := rx
  cases y with
  | non => cases ry; exact PySem.EqNone.ne_str_none (fin_bl I q (by simp))
  | bl j => cases ry; exact PySem.EqMixed.ne_str_bool (fin_bl I q (by simp))
  | int j => obtain ⟨t', rfl⟩ := ry; exact PySem.EqMixed.ne_str_int (fin_bl I q (by simp))
  | str j => obtain ⟨t', rfl⟩ := ry; exact ne_str (fin_bl I q (congrArg not dec_str))
  | _ => exact absurd (show false = true from hs) Bool.false_ne_true
 | byt i =>
  obtain ⟨t, rfl⟩ := rx
  cases y with
  | byt j => obtain ⟨t', rfl⟩ := ry; exact PySem.W.ne_bytes (fin_bl I q (congrArg not dec_byt))
  | _ => exact absurd (show false = true from hs) Bool.false_ne_true
 | _ => cases y <;> exact absurd (show false = true from hs) Bool.false_ne_true
theorem op_lt : OpR X (compareOp .Lt) (rI0 fun i j => .bl (decide (i < j))) := opB0 fun _ _ _ _ _ _ _ q => lt_int q
theorem op_le : OpR X (compareOp .LtE) (rI0 fun i j => .bl (decide (i ≤ j))) := opB0 fun _ _ _ _ _ _ _ q => le_int q
theorem op_gt : OpR X (compareOp .Gt) (rI0 fun i j => .bl (decide (j < i))) := opB0 fun _ _ _ _ _ _ _ q => gt_int q
theorem op_ge : OpR X (compareOp .GtE) (rI0 fun i j => .bl (decide (j ≤ i))) := opB0 fun _ _ _ _ _ _ _ q => ge_int q
theorem OpR.or {f : Value → Value → Sem Value} {r r' : R2} (h : OpR X f r) (h' : OpR X f r') : OpR X f (fun x y H Q => r x y H Q ∨ r' x y H Q) := by
 intro pins s σ H x y v u Q I rx ry q
 rcases q with q | q
 ·exact h pins s σ H x y v u Q I rx ry q
 ·exact h' pins s σ H x y v u Q I rx ry q
theorem nomark (b : Expr) {op : CmpOp} (h : op ≠ .In := by decide) (h2 : op ≠ .NotIn := by decide) : behindInMarks op b = false := by
 have e1 : (op == CmpOp.In) = false := by cases op <;> first | rfl | exact absurd rfl h
 have e2 : (op == CmpOp.NotIn) = false := by cases op <;> first | rfl | exact absurd rfl h2
 cases b <;> simp [behindInMarks, e1, e2]
theorem pe_cmpR {op : CmpOp} {r : R2} (ho : OpR X (compareOp op) r) (ha : PE X a ta) (hb : PE X b tb) (hm : behindInMarks op b = false) : PE X (.Compare a [op] [b] pos) (tOp r ta tb) := by
 intro pins s σ H Q I h
 exact wpAny_Compare1 (binT ha hb I h fun v u s2 x y H2 I2 rx ry q => ho pins s2 σ H2 x y v u Q I2 rx ry q) hm
def tTest (t : TE) : TT := fun σ H Q => t σ H fun x H' => ∃ k, x = .bl k ∧ Q k H'
theorem pt_cmpR {op : CmpOp} {r : R2} (ho : OpR X (compareOp op) r) (ha : PE X a ta) (hb : PE X b tb) (hm : behindInMarks op b = false) : PT X (.Compare a [op] [b] pos) (tTest (tOp r ta tb)) := by
 intro pins s σ H Q I h
 refine wpAny_isTrue_Compare1 (thn (ha pins s σ H _ I h) fun v s1 ⟨x, H1, I1, r1, q1⟩ => thn (hb pins s1 σ H1 _ I1 q1) fun u s2 ⟨y, H2, I2, r2, q2⟩ =>
  thn (ho pins s2 σ H2 x y v u _ I2 r1 r2 q2) fun c s3 ⟨z, H3, I3, r3, k, e, q3⟩ => ?_) hm
 subst e
 cases r3
 exact wpAny_truthy_bool ⟨H3, I3, q3⟩
def tChain (r r' : R2) (ta tb tc : TE) : TE := fun σ H Q => ta σ H fun x H1 => tb σ H1 fun y H2 => r x y H2 fun z H3 => ∃ k, z = .bl k ∧
 (if k = true then tc σ H3 fun w' H4 => r' y w' H4 Q else Q (.bl false) H3)
theorem pe_chain {op op' : CmpOp} {r r' : R2} (ho : OpR X (compareOp op) r) (ho' : OpR X (compareOp op') r') (ha : PE X a ta) (hb : PE X b tb) (hc : PE X c tc)
  (hm : lastMarks [op, op'] [b, c] = false := by with_unfolding_all rfl) : PE X (.Compare a [op, op'] [b, c] pos) (tChain r r' ta tb tc) := by
 intro pins s σ H Q I h
 refine Compare_chain (thn (ha pins s σ H _ I h) fun v s1 ⟨x, H1, I1, r1, q1⟩ => chain_link (thn (hb pins s1 σ H1 _ I1 q1) fun u s2 ⟨y, H2, I2, r2, q2⟩ =>
  thn (ho pins s2 σ H2 x y v u _ I2 r1 r2 q2) fun d s3 ⟨z, H3, I3, r3, k, e, q3⟩ => ?_)) hm
 subst e
 cases r3
 refine wpAny_truthy_bool ?_
 cases k with
 | false => exact ite_ff ⟨.bl false, H3, I3, rfl, q3⟩
 | true => exact ite_tt (chain_last (thn (hc pins s3 σ H3 _ I3 q3) fun w' s4 ⟨z', H4, I4, r4, q4⟩ => ho' pins s4 σ H4 y z' u w' Q I4 r2 r4 q4))
theorem pt_chain {op op' : CmpOp} {r r' : R2} (ho : OpR X (compareOp op) r) (ho' : OpR X (compareOp op') r') (ha : PE X a ta) (hb : PE X b tb) (hc : PE X c tc)
  (hm : lastMarks [op, op'] [b, c] = false := by with_unfolding_all rfl) : PT X (.Compare a [op, op'] [b, c] pos) (tTest (tChain r r' ta tb tc)) := by
 intro pins s σ H Q I h
 refine isTrue_chain (thn (ha pins s σ H _ I h) fun v s1 ⟨x, H1, I1, r1, q1⟩ => test_link (thn (hb pins s1 σ H1 _ I1 q1) fun u s2 ⟨y, H2, I2, r2, q2⟩ =>
  thn (ho pins s2 σ H2 x y v u _ I2 r1 r2 q2) fun d s3 ⟨z, H3, I3, r3, k, e, q3⟩ => ?_)) hm
 subst e
 cases r3
 refine wpAny_truthy_bool ?_
 cases k with
 | false =>
  obtain ⟨k', e', q'⟩ := q3
  cases e'
  exact ite_ff ⟨H3, I3, q'⟩
 | true =>
  refine ite_tt (test_last (thn (hc pins s3 σ H3 _ I3 q3) fun w' s4 ⟨z', H4, I4, r4, q4⟩ => thn (ho' pins s4 σ H4 y z' u w' _ I4 r2 r4 q4) fun d' s5 ⟨z2, H5, I5, r5, k2, e2, q5⟩ => ?_))
  subst e2
  cases r5
  exact wpAny_truthy_bool ⟨H5, I5, q5⟩
def TruV (K : PySem.W.Frag) (x : V) (H : Hp) (k : Bool) : Prop :=
 match x with
 | .non => k = false
 | .bl b => k = b
 | .int i => k = (i != 0)
 | .str y => y.length ≤ sizeLine ∧ k = ((y.length : Int) != 0)
 | .byt y => y.size ≤ sizeLine ∧ k = ((y.size : Int) != 0)
 | .ref p => (∃ xs, SqL K H p xs ∧ k = !xs.isEmpty) ∨ (∃ xs, SqT K H p xs ∧ k = !xs.isEmpty) ∨ ∃ kvs, H p = some (.dK kvs) ∧ k = !kvs.isEmpty
 | _ => False
theorem isEmpty_kv {κ : Type} {kvs : List (κ × V)} {vs : List (κ × Value)} (r : KV kvs vs) : (!vs.isEmpty) = !kvs.isEmpty := by
 cases r <;> rfl
theorem isEmpty_of {xs : List V} {its : List Value} (r : Vals xs its) : (!its.toArray.isEmpty) = !xs.isEmpty := by
 cases r <;> simp
theorem line63 : (sizeLine : Nat) < 2 ^ 63 := by rw [sizeLine_eq]; decide
theorem tru_ok : TruR X (fun x H Q => ∃ k, TruV X.K x H k ∧ Q k H) := by
 intro pins s σ H x v Q I rx h
 obtain ⟨k, e, q⟩ := h
 have hl := line63
 have hs : sizeLine = 16777216 := sizeLine_eq
 cases x with
 | non =>
  cases rx
  have e' : k = false := e
  subst e'
  exact truthy_none ⟨H, I, q⟩
 | bl b =>
  cases rx
  have e' : k = b := e
  subst e'
  exact wpAny_truthy_bool ⟨H, I, q⟩
 | int i =>
  obtain ⟨t, rfl⟩ := rx
  have e' : k = (i != 0) := e
  subst e'
  exact PySem.P.truthy_int ⟨H, I, q⟩
 | str y =>
  obtain ⟨t, rfl⟩ := rx
  obtain ⟨hy, e'⟩ : y.length ≤ sizeLine ∧ k = ((y.length : Int) != 0) := e
  subst e'
  exact PySem.P.truthy_str (by omega) ⟨H, I.tok _, q⟩
 | byt y =>
  obtain ⟨t, rfl⟩ := rx
  obtain ⟨hy, e'⟩ : y.size ≤ sizeLine ∧ k = ((y.size : Int) != 0) := e
  subst e'
  exact PySem.W.truthy_bytes (by omega) ⟨H, I.tok _, q⟩
 | ref p =>
  cases rx
  have e' : (∃ xs, SqL X.K H p xs ∧ k = !xs.isEmpty) ∨ (∃ xs, SqT X.K H p xs ∧ k = !xs.isEmpty) ∨ ∃ kvs, H p = some (.dK kvs) ∧ k = !kvs.isEmpty := e
  rcases e' with ⟨xs, hx, e'⟩ | ⟨xs, hx, e'⟩ | ⟨kvs, hx, e'⟩
  ·subst e'
   obtain ⟨its, r, pl, hz⟩ := I.list hx
   have hlen := r.length
   exact wpAny_truthy_list pl.isList (by simp only [List.size_toArray]; omega) ⟨H, I.tok _, by rw [isEmpty_of r]; exact q⟩
  ·subst e'
   obtain ⟨its, r, pl, hz⟩ := I.tuple hx
   have hlen := r.length
   exact truthy_tuple pl (by simp only [List.size_toArray]; omega) ⟨H, I.tok _, by rw [isEmpty_of r]; exact q⟩
  ·subst e'
   obtain ⟨hz, hS, vs, r, m⟩ : kvs.length ≤ sizeLine ∧ (p == sysModules) = false ∧ ∃ vs, KV kvs vs ∧ s.heap.DictOf (mixKind X.prog X.w) p vs := I.hok p _ hx
   have hlen : kvs.length = vs.length := Paired.length r
   exact wpAny_truthy_dict hS m (by omega) ⟨H, I.tok _, by rw [isEmpty_kv r]; exact q⟩
 | _ => exact (show False from e).elim
theorem pt_truth (ha : PE X a ta) (he : ∀ whole, isTrue a X.env whole = (do let v ← whole; standAt a.pos; holding [v] (truthy v))) :
  PT X a (fun σ H Q => ta σ H fun x H' => ∃ k, TruV X.K x H' k ∧ Q k H') := by
 intro pins s σ H Q I h
 exact isTrue_plain (thn (ha pins s σ H _ I h) fun v s1 ⟨x, H1, I1, r1, q1⟩ => tru_ok pins s1 σ H1 x v Q I1 r1 q1) (he _)
theorem vals1 {x : V} {us : List Value} (r : Vals [x] us) : ∃ u, us = [u] ∧ RelV x u := by
 cases r with
 | cons r1 r2 => cases r2; exact ⟨_, rfl, r1⟩
theorem call_ord : CallR X (.builtin "ord") (fun xs H Q => ∃ x, xs = [.str x] ∧ x.length = 1 ∧ Q (.int (x.cps.getD 0 0 : Nat)) H) := by
 intro pins s σ H xs us Q I r h
 obtain ⟨x, rfl, hz, q⟩ := h
 obtain ⟨u, rfl, t, rfl⟩ := vals1 r
 exact ord_of_one hz ⟨.int _, H, I.tok _, ⟨_, rfl⟩, q⟩
def LenV (K : PySem.W.Frag) (x : V) (H : Hp) (n : Nat) : Prop :=
 match x with
 | .str y => y.length ≤ sizeLine ∧ n = y.length
 | .byt y => y.size ≤ sizeLine ∧ n = y.size
 | .ref p => (∃ xs, SqL K H p xs ∧ n = xs.length) ∨ ∃ xs, SqT K H p xs ∧ n = xs.length
 | _ => False
theorem call_len : CallR X (.builtin "len") (fun xs H Q => ∃ x n, xs = [x] ∧ LenV X.K x H n ∧ Q (.int n) H) := by
 intro pins s σ H xs us Q I r h
 obtain ⟨x, n, rfl, e, q⟩ := h
 obtain ⟨u, rfl, rx⟩ := vals1 r
 have hl := line63
 have hs : sizeLine = 16777216 := sizeLine_eq
 cases x with
 | str y =>
  obtain ⟨t, rfl⟩ := rx
  obtain ⟨hy, e'⟩ : y.length ≤ sizeLine ∧ n = y.length := e
  subst e'
  exact len_str (by omega) ⟨.int _, H, I.tok _, ⟨_, rfl⟩, q⟩
 | byt y =>
  obtain ⟨t, rfl⟩ := rx
  obtain ⟨hy, e'⟩ : y.size ≤ sizeLine ∧ n = y.size := e
  subst e'
  exact PySem.W.len_bytes (by omega) ⟨.int _, H, I.tok _, ⟨_, rfl⟩, q⟩
 | ref p =>
  cases rx
  have e' : (∃ xs, SqL X.K H p xs ∧ n = xs.length) ∨ ∃ xs, SqT X.K H p xs ∧ n = xs.length := e
  rcases e' with ⟨xs, hx, e'⟩ | ⟨xs, hx, e'⟩
  ·subst e'
   obtain ⟨its, r', pl, hz⟩ := I.list hx
   have hlen := r'.length
   exact Calls.call_len_list pl.isList (by simp only [List.size_toArray]; omega) ⟨.int xs.length, H, I.tok _, ⟨_, by simp only [List.size_toArray]; rw [hlen]⟩, q⟩
  ·subst e'
   obtain ⟨its, r', pl, hz⟩ := I.tuple hx
   have hlen := r'.length
   exact len_tuple pl (by simp only [List.size_toArray]; omega) ⟨.int xs.length, H, I.tok _, ⟨_, by simp only [List.size_toArray]; rw [hlen]⟩, q⟩
 | _ => exact (show False from e).elim
end
structure ObjM (h : Heap) (x dx C : Addr) (mA : Str → Option Value) : Prop where
 obj : h.get? x = some (PySem.W.instObj C dx)
 ns : h.Ns1 dx mA
 ne : dx ≠ x
theorem lookIn_ns {h : Heap} {dx : Addr} {mA : Str → Option Value} (n : h.Ns1 dx mA) : ∃ od, h.get? dx = some od ∧ ∀ name, PySem.W.lookIn name od = some (mA name) := by
 obtain ⟨o, es, ep, ho, hd, hk, _, hm⟩ := n
 refine ⟨o, ho, fun name => ?_⟩
 have e := hm name
 unfold nsFind findBy at e
 rw [← Array.find?_toList] at e
 unfold PySem.W.lookIn
 rw [hd]
 dsimp only
 split
 ·rename_i y q
  rw [q] at e
  exact congrArg some e
 ·rename_i q
  rw [q] at e
  have a : es.toList.any (·.refKey) = false := by
   rw [List.any_eq_false]
   intro y hy
   obtain ⟨z, t, hkey⟩ := hk y (Array.mem_toList_iff.mp hy)
   simp [DictEntry.refKey, hkey]
  have a' : ¬ es.toList.any (·.refKey) = true := by rw [a]; exact Bool.false_ne_true
  rw [if_neg a']
  exact congrArg some e
theorem ObjM.look {h : Heap} {x dx C : Addr} {mA : Str → Option Value} (I : ObjM h x dx C mA) : ∃ od, PySem.W.InstAt h x (PySem.W.instObj C dx) C (some od) ∧ ∀ name, PySem.W.lookIn name od = some (mA name) :=
 let ⟨od, ho, hl⟩ := lookIn_ns I.ns
 ⟨od, ⟨I.obj, rfl, rfl, ho⟩, hl⟩
section
variable {prog : Program} {w : World} {A : Around} {E : Value → Shared → Prop} {s : Shared} {K : PySem.W.Frag} {x dx C f : Addr} {mA : Str → Option Value} {name : Str} {v : Value}
theorem get_map {expr : Bool} {Q : Value → Shared → Prop} (X : K.In s.heap) (I : ObjM s.heap x dx C mA) (hg : PySem.W.plainGet K C name = true) (hh : PySem.W.hasDictIn K C = true)
  (ha : PySem.W.findIn K (.ref C) name = some none) (hv : mA name = some v) (hv' : PySem.W.handedIn v = true) (h : Q v { s with toks := s.toks + 1 }) :
  wpAny (model prog w) A (getAttr (.ref x) name expr) Q E s := by
 obtain ⟨od, J, hl⟩ := I.look
 exact PySem.W.get_value X J (PySem.W.plainGet_of hg).1 (PySem.W.findObj_own hh ha rfl (by rw [hl, hv])) hv' h
theorem get_meth {pl : Sem Bool} {Q : Value × List Value → Shared → Prop} (X : K.In s.heap) (I : ObjM s.heap x dx C mA) (hg : PySem.W.plainGet K C name = true)
  (hf : PySem.W.findIn K (.ref C) name = some (some (.ref f))) (ht : PySem.W.isFn K (.ref f) = true) (hv : mA name = none) (h : Q (.ref f, [.ref x]) s) :
  wpAny (model prog w) A (getMethod (.ref x) name pl) Q E s := by
 obtain ⟨od, J, hl⟩ := I.look
 exact PySem.W.method_fn X J (PySem.W.plainGet_of hg).1 (PySem.W.plainGet_of hg).2 hf (beq_iff_eq.mp ht) (by show (PySem.W.lookIn name od).map (·.isSome) = some false; rw [hl, hv]; rfl) h
theorem set_map {ns : List Str} {Q : Unit → Shared → Prop} (X : K.In s.heap) (I : ObjM s.heap x dx C mA)
  (hs : PySem.W.findIn K (.ref C) "__setattr__" = some (some (.builtin "object.__setattr__"))) (hp : PySem.W.plainOver K C = true) (ht : PySem.W.takerIn K C name = some none) (hh : PySem.W.hasDictIn K C = true)
  (hw : PySem.Within mA ns) (hsz : ns.length ≤ sizeLine)
  (h : ∀ h', ObjM h' x dx C (fun y => if y = name then some v else mA y) → Heap.SameBut dx s.heap h' → Q () { s with heap := h', toks := s.toks + 2 }) :
  wpAny (model prog w) A (setAttr (.ref x) name v) Q E s := by
 obtain ⟨od, J, hl⟩ := I.look
 refine PySem.W.set_plain X J hs (PySem.W.osa_open (s := { s with toks := s.toks + 1 }) (r := none) X J hp ht fun b => ?_)
 obtain ⟨cd, hc, hd'⟩ := PySem.W.any_some hh
 have hx : s.heap.get? x = some ⟨.ref C, some dx, .plain, #[]⟩ := I.obj
 refine wpAny_bind (wpAny_pure (wpAny_bind (wpAny_bind (wpAny_loadPart hx (wpAny_bind (PySem.W.Looks.here (s := { s with toks := s.toks + 1 }) (PySem.W.looks_clsIn X hc) ?_))))))
 rw [hd']
 refine wpAny_pure (a := some dx) (wpAny_bind (wpAny_pure (wpAny_bind ?_)))
 refine wpAny_nsSet1 (s := { s with toks := s.toks + 1 }) I.ns fun h' hn2 hs2 => ?_
 obtain ⟨oD, esD, epD, hoD, hdD, hcD⟩ := hn2.count (PySem.Within.cons name v hw)
 refine wpAny_bind (wpAny_lookBehind hoD (by rw [hdD]; exact pastItsLine_dict (Nat.le_trans hcD (by rw [List.length_cons]; omega))) ?_)
 exact wpAny_pure (h _ ⟨(hs2.2 _ (Ne.symm I.ne)).trans I.obj, hn2, I.ne⟩ hs2)
theorem make_map {R : Result → Shared → Prop} {vs : List Value} {kw : List (Str × Value)} (X : K.In s.heap) (hm : PySem.W.makesIn K C = true)
  (hi : PySem.W.findIn K (.ref C) "__init__" = some (some (.ref f))) (hf : PySem.W.typeIn K (.ref f) = some (.type "function"))
  (h : codeAny (model prog w) (A.under (.builtin "type.__call__" ⟨.ref C :: vs, kw⟩)) (.call (.ref f) ⟨.ref (s.heap.objs.size + 1) :: vs, kw⟩) (PySem.W.InitBack (s.heap.objs.size + 1) R)
   { s with heap := (s.heap.push PySem.W.emptyDict).push (PySem.W.instObj C s.heap.objs.size) }) :
  codeAny (model prog w) A (.call (.ref C) ⟨vs, kw⟩) R s := by
 obtain ⟨hh, g, d, t, os⟩ := s
 exact PySem.W.make_core (PySem.W.makes_of X hm) (PySem.W.looks_findIn X hi) (fun self => PySem.W.bind_fn X self hf) (.inl rfl) h
end
def putF (f : Str) (v : V) : List (Str × V) → List (Str × V)
 | [] => [(f, v)]
 | (g, x) :: r => if g = f then (g, v) :: r else (g, x) :: putF f v r
theorem lookup_putF (f g : Str) (v : V) : ∀ fs : List (Str × V), (putF f v fs).lookup g = if g = f then some v else fs.lookup g
 | [] => by
  show List.lookup g [(f, v)] = _
  by_cases h : g = f
  ·have hb : (g == f) = true := beq_iff_eq.mpr h
   simp only [List.lookup, hb, if_pos h]
  ·have hb : (g == f) = false := beq_eq_false_iff_ne.mpr h
   simp only [List.lookup, hb, if_neg h]
 | (k, x) :: r => by
  have ih := lookup_putF f g v r
  rw [show putF f v ((k, x) :: r) = (if k = f then (k, v) :: r else (k, x) :: putF f v r) from rfl]
  by_cases hk : k = f
  ·rw [if_pos hk]
   by_cases h : g = k
   ·have hb : (g == k) = true := beq_iff_eq.mpr h
    simp only [List.lookup, hb, if_pos (h.trans hk)]
   ·have hb : (g == k) = false := beq_eq_false_iff_ne.mpr h
    simp only [List.lookup, hb, if_neg (fun e : g = f => h (e.trans hk.symm))]
  ·rw [if_neg hk]
   by_cases h : g = k
   ·have hb : (g == k) = true := beq_iff_eq.mpr h
    simp only [List.lookup, hb, if_neg (fun e : g = f => hk (h.symm.trans e))]
   ·have hb : (g == k) = false := beq_eq_false_iff_ne.mpr h
    simp only [List.lookup, hb]
    exact ih
theorem keys_putF (f : Str) (v : V) : ∀ fs : List (Str × V), f ∈ (putF f v fs).map (·.1) ∧ ∀ g, g ∈ fs.map (·.1) → g ∈ (putF f v fs).map (·.1)
 | [] => ⟨by simp [putF], fun g h => by simp at h⟩
 | (k, x) :: r => by
  obtain ⟨i1, i2⟩ := keys_putF f v r
  rw [show putF f v ((k, x) :: r) = (if k = f then (k, v) :: r else (k, x) :: putF f v r) from rfl]
  by_cases hk : k = f
  ·rw [if_pos hk]
   subst hk
   exact ⟨by simp, fun g h => by simpa using h⟩
  ·rw [if_neg hk]
   refine ⟨?_, fun g h => ?_⟩
   ·rw [List.map_cons]
    exact List.mem_cons_of_mem _ i1
   ·rw [List.map_cons] at h ⊢
    rcases List.mem_cons.mp h with e | e
    ·exact List.mem_cons.mpr (.inl e)
    ·exact List.mem_cons_of_mem _ (i2 g e)
theorem length_putF (f : Str) (v : V) : ∀ fs : List (Str × V), (putF f v fs).length ≤ fs.length + 1
 | [] => by simp [putF]
 | (k, x) :: r => by
  have ih := length_putF f v r
  rw [show putF f v ((k, x) :: r) = (if k = f then (k, v) :: r else (k, x) :: putF f v r) from rfl]
  by_cases hk : k = f
  ·rw [if_pos hk, List.length_cons, List.length_cons]; omega
  ·rw [if_neg hk, List.length_cons, List.length_cons]; omega
theorem RelO.some_of {v : V} {o : Option Value} (r : RelO (some v) o) : ∃ u, o = some u ∧ RelV v u := by
 cases o with
 | none => exact (show False from r).elim
 | some u => exact ⟨u, rfl, r⟩
theorem RelO.none_of {o : Option Value} (r : RelO none o) : o = none := by
 cases o with
 | none => rfl
 | some u => exact (show False from r).elim
theorem handed_of {v : V} {u : Value} (r : RelV v u) : PySem.W.handedIn u = true := by
 cases v with
 | non => cases (show u = Value.none from r); rfl
 | bl b => cases (show u = Value.bool b from r); rfl
 | int i => obtain ⟨t, e⟩ := (show ∃ t, u = Value.int i t from r); cases e; rfl
 | str x => obtain ⟨t, e⟩ := (show ∃ t, u = Value.str x t from r); cases e; rfl
 | byt b => obtain ⟨t, e⟩ := (show ∃ t, u = Value.bytes b t from r); cases e; rfl
 | flt b => obtain ⟨t, e⟩ := (show ∃ t, u = Value.float b t from r); cases e; rfl
 | ref a => cases (show u = Value.ref a from r); rfl
 | ty n => cases (show u = Value.type n from r); rfl
section
variable {P : Program} {w : World} {H H' : Hp} {h h' : Heap} {a C dx : Addr} {fs fs' : List (Str × V)}
theorem ins_get (hok : HOk P w H h) (e : H a = some (.ins C dx fs)) : ∃ mA, ObjM h a dx C mA ∧ (∀ f, RelO (fs.lookup f) (mA f)) ∧ PySem.Within mA (fs.map (·.1)) ∧ fs.length ≤ 1000 ∧ H dx = some (.own a) := by
 obtain ⟨d, z, ne, ob, mA, n, r, q⟩ := (show ObjOk P w H h a (.ins C dx fs) from hok a _ e)
 exact ⟨mA, ⟨ob, n, ne⟩, r, q, z, d⟩
end
structure Cls (K : PySem.W.Frag) (C : Addr) : Prop where
 pg : PySem.W.plainGet K C Str.empty = true
 hd : PySem.W.hasDictIn K C = true
 po : PySem.W.plainOver K C = true
 sa : PySem.W.findIn K (.ref C) "__setattr__" = some (some (.builtin "object.__setattr__"))
theorem Cls.get {K : PySem.W.Frag} {C : Addr} (c : Cls K C) (f : Str) : PySem.W.plainGet K C f = true := c.pg
def NoAttr (K : PySem.W.Frag) (C : Addr) (f : Str) : Prop := PySem.W.findIn K (.ref C) f = some none
theorem NoAttr.taker {K : PySem.W.Frag} {C : Addr} {f : Str} (n : NoAttr K C f) : PySem.W.takerIn K C f = some none := by
 unfold PySem.W.takerIn
 rw [show PySem.W.findIn K (.ref C) f = some none from n]
 rfl
structure Con (K : PySem.W.Frag) (C : Addr) (f : Str) (v : V) (u : Value) : Prop where
 at_ : PySem.W.findIn K (.ref C) f = some (some u)
 rel : RelV v u
 get : PySem.W.specialIn K u "__get__" = some none
 cp : PySem.W.copiedNames.contains f = false
structure Meth (K : PySem.W.Frag) (C : Addr) (m : Str) (f : Addr) : Prop where
 at_ : PySem.W.findIn K (.ref C) m = some (some (.ref f))
 fn : PySem.W.isFn K (.ref f) = true
 kp : PySem.W.keepIn K (.ref f) = true
section
variable {X : Cx} {pins : List (Addr × Obj)} {σ : St} {H : Hp} {s : Shared} {a C dx : Addr} {fs : List (Str × V)} {f : Str} {v : V} {A : Around} {E : Value → Shared → Prop}
theorem getattr_ok {b : Bool} {Q : Value → Shared → Prop} (I : Inv X pins σ H s) (e : H a = some (.ins C dx fs)) (c : Cls X.K C) (n : NoAttr X.K C f) (l : fs.lookup f = some v)
  (h : ∀ u s', Inv X pins σ H s' → RelV v u → Q u s') : wpAny (model X.prog X.w) A (getAttr (.ref a) f b) Q E s := by
 obtain ⟨mA, O, r, _, _, _⟩ := ins_get I.hok e
 obtain ⟨u, hu, ru⟩ := RelO.some_of (v := v) (o := mA f) (by rw [← l]; exact r f)
 exact get_map I.kIn O (c.get f) c.hd n hu (handed_of ru) (h u _ (I.tok _) ru)
theorem getmeth_ok {m : Str} {g : Addr} {pl : Sem Bool} {Q : Value × List Value → Shared → Prop} (I : Inv X pins σ H s) (e : H a = some (.ins C dx fs)) (c : Cls X.K C) (k : Meth X.K C m g) (l : fs.lookup m = none)
  (h : Q (.ref g, [.ref a]) s) : wpAny (model X.prog X.w) A (getMethod (.ref a) m pl) Q E s := by
 obtain ⟨mA, O, r, _, _, _⟩ := ins_get I.hok e
 have hn : mA m = none := RelO.none_of (by rw [← l]; exact r m)
 exact get_meth I.kIn O (c.get m) k.at_ k.fn hn h
theorem setattr_ok {y : V} {u : Value} {Q : Unit → Shared → Prop} (I : Inv X pins σ H s) (e : H a = some (.ins C dx fs)) (c : Cls X.K C) (n : NoAttr X.K C f) (hl : fs.length < 1000) (ry : RelV y u)
  (h : ∀ s', Inv X pins σ (upd H a (.ins C dx (putF f y fs))) s' → Q () s') : wpAny (model X.prog X.w) A (setAttr (.ref a) f u) Q E s := by
 obtain ⟨mA, O, r, wi, _, ho⟩ := ins_get I.hok e
 have hz : (fs.map (·.1)).length ≤ sizeLine := by rw [List.length_map, sizeLine_eq]; omega
 refine set_map I.kIn O c.sa c.po n.taker c.hd wi hz fun h' O' sb => h _ ?_
 have hd : ∃ o, h'.get? dx = some o := let ⟨o, _, _, e', _⟩ := O'.ns; ⟨o, e'⟩
 refine I.write (x := a) (e := dx) (by rw [e]; exact True.intro) (.inr ho) (fun b q hb z => (sb.2 b hb).trans z) hd ?_
 refine ⟨by rw [upd_ne O.ne]; exact ho, ?_, O.ne, O'.obj, _, O'.ns, fun g => ?_, fun g hg => ?_⟩
 ·have := length_putF f y fs; omega
 ·show RelO ((putF f y fs).lookup g) (if g = f then some u else mA g)
  rw [lookup_putF]
  by_cases q : g = f
  ·rw [if_pos q, if_pos q]; exact ry
  ·rw [if_neg q, if_neg q]; exact r g
 ·by_cases q : g = f
  ·rw [q]; exact (keys_putF f y fs).1
  ·refine (keys_putF f y fs).2 g (wi g fun z => hg ?_)
   show (if g = f then some u else mA g) = none
   rw [if_neg q]; exact z
theorem Inv.made (I : Inv X pins σ H s) : Inv X pins σ (upd (upd H s.heap.objs.size (.own (s.heap.objs.size + 1))) (s.heap.objs.size + 1) (.ins C s.heap.objs.size []))
  { s with heap := (s.heap.push PySem.W.emptyDict).push (PySem.W.instObj C s.heap.objs.size) } := by
 have e1 : (s.heap.push PySem.W.emptyDict).get? s.heap.objs.size = some PySem.W.emptyDict := Heap.get?_push_size s.heap rfl
 have e2 : ((s.heap.push PySem.W.emptyDict).push (PySem.W.instObj C s.heap.objs.size)).get? (s.heap.objs.size + 1) = some (PySem.W.instObj C s.heap.objs.size) := by
  have := Heap.get?_push_size (s.heap.push PySem.W.emptyDict) (o := PySem.W.instObj C s.heap.objs.size) rfl
  rwa [Heap.size_push] at this
 have e3 : (s.heap.push PySem.W.emptyDict).Ns s.heap.objs.size (fun _ => none) := ⟨PySem.W.emptyDict, #[], _, e1, rfl, (fun e he => absurd he (by simp)), fun _ => rfl⟩
 have I1 := I.laid (a := s.heap.objs.size) (o := .own (s.heap.objs.size + 1)) (h' := s.heap.push PySem.W.emptyDict) (t' := s.toks) (fun b u q => Heap.get?_push_of_some _ q) (Nat.le_refl _) ⟨_, e1⟩
 refine I1.laid (a := s.heap.objs.size + 1) (o := .ins C s.heap.objs.size []) (t' := s.toks) (fun b u q => Heap.get?_push_of_some _ q) (Nat.le_of_eq (Heap.size_push _ _)) ?_
 have ne : s.heap.objs.size ≠ s.heap.objs.size + 1 := Nat.ne_of_lt (Nat.lt_succ_self _)
 refine ⟨by rw [upd_ne ne, upd_same], Nat.zero_le _, ne, e2, fun _ => none, (Heap.Ns1.of_empty e3).at fun o q => Heap.get?_push_of_some _ q, fun _ => True.intro, fun y hy => absurd rfl hy⟩
theorem attr_of {prog : Program} {w : World} {env : Env} {e : Expr} {f : Str} {pos : Pos} {s : Shared} {Q : Value → Shared → Prop} (hb : attributeBase e f env (eval e env) = eval e env)
  (h : wpAny (model prog w) A (eval e env) (fun o s₁ => wpAny (model prog w) A (getAttr o f true) Q E s₁) E s) : wpAny (model prog w) A (eval (.Attribute e f pos) env) Q E s :=
 Attribute_any_ h (by rw [arm_eval_Attribute, hb])
end
def tFld (K : PySem.W.Frag) (ta : TE) (f : Str) : TE := fun σ H Q => ta σ H fun x H1 => ∃ a C dx fs v, x = .ref a ∧ H1 a = some (.ins C dx fs) ∧ Cls K C ∧ NoAttr K C f ∧ fs.lookup f = some v ∧ Q v H1
def sFld (K : PySem.W.Frag) (ta tv : TE) (f : Str) : TS := fun D σ H => tv σ H fun y H1 => ta σ H1 fun x H2 => ∃ a C dx fs, x = .ref a ∧ H2 a = some (.ins C dx fs) ∧ Cls K C ∧ NoAttr K C f ∧ fs.length < 1000 ∧
 D.nx σ (upd H2 a (.ins C dx (putF f y fs)))
def InOp (X : Cx) (op : Operator) (rd : V → V → Hp → VK → Prop) : Prop :=
 ∀ (pins : List (Addr × Obj)) (s : Shared) (σ : St) (H : Hp) (x y : V) (u v : Value) (Q : VK), Inv X pins σ H s → RelV x u → RelV y v → rd x y H Q → wpAny (model X.prog X.w) X.A (inplaceOp op u v) (EP X pins σ Q) X.xe s
def sFldAug (K : PySem.W.Frag) (ta tv : TE) (rd : V → V → Hp → VK → Prop) (f : Str) : TS := fun D σ H => ta σ H fun x H1 => ∃ a C dx fs v, x = .ref a ∧ H1 a = some (.ins C dx fs) ∧ Cls K C ∧ NoAttr K C f ∧ fs.lookup f = some v ∧
 tv σ H1 fun y H2 => rd v y H2 fun z H3 => ∃ dx' fs', H3 a = some (.ins C dx' fs') ∧ fs'.length < 1000 ∧ D.nx σ (upd H3 a (.ins C dx' (putF f z fs')))
section
variable {X : Cx} {o e value : Expr} {f : Str} {pos pos' tpos : Pos} {ta tv : TE}
theorem pe_fld (he : PE X e ta) (hb : attributeBase e f X.env (eval e X.env) = eval e X.env) : PE X (.Attribute e f pos) (tFld X.K ta f) := by
 intro pins s σ H Q I h
 refine attr_of hb (thn (he pins s σ H _ I h) fun u s1 ⟨x, H1, I1, rx, a, C, dx, fs, v, ex, ea, c, n, l, q⟩ => ?_)
 subst ex
 obtain rfl : u = Value.ref a := rx
 exact getattr_ok I1 ea c n l fun u' s2 I2 ru => ⟨v, H1, I2, ru, q⟩
theorem ps_fld (ha : PE X o ta) (hv : PE X value tv) (hs : swapsWith value (some (.Attribute o f pos')) pos.line X.env = pure false) : PS X (.Assign [.Attribute o f pos'] value pos) (sFld X.K ta tv f) := by
 intro pins s σ H D I h
 refine plainObj_wpAny_Assign_Attribute (thn (hv pins s σ H _ I h) fun u s1 ⟨y, H1, I1, ry, q⟩ => thn (ha pins s1 σ H1 _ I1 q) fun ov s2 ⟨x, H2, I2, rx, a, C, dx, fs, ex, ea, c, n, l, q2⟩ => ?_) hs
 subst ex
 obtain rfl : ov = Value.ref a := rx
 exact setattr_ok I2 ea c n l ry fun s3 I3 => ⟨σ, _, I3, q2⟩
theorem ps_fldaug {op : Operator} {rd : V → V → Hp → VK → Prop} (ha : PE X o ta) (hv : PE X value tv) (hop : InOp X op rd) : PS X (.AugAssign (.Attribute o f tpos) op value pos) (sFldAug X.K ta tv rd f) := by
 intro pins s σ H D I h
 refine wpAny_AugAssign_AttributeAny (thn (ha pins s σ H _ I h) fun ov s1 ⟨x, H1, I1, rx, a, C, dx, fs, v, ex, ea, c, n, l, q⟩ => ?_)
 subst ex
 obtain rfl : ov = Value.ref a := rx
 refine getattr_ok I1 ea c n l fun u s2 I2 ru => thn (hv pins s2 σ H1 _ I2 q) fun w3 s3 ⟨y, H2, I3, ry, q3⟩ => thn (hop pins s3 σ H2 v y u w3 _ I3 ru ry q3) fun w4 s4 ⟨z, H3, I4, rz, dx', fs', ea', l', q4⟩ => ?_
 exact setattr_ok I4 ea' c n l' rz fun s5 I5 => ⟨σ, _, I5, q4⟩
def rAdd : V → V → Hp → VK → Prop := fun x y H Q => ∃ i j, x = .int i ∧ y = .int j ∧ Q (.int (i + j)) H
def rSub : V → V → Hp → VK → Prop := fun x y H Q => ∃ i j, x = .int i ∧ y = .int j ∧ Q (.int (i - j)) H
theorem in_add : InOp X .Add rAdd := by
 rintro pins s σ H x y u v Q I rx ry ⟨i, j, rfl, rfl, q⟩
 obtain ⟨t, rfl⟩ := (show ∃ t, u = Value.int i t from rx)
 obtain ⟨t', rfl⟩ := (show ∃ t', v = Value.int j t' from ry)
 exact PyProof.Rows.iadd_int ⟨.int (i + j), H, I.tok _, ⟨_, rfl⟩, q⟩
end
section
variable {X : Cx} {pins : List (Addr × Obj)} {σ : St} {H : Hp} {s : Shared} {A : Around} {E : Value → Shared → Prop} {Q : Value → Shared → Prop} {c : Value} {b : Bool}
inductive TyOf (K : PySem.W.Frag) (H : Hp) : V → Value → Prop where
 | non : TyOf K H .non (.type "NoneType")
 | bl (x : Bool) : TyOf K H (.bl x) (.type "bool")
 | int (i : Int) : TyOf K H (.int i) (.type "int")
 | str (x : Str) : TyOf K H (.str x) (.type "str")
 | flt (x : UInt64) : TyOf K H (.flt x) (.type "float")
 | lst {a : Addr} {xs : List V} (e : H a = some (.lst xs)) : TyOf K H (.ref a) (.type "list")
 | frz {a : Addr} {o : Obj} {xs : List V} (e : H a = some (.frz o (.lst xs))) : TyOf K H (.ref a) (.type "list")
 | tup {a : Addr} {xs : List V} (e : H a = some (.tup xs)) : TyOf K H (.ref a) (.type "tuple")
 | dK {a : Addr} {kvs : List (Key × V)} (e : H a = some (.dK kvs)) : TyOf K H (.ref a) (.type "dict")
 | dT {a : Addr} {kvs : List (List Key × V)} (e : H a = some (.dT kvs)) : TyOf K H (.ref a) (.type "dict")
 | ins {a C dx : Addr} {fs : List (Str × V)} (e : H a = some (.ins C dx fs)) (cl : Cls K C) (ha : PySem.W.findIn K (.ref C) "__class__" = some (some (.builtin "object.__class__")))
   (hn : PySem.W.specialIn K (.builtin "object.__class__") "__get__" = some (some (.builtin "getset_descriptor.__get__"))) (htk : PySem.W.takesIn K (.builtin "object.__class__") = some true)
   (hm : PySem.W.mroIn K C (.type "object") = some true) : TyOf K H (.ref a) (.ref C)
end
structure Room (k : Nat) (A : Around) : Prop where
 hd : A.handled = none
 dp : A.depth + 3 * k + 5 < recursionLimit
 un : A.units + 16 * k + 200 < cLine
theorem Room.mono {j k : Nat} {A : Around} (r : Room k A) (h : j ≤ k) : Room j A := ⟨r.hd, by have := r.dp; omega, by have := r.un; omega⟩
theorem Room.deeper {k : Nat} {A : Around} (r : Room (k + 1) A) (env : Env) : Room k (A.deeper env) :=
 ⟨r.hd, by have := r.dp; show A.depth + 1 + 3 * k + 5 < _; omega, by have := r.un; show A.units + 3 + 16 * k + 200 < _; omega⟩
theorem Room.in1 {k : Nat} {A : Around} (r : Room (k + 1) A) : Room k A.in1 :=
 ⟨r.hd, by have := r.dp; show A.depth + 3 * k + 5 < _; omega, by have := r.un; show A.units + 1 + 16 * k + 200 < _; omega⟩
theorem make_depth {A : Around} {C : Addr} {us : List Value} {kw : List (Str × Value)} : (A.under (.builtin "type.__call__" ⟨.ref C :: us, kw⟩)).depth = A.depth + 1 := by
 first | rfl | simp [Around.under, Code.weight, Code.isCreation, Code.isGuard, Code.isCaller, Code.frames, Code.isFrame, guardIds]
theorem make_units {A : Around} {C : Addr} {us : List Value} {kw : List (Str × Value)} : (A.under (.builtin "type.__call__" ⟨.ref C :: us, kw⟩)).units = A.units + 1 := by
 first | rfl | simp [Around.under, Code.cUnits, Code.frames, Code.isFrame]
theorem Room.make {k : Nat} {A : Around} (r : Room (k + 1) A) (C : Addr) (us : List Value) (kw : List (Str × Value)) : Room k (A.under (.builtin "type.__call__" ⟨.ref C :: us, kw⟩)) :=
 ⟨r.hd, by have := r.dp; rw [make_depth]; omega, by have := r.un; rw [make_units]; omega⟩
theorem Room.depth {k : Nat} {A : Around} (r : Room k A) : A.depth < recursionLimit := by have := r.dp; omega
theorem Room.units {k : Nat} {A : Around} (r : Room k A) : A.units + 64 < cLine := by have := r.un; omega
def tNil : TA := fun _ H Q => Q [] H
def tCons (ta : TE) (tr : TA) : TA := fun σ H Q => ta σ H fun x H1 => tr σ H1 fun xs H2 => Q (x :: xs) H2
section
variable {X : Cx} {e : Expr} {es : List Expr} {te : TE} {t : TA} {pos : Pos}
theorem pa_nil : PA X [] tNil := fun _ _ _ _ H Q I h => Calls.spliced_nil ⟨[], H, I, .nil, h⟩
theorem pa_cons (ha : PE X e te) (hr : PA X es t) (hs : starEach (e :: es) X.env = (false, eval e X.env) :: starEach es X.env := by rfl) : PA X (e :: es) (tCons te t) := by
 intro pos pins s σ H Q I h
 rw [hs]
 show wpAny _ _ (spliced ((false, eval e X.env) :: backTo pos (starEach es X.env))) _ _ s
 refine Calls.spliced_cons (thn (ha pins s σ H _ I h) fun u s1 ⟨x, H1, I1, r1, q1⟩ => ?_)
 exact thn (hr pos pins s1 σ H1 _ I1 q1) fun us s2 ⟨xs, H2, I2, r2, q2⟩ => ⟨x :: xs, H2, I2, .cons r1 r2, q2⟩
def tTup (t : TA) : TE := fun σ H Q => t σ H fun xs H1 => xs.length ≤ sizeLine ∧ ∀ p, H1 p = none → Q (.ref p) (upd H1 p (.tup xs))
def tLst (t : TA) : TE := fun σ H Q => t σ H fun xs H1 => xs.length ≤ sizeLine ∧ ∀ p, H1 p = none → Q (.ref p) (upd H1 p (.lst xs))
theorem pe_tup {x1} (h : PA X es t) : PE X (.Tuple es x1 pos) (tTup t) := by
 intro pins s σ H Q I hq
 refine wpAny_Tuple_spliced (thn (h pos pins s σ H _ I hq) fun us s1 ⟨xs, H1, I1, r, z, q⟩ => ⟨by rw [← r.length]; exact z, ?_⟩)
 have hf : H1 s1.heap.objs.size = none := I1.hok.fresh (Nat.le_refl _)
 refine ⟨.ref s1.heap.objs.size, upd H1 s1.heap.objs.size (.tup xs), I1.laid (t' := s1.toks) (fun b u e => Heap.get?_push_of_some _ e) (Nat.le_refl _) ?_, rfl, q _ hf⟩
 exact ⟨z, us, r, ⟨_, Heap.get?_push_size _ rfl, rfl, _, rfl⟩⟩
theorem pe_lst (h : PA X es t) : PE X (.List es pos) (tLst t) := by
 intro pins s σ H Q I hq
 refine wpAny_List_spliced (thn (h pos pins s σ H _ I hq) fun us s1 ⟨xs, H1, I1, r, z, q⟩ => ⟨by rw [← r.length]; exact z, ?_⟩)
 have hf : H1 s1.heap.objs.size = none := I1.hok.fresh (Nat.le_refl _)
 refine ⟨.ref s1.heap.objs.size, upd H1 s1.heap.objs.size (.lst xs), I1.laid (t' := s1.toks) (fun b u e => Heap.get?_push_of_some _ e) (Nat.le_refl _) ?_, rfl, q _ hf⟩
 exact ⟨z, us, 0, r, Heap.get?_push_size _ rfl⟩
end
abbrev Sp := List V → Hp → VK → XK → Prop
abbrev CXT := List Env → Hp → Shared → XK → Value → Shared → Prop
structure Env0 (P : Program) (w : World) (K : PySem.W.Frag) (mg : Str → Option Value) (base : Heap) (A : Around) (outer : List Env) (s : Shared) (H : Hp) : Prop where
 frames : A.frames = some outer
 mod : Mod K mg base
 bs : ∀ b o, base.get? b = some o → s.heap.get? b = some o ∧ H b = none
 bsz : base.objs.size ≤ s.heap.objs.size
 funs : s.heap.FunFrames base outer
 frf : ∀ b ∈ frs outer, H b = none
 hok : HOk P w H s.heap
 bare : AllBare s.gens
def CE (outer : List Env) (P : Program) (w : World) (H : Hp) (s : Shared) (Q : VK) (u : Value) (s' : Shared) : Prop :=
 ∃ v H', s'.os = s.os ∧ AllBare s'.gens ∧ Un (frs outer) [] H H' s.heap s'.heap ∧ HOk P w H' s'.heap ∧ RelV v u ∧ Q v H'
def CR (CX : CXT) (outer : List Env) (P : Program) (w : World) (H : Hp) (s : Shared) (Q : VK) (E : XK) (r : Result) (s' : Shared) : Prop :=
 match r with
 | .ok (.ret u) => CE outer P w H s Q u s'
 | .ok _ => False
 | .error e => CX outer H s E e s'
structure FnOk (P : Program) (w : World) (K : PySem.W.Frag) (mg : Str → Option Value) (base : Heap) (CX : CXT) (k : Nat) (f : Addr) (fd : FuncData) (ps : List Str) (sp : Sp) : Prop where
 len : ∀ vs H Q E, sp vs H Q E → vs.length = ps.length
 run : ∀ (A : Around) (outer : List Env) (s : Shared) (H : Hp) (args : Args) (us : List Value) (vs : List V) (Q : VK) (E : XK), Room k A → Env0 P w K mg base A outer s H → BindsTo s fd args (ps.zip us) → Vals vs us → sp vs H Q E →
  codeAny (model P w) A (.call (.ref f) args) (CR CX outer P w H s Q E) s
theorem FnOk.mono {P : Program} {w : World} {K : PySem.W.Frag} {mg : Str → Option Value} {base : Heap} {CX : CXT} {j k : Nat} {f : Addr} {fd : FuncData} {ps : List Str} {sp : Sp} (F : FnOk P w K mg base CX j f fd ps sp) (h : j ≤ k) :
  FnOk P w K mg base CX k f fd ps sp := ⟨F.len, fun A outer s H args us vs Q E hr => F.run A outer s H args us vs Q E (hr.mono h)⟩
theorem FnOk.imp {P : Program} {w : World} {K : PySem.W.Frag} {mg : Str → Option Value} {base : Heap} {CX : CXT} {k : Nat} {f : Addr} {fd : FuncData} {ps : List Str} {sp sp' : Sp} (F : FnOk P w K mg base CX k f fd ps sp)
  (h : ∀ vs H Q E, sp' vs H Q E → sp vs H Q E) : FnOk P w K mg base CX k f fd ps sp' :=
 ⟨fun vs H Q E q => F.len vs H Q E (h _ _ _ _ q), fun A outer s H args us vs Q E hr he hb hv hs => F.run A outer s H args us vs Q E hr he hb hv (h _ _ _ _ hs)⟩
theorem Env0.make {P : Program} {w : World} {K : PySem.W.Frag} {mg : Str → Option Value} {base : Heap} {A : Around} {outer : List Env} {s : Shared} {H : Hp} (e : Env0 P w K mg base A outer s H) (C : Addr) (us : List Value) (kw : List (Str × Value)) :
  Env0 P w K mg base (A.under (.builtin "type.__call__" ⟨.ref C :: us, kw⟩)) outer s H := ⟨by first | exact e.frames | (simpa [Around.under, Code.envs, Code.isFrame, pushEnvs] using e.frames), e.mod, e.bs, e.bsz, e.funs, e.frf, e.hok, e.bare⟩
theorem Env0.in1 {P : Program} {w : World} {K : PySem.W.Frag} {mg : Str → Option Value} {base : Heap} {A : Around} {outer : List Env} {s : Shared} {H : Hp} (e : Env0 P w K mg base A outer s H) :
  Env0 P w K mg base A.in1 outer s H := ⟨e.frames, e.mod, e.bs, e.bsz, e.funs, e.frf, e.hok, e.bare⟩
section
variable {X : Cx} {pins : List (Addr × Obj)} {σ : St} {H : Hp} {s s' : Shared}
theorem Inv.env0 (I : Inv X pins σ H s) : Env0 X.prog X.w X.K X.mg X.base X.A X.stack s H :=
 ⟨I.ok.frames, I.ok.mod, I.bs, Nat.le_trans I.ok.bsz I.sz, I.stack, I.stkFree, I.hok, I.bare⟩
theorem Inv.after {Q : VK} {u : Value} (I : Inv X pins σ H s) (h : CE X.stack X.prog X.w H s Q u s') : EP X pins σ Q u s' := by
 obtain ⟨v, H', os, bare, un, hok, r, q⟩ := h
 obtain ⟨hh, g, d, t, os'⟩ := s'
 obtain rfl : os' = s.os := os
 exact ⟨v, H', I.call (h' := hh) (g' := g) (d' := d) (t' := t) (ch := []) un hok bare (fun b z => absurd z (by simp)), r, q⟩
end
def tCall (sp : Sp) (dvs : List V) (E : XK) (t : TA) : TE := fun σ H Q => t σ H fun vs H1 => sp (vs ++ dvs) H1 Q E
def tMeth (C : Addr) (m : Str) (sp : Sp) (dvs : List V) (E : XK) (ta : TE) (t : TA) : TE := fun σ H Q => ta σ H fun x H1 => ∃ a dx fs, x = .ref a ∧ H1 a = some (.ins C dx fs) ∧ fs.lookup m = none ∧
 t σ H1 fun vs H2 => sp (x :: (vs ++ dvs)) H2 Q E
def tMake (C : Addr) (sp : Sp) (dvs : List V) (E : XK) (t : TA) : TE := fun σ H Q => t σ H fun vs H1 => ∀ x dx, H1 x = none → H1 dx = none → dx ≠ x →
 sp (.ref x :: (vs ++ dvs)) (upd (upd H1 dx (.own x)) x (.ins C dx [])) (fun v H2 => v = .non ∧ Q (.ref x) H2) E
def Binds (K : PySem.W.Frag) (fd : FuncData) (ps : List Str) (ds : List Value) : Prop :=
 ∀ (s : Shared) (us : List Value), K.In s.heap → (us ++ ds).length = ps.length → BindsTo s fd ⟨us, []⟩ (ps.zip (us ++ ds))
theorem Binds.all {K : PySem.W.Frag} {fd : FuncData} {ps : List Str} (h : ∀ us : List Value, us.length = ps.length → bindArgs fd ⟨us, []⟩ = pure (ps.zip us)) : Binds K fd ps [] := fun s us _ hl => by
 rw [List.append_nil] at hl ⊢
 exact .of_eq (h us hl)
def Passes (CX : CXT) (X : Cx) (E : XK) : Prop := ∀ (pins : List (Addr × Obj)) (σ : St) (H : Hp) (s : Shared) (e : Value) (s' : Shared), Inv X pins σ H s → CX X.stack H s E e s' → X.xe e s'
section
variable {X : Cx} {CX : CXT} {k : Nat} {f C : Addr} {fd : FuncData} {ps : List Str} {sp : Sp} {dvs : List V} {ds : List Value} {E : XK} {x m : Str} {p pos apos : Pos} {e o : Expr} {es : List Expr} {ta : TE} {t : TA}
theorem run_fn {pins : List (Addr × Obj)} {σ : St} {H : Hp} {s : Shared} {Q : VK} {us : List Value} {vs : List V} (F : FnOk X.prog X.w X.K X.mg X.base CX k f fd ps sp) (hr : Room k X.A) (hb : Binds X.K fd ps ds) (hd : Vals dvs ds) (hx : Passes CX X E)
  (I : Inv X pins σ H s) (r : Vals vs us) (h : sp (vs ++ dvs) H Q E) : wpAny (model X.prog X.w) X.A (call (.ref f) us) (EP X pins σ Q) X.xe s := by
 have r2 : Vals (vs ++ dvs) (us ++ ds) := r.append hd
 have hl : (us ++ ds).length = ps.length := by rw [← r2.length]; exact F.len _ _ _ _ h
 refine wpAny_call (codeAny_mono (F.run X.A X.stack s H ⟨us, []⟩ (us ++ ds) (vs ++ dvs) Q E hr I.env0 (hb s us I.kIn hl) r2 h) fun r s' hq => ?_)
 cases r with
 | error e => exact hx pins σ H s e s' I hq
 | ok fl =>
  cases fl with
  | ret u => exact I.after hq
  | next => exact False.elim hq
  | brk => exact False.elim hq
  | cont => exact False.elim hq
theorem pe_call (F : FnOk X.prog X.w X.K X.mg X.base CX k f fd ps sp) (hr : Room k X.A) (hg : Gl X x) (hm : X.mg x = some (.ref f)) (hk : PySem.W.keepIn X.K (.ref f) = true) (hb : Binds X.K fd ps ds) (hd : Vals dvs ds) (hx : Passes CX X E)
  (ha : PA X (e :: es) t) (hdb : (x == ("__debug__" : Str)) = false := by decide) (he : starEach (e :: es) X.env = (false, eval e X.env) :: starEach es X.env := by rfl) (hpl : (backTo pos (starEach es X.env)).any (·.1) = false := by rfl) :
  PE X (.Call (.Name x p) (e :: es) [] pos) (tCall sp dvs E t) := by
 intro pins s σ H Q I h
 refine wpAny_Call_Name_kw (ld_glob I hg hm ?_ hdb)
 refine PySem.W.callWith_K (h₀ := X.base) I.ok.mod.kin hk (thn (ha pos pins s σ H _ I h) fun us s1 ⟨vs, H1, I1, r, q⟩ => ⟨I1.kIn, ?_⟩) he hpl
 exact run_fn F hr hb hd hx I1 r q
theorem pe_meth {pl : Sem Bool} (he : PE X o ta) (c : Cls X.K C) (hm : Meth X.K C m f) (F : FnOk X.prog X.w X.K X.mg X.base CX k f fd ps sp) (hr : Room k X.A) (hb : Binds X.K fd ps ds) (hd : Vals dvs ds) (hx : Passes CX X E) (ha : PA X (e :: es) t)
  (hst : starEach (e :: es) X.env = (false, eval e X.env) :: starEach es X.env := by rfl) (hpl : (backTo pos (starEach es X.env)).any (·.1) = false := by rfl)
  (ht : eval (.Call (.Attribute o m apos) (e :: es) [] pos) X.env = (do
   let ov ← eval o X.env
   standAt apos.atName
   let (f, first) ← holding [ov] (getMethod ov m pl)
   callWith pos f first (backTo pos (starEach (e :: es) X.env)) (backToKw pos (keywordEach [] X.env))) := by rfl) :
  PE X (.Call (.Attribute o m apos) (e :: es) [] pos) (tMeth C m sp dvs E ta t) := by
 intro pins s σ H Q I h
 refine PySem.W.methodCall_KW (pl := pl) (thn (he pins s σ H _ I h) fun u s1 ⟨x, H1, I1, rx, a, dx, fs, ex, ea, l, q⟩ => ?_) ht
 subst ex
 obtain rfl : u = Value.ref a := rx
 refine getmeth_ok I1 ea c hm l ?_
 refine PySem.W.callWith_K (first := [.ref a]) (h₀ := X.base) I.ok.mod.kin hm.kp (thn (ha pos pins s1 σ H1 _ I1 q) fun us s2 ⟨vs, H2, I2, r, q2⟩ => ⟨I2.kIn, ?_⟩) hst hpl
 exact run_fn (us := .ref a :: us) (vs := .ref a :: vs) F hr hb hd hx I2 (.cons rfl r) q2
theorem pe_meth0 {pl : Sem Bool} (he : PE X o ta) (c : Cls X.K C) (hm : Meth X.K C m f) (F : FnOk X.prog X.w X.K X.mg X.base CX k f fd ps sp) (hr : Room k X.A) (hb : Binds X.K fd ps ds) (hd : Vals dvs ds) (hx : Passes CX X E)
  (ht : eval (.Call (.Attribute o m apos) [] [] pos) X.env = (do
   let ov ← eval o X.env
   standAt apos.atName
   let (f, first) ← holding [ov] (getMethod ov m pl)
   callWith pos f first (backTo pos (starEach [] X.env)) (backToKw pos (keywordEach [] X.env))) := by rfl) :
  PE X (.Call (.Attribute o m apos) [] [] pos) (tMeth C m sp dvs E ta tNil) := by
 intro pins s σ H Q I h
 refine PySem.W.methodCall_KW (pl := pl) (thn (he pins s σ H _ I h) fun u s1 ⟨x, H1, I1, rx, a, dx, fs, ex, ea, l, q⟩ => ?_) ht
 subst ex
 obtain rfl : u = Value.ref a := rx
 refine getmeth_ok I1 ea c hm l ?_
 exact PySem.W.callWith_K0 (first := [.ref a]) I1.kIn hm.kp (run_fn (us := [.ref a]) (vs := [.ref a]) F hr hb hd hx I1 (.cons rfl .nil) q)
structure Mk (K : PySem.W.Frag) (C f : Addr) : Prop where
 makes : PySem.W.makesIn K C = true
 init : PySem.W.findIn K (.ref C) "__init__" = some (some (.ref f))
 fn : PySem.W.isFn K (.ref f) = true
 kp : PySem.W.keepIn K (.ref C) = true
theorem run_make {pins : List (Addr × Obj)} {σ : St} {H : Hp} {s : Shared} {Q : VK} {us : List Value} {vs : List V} (M : Mk X.K C f) (F : FnOk X.prog X.w X.K X.mg X.base CX k f fd ps sp) (hr : Room (k + 1) X.A) (hb : Binds X.K fd ps ds) (hd : Vals dvs ds)
  (hx : Passes CX X E) (I : Inv X pins σ H s) (r : Vals vs us)
  (h : ∀ x dx, H x = none → H dx = none → dx ≠ x → sp (.ref x :: (vs ++ dvs)) (upd (upd H dx (.own x)) x (.ins C dx [])) (fun v H2 => v = .non ∧ Q (.ref x) H2) E) :
  wpAny (model X.prog X.w) X.A (call (.ref C) us) (EP X pins σ Q) X.xe s := by
 have hq := h (s.heap.objs.size + 1) s.heap.objs.size (I.hok.fresh (Nat.le_succ _)) (I.hok.fresh (Nat.le_refl _)) (Nat.ne_of_lt (Nat.lt_succ_self _))
 have I2 := Inv.made (C := C) I
 have r2 : Vals (V.ref (s.heap.objs.size + 1) :: (vs ++ dvs)) (Value.ref (s.heap.objs.size + 1) :: (us ++ ds)) := .cons rfl (r.append hd)
 have hl : (Value.ref (s.heap.objs.size + 1) :: us ++ ds).length = ps.length := by
  have e := r2.length
  rw [F.len _ _ _ _ hq] at e
  exact e.symm
 refine wpAny_call (make_map (f := f) I.kIn M.makes M.init (beq_iff_eq.mp M.fn) (codeAny_mono (F.run _ X.stack _ _ ⟨Value.ref (s.heap.objs.size + 1) :: us, []⟩ (Value.ref (s.heap.objs.size + 1) :: (us ++ ds)) _ _ E (hr.make C us [])
  (I2.env0.make C us []) (hb _ (Value.ref (s.heap.objs.size + 1) :: us) I2.kIn hl) r2 hq) fun r s' hq' => ?_))
 cases r with
 | error e => exact hx pins σ _ _ e s' I2 hq'
 | ok fl =>
  cases fl with
  | ret u =>
   obtain ⟨v, H', I3, rv, ev, q3⟩ := I2.after hq'
   subst ev
   exact ⟨rv, ⟨V.ref (s.heap.objs.size + 1), H', I3, rfl, q3⟩⟩
  | next => exact False.elim hq'
  | brk => exact False.elim hq'
  | cont => exact False.elim hq'
theorem pe_make (M : Mk X.K C f) (F : FnOk X.prog X.w X.K X.mg X.base CX k f fd ps sp) (hr : Room (k + 1) X.A) (hg : Gl X x) (hm : X.mg x = some (.ref C)) (hb : Binds X.K fd ps ds) (hd : Vals dvs ds) (hx : Passes CX X E)
  (ha : PA X (e :: es) t) (hdb : (x == ("__debug__" : Str)) = false := by decide) (he : starEach (e :: es) X.env = (false, eval e X.env) :: starEach es X.env := by rfl) (hpl : (backTo pos (starEach es X.env)).any (·.1) = false := by rfl) :
  PE X (.Call (.Name x p) (e :: es) [] pos) (tMake C sp dvs E t) := by
 intro pins s σ H Q I h
 refine wpAny_Call_Name_kw (ld_glob I hg hm ?_ hdb)
 refine PySem.W.callWith_K (h₀ := X.base) I.ok.mod.kin M.kp (thn (ha pos pins s σ H _ I h) fun us s1 ⟨vs, H1, I1, r, q⟩ => ⟨I1.kIn, ?_⟩) he hpl
 exact run_make M F hr hb hd hx I1 r q
theorem pe_make0 (M : Mk X.K C f) (F : FnOk X.prog X.w X.K X.mg X.base CX k f fd ps sp) (hr : Room (k + 1) X.A) (hg : Gl X x) (hm : X.mg x = some (.ref C)) (hb : Binds X.K fd ps ds) (hd : Vals dvs ds) (hx : Passes CX X E)
  (hdb : (x == ("__debug__" : Str)) = false := by decide) : PE X (.Call (.Name x p) [] [] pos) (tMake C sp dvs E tNil) := by
 intro pins s σ H Q I h
 refine wpAny_Call_Name_kw (ld_glob I hg hm ?_ hdb)
 exact PySem.W.callWith_K0 I.kIn M.kp (run_make (us := []) M F hr hb hd hx I .nil h)
end
section
variable {X : Cx} {CX : CXT} {k : Nat} {f C : Addr} {fd : FuncData} {ps ks : List Str} {sp : Sp} {E : XK} {x m : Str} {p pos apos kpos : Pos} {e o : Expr} {es : List Expr} {kws : List Keyword} {te ta : TE} {t tk : TA} {nm : Option Str}
structure KBinds (K : PySem.W.Frag) (fd : FuncData) (ps ks : List Str) (g : List Value → List Value → List Value) (gV : List V → List V → List V) : Prop where
 to : ∀ (s : Shared) (us ws : List Value), K.In s.heap → (g us ws).length = ps.length → BindsTo s fd ⟨us, ks.zip ws⟩ (ps.zip (g us ws))
 rel : ∀ {vs : List V} {us : List Value} {zs : List V} {ws : List Value}, Vals vs us → Vals zs ws → Vals (gV vs zs) (g us ws)
variable {g : List Value → List Value → List Value} {gV : List V → List V → List V}
end
structure FnScope (N P : List Str) (sc : Scope) : Prop where
 kind : sc.kind = .function
 co : sc.isCoroutine = false
 gen : sc.isGenerator = false
 nd : N.Nodup
 pre : N.take P.length = P
 par : ∀ x ∈ P, sc.names.lookup x = some .local ∨ sc.names.lookup x = some .cell
 nofree : ∀ y ∈ sc.names, y.2 ≠ .free
theorem bindL_out {kindOf : Str → Option NameKind} {x : Str} : ∀ {binds : List (Str × Value)} {m : Str → Option Value}, (∀ v, (x, v) ∉ binds) → bindL kindOf binds m x = m x
 | [], _, _ => rfl
 | (n, v) :: r, m, h => by
  unfold bindL
  rw [bindL_out fun w hw => h w (List.mem_cons_of_mem _ hw)]
  split
  ·have : x ≠ n := by rintro rfl; exact h v List.mem_cons_self
   simp [this]
  ·rfl
theorem bindC_out {kindOf : Str → Option NameKind} {x : Str} : ∀ {binds : List (Str × Value)} {m : Str → Option Value}, (∀ v, (x, v) ∉ binds) → bindC kindOf binds m x = m x
 | [], _, _ => rfl
 | (n, v) :: r, m, h => by
  unfold bindC
  rw [bindC_out fun w hw => h w (List.mem_cons_of_mem _ hw)]
  split
  ·rfl
  ·have : x ≠ n := by rintro rfl; exact h v List.mem_cons_self
   simp [this]
theorem bindL_get {kindOf : Str → Option NameKind} {x : Str} {v : Value} : ∀ {P : List Str} {vs : List Value} {i : Nat} {m : Str → Option Value}, P.Nodup → P[i]? = some x → vs[i]? = some v → kindOf x = some .local →
  bindL kindOf (P.zip vs) m x = some v
 | [], _, _, _, _, h, _, _ => by simp at h
 | _ :: _, [], _, _, _, _, h, _ => by simp at h
 | p :: P, w :: vs, 0, m, nd, h1, h2, hk => by
  simp at h1 h2; subst h1; subst h2
  show bindL kindOf ((p, w) :: P.zip vs) m p = _
  unfold bindL
  rw [bindL_out fun v hv => (List.nodup_cons.mp nd).1 (List.of_mem_zip hv).1, if_pos hk]
  simp
 | p :: P, w :: vs, i + 1, m, nd, h1, h2, hk => by
  show bindL kindOf ((p, w) :: P.zip vs) m x = _
  unfold bindL
  exact bindL_get (i := i) (List.nodup_cons.mp nd).2 (by simpa using h1) (by simpa using h2) hk
theorem bindC_get {kindOf : Str → Option NameKind} {x : Str} {v : Value} : ∀ {P : List Str} {vs : List Value} {i : Nat} {m : Str → Option Value}, P.Nodup → P[i]? = some x → vs[i]? = some v → kindOf x ≠ some .local →
  bindC kindOf (P.zip vs) m x = some v
 | [], _, _, _, _, h, _, _ => by simp at h
 | _ :: _, [], _, _, _, _, h, _ => by simp at h
 | p :: P, w :: vs, 0, m, nd, h1, h2, hk => by
  simp at h1 h2; subst h1; subst h2
  show bindC kindOf ((p, w) :: P.zip vs) m p = _
  unfold bindC
  rw [bindC_out fun v hv => (List.nodup_cons.mp nd).1 (List.of_mem_zip hv).1, if_neg hk]
  simp
 | p :: P, w :: vs, i + 1, m, nd, h1, h2, hk => by
  show bindC kindOf ((p, w) :: P.zip vs) m x = _
  unfold bindC
  exact bindC_get (i := i) (List.nodup_cons.mp nd).2 (by simpa using h1) (by simpa using h2) hk
def start (N : List Str) (vs : List V) : St := vs.map some ++ List.replicate (N.length - vs.length) none
def cxOf (CX : CXT) (P : Program) (w : World) (K : PySem.W.Frag) (mg : Str → Option Value) (base : Heap) (N : List Str) (qual : Str) (scope : Scope) (f : Addr) (cd : Value) (A : Around) (outer : List Env) (s : Shared) (H : Hp) (E : XK) : Cx where
 prog := P
 w := w
 K := K
 mg := mg
 base := base
 A := A.deeper (envOfC qual scope s.heap.objs.size f cd)
 N := N
 s_0 := s
 H_0 := H
 env := envOfC qual scope s.heap.objs.size f cd
 outer := outer
 stack := envOfC qual scope s.heap.objs.size f cd :: outer
 ex := []
 calm := true
 fn := fun _ => true
 pn := []
 xe := fun e s' => wpAny (model P w) (A.deeper (envOfC qual scope s.heap.objs.size f cd)) (leaving (envOfC qual scope s.heap.objs.size f cd) e) (fun _ s'' => CX outer H s E e s'') (fun e' s'' => CX outer H s E e' s'') s'
theorem cell_has {sc : Scope} {n : Nat} {x : Str} (h : sc.names.lookup x = some .cell) : ∃ c, (cellsFrom n sc.names []).lookup x = some c := by
 have q := PySem.W.cellsFrom_some sc.names n [] (.inl h)
 exact Option.isSome_iff_exists.mp q
theorem inv_start {CX : CXT} {P : Program} {w : World} {K : PySem.W.Frag} {mg : Str → Option Value} {base : Heap} {N ps : List Str} {qual : Str} {scope : Scope} {f : Addr} {cd : Value} {A : Around} {outer : List Env} {s s1 : Shared} {H : Hp} {E : XK} {us : List Value} {vs : List V}
  (S : FnScope N ps scope) (hd : A.handled = none) (e0 : Env0 P w K mg base A outer s H) (hl : vs.length = ps.length) (r : Vals vs us)
  (x : InCallC s s.heap.objs.size (bindL (envOfC qual scope s.heap.objs.size f cd).kindOf (ps.zip us) fun _ => none) (cellsFrom (s.heap.objs.size + 1) scope.names []) (bindC (envOfC qual scope s.heap.objs.size f cd).kindOf (ps.zip us) fun _ => none) s1) :
  Inv (cxOf CX P w K mg base N qual scope f cd A outer s H E) [] (start N vs) H s1 := by
 have hpl : ps.length ≤ N.length := by have := congrArg List.length S.pre; rw [List.length_take] at this; omega
 obtain ⟨h1, tk, rfl, hk⟩ := x.done
 have noA : ∀ b : Addr, b ∉ (cxOf CX P w K mg base N qual scope f cd A outer s H E).ex := fun b z => absurd (show b ∈ ([] : List Addr) from z) (by simp)
 refine ⟨⟨e0.mod, S.kind, rfl, rfl, Nat.le_refl _, fun y z c h1 h2 => ?_, fun y hy => ?_, fun y c _ h => ?_, fun _ => hd, Around.frames_deeper e0.frames, .inr ⟨rfl, rfl⟩, fun b z => absurd z (noA b), e0.bs, e0.bsz, fun b _ _ => noA b, fun b z => absurd z (noA b), e0.funs, e0.frf⟩,
  rfl, e0.bare, Un.kept hk, ⟨_, x.toInCall.ns, fun i y v h1 h2 h3 => ?_⟩, fun y c h => ⟨_, x.cell y c h⟩, e0.hok.fresh (Nat.le_refl _), fun y c h => ?_, fun p hp => absurd (show p ∈ ([] : List (Addr × Obj)) from hp) (by simp), e0.hok.kept hk, ?_⟩
 ·exact name_of_addr x.apart (PySem.mem_of_lookup h1) (PySem.mem_of_lookup h2)
 ·have hy : scope.names.lookup y = some .cell ∨ scope.names.lookup y = some .free := hy
  rcases hy with hy | hy
  ·exact cell_has hy
  ·exact absurd rfl (S.nofree _ (PySem.mem_of_lookup hy))
 ·exact Nat.le_of_lt (x.above y c (PySem.mem_of_lookup h))
 ·have hi : i < vs.length := by
   unfold start at h2
   by_cases hi : i < vs.length
   ·exact hi
   ·rw [List.getElem?_append_right (by simpa using hi)] at h2
    rw [List.getElem?_replicate] at h2
    split at h2 <;> cases h2
  have ha : vs[i]? = some v := by
   unfold start at h2
   rw [List.getElem?_append_left (by simpa using hi), List.getElem?_map] at h2
   cases e : vs[i]? with
   | none => rw [e] at h2; cases h2
   | some a => rw [e] at h2; cases h2; rfl
  obtain ⟨u, hu, rv⟩ := r.get ha
  have hp : ps[i]? = some y := by
   rw [← S.pre, List.getElem?_take_of_lt (by omega)]; exact h1
  have ndP : ps.Nodup := by rw [← S.pre]; exact S.nd.sublist (List.take_sublist _ _)
  refine ⟨u, rv, ?_⟩
  rcases S.par y (List.mem_of_getElem? hp) with k | k
  ·exact .inl ⟨k, bindL_get ndP hp hu k⟩
  ·obtain ⟨c, e⟩ := cell_has (n := s.heap.objs.size + 1) k
   refine .inr ⟨.inl k, c, e, ?_⟩
   have q := x.cell y c e
   rw [bindC_get ndP hp hu (by show scope.names.lookup y ≠ _; rw [k]; decide)] at q
   exact q
 ·exact e0.hok.fresh (Nat.le_of_lt (x.above y c (PySem.mem_of_lookup h)))
 ·unfold start
  show _ = N.length
  rw [List.length_append, List.length_map, List.length_replicate]
  omega
theorem fn_of {CX : CXT} {P : Program} {w : World} {K : PySem.W.Frag} {mg : Str → Option Value} {base : Heap} {k : Nat} {f : Addr} {name qual : Str} {params : Arguments} {body : List Stmt} {scope : Scope} {dV kV doc pm cdv ct oc : Value} {an od : Option Addr}
  {osl : Array (Option Value)} {N ps : List Str} {sp : Sp} (lk : K.lookup f = some ⟨oc, od, .func (PySem.W.fnOf name qual params body scope dV kV doc pm an cdv ct), osl⟩) (hcd : PySem.W.codeIn K cdv qual = true) (S : FnScope N ps scope)
  (len : ∀ vs H Q E, sp vs H Q E → vs.length = ps.length)
  (hbody : ∀ (A : Around) (outer : List Env) (s : Shared) (H : Hp) (vs : List V) (Q : VK) (E : XK), Room k (A.deeper (envOfC qual scope s.heap.objs.size f cdv)) → sp vs H Q E →
   ∃ t, PSs (cxOf CX P w K mg base N qual scope f cdv A outer s H E) body t ∧ t { nx := fun _ H' => Q .non H', rt := Q } (start N vs) H) :
  FnOk P w K mg base CX (k + 1) f (PySem.W.fnOf name qual params body scope dV kV doc pm an cdv ct) ps sp := by
 refine ⟨len, fun A outer s H args us vs Q E hr e0 hb r hsp => ?_⟩
 have hl := len _ _ _ _ hsp
 have KX : K.In s.heap := e0.mod.kin.keeps fun b o e => (e0.bs b o e).1
 have lim : s.heap.NoLimit := e0.mod.nolimit.keeps fun b o e => (e0.bs b o e).1
 have hkind : ∀ y ∈ ps.zip us, scope.names.lookup y.1 = some .local ∨ (scope.names.lookup y.1 = some .cell ∧ ((cellsFrom (s.heap.objs.size + 1) scope.names []).lookup y.1).isSome = true) := fun ⟨n, v⟩ hy => by
  rcases S.par n (List.of_mem_zip hy).1 with q | q
  ·exact .inl q
  ·exact .inr ⟨q, PySem.W.cellsFrom_some _ _ _ (.inl q)⟩
 refine codeAny_call_function hr.depth (KX _ _ lk) rfl S.co S.gen rfl (PySem.W.codeRec_of KX hcd) (hb _ _ _ _ ?_)
 refine wpAny_newFunctionEnv_cells S.kind hkind fun env he s1 x => ?_
 subst he
 refine ⟨lim.keeps x.toInCall.keep, codeAny_func ?_⟩
 obtain ⟨t, ht, hq⟩ := hbody A outer s H vs Q E (hr.deeper _) hsp
 have I : Inv (cxOf CX P w K mg base N qual scope f cdv A outer s H E) [] (start N vs) H s1 := inv_start S hr.hd e0 hl r x
 refine wpAny_mono (ht [] s1 (start N vs) H _ I hq) (fun fl s' hs => ?_) fun e s' hs => hs
 have fin : ∀ {σ' : St} {H' : Hp} {v : V} {u : Value}, Inv (cxOf CX P w K mg base N qual scope f cdv A outer s H E) [] σ' H' s' → RelV v u → Q v H' → CE outer P w H s Q u s' :=
  fun {σ' H' v u} J rv q => ⟨v, H', J.os, J.bare, J.base, J.hok, rv, q⟩
 cases fl with
 | ret u =>
  obtain ⟨v, σ', H', J, rv, q⟩ := hs
  exact fin J rv q
 | next =>
  obtain ⟨σ', H', J, q⟩ := hs
  exact fin (v := V.non) (u := Value.none) J rfl q
 | brk =>
  obtain ⟨_, _, _, q⟩ := hs
  exact False.elim q
 | cont =>
  obtain ⟨_, _, _, q⟩ := hs
  exact False.elim q
section
variable {X : Cx} {x : Str} {p pos : Pos} {e : Expr} {es : List Expr} {t : TA} {id T : String} {r : List V → Hp → VK → Prop}
def tCB (r : List V → Hp → VK → Prop) (t : TA) : TE := fun σ H Q => t σ H fun vs H1 => r vs H1 Q
theorem pe_callB (hc : CallR X (.builtin id) r) (hg : Gl X x) (hm : X.mg x = none) (hv : bootBuiltins x = some (.builtin id)) (ha : PA X (e :: es) t) (hn : x ≠ "__name__" := by decide) (hdb : (x == ("__debug__" : Str)) = false := by decide)
  (he : starEach (e :: es) X.env = (false, eval e X.env) :: starEach es X.env := by rfl) (hpl : (backTo pos (starEach es X.env)).any (·.1) = false := by rfl) : PE X (.Call (.Name x p) (e :: es) [] pos) (tCB r t) := by
 intro pins s σ H Q I h
 refine wpAny_Call_Name_kw (ld_blt I hg hm hv ?_ hn hdb)
 exact PyProof.Rows.callWith_builtin1 (thn (ha pos pins s σ H _ I h) fun us s1 ⟨vs, H1, I1, r1, q1⟩ => hc pins s1 σ H1 vs us Q I1 r1 q1) he hpl
theorem pe_callTy (hc : CallR X (.type T) r) (hg : Gl X x) (hm : X.mg x = none) (hv : bootBuiltins x = some (.type T)) (ha : PA X (e :: es) t) (hn : x ≠ "__name__" := by decide) (hdb : (x == ("__debug__" : Str)) = false := by decide)
  (he : starEach (e :: es) X.env = (false, eval e X.env) :: starEach es X.env := by rfl) (hpl : (backTo pos (starEach es X.env)).any (·.1) = false := by rfl) : PE X (.Call (.Name x p) (e :: es) [] pos) (tCB r t) := by
 intro pins s σ H Q I h
 refine wpAny_Call_Name_kw (ld_blt I hg hm hv ?_ hn hdb)
 exact PyProof.Rows.callWith_type1 (thn (ha pos pins s σ H _ I h) fun us s1 ⟨vs, H1, I1, r1, q1⟩ => hc pins s1 σ H1 vs us Q I1 r1 q1) he hpl
end
end L2
namespace HT
open PySem PyProof.Rows
section
open PySem.SeqAt
open PySem.AutoSeq1 (wpAny_loadPart')
open PySem.MeetsSeq PySem.MeetsSeq2 PySem.MeetsSeq3
end
section
variable {prog : Program} {w : World} {A : Around} {E : Value → Shared → Prop} {s : Shared}
def sIx (n d : Nat) : Option Int → Nat
 | none => d
 | some v => if v < 0 then (v + (n : Int)).toNat else min v.toNat n
theorem sIx_nat (n d k : Nat) : sIx n d (some (k : Int)) = min k n := by
 show (if (k : Int) < 0 then ((k : Int) + (n : Int)).toNat else min (k : Int).toNat n) = min k n
 rw [if_neg (by omega), Int.toNat_natCast]
end
end HT
namespace L2
open PySem PySem.Spec PyProof.Rows
abbrev TO := St → Hp → (Option Int → Hp → Prop) → Prop
def PO (X : Cx) (e : Option Expr) (t : TO) : Prop :=
 ∀ (pins : List (Addr × Obj)) (s : Shared) (σ : St) (H : Hp) (Q : Option Int → Hp → Prop), Inv X pins σ H s → t σ H Q →
  wpAny (model X.prog X.w) X.A (evalPart e X.env) (fun u s' => ∃ o H', Inv X pins σ H' s' ∧ IsPart u o ∧ Q o H') X.xe s
def tNoPart : TO := fun _ H Q => Q none H
def tPart (t : TE) : TO := fun σ H Q => t σ H fun x H1 => ∃ i, x = .int i ∧ Q (some i) H1
section
variable {X : Cx} {e : Expr} {te : TE} {lo hi : Option Expr} {tl th : TO} {pos p2 : Pos}
theorem po_none : PO X none tNoPart := by
 intro pins s σ H Q I h
 rw [evalPart_none]
 exact wpAny_pure ⟨none, H, I, .none, h⟩
theorem po_some (h : PE X e te) : PO X (some e) (tPart te) := by
 intro pins s σ H Q I hw
 rw [evalPart_some]
 refine thn (h pins s σ H _ I hw) fun u s1 ⟨x, H1, I1, r1, q1⟩ => ?_
 obtain ⟨i, rfl, q⟩ := q1
 obtain ⟨t, rfl⟩ := r1
 exact ⟨some i, H1, I1, .int i t, q⟩
def SlR (X : Cx) (r : V → Option Int → Option Int → Hp → VK → Prop) : Prop :=
 ∀ (pins : List (Addr × Obj)) (s : Shared) (σ : St) (H : Hp) (x : V) (v vl vu : Value) (lo hi : Option Int) (sl : Addr) (Q : VK), Inv X pins σ H s → RelV x v → s.heap.IsSliceOf sl vl vu .none → IsPart vl lo → IsPart vu hi → r x lo hi H Q →
  ∃ T id, typeLookup (.type T) "__getitem__" = pure (some (.builtin id)) ∧ s.TypeIs v T ∧ wpAny (model X.prog X.w) X.A (getItem v (.ref sl)) (EP X pins σ Q) X.xe s
theorem SlR.or {r r' : V → Option Int → Option Int → Hp → VK → Prop} (h : SlR X r) (h' : SlR X r') : SlR X (fun x lo hi H Q => r x lo hi H Q ∨ r' x lo hi H Q) := by
 intro pins s σ H x v vl vu lo hi sl Q I rx hs pl pu q
 rcases q with q | q
 ·exact h pins s σ H x v vl vu lo hi sl Q I rx hs pl pu q
 ·exact h' pins s σ H x v vl vu lo hi sl Q I rx hs pl pu q
def tSl (r : V → Option Int → Option Int → Hp → VK → Prop) (te : TE) (tl th : TO) : TE := fun σ H Q => te σ H fun x H1 => tl σ H1 fun l H2 => th σ H2 fun u H3 => r x l u H3 Q
theorem pe_slice {r : V → Option Int → Option Int → Hp → VK → Prop} (hr : SlR X r) (he : PE X e te) (hl : PO X lo tl) (hu : PO X hi th) : PE X (.Subscript e (.Slice lo hi none p2) pos) (tSl r te tl th) := by
 intro pins s σ H Q I h
 refine Subscript_ (thn (he pins s σ H _ I h) fun v s1 ⟨x, H1, I1, r1, q1⟩ => ?_)
 refine wpAny_Slice (thn (hl pins s1 σ H1 _ I1 q1) fun vl s2 ⟨l, H2, I2, pl, q2⟩ => thn (hu pins s2 σ H2 _ I2 q2) fun vu s3 ⟨u, H3, I3, pu, q3⟩ => ?_)
 rw [evalPart_none]
 refine wpAny_pure ?_
 have I4 : Inv X pins σ H3 { s3 with heap := s3.heap.push { cls := .type "slice", data := .fields #[vl, vu, .none] } } := I3.kept (t' := s3.toks) fun b ob q => Heap.get?_push_of_some _ q
 obtain ⟨T, id, hT, ht, hg⟩ := hr pins { s3 with heap := s3.heap.push { cls := .type "slice", data := .fields #[vl, vu, .none] } } σ H3 x v vl vu l u s3.heap.objs.size Q I4 r1 (Heap.IsSliceOf.new ..) pl pu q3
 show wpAny (model X.prog X.w) X.A (subscriptTail e (.Slice lo hi none p2) v (.ref s3.heap.objs.size)) (EP X pins σ Q) X.xe { s3 with heap := s3.heap.push { cls := .type "slice", data := .fields #[vl, vu, .none] } }
 exact tail_any (ops := [.ref s3.heap.objs.size, v]) ht hT hg (by with_unfolding_all rfl)
def cutV (xs : List V) (lo hi : Option Int) : List V := (xs.drop (HT.sIx xs.length 0 lo)).take (HT.sIx xs.length xs.length hi - HT.sIx xs.length 0 lo)
theorem cutV_length (xs : List V) (lo hi : Option Int) : (cutV xs lo hi).length ≤ xs.length := by
 unfold cutV
 rw [List.length_take, List.length_drop]
 omega
end
def ixN (n : Nat) (i : Int) : Option Nat := if 0 ≤ i then (if i < n then some i.toNat else none) else if -(n : Int) ≤ i then some (i + n).toNat else none
def atI {α : Type} (xs : List α) (i : Int) : Option α := (ixN xs.length i).bind fun j => xs[j]?
theorem ixN_seq {n : Nat} {i : Int} {j : Nat} (h : ixN n i = some j) : seqIndex? i n = some j ∧ j < n ∧ -(n : Int) ≤ i ∧ i < n := by
 unfold ixN at h
 by_cases h0 : 0 ≤ i
 ·rw [if_pos h0] at h
  by_cases h1 : i < n
  ·rw [if_pos h1] at h
   have e : i.toNat = j := Option.some.inj h
   exact ⟨by rw [seqIndex_of h0 h1, e], by omega, by omega, h1⟩
  ·rw [if_neg h1] at h; cases h
 ·rw [if_neg h0] at h
  by_cases h1 : -(n : Int) ≤ i
  ·rw [if_pos h1] at h
   have e : (i + n).toNat = j := Option.some.inj h
   exact ⟨by rw [seqIndex_neg (by omega) h1, e], by omega, h1, by omega⟩
  ·rw [if_neg h1] at h; cases h
theorem atI_get {α : Type} {xs : List α} {i : Int} {v : α} (h : atI xs i = some v) : ∃ j, seqIndex? i xs.length = some j ∧ xs[j]? = some v ∧ j < xs.length ∧ -(xs.length : Int) ≤ i ∧ i < xs.length := by
 unfold atI at h
 cases e : ixN xs.length i with
 | none => rw [e] at h; cases h
 | some j =>
  rw [e] at h
  obtain ⟨h1, h2, h3, h4⟩ := ixN_seq e
  exact ⟨j, h1, h, h2, h3, h4⟩
theorem atI_nat {α : Type} {xs : List α} {j : Nat} {v : α} (h : xs[j]? = some v) : atI xs (j : Int) = some v := by
 have hj : j < xs.length := (List.getElem?_eq_some_iff.mp h).1
 have e : ixN xs.length (j : Int) = some j := by
  unfold ixN
  rw [if_pos (by omega), if_pos (by omega)]; simp
 unfold atI; rw [e]; exact h
def PlainIx (b : Expr) : Prop := ∀ o i, subscripted b false o i = operate [o, i] (getItem o i)
def IxR (X : Cx) (r : R2) : Prop :=
 ∀ (value slice : Expr) (pins : List (Addr × Obj)) (s : Shared) (σ : St) (H : Hp) (x y : V) (v u : Value) (Q : VK), Inv X pins σ H s → RelV x v → RelV y u → r x y H Q →
  subscripted slice false v u = operate [v, u] (getItem v u) → wpAny (model X.prog X.w) X.A (subscriptTail value slice v u) (EP X pins σ Q) X.xe s
def MtR (X : Cx) (id : String) (r : V → List V → Hp → VK → Prop) : Prop :=
 ∀ (pins : List (Addr × Obj)) (s : Shared) (σ : St) (H : Hp) (x : V) (xs : List V) (v : Value) (us : List Value) (Q : VK), Inv X pins σ H s → RelV x v → Vals xs us → r x xs H Q →
  wpAny (model X.prog X.w) X.A (call (.builtin id) (v :: us)) (EP X pins σ Q) X.xe s
section
variable {X : Cx} {a b : Expr} {ta tb : TE} {pos : Pos}
theorem IxR.or {r r' : R2} (h : IxR X r) (h' : IxR X r') : IxR X (fun x y H Q => r x y H Q ∨ r' x y H Q) := by
 intro value slice pins s σ H x y v u Q I rx ry q hs
 rcases q with q | q
 ·exact h value slice pins s σ H x y v u Q I rx ry q hs
 ·exact h' value slice pins s σ H x y v u Q I rx ry q hs
theorem MtR.or {id : String} {r r' : V → List V → Hp → VK → Prop} (h : MtR X id r) (h' : MtR X id r') : MtR X id (fun x xs H Q => r x xs H Q ∨ r' x xs H Q) := by
 intro pins s σ H x xs v us Q I rx rs q
 rcases q with q | q
 ·exact h pins s σ H x xs v us Q I rx rs q
 ·exact h' pins s σ H x xs v us Q I rx rs q
theorem pe_ix {r : R2} (hr : IxR X r) (ha : PE X a ta) (hb : PE X b tb) (hs : PlainIx b) : PE X (.Subscript a b pos) (tOp r ta tb) := by
 intro pins s σ H Q I h
 exact Subscript_ (binT ha hb I h fun v u s2 x y H2 I2 rx ry q => hr a b pins s2 σ H2 x y v u Q I2 rx ry q (hs _ _))
def rIxL (K : PySem.W.Frag) : R2 := fun x y H Q => ∃ p xs i v, x = .ref p ∧ y = .int i ∧ SqL K H p xs ∧ atI xs i = some v ∧ Q v H
def rIxT (K : PySem.W.Frag) : R2 := fun x y H Q => ∃ p xs i v, x = .ref p ∧ y = .int i ∧ SqT K H p xs ∧ atI xs i = some v ∧ Q v H
def rIxS : R2 := fun x y H Q => ∃ z i c, x = .str z ∧ y = .int i ∧ z.length ≤ sizeLine ∧ atI z.cps.toList i = some c ∧ Q (.str ⟨#[c]⟩) H
theorem ix_list : IxR X (rIxL X.K) := by
 intro value slice pins s σ H x y v u Q I rx ry h hs
 obtain ⟨p, xs, i, z, rfl, rfl, hq, he, q⟩ := h
 cases rx
 obtain ⟨t, rfl⟩ := ry
 obtain ⟨its, r, pl, hz⟩ := I.list hq
 obtain ⟨j, h1, h2, h3, h4, h5⟩ := atI_get he
 obtain ⟨w, ew, rw'⟩ := r.get h2
 have hl := r.length
 have hn := line63
 have fin : EP X pins σ Q w s := ⟨z, H, I, rw', q⟩
 by_cases h0 : 0 ≤ i
 ·have hj : i.toNat = j := by
   rw [seqIndex_of h0 h5] at h1
   exact Option.some.inj h1
  exact item_listR pl.isList h0 (by omega) (by rw [hj]; simpa using ew) fin hs
 ·have hj : (i + (its.toArray.size : Int)).toNat = j := by
   rw [seqIndex_neg (by omega) h4] at h1
   rw [List.size_toArray, ← hl]
   exact Option.some.inj h1
  exact subscriptTail_builtinR (x := w) pl.isList.typeIs slot_list_getitem.lookup
   (wpAny_getItem_list_neg (Q := fun r s' => r = w ∧ EP X pins σ Q r s') pl.isList (by omega) (by rw [List.size_toArray] <;> omega) (by omega) (by rw [hj]; simpa using ew) ⟨rfl, fin⟩) hs
theorem ix_tup : IxR X (rIxT X.K) := by
 intro value slice pins s σ H x y v u Q I rx ry h hs
 obtain ⟨p, xs, i, z, rfl, rfl, hq, he, q⟩ := h
 cases rx
 obtain ⟨t, rfl⟩ := ry
 obtain ⟨its, r, pl, hz⟩ := I.tuple hq
 obtain ⟨j, h1, h2, h3, h4, h5⟩ := atI_get he
 obtain ⟨w, ew, rw'⟩ := r.get h2
 have hl := r.length
 have hn := line63
 have fin : EP X pins σ Q w s := ⟨z, H, I, rw', q⟩
 exact subscriptTail_builtinR (x := w) pl.typeIs slot_tuple_getitem.lookup
  (getItem_tuple (j := j) (Q := fun r s' => r = w ∧ EP X pins σ Q r s') pl (by omega) (by omega) (by rw [List.size_toArray, ← hl]; exact h1) (by simpa using ew) ⟨rfl, fin⟩) hs
theorem ix_str : IxR X rIxS := by
 intro value slice pins s σ H x y v u Q I rx ry h hs
 obtain ⟨z, i, c, rfl, rfl, hz, he, q⟩ := h
 obtain ⟨t, rfl⟩ := rx
 obtain ⟨t', rfl⟩ := ry
 obtain ⟨j, h1, h2, h3, h4, h5⟩ := atI_get he
 have hl : z.cps.toList.length = z.length := by simp [Str.length]
 rw [hl] at h1 h4 h5
 have hn := line63
 exact tail_any (typeIs_str s z t) slot_str_getitem.lookup (getItem_str (c := c) (by
  have e1 : decide (i < -(2 ^ 63 : Int)) = false := decide_eq_false (by omega)
  have e2 : decide (i ≥ 2 ^ 63) = false := decide_eq_false (by omega)
  rw [e1, e2, Bool.or_false]) (by rw [h1]; simpa using h2) ⟨.str ⟨#[c]⟩, H, I.tok _, ⟨_, rfl⟩, q⟩) hs
def rIx (K : PySem.W.Frag) : R2 := fun x y H Q => rIxL K x y H Q ∨ rIxT K x y H Q ∨ rIxS x y H Q
theorem ix_seq : IxR X (rIx X.K) := ix_list.or (ix_tup.or ix_str)
theorem Inv.lst {pins : List (Addr × Obj)} {σ : St} {H : Hp} {s : Shared} {p : Addr} {xs : List V} (I : Inv X pins σ H s) (h : H p = some (.lst xs)) :
  ∃ (its : List Value) (n : Nat), Vals xs its ∧ s.heap.get? p = some { cls := .type "list", data := .seq its.toArray n } ∧ xs.length ≤ sizeLine := by
 obtain ⟨z, its, n, r, e⟩ := I.hok p _ h
 exact ⟨its, n, r, e, z⟩
theorem slice_bounds (lo hi : Option Int) (n : Nat) : (sliceBounds lo hi none n).1 = ((HT.sIx n 0 lo : Nat) : Int) ∧ (sliceBounds lo hi none n).2.1 = ((HT.sIx n n hi : Nat) : Int) ∧ (sliceBounds lo hi none n).2.2 = 1 := by
 refine ⟨?_, ?_, rfl⟩
 ·cases lo with
  | none => simp [sliceBounds, HT.sIx]
  | some i =>
   simp only [sliceBounds, HT.sIx, Option.getD_none, show (1 : Int) > 0 by decide, if_true]
   by_cases h : i < 0
   ·simp only [h, if_true] <;> omega
   ·simp only [h, if_false] <;> omega
 ·cases hi with
  | none => simp [sliceBounds, HT.sIx]
  | some i =>
   simp only [sliceBounds, HT.sIx, Option.getD_none, show (1 : Int) > 0 by decide, if_true]
   by_cases h : i < 0
   ·simp only [h, if_true] <;> omega
   ·simp only [h, if_false] <;> omega
theorem slicePick_cut (its : List Value) (lo hi : Option Int) : slicePick its.toArray lo hi none = ((its.drop (HT.sIx its.length 0 lo)).take (HT.sIx its.length its.length hi - HT.sIx its.length 0 lo)).toArray := by
 obtain ⟨h1, h2, h3⟩ := slice_bounds lo hi its.toArray.size
 unfold slicePick
 rw [h1, h2, h3]
 simp only [sliceRange_one, pick_run, List.size_toArray] <;> rfl
def rSlL (K : PySem.W.Frag) : V → Option Int → Option Int → Hp → VK → Prop := fun x lo hi H Q => ∃ a xs, x = .ref a ∧ SqL K H a xs ∧ ∀ p, H p = none → Q (.ref p) (upd H p (.lst (cutV xs lo hi)))
theorem sl_list : SlR X (rSlL X.K) := by
 intro pins s σ H x v vl vu lo hi sl Q I rx hs pl pu h
 obtain ⟨a, xs, rfl, hx, q⟩ := h
 cases rx
 obtain ⟨its, r, ht, hz⟩ := I.list hx
 have hlen := r.length
 refine ⟨"list", _, slot_list_getitem.lookup, ht.isList.typeIs, ?_⟩
 refine wpAny_getItem_list_slice ht.isList hs pl pu .none (by simp) ?_ (by rw [List.size_toArray] <;> omega)
 rw [slicePick_cut, ← hlen]
 refine ⟨.ref s.heap.objs.size, _, I.laid (t' := s.toks) (o := .lst (cutV xs lo hi)) (fun b ob q => Heap.get?_push_of_some _ q) (Nat.le_refl _) ?_, rfl, q _ (I.hok.fresh (Nat.le_refl _))⟩
 exact ⟨Nat.le_trans (cutV_length xs lo hi) hz, _, 0, (r.drop (HT.sIx xs.length 0 lo)).take (HT.sIx xs.length xs.length hi - HT.sIx xs.length 0 lo), Heap.get?_push_size _ rfl⟩
def flatV : V → Bool
 | .non => true
 | .bl _ => true
 | .int _ => true
 | .str _ => true
 | _ => false
def eqV : V → V → Bool
 | .non, .non => true
 | .bl a, .bl b => a == b
 | .bl a, .int b => (if a then 1 else 0) == b
 | .int a, .bl b => a == (if b then 1 else 0)
 | .int a, .int b => a == b
 | .str a, .str b => a == b
 | _, _ => false
theorem eqAt_V {A : Around} {s : Shared} {y x : V} {u v : Value} (ry : RelV y u) (rx : RelV x v) (fy : flatV y = true) (fx : flatV x = true) : SeqAt.EqAt A s u v (eqV y x) := by
 cases y with
 | non =>
  cases ry
  cases x with
  | non => cases rx; exact SeqAt.EqAt.same _
  | bl b => cases rx; exact SeqAt.EqAt.none_bool b
  | int b => obtain ⟨t, rfl⟩ := rx; exact SeqAt.EqAt.none_int b t
  | str b => obtain ⟨t, rfl⟩ := rx; exact SeqAt.EqAt.none_str b t
  | _ => exact absurd (show false = true from fx) Bool.false_ne_true
 | bl a =>
  cases ry
  cases x with
  | non => cases rx; exact SeqAt.EqAt.bool_none a
  | bl b => cases rx; exact SeqAt.EqAt.bool_bool a b
  | int b => obtain ⟨t, rfl⟩ := rx; exact SeqAt.EqAt.bool_int a b t
  | str b => obtain ⟨t, rfl⟩ := rx; exact SeqAt.EqAt.bool_str a b t
  | _ => exact absurd (show false = true from fx) Bool.false_ne_true
 | int a =>
  obtain ⟨t', rfl⟩ := ry
  cases x with
  | non => cases rx; exact SeqAt.EqAt.int_none a t'
  | bl b => cases rx; exact SeqAt.EqAt.int_bool a t' b
  | int b => obtain ⟨t, rfl⟩ := rx; exact SeqAt.EqAt.int_int a t' b t
  | str b => obtain ⟨t, rfl⟩ := rx; exact SeqAt.EqAt.int_str a t' b t
  | _ => exact absurd (show false = true from fx) Bool.false_ne_true
 | str a =>
  obtain ⟨t', rfl⟩ := ry
  cases x with
  | non => cases rx; exact SeqAt.EqAt.str_none a t'
  | bl b => cases rx; exact SeqAt.EqAt.str_bool a t' b
  | int b => obtain ⟨t, rfl⟩ := rx; exact SeqAt.EqAt.str_int a t' b t
  | str b => obtain ⟨t, rfl⟩ := rx; exact SeqAt.EqAt.str_str a t' b t
  | _ => exact absurd (show false = true from fx) Bool.false_ne_true
 | _ => exact absurd (show false = true from fy) Bool.false_ne_true
def eqU (x : V) (u : Value) : Bool := match u with
 | .none => eqV .non x
 | .bool b => eqV (.bl b) x
 | .int i _ => eqV (.int i) x
 | .str z _ => eqV (.str z) x
 | _ => false
theorem eqU_of {x y : V} {u : Value} (r : RelV y u) (f : flatV y = true) : eqU x u = eqV y x := by
 cases y with
 | non => cases r; rfl
 | bl b => cases r; rfl
 | int i => obtain ⟨t, rfl⟩ := r; rfl
 | str z => obtain ⟨t, rfl⟩ := r; rfl
 | _ => exact absurd (show false = true from f) Bool.false_ne_true
theorem any_eqU {x : V} : ∀ {xs : List V} {us : List Value}, Vals xs us → xs.all flatV = true → us.any (eqU x) = xs.any fun y => eqV y x
 | _, _, .nil, _ => rfl
 | y :: xs, u :: us, .cons r t, f => by
  rw [List.all_cons, Bool.and_eq_true] at f
  rw [List.any_cons, List.any_cons, eqU_of r f.1, any_eqU t f.2]
theorem mem_eqAt {A : Around} {s : Shared} {x : V} {v : Value} (rx : RelV x v) (fx : flatV x = true) : ∀ {xs : List V} {us : List Value}, Vals xs us → xs.all flatV = true → ∀ u ∈ us, SeqAt.EqAt A s u v (eqU x u)
 | _, _, .nil, _ => fun u hu => by cases hu
 | y :: xs, u :: us, .cons r t, f => fun u' hu => by
  rw [List.all_cons, Bool.and_eq_true] at f
  rcases List.mem_cons.mp hu with rfl | hu
  ·rw [eqU_of r f.1]; exact eqAt_V r rx f.1 fx
  ·exact mem_eqAt rx fx t f.2 u' hu
def inV (x : V) (xs : List V) : Bool := xs.any fun y => eqV y x
def rIn (K : PySem.W.Frag) (neg : Bool) : R2 := fun x y H Q => ∃ p xs, y = .ref p ∧ (SqL K H p xs ∨ SqT K H p xs) ∧ flatV x = true ∧ xs.all flatV = true ∧ Q (.bl (if neg then !inV x xs else inV x xs)) H
theorem op_in_seq : OpR X (compareOp .In) (rIn X.K false) := by
 intro pins s σ H x y v u Q I rx ry h
 obtain ⟨p, xs, rfl, hq, fx, fs, q⟩ := h
 cases ry
 rcases hq with hq | hq
 ·obtain ⟨its, r, pl, hz⟩ := I.list hq
  refine SeqAt.in_listAt (eqU x) pl.isList (fun w hw => mem_eqAt rx fx r fs w (by simpa using hw)) ⟨.bl _, H, I, rfl, ?_⟩
  rw [show its.toArray.any (eqU x) = its.any (eqU x) by simp, any_eqU r fs]
  exact q
 ·obtain ⟨its, r, pl, hz⟩ := I.tuple hq
  refine SeqAt.in_tupleAt (eqU x) pl (fun w hw => mem_eqAt rx fx r fs w (by simpa using hw)) ⟨.bl _, H, I, rfl, ?_⟩
  rw [show its.toArray.any (eqU x) = its.any (eqU x) by simp, any_eqU r fs]
  exact q
theorem op_notIn_seq : OpR X (compareOp .NotIn) (rIn X.K true) := by
 intro pins s σ H x y v u Q I rx ry h
 obtain ⟨p, xs, rfl, hq, fx, fs, q⟩ := h
 cases ry
 rcases hq with hq | hq
 ·obtain ⟨its, r, pl, hz⟩ := I.list hq
  refine SeqAt.notIn_listAt (eqU x) pl.isList (fun w hw => mem_eqAt rx fx r fs w (by simpa using hw)) ⟨.bl _, H, I, rfl, ?_⟩
  rw [show its.toArray.any (eqU x) = its.any (eqU x) by simp, any_eqU r fs]
  exact q
 ·obtain ⟨its, r, pl, hz⟩ := I.tuple hq
  refine SeqAt.notIn_tupleAt (eqU x) pl (fun w hw => mem_eqAt rx fx r fs w (by simpa using hw)) ⟨.bl _, H, I, rfl, ?_⟩
  rw [show its.toArray.any (eqU x) = its.any (eqU x) by simp, any_eqU r fs]
  exact q
theorem CallR.or {f : Value} {r r' : List V → Hp → VK → Prop} (h : CallR X f r) (h' : CallR X f r') : CallR X f (fun xs H Q => r xs H Q ∨ r' xs H Q) := by
 intro pins s σ H xs us Q I rs q
 rcases q with q | q
 ·exact h pins s σ H xs us Q I rs q
 ·exact h' pins s σ H xs us Q I rs q
theorem call_list_of : CallR X (.type "list") (fun xs H Q => ∃ p ys, xs = [.ref p] ∧ (SqL X.K H p ys ∨ SqT X.K H p ys) ∧ ∀ l, H l = none → Q (.ref l) (upd H l (.lst ys))) := by
 intro pins s σ H xs us Q I r h
 obtain ⟨p, ys, rfl, hq, q⟩ := h
 obtain ⟨u, rfl, rx⟩ := vals1 r
 cases rx
 have fin : ∀ (its : List Value), Vals ys its → ys.length ≤ sizeLine → ∀ (h' : Heap) (c' : Nat), (∀ b o', s.heap.get? b = some o' → h'.get? b = some o') →
   h'.get? s.heap.objs.size = some { cls := .type "list", dict := none, data := .seq its.toArray c', slots := #[] } → EP X pins σ Q (.ref s.heap.objs.size) { s with heap := h' } := fun its r' hz h' c' kp e =>
  ⟨.ref s.heap.objs.size, _, I.laid (t' := s.toks) kp (Nat.le_refl _) (show ObjOk X.prog X.w _ h' _ (.lst ys) from ⟨hz, its, c', r', e⟩), rfl, q _ (I.hok.fresh (Nat.le_refl _))⟩
 rcases hq with hq | hq
 ·obtain ⟨its, r', pl, hz⟩ := I.list hq
  have hlen := r'.length
  obtain ⟨o, ho, hc, n, hd⟩ := pl.isList
  exact call_list_seq p (.inl rfl) ho hc hd (fun h' c' kp e => fin its r' hz h' c' kp e) (by simp only [List.size_toArray] <;> omega)
 ·obtain ⟨its, r', pl, hz⟩ := I.tuple hq
  have hlen := r'.length
  obtain ⟨o, ho, hc, n, hd⟩ := pl
  exact call_list_seq p (.inr rfl) ho hc hd (fun h' c' kp e => fin its r' hz h' c' kp e) (by simp only [List.size_toArray] <;> omega)
theorem call_tuple_of : CallR X (.type "tuple") (fun xs H Q => ∃ p ys, xs = [.ref p] ∧ ((SqL X.K H p ys ∧ ∀ l, H l = none → Q (.ref l) (upd H l (.tup ys))) ∨ (SqT X.K H p ys ∧ Q (.ref p) H))) := by
 intro pins s σ H xs us Q I r h
 obtain ⟨p, ys, rfl, h⟩ := h
 obtain ⟨u, rfl, rx⟩ := vals1 r
 cases rx
 rcases h with ⟨hq, q⟩ | ⟨hq, q⟩
 ·obtain ⟨its, r', pl, hz⟩ := I.list hq
  have hlen := r'.length
  refine call_tuple_list pl.isList (fun h' kp => ?_) (by simp only [List.size_toArray] <;> omega)
  have I1 : Inv X pins σ H { s with heap := h' } := I.kept (t' := s.toks) kp
  have I2 : Inv X pins σ (upd H h'.objs.size (.tup ys)) { s with heap := h'.push { cls := .type "tuple", data := .seq its.toArray } } :=
   I1.laid (t' := s.toks) (fun b o e => Heap.get?_push_of_some _ e) (Nat.le_refl _) (show ObjOk X.prog X.w _ _ _ (.tup ys) from ⟨hz, its, r', IsTup.new _ _⟩)
  exact ⟨.ref h'.objs.size, _, I2, rfl, q _ (I1.hok.fresh (Nat.le_refl _))⟩
 ·obtain ⟨its, r', pl, hz⟩ := I.tuple hq
  exact call_tuple_same pl ⟨.ref p, H, I, rfl, q⟩
def tyV (K : PySem.W.Frag) (T : String) (x : V) (H : Hp) : Prop := match x with
 | .str _ => T = "str"
 | .int _ => T = "int"
 | .ref p => (T = "list" ∧ ∃ xs, SqL K H p xs) ∨ (T = "tuple" ∧ ∃ o, K.lookup p = some o ∧ o.cls = .type "tuple" ∧ o.dict = none) ∨
   (T = "dict" ∧ ((∃ kvs, H p = some (.dK kvs)) ∨ ∃ kvs, H p = some (.dT kvs))) ∨ (T = "set" ∧ ∃ S n, H p = some (.set S n))
 | _ => False
theorem tyV_is {pins : List (Addr × Obj)} {σ : St} {H : Hp} {s : Shared} {T : String} {x : V} {v : Value} (I : Inv X pins σ H s) (r : RelV x v) (ty : tyV X.K T x H) :
  s.TypeIs v T ∧ ∀ a, v = .ref a → ∃ ob, s.heap.get? a = some ob ∧ ob.dict = none := by
 cases x with
 | str z =>
  obtain ⟨t, rfl⟩ := r
  cases (show T = "str" from ty)
  exact ⟨typeIs_str s z t, fun _ e => nomatch e⟩
 | int i =>
  obtain ⟨t, rfl⟩ := r
  cases (show T = "int" from ty)
  exact ⟨typeIs_int s i t, fun _ e => nomatch e⟩
 | ref p =>
  cases r
  rcases ty with ⟨rfl, xs, hq⟩ | ⟨rfl, o, hk, hc, hd⟩ | ⟨rfl, hk⟩ | ⟨rfl, S, n, hk⟩
  ·obtain ⟨its, _, pl, _⟩ := I.list hq
   refine ⟨pl.isList.typeIs, fun a e => ?_⟩
   cases e
   obtain ⟨o, n, e, c, hd, _⟩ := pl
   exact ⟨o, e, hd⟩
  ·refine ⟨⟨o, I.kIn p o hk, hc⟩, fun a e => ?_⟩
   cases e
   exact ⟨o, I.kIn _ o hk, hd⟩
  ·have z : ∃ o, s.heap.get? p = some o ∧ o.ExactDict := by
    rcases hk with ⟨kvs, hk⟩ | ⟨kvs, hk⟩
    ·obtain ⟨_, _, _, _, o, _, _, e, ex, _⟩ := I.hok p _ hk
     exact ⟨o, e, ex⟩
    ·obtain ⟨_, _, _, _, o, _, _, e, ex, _⟩ := I.hok p _ hk
     exact ⟨o, e, ex⟩
   obtain ⟨o, e, ex⟩ := z
   refine ⟨⟨o, e, ex.1⟩, fun a e2 => ?_⟩
   cases e2
   exact ⟨o, e, ex.2.1⟩
  ·obtain ⟨o, _, _, _, e, ex, _⟩ := I.hok p _ hk
   refine ⟨⟨o, e, ex.1⟩, fun a e2 => ?_⟩
   cases e2
   exact ⟨o, e, ex.2.1⟩
 | _ => exact False.elim ty
def tBM0 (K : PySem.W.Frag) (T : String) (r : V → List V → Hp → VK → Prop) (to : TE) : TE := fun σ H Q => to σ H fun x H1 => tyV K T x H1 ∧ r x [] H1 Q
def tBM (K : PySem.W.Frag) (T : String) (r : V → List V → Hp → VK → Prop) (to : TE) (t : TA) : TE := fun σ H Q => to σ H fun x H1 => tyV K T x H1 ∧ t σ H1 fun xs H2 => r x xs H2 Q
variable {o e : Expr} {es : List Expr} {to : TE} {t : TA} {name : Str} {apos cpos : Pos} {T id : String} {r : V → List V → Hp → VK → Prop}
theorem pe_bm0 (pa : PlainAttrs T) (slot : Slot T name id) (hty : typeOf (.builtin id) = pure (.type "method_descriptor")) (hm : MtR X id r) (ho : PE X o to)
  (hbase : attributeBase o name X.env (eval o X.env) = eval o X.env := by rfl) (hline : (apos.endLine == cpos.line) = true := by rfl) : PE X (.Call (.Attribute o name apos) [] [] cpos) (tBM0 X.K T r to) := by
 intro pins s σ H Q I h
 refine wpAny_Call_method0_late hbase hline (thn (ho pins s σ H _ I h) fun v s1 ⟨x, H1, I1, r1, ty, q1⟩ => ?_)
 obtain ⟨h1, h2⟩ := tyV_is I1 r1 ty
 exact ⟨T, id, pa, slot, hty, h1, h2, Calls.callWith_builtin rfl (PySem.evalArgs_none (hm pins s1 σ H1 x [] v [] Q I1 r1 .nil q1))⟩
theorem pe_bm (pa : PlainAttrs T) (slot : Slot T name id) (hty : typeOf (.builtin id) = pure (.type "method_descriptor")) (hm : MtR X id r) (ho : PE X o to) (ha : PA X (e :: es) t)
  (hbase : attributeBase o name X.env (eval o X.env) = eval o X.env := by rfl)
  (hfew : ((backTo cpos (starEach (e :: es) X.env)).all (fun x => !x.1) && (backToKw cpos (keywordEach [] X.env)).all (fun x => x.1.isSome)
   && decide ((e :: es).length + ([] : List Keyword).length + (if ([] : List Keyword).isEmpty then 0 else 1) < 30)) = true := by rfl)
  (hline : (apos.endLine == cpos.line) = true := by rfl) (hs : starEach (e :: es) X.env = (false, eval e X.env) :: starEach es X.env := by rfl) (hplain : (backTo cpos (starEach es X.env)).any (·.1) = false := by rfl) :
  PE X (.Call (.Attribute o name apos) (e :: es) [] cpos) (tBM X.K T r to t) := by
 intro pins s σ H Q I h
 refine wpAny_Call_method_late hbase hfew hline rfl (thn (ho pins s σ H _ I h) fun v s1 ⟨x, H1, I1, r1, ty, q1⟩ => ?_)
 obtain ⟨h1, h2⟩ := tyV_is I1 r1 ty
 refine ⟨T, id, pa, slot, hty, h1, h2, ?_⟩
 have hA := ha cpos pins s1 σ H1 _ I1 q1
 rw [hs] at hA ⊢
 refine Calls.callWith_builtin (by show (false || (backTo cpos (starEach es X.env)).any (·.1)) = false; rw [hplain] <;> rfl) (Calls.evalArgs_plain ?_)
 exact thn hA fun us s2 ⟨vs, H2, I2, r2, q2⟩ => hm pins s2 σ H2 x vs v us Q I2 r1 r2 q2
end
def MtM (X : Cx) (id : String) (r : V → List V → Hp → VK → Prop) : Prop :=
 ∀ (pins : List (Addr × Obj)) (s : Shared) (σ : St) (H : Hp) (x : V) (xs : List V) (v : Value) (us : List Value) (Q : VK), Inv X pins σ H s → RelV x v → Vals xs us → r x xs H Q →
  wpAny (model X.prog X.w) X.A (call (.builtin id) (v :: us)) (EP X pins σ Q) X.xe s
theorem Vals.one : ∀ {x : V} {us : List Value}, Vals [x] us → ∃ u, us = [u] ∧ RelV x u
 | _, _, .cons r .nil => ⟨_, rfl, r⟩
theorem Vals.zero : ∀ {us : List Value}, Vals [] us → us = []
 | _, .nil => rfl
theorem Vals.dropLast {xs : List V} {us : List Value} (h : Vals xs us) : Vals xs.dropLast us.dropLast := by
 induction h with
 | nil => exact .nil
 | cons r t ih =>
  cases t with
  | nil => exact .nil
  | cons q t' => exact .cons r ih
theorem Vals.eraseIdx : ∀ {xs : List V} {us : List Value} (i : Nat), Vals xs us → Vals (xs.eraseIdx i) (us.eraseIdx i)
 | _, _, _, .nil => .nil
 | _, _, 0, .cons _ t => t
 | _, _, i + 1, .cons r t => .cons r (Vals.eraseIdx i t)
theorem Vals.rep {xs : List V} {us : List Value} (h : Vals xs us) : ∀ k : Nat, Vals (List.replicate k xs).flatten (List.replicate k us).flatten
 | 0 => .nil
 | k + 1 => by
  rw [List.replicate_succ, List.replicate_succ, List.flatten_cons, List.flatten_cons]
  exact Vals.append h (Vals.rep h k)
theorem erase_last {α : Type} (l : List α) : l.eraseIdx (l.length - 1) = l.dropLast := by
 induction l with
 | nil => rfl
 | cons a r ih =>
  cases r with
  | nil => rfl
  | cons b r =>
   have e : (a :: b :: r).length - 1 = ((b :: r).length - 1) + 1 := by
    have h1 : (a :: b :: r).length = r.length + 2 := rfl
    have h2 : (b :: r).length = r.length + 1 := rfl
    omega
   rw [e, List.eraseIdx_cons_succ, ih]
   all_goals rfl
theorem foldl_rep (its : List Value) : ∀ (k : Nat) (acc : List Value),
  List.foldl (fun x1 x2 => x1 ++ x2) acc.toArray (List.replicate k its.toArray) = (acc ++ (List.replicate k its).flatten).toArray
 | 0, acc => by simp
 | k + 1, acc => by
  have e : acc.toArray ++ its.toArray = (acc ++ its).toArray := by simp
  have e2 : (acc ++ its) ++ (List.replicate k its).flatten = acc ++ (List.replicate (k + 1) its).flatten := by
   rw [List.replicate_succ, List.flatten_cons, List.append_assoc]
  rw [← e2, ← foldl_rep its k (acc ++ its), ← e, List.replicate_succ, List.foldl_cons]
section
variable {X : Cx} {pins : List (Addr × Obj)} {σ : St} {H : Hp} {s : Shared} {l b : Addr} {xs ys zs : List V}
theorem Inv.lset {its its' : List Value} {n : Nat} {f : Array Value → Array Value} {t' : Nat} (I : Inv X pins σ H s) (hH : H l = some (.lst xs))
  (e : s.heap.get? l = some { cls := .type "list", data := .seq its.toArray n }) (hf : f its.toArray = its'.toArray) (hv : Vals ys its') (hz : ys.length ≤ sizeLine) :
  Inv X pins σ (upd H l (.lst ys)) { s with heap := s.heap.update l (Obj.mapSeq f), toks := t' } := by
 have q := PySem.IsL.update e f
 rw [hf] at q
 refine I.write (x := l) (e := l) (by rw [hH]; exact trivial) (.inl rfl) (fun b' u hb hu => (Heap.get?_update_other s.heap (Obj.mapSeq f) (Ne.symm hb)).trans hu) ⟨_, q⟩ ?_
 exact ⟨hz, its', _, hv, q⟩
theorem Inv.lnew {its : List Value} {t' : Nat} (I : Inv X pins σ H s) (hv : Vals ys its) (hz : ys.length ≤ sizeLine) :
  Inv X pins σ (upd H s.heap.objs.size (.lst ys)) { s with heap := s.heap.push { cls := .type "list", data := .seq its.toArray }, toks := t' } :=
 I.laid (fun _ _ q => Heap.get?_push_of_some _ q) (Nat.le_refl _) ⟨hz, its, 0, hv, Heap.get?_push_size _ rfl⟩
theorem Inv.fresh (I : Inv X pins σ H s) : H s.heap.objs.size = none := I.hok.fresh (Nat.le_refl _)
theorem Inv.lstM (I : Inv X pins σ H s) (hH : H l = some (.lst xs)) : xs.length ≤ sizeLine ∧ ∃ (its : List Value) (n : Nat), Vals xs its ∧ xs.length = its.length ∧ s.heap.get? l = some { cls := .type "list", data := .seq its.toArray n } := by
 obtain ⟨z, its, n, r, e⟩ := I.hok l _ hH
 exact ⟨z, its, n, r, r.length, e⟩
theorem notLongL {n : Nat} (h : n ≤ sizeLine) : Builtin.List.listTooLong n = false := by
 unfold Builtin.List.listTooLong
 exact decide_eq_false (by omega)
end
section
variable {X : Cx}
def rAppend : V → List V → Hp → VK → Prop := fun x vs H Q => ∃ l xs y, x = .ref l ∧ vs = [y] ∧ H l = some (.lst xs) ∧ xs.length < sizeLine ∧ Q .non (upd H l (.lst (xs ++ [y])))
theorem mt_append : MtM X "list.append" rAppend := by
 intro pins s σ H x vs v us Q I rx rv h
 obtain ⟨l, xs, y, rfl, rfl, hH, hz, q⟩ := h
 cases rx
 obtain ⟨u, rfl, ru⟩ := rv.one
 obtain ⟨z, its, n, r, hl, e⟩ := I.lstM hH
 refine call_meets F.slot_list_append ⟨_, e, rfl⟩ F.entry_list_append (F.args_list_append_2 _ _) (PySem.list_append l its.toArray n u (by rw [List.size_toArray]; omega)) ⟨e, ?_⟩
 refine ⟨.non, _, I.lset (its' := its ++ [u]) hH e (by simp) (r.append (.cons ru .nil)) ?_, rfl, q⟩
 rw [List.length_append, List.length_singleton]
 omega
def rExtend : V → List V → Hp → VK → Prop := fun x vs H Q => ∃ l b xs zs, x = .ref l ∧ vs = [.ref b] ∧ H l = some (.lst xs) ∧ H b = some (.lst zs) ∧ xs.length + zs.length ≤ sizeLine ∧ Q .non (upd H l (.lst (xs ++ zs)))
theorem mt_extend : MtM X "list.extend" rExtend := by
 intro pins s σ H x vs v us Q I rx rv h
 obtain ⟨l, b, xs, zs, rfl, rfl, hH, hB, hz, q⟩ := h
 cases rx
 obtain ⟨u, rfl, ru⟩ := rv.one
 cases ru
 obtain ⟨z, its, n, r, hl, e⟩ := I.lstM hH
 obtain ⟨z2, its2, n2, r2, hl2, e2⟩ := I.lstM hB
 have hsz : its.toArray.size + its2.toArray.size ≤ sizeLine := by rw [List.size_toArray, List.size_toArray]; omega
 have hlong : ¬ (!its.toArray.isEmpty && Builtin.List.listTooLong (its.toArray.size + its2.toArray.size)) = true := by
  rw [notLongL hsz, Bool.and_false]
  exact Bool.false_ne_true
 refine call_meets F.slot_list_extend ⟨_, e, rfl⟩ F.entry_list_extend (F.args_list_extend_2 _ _)
  (AutoSeq1.list_extend_list_list_0 l its.toArray n b its2.toArray n2 hlong (by rw [List.size_toArray]; omega) (by omega)) ⟨e, e2, ?_⟩
 refine ⟨.non, _, I.lset (its' := its ++ its2) hH e (by simp) (r.append r2) ?_, rfl, q⟩
 rw [List.length_append]
 omega
def rPop : V → List V → Hp → VK → Prop := fun x vs H Q => ∃ l xs y, x = .ref l ∧ vs = [] ∧ H l = some (.lst xs) ∧ xs[xs.length - 1]? = some y ∧ Q y (upd H l (.lst xs.dropLast))
theorem mt_pop : MtM X "list.pop" rPop := by
 intro pins s σ H x vs v us Q I rx rv h
 obtain ⟨l, xs, y, rfl, rfl, hH, hy, q⟩ := h
 cases rx
 have hus := rv.zero
 subst hus
 obtain ⟨z, its, n, r, hl, e⟩ := I.lstM hH
 obtain ⟨u, hu, ru⟩ := r.get hy
 have hy' : its.toArray[its.toArray.size - 1]? = some u := by
  show its.toArray[its.length - 1]? = some u
  rw [← Array.getElem?_toList, ← hl]
  exact hu
 refine call_meets F.slot_list_pop ⟨_, e, rfl⟩ F.entry_list_pop (F.args_list_pop_1 _) (MeetsSeq.list_pop_last l its.toArray n u hy' (by rw [List.size_toArray]; omega)) ⟨e, ?_⟩
 refine ⟨y, _, I.lset (its' := its.dropLast) hH e ?_ r.dropLast ?_, ru, q⟩
 ·show its.toArray.eraseIdxIfInBounds (its.toArray.size - 1) = its.dropLast.toArray
  rw [List.size_toArray, List.eraseIdxIfInBounds_toArray, erase_last]
 ·rw [List.length_dropLast]
  omega
def rClear : V → List V → Hp → VK → Prop := fun x vs H Q => ∃ l xs, x = .ref l ∧ vs = [] ∧ H l = some (.lst xs) ∧ Q .non (upd H l (.lst []))
theorem mt_clear : MtM X "list.clear" rClear := by
 intro pins s σ H x vs v us Q I rx rv h
 obtain ⟨l, xs, rfl, rfl, hH, q⟩ := h
 cases rx
 have hus := rv.zero
 subst hus
 obtain ⟨z, its, n, r, hl, e⟩ := I.lstM hH
 refine call_meets F.slot_list_clear ⟨_, e, rfl⟩ F.entry_list_clear (F.args_list_clear_1 _) (AutoSeq1.list_clear_list_0 l its.toArray n (by rw [List.size_toArray]; omega)) ⟨e, ?_⟩
 exact ⟨.non, _, I.lset (its' := []) (ys := []) hH e rfl .nil (Nat.zero_le _), rfl, q⟩
def rCat : R2 := fun x y H Q => ∃ l b xs zs, x = .ref l ∧ y = .ref b ∧ H l = some (.lst xs) ∧ H b = some (.lst zs) ∧ xs.length + zs.length ≤ sizeLine ∧ ∀ p, H p = none → Q (.ref p) (upd H p (.lst (xs ++ zs)))
theorem op_cat : OpR X (binaryOp .Add) rCat := by
 intro pins s σ H x y v u Q I rx ry h
 obtain ⟨l, b, xs, zs, rfl, rfl, hH, hB, hz, q⟩ := h
 cases rx
 cases ry
 obtain ⟨z, its, n, r, hl, e⟩ := I.lstM hH
 obtain ⟨z2, its2, n2, r2, hl2, e2⟩ := I.lstM hB
 refine PySem.P.add_list e e2 ?_ (by rw [List.size_toArray, List.size_toArray]; omega)
 have ea : its.toArray ++ its2.toArray = (its ++ its2).toArray := by simp
 rw [ea]
 exact ⟨.ref _, _, I.lnew (t' := s.toks) (r.append r2) (by rw [List.length_append]; omega), rfl, q _ I.fresh⟩
def rRep : R2 := fun x y H Q => ∃ l k xs, x = .ref l ∧ y = .int k ∧ H l = some (.lst xs) ∧ -(2 ^ 63) ≤ k ∧ k < 2 ^ 63 ∧ xs.length * k.toNat ≤ sizeLine ∧
 ∀ p, H p = none → Q (.ref p) (upd H p (.lst (List.replicate k.toNat xs).flatten))
theorem len_rep {α : Type} (xs : List α) (k : Nat) : (List.replicate k xs).flatten.length = k * xs.length := by
 induction k with
 | zero => simp
 | succ k ih => rw [List.replicate_succ, List.flatten_cons, List.length_append, ih, Nat.succ_mul, Nat.add_comm]
theorem op_rep : OpR X (binaryOp .Mult) rRep := by
 intro pins s σ H x y v u Q I rx ry h
 obtain ⟨l, k, xs, rfl, rfl, hH, h1, h2, hz, q⟩ := h
 cases rx
 obtain ⟨t, rfl⟩ := ry
 obtain ⟨z, its, n, r, hl, e⟩ := I.lstM hH
 have hlen : its.toArray.size * k.toNat ≤ sizeLine := by rw [List.size_toArray, ← hl]; exact hz
 have hcap : ¬ its.toArray.size * k.toNat > (2 ^ 63 - 1) / 8 := by
  have : (sizeLine : Nat) ≤ (2 ^ 63 - 1) / 8 := by decide
  omega
 have hfit : ¬ (!Builtin.List.listFitsIndex k) = true := by
  rw [fitsIndex_both h1 h2]
  exact Bool.false_ne_true
 have hlong : ¬ Builtin.List.listTooLong (its.toArray.size * k.toNat) = true := by
  rw [notLongL hlen]
  exact Bool.false_ne_true
 have hnew : List.foldl (fun x1 x2 => x1 ++ x2) #[] (List.replicate (if its.toArray.isEmpty = true then 0 else k.toNat) its.toArray) = (List.replicate k.toNat its).flatten.toArray := by
  have f0 : ∀ m : Nat, List.foldl (fun x1 x2 => x1 ++ x2) #[] (List.replicate m its.toArray) = (List.replicate m its).flatten.toArray := fun m => by
   have := foldl_rep its m []
   rw [List.nil_append] at this
   exact this
  rw [f0]
  cases its with
  | nil => simp
  | cons a r' => rw [if_neg (by simp)]
 refine wpAny_binaryOp_repeat_ref (T := "list") (U := "int") (by decide) ⟨_, e, rfl⟩ (fun s' => typeIs_int s' k t) noFill_list_mul F.fills_int_mul F.slot_int_rmul repeat_list F.slot_int_index.lookup
  (call_meets F.slot_int_rmul (typeIs_int s k t) F.entry_int_rmul (F.args_int_rmul_2 _ _) (int___rmul___int_list k t l its.toArray n)
   ⟨e, rfl, ⟨_, e, rfl⟩, call_meets F.slot_list_mul ⟨_, e, rfl⟩ F.entry_list_mul (F.args_list_mul_2 _ _) (AutoListH.list___mul___list_int_3 l its.toArray n k t hfit hcap hlong) ⟨e, ?_⟩⟩)
 rw [hnew]
 exact ⟨.ref _, _, I.lnew (t' := s.toks) (r.rep k.toNat) (by rw [len_rep, Nat.mul_comm]; exact hz), rfl, q _ I.fresh⟩
end
section
variable {prog : Program} {w : World} {A : Around} {E : Value → Shared → Prop} {s : Shared}
set_option maxRecDepth 100000 in
end
section
variable {X : Cx}
end
theorem Vals.ints : ∀ {ns : List Int} {us : List Value}, Vals (ns.map V.int) us → IntsAre us ns
 | [], us, h => by
  rw [List.map_nil] at h
  cases h
  exact IntsAre.nil
 | n :: ns, us, h => by
  rw [List.map_cons] at h
  cases h with
  | cons r t =>
   obtain ⟨k, rfl⟩ := r
   exact IntsAre.cons n k (Vals.ints t)
theorem Vals.strs : ∀ {xs : List Str} {us : List Value}, Vals (xs.map V.str) us → StrsAre us xs
 | [], us, h => by
  rw [List.map_nil] at h
  cases h
  exact StrsAre.nil
 | x :: xs, us, h => by
  rw [List.map_cons] at h
  cases h with
  | cons r t =>
   obtain ⟨k, rfl⟩ := r
   exact StrsAre.cons x k (Vals.strs t)
theorem Vals.bls : ∀ {bs : List Bool} {us : List Value}, Vals (bs.map V.bl) us → us = bs.map Value.bool
 | [], us, h => by
  rw [List.map_nil] at h
  cases h
  rfl
 | b :: bs, us, h => by
  rw [List.map_cons] at h
  cases h with
  | cons r t =>
   cases r
   rw [Vals.bls t, List.map_cons]
theorem Vals.ref1 {a : Addr} {us : List Value} (r : Vals [V.ref a] us) : us = [Value.ref a] := by
 cases r with
 | cons r t =>
  cases t
  cases r
  rfl
section
variable {prog : Program} {w : World} {A : Around} {E : Value → Shared → Prop} {s : Shared} {l : Addr} {its : List Value} {ns : List Int} {Q : Value → Shared → Prop}
theorem sum_raw (hh : A.handled = none) (hl : s.heap.IsList l its.toArray) (hi : IntsAre its ns)
  (h : ∀ h' tk t', (∀ b o, s.heap.get? b = some o → h'.get? b = some o) → Q (.int ns.sum t') { s with heap := h', toks := tk }) : wpAny (model prog w) A (call (.builtin "sum") [.ref l]) Q E s := by
 obtain ⟨xs, e⟩ := hi.allInts.items
 have hn : numsOf (intItems xs).toList = ns := by rw [← e]; exact hi.numsOf
 rw [nums_intItems] at hn
 rw [e] at hl
 refine PySem.sum_intListG hh hl fun h' tk t' hk => ?_
 have := h h' tk t' hk
 rw [preSum_eq, List.take_of_length_le (by simp), hn]; exact this
theorem max_raw (hh : A.handled = none) (hl : s.heap.IsList l its.toArray) (hi : IntsAre its ns) (hne : 0 < ns.length)
  (h : ∀ h' tk M t', (∀ b o, s.heap.get? b = some o → h'.get? b = some o) → M ∈ ns → (∀ a, a ∈ ns → a ≤ M) → Q (.int M t') { s with heap := h', toks := tk }) : wpAny (model prog w) A (call (.builtin "max") [.ref l]) Q E s := by
 obtain ⟨xs, e⟩ := hi.allInts.items
 have hn : numsOf (intItems xs).toList = ns := by rw [← e]; exact hi.numsOf
 rw [nums_intItems] at hn
 subst hn
 rw [e] at hl
 have hsz : 0 < xs.size := by simpa using hne
 refine PySem.max_intList hh hl hsz fun v h' tk hv hk => ?_
 obtain ⟨t, rfl⟩ := intItems_at hv
 obtain ⟨h1, h2⟩ := argBest_gt (numAt xs) (xs.size - 1)
 refine h h' tk _ t hk ?_ fun a ha => ?_
 ·rw [numAt_eq]; exact PySem.getD_mem (by rw [List.length_map, Array.length_toList]; omega)
 ·obtain ⟨j, hj, rfl⟩ := mem_getD ha
  rw [List.length_map, Array.length_toList] at hj
  rw [← numAt_eq]; exact h2 j (by omega)
theorem min_raw (hh : A.handled = none) (hl : s.heap.IsList l its.toArray) (hi : IntsAre its ns) (hne : 0 < ns.length)
  (h : ∀ h' tk M t', (∀ b o, s.heap.get? b = some o → h'.get? b = some o) → M ∈ ns → (∀ a, a ∈ ns → M ≤ a) → Q (.int M t') { s with heap := h', toks := tk }) : wpAny (model prog w) A (call (.builtin "min") [.ref l]) Q E s := by
 obtain ⟨xs, e⟩ := hi.allInts.items
 have hn : numsOf (intItems xs).toList = ns := by rw [← e]; exact hi.numsOf
 rw [nums_intItems] at hn
 subst hn
 rw [e] at hl
 have hsz : 0 < xs.size := by simpa using hne
 refine PySem.min_intList hh hl hsz fun v h' tk hv hk => ?_
 obtain ⟨t, rfl⟩ := intItems_at hv
 obtain ⟨h1, h2⟩ := argBest_lt (numAt xs) (xs.size - 1)
 refine h h' tk _ t hk ?_ fun a ha => ?_
 ·rw [numAt_eq]; exact PySem.getD_mem (by rw [List.length_map, Array.length_toList]; omega)
 ·obtain ⟨j, hj, rfl⟩ := mem_getD ha
  rw [List.length_map, Array.length_toList] at hj
  rw [← numAt_eq]; exact h2 j (by omega)
end
section
variable {X : Cx}
def rSum (K : PySem.W.Frag) : List V → Hp → VK → Prop := fun vs H Q => ∃ (a : Addr) (ns : List Int), vs = [V.ref a] ∧ SqL K H a (ns.map V.int) ∧ Q (.int ns.sum) H
def rMax (K : PySem.W.Frag) : List V → Hp → VK → Prop := fun vs H Q => ∃ (a : Addr) (ns : List Int), vs = [V.ref a] ∧ SqL K H a (ns.map V.int) ∧ 0 < ns.length ∧ ∀ m, m ∈ ns → (∀ y, y ∈ ns → y ≤ m) → Q (.int m) H
def rMin (K : PySem.W.Frag) : List V → Hp → VK → Prop := fun vs H Q => ∃ (a : Addr) (ns : List Int), vs = [V.ref a] ∧ SqL K H a (ns.map V.int) ∧ 0 < ns.length ∧ ∀ m, m ∈ ns → (∀ y, y ∈ ns → m ≤ y) → Q (.int m) H
theorem cr_sum (hc : X.calm = true) : CallR X (.builtin "sum") (rSum X.K) := by
 intro pins s σ H vs us Q I r h
 obtain ⟨a, ns, rfl, hs, q⟩ := h
 obtain ⟨its, rv, hl, _⟩ := I.list hs
 rw [Vals.ref1 r]
 exact sum_raw (I.ok.hd hc) hl.isList rv.ints fun h' tk t' hk => ⟨.int _, H, I.kept hk, ⟨_, rfl⟩, q⟩
theorem cr_max (hc : X.calm = true) : CallR X (.builtin "max") (rMax X.K) := by
 intro pins s σ H vs us Q I r h
 obtain ⟨a, ns, rfl, hs, hne, q⟩ := h
 obtain ⟨its, rv, hl, _⟩ := I.list hs
 rw [Vals.ref1 r]
 exact max_raw (I.ok.hd hc) hl.isList rv.ints hne fun h' tk m t' hk h1 h2 => ⟨.int _, H, I.kept hk, ⟨_, rfl⟩, q m h1 h2⟩
theorem cr_min (hc : X.calm = true) : CallR X (.builtin "min") (rMin X.K) := by
 intro pins s σ H vs us Q I r h
 obtain ⟨a, ns, rfl, hs, hne, q⟩ := h
 obtain ⟨its, rv, hl, _⟩ := I.list hs
 rw [Vals.ref1 r]
 exact min_raw (I.ok.hd hc) hl.isList rv.ints hne fun h' tk m t' hk h1 h2 => ⟨.int _, H, I.kept hk, ⟨_, rfl⟩, q m h1 h2⟩
end
section
variable {X : Cx}
def rIndex (K : PySem.W.Frag) : V → List V → Hp → VK → Prop := fun x xs H Q => ∃ (a : Addr) (ys : List V) (y : V) (j : Nat) (z : V), x = V.ref a ∧ xs = [y] ∧ SqL K H a ys ∧ flatV y = true ∧ ys.all flatV = true ∧ ys[j]? = some z ∧ eqV z y = true ∧
 (∀ (m : Nat) (z' : V), m < j → ys[m]? = some z' → eqV z' y = false) ∧ Q (.int (j : Nat)) H
theorem flat_at {ys : List V} (f : ys.all flatV = true) {j : Nat} {z : V} (h : ys[j]? = some z) : flatV z = true := List.all_eq_true.mp f z (List.mem_of_getElem? h)
theorem mt_index : MtR X "list.index" (rIndex X.K) := by
 intro pins s σ H x xs v us Q I rx rxs h
 obtain ⟨a, ys, y, j, z, rfl, rfl, hs, fy, fys, hz, hzj, hno, q⟩ := h
 cases rx
 cases rxs with
 | cons ry rt =>
  rename_i uy ut
  cases rt
  obtain ⟨its, rv, ⟨⟨cls, dd, data, sl⟩, n, ho, hc, hdn, hd⟩, hlen⟩ := I.list hs
  simp only at hc hd
  subst hc hd
  obtain ⟨u, hu, ru⟩ := rv.get hz
  obtain ⟨hjl, hje⟩ := List.getElem?_eq_some_iff.mp hu
  have hvl := rv.length
  have hj : j < its.toArray.size := by simpa using hjl
  have hsl := sizeLine_eq
  refine call_meets PySem.F.slot_list_index ⟨_, ho, rfl⟩ PySem.F.entry_list_index (PySem.F.args_list_index_2 _ _)
   (SeqAt.list_indexAt a its.toArray n dd sl uy (eqU y) j hj (by omega) ?_ ?_) ⟨ho, fun u' hu' => mem_eqAt ry fy rv fys u' (by simpa using hu'), ?_⟩
  ·have e1 : its.toArray[j] = u := by simpa using hje
   rw [e1, eqU_of ru (flat_at fys hz)]
   exact hzj
  ·intro m hm hmj
   have hml : m < its.length := by simpa using hm
   have hmy : m < ys.length := by omega
   have hy' : ys[m]? = some ys[m] := List.getElem?_eq_getElem hmy
   obtain ⟨u2, hu2, ru2⟩ := rv.get hy'
   obtain ⟨_, hme⟩ := List.getElem?_eq_some_iff.mp hu2
   have e1 : its.toArray[m] = u2 := by simpa using hme
   rw [e1, eqU_of ru2 (flat_at fys hy')]
   exact hno m _ hmj hy'
  ·exact ⟨.int (j : Nat), H, I.tok _, ⟨_, rfl⟩, q⟩
end
section
variable {X : Cx}
end
theorem iter_any {prog : Program} {w : World} {A : Around} {E : Value → Shared → Prop} {s : Shared} {l : Addr} {items : Array Value} {Q : Value → Shared → Prop} (hl : s.heap.IsList l items)
  (h : ∀ s₂ : Shared, s₂ = { s with heap := s.heap.push { cls := .type "list_iterator", data := .fields #[.ref l, .int 0 0] } } →
   (s₂.heap.IsListIter s.heap.objs.size l 0 ∧ s₂.heap.IsList l items) → l ≠ s.heap.objs.size → Q (.ref s.heap.objs.size) s₂) : wpAny (model prog w) A (pyIter (.ref l)) Q E s := by
 have hlt : l < s.heap.objs.size := by obtain ⟨_, e, _⟩ := hl; exact Heap.lt_size e
 exact wpAny_pyIter_list hl (h _ rfl ⟨⟨_, Heap.get?_push_size _ rfl, rfl, rfl⟩, hl.push _⟩ (Nat.ne_of_lt hlt))
theorem truth_bools {prog : Program} {w : World} {A : Around} {bs : List Bool} {its : List Value} (e : its = bs.map Value.bool) :
  TruthOf prog w A (fun i v => its.toArray[i]? = some v) (fun i => bs.getD i false) := fun i v s Q E hv hq => by
 have hv' : its[i]? = some v := by simpa using hv
 rw [e, List.getElem?_map] at hv'
 obtain ⟨b, hb, rfl⟩ := Option.map_eq_some_iff.mp hv'
 have hg : bs.getD i false = b := by rw [List.getD_eq_getElem?_getD, hb] <;> rfl
 have hq' : Q (bs.getD i false) s := hq
 rw [hg] at hq'
 exact wpAny_truthy_bool hq'
theorem any_range : ∀ bs : List Bool, (List.range bs.length).any (fun i => bs.getD i false) = bs.any id
 | [] => rfl
 | b :: bs => by
  rw [List.length_cons, List.range_succ_eq_map, List.any_cons, List.any_map, List.any_cons, ← any_range bs]
  all_goals rfl
section
variable {X : Cx}
def rAny (K : PySem.W.Frag) : List V → Hp → VK → Prop := fun vs H Q => ∃ (a : Addr) (bs : List Bool), vs = [V.ref a] ∧ SqL K H a (bs.map V.bl) ∧ Q (.bl (bs.any id)) H
theorem cr_any (hc : X.calm = true) : CallR X (.builtin "any") (rAny X.K) := by
 intro pins s σ H vs us Q I r h
 obtain ⟨a, bs, rfl, hs, q⟩ := h
 obtain ⟨its, rv, hl, _⟩ := I.list hs
 rw [Vals.ref1 r]
 have hb := rv.bls
 refine call_any_walk (iter_any hl.isList fun s₂ e2 st hne => ?_)
 subst e2
 refine ⟨_, _, _, _, _, _, _, rfl, Walks.list (A := X.A.in1) (I.ok.hd hc) _ a hne its.toArray, st, truth_bools hb, fun h' tk hk => ?_⟩
 refine ⟨.bl _, H, I.kept fun b o eo => hk b o (fun hmem => ?_) (Heap.get?_push_of_some _ eo), ?_, q⟩
 ·rcases List.mem_cons.mp hmem with e1 | hmem
  ·exact absurd (e1 ▸ Heap.lt_size eo) (Nat.lt_irrefl _)
  ·cases hmem
 ·show Value.bool _ = Value.bool _
  rw [← any_range, hb, List.size_toArray, List.length_map]
end
mutual
inductive Dp (K : PySem.W.Frag) (H : Hp) : V → PyData → Prop
 | non : Dp K H .non .none
 | bl (b : Bool) : Dp K H (.bl b) (.bool b)
 | int (i : Int) : Dp K H (.int i) (.int i)
 | str (x : Str) : Dp K H (.str x) (.str x)
 | lst {a : Addr} {xs : List V} {ds : List PyData} : SqL K H a xs → DpAll K H xs ds → Dp K H (.ref a) (.list ds)
 | tup {a : Addr} {xs : List V} {ds : List PyData} : SqT K H a xs → DpAll K H xs ds → Dp K H (.ref a) (.tuple ds)
inductive DpAll (K : PySem.W.Frag) (H : Hp) : List V → List PyData → Prop
 | nil : DpAll K H [] []
 | cons {v : V} {vs : List V} {d : PyData} {ds : List PyData} : Dp K H v d → DpAll K H vs ds → DpAll K H (v :: vs) (d :: ds)
end
section
variable {X : Cx} {pins : List (Addr × Obj)} {σ : St} {H : Hp} {s : Shared}
mutual
theorem Dp.reads (I : Inv X pins σ H s) : ∀ (d : PyData) (v : V) (u : Value), Dp X.K H v d → RelV v u → ∃ as, Reads s.heap u d as
 | .none, _, _, h, r => by
  cases h
  cases r
  exact ⟨_, Reads.none⟩
 | .bool b, _, _, h, r => by
  cases h
  cases r
  exact ⟨_, Reads.bool b⟩
 | .int i, _, _, h, r => by
  cases h
  obtain ⟨t, rfl⟩ := r
  exact ⟨_, Reads.int i t⟩
 | .str x, _, _, h, r => by
  cases h
  obtain ⟨t, rfl⟩ := r
  exact ⟨_, Reads.str x t⟩
 | .list ds, _, _, h, r => by
  cases h with
  | lst hs ha =>
   cases r
   obtain ⟨its, rv, ⟨o, n, ho, hc, _, hd⟩, _⟩ := I.list hs
   obtain ⟨as, hr⟩ := Dp.readsAll I ds _ its ha rv
   exact ⟨_, Reads.list ho hc hd hr⟩
 | .tuple ds, _, _, h, r => by
  cases h with
  | tup hs ha =>
   cases r
   obtain ⟨its, rv, ⟨o, ho, hc, n, hd⟩, _⟩ := I.tuple hs
   obtain ⟨as, hr⟩ := Dp.readsAll I ds _ its ha rv
   exact ⟨_, Reads.tuple ho hc hd hr⟩
 | .dict _, _, _, h, _ => by cases h
theorem Dp.readsAll (I : Inv X pins σ H s) : ∀ (ds : List PyData) (vs : List V) (us : List Value), DpAll X.K H vs ds → Vals vs us → ∃ as, ReadsAll s.heap us ds as
 | [], _, _, h, r => by
  cases h
  cases r
  exact ⟨_, ReadsAll.nil⟩
 | d :: ds, _, _, h, r => by
  cases h with
  | cons h1 h2 =>
   cases r with
   | cons r1 r2 =>
    obtain ⟨as, q1⟩ := Dp.reads I d _ _ h1 r1
    obtain ⟨bs, q2⟩ := Dp.readsAll I ds _ _ h2 r2
    exact ⟨_, ReadsAll.cons q1 q2⟩
end
end
section
variable {X : Cx}
def rEqD (K : PySem.W.Frag) : R2 := fun x y H Q => ∃ d e, Dp K H x d ∧ Dp K H y e ∧ SeqAt.shaped d = true ∧ SeqAt.shaped e = true ∧ Q (.bl (PyData.eqv d e)) H
def rNeD (K : PySem.W.Frag) : R2 := fun x y H Q => ∃ d e, Dp K H x d ∧ Dp K H y e ∧ SeqAt.shaped d = true ∧ SeqAt.shaped e = true ∧ Q (.bl (!PyData.eqv d e)) H
theorem op_eqD (hu : X.A.units + 64 < cLine) : OpR X (compareOp .Eq) (rEqD X.K) := by
 intro pins s σ H x y v u Q I rx ry h
 obtain ⟨d, e, hd, he, sd, se, q⟩ := h
 obtain ⟨as, r1⟩ := Dp.reads I d x v hd rx
 obtain ⟨bs, r2⟩ := Dp.reads I e y u he ry
 exact SeqAt.compareEq_shaped r1 r2 sd se hu ⟨.bl _, H, I, rfl, q⟩
theorem op_neD (hu : X.A.units + 64 < cLine) : OpR X (compareOp .NotEq) (rNeD X.K) := by
 intro pins s σ H x y v u Q I rx ry h
 obtain ⟨d, e, hd, he, sd, se, q⟩ := h
 obtain ⟨as, r1⟩ := Dp.reads I d x v hd rx
 obtain ⟨bs, r2⟩ := Dp.reads I e y u he ry
 exact SeqAt.compareNe_shaped r1 r2 sd se hu ⟨.bl _, H, I, rfl, q⟩
end
abbrev CellAt (h : Heap) (c : Addr) (v : Option Value) : Prop := h.IsCell c v
def relS (scope sc : Scope) : Scope :=
 { scope with names := scope.names.map fun (n, k) => if (k == .free && sc.kind == .function && sc.names.lookup n == some .cell) then (n, .cell) else (n, k) }
def cloFrom (cells : List (Str × Addr)) : List (Str × NameKind) → List (Str × Addr) → List (Str × Addr)
 | [], acc => acc
 | (n, k) :: r, acc => if k == .free then cloFrom cells r ((n, (cells.lookup n).getD 0) :: acc) else cloFrom cells r acc
theorem closure_loop (env : Env) (f : Str × NameKind → List (Str × Addr) → Sem (ForInStep (List (Str × Addr))))
  (hf : ∀ n k c, f (n, k) c = if k == .free then (do let a ← cellOf env n; pure (.yield ((n, a) :: c))) else pure (.yield c)) :
  ∀ (names : List (Str × NameKind)) (acc : List (Str × Addr)), (∀ y ∈ names, y.2 = .free → ∃ c, env.cells.lookup y.1 = some c) → forIn names acc f = pure (cloFrom env.cells names acc)
 | [], acc, _ => by rw [List.forIn_nil]; rfl
 | (n, k) :: r, acc, h => by
  rw [List.forIn_cons, hf]
  have ih := fun acc => closure_loop env f hf r acc fun y hy => h y (List.mem_cons_of_mem _ hy)
  unfold cloFrom
  by_cases hk : (k == NameKind.free) = true
  ·rw [if_pos hk, if_pos hk]
   obtain ⟨c, hc⟩ := h (n, k) List.mem_cons_self (by simpa using hk)
   have e : cellOf env n = pure c := by unfold cellOf; rw [hc]
   rw [e]
   have e2 : (env.cells.lookup n).getD 0 = c := by rw [hc]; rfl
   rw [e2]
   exact ih _
  ·rw [if_neg hk, if_neg hk]
   exact ih _
theorem closure_ok {scope : Scope} {env : Env} (h : ∀ y ∈ scope.names, y.2 = .free → ∃ c, env.cells.lookup y.1 = some c) : closureFor scope env = pure (cloFrom env.cells scope.names []) := by
 simp only [closureFor]
 rw [closure_loop env _ (fun n k c => rfl) scope.names [] h]
 rfl
theorem mem_lookup {α : Type} : ∀ {l : List (Str × α)} {n : Str} {c : α}, (n, c) ∈ l → ∃ c', l.lookup n = some c'
 | (k, v) :: r, n, c, h => by
  rw [List.lookup_cons]
  cases hb : n == k with
  | true => exact ⟨_, rfl⟩
  | false =>
   rcases List.mem_cons.mp h with e | h
   ·cases e; simp at hb
   ·exact mem_lookup h
theorem cloFrom_mem {cells : List (Str × Addr)} : ∀ {names : List (Str × NameKind)} {acc : List (Str × Addr)} {n : Str} {c : Addr}, (n, c) ∈ cloFrom cells names acc → (n, c) ∈ acc ∨ ((n, .free) ∈ names ∧ c = (cells.lookup n).getD 0)
 | [], _, _, _, h => .inl h
 | (m, k) :: r, acc, n, c, h => by
  unfold cloFrom at h
  split at h
  ·rename_i hk
   have hk : k = .free := by simpa using hk
   rcases cloFrom_mem h with h | ⟨h1, h2⟩
   ·rcases List.mem_cons.mp h with e | h
    ·cases e; exact .inr ⟨hk ▸ List.mem_cons_self, rfl⟩
    ·exact .inl h
   ·exact .inr ⟨List.mem_cons_of_mem _ h1, h2⟩
  ·rcases cloFrom_mem h with h | ⟨h1, h2⟩
   ·exact .inl h
   ·exact .inr ⟨List.mem_cons_of_mem _ h1, h2⟩
theorem cloFrom_acc {cells : List (Str × Addr)} : ∀ {names : List (Str × NameKind)} {acc : List (Str × Addr)} {p : Str × Addr}, p ∈ acc → p ∈ cloFrom cells names acc
 | [], _, _, h => h
 | (m, k) :: r, acc, p, h => by
  unfold cloFrom
  split
  ·exact cloFrom_acc (List.mem_cons_of_mem _ h)
  ·exact cloFrom_acc h
theorem cloFrom_has {cells : List (Str × Addr)} : ∀ {names : List (Str × NameKind)} {acc : List (Str × Addr)} {n : Str}, (n, .free) ∈ names → (n, (cells.lookup n).getD 0) ∈ cloFrom cells names acc
 | (m, k) :: r, acc, n, h => by
  unfold cloFrom
  rcases List.mem_cons.mp h with e | h
  ·cases e
   exact cloFrom_acc List.mem_cons_self
  ·split
   ·exact cloFrom_has h
   ·exact cloFrom_has h
theorem cells_mem : ∀ {names : List (Str × NameKind)} {h : Heap} {acc : List (Str × Addr)} {x : Str} {c : Addr}, (x, c) ∈ cellsFrom h.objs.size names acc →
  (x, c) ∈ acc ∨ ((x, .cell) ∈ names ∧ h.objs.size ≤ c ∧ CellAt (pushCells h names) c none)
 | [], _, _, _, _, h => .inl h
 | (n, k) :: r, h, acc, x, c, hm => by
  unfold cellsFrom at hm
  unfold pushCells
  split at hm
  ·rename_i hk
   rw [if_pos hk]
   have hk : k = .cell := by simpa using hk
   rw [← Heap.size_push h { cls := .type "cell", data := .cell none }] at hm
   rcases cells_mem hm with hm | ⟨h1, h2, h3⟩
   ·rcases List.mem_cons.mp hm with e | hm
    ·cases e
     exact .inr ⟨hk ▸ List.mem_cons_self, Nat.le_refl _, _, pushCells_keeps r _ _ _ (Heap.get?_push_size _ rfl), rfl⟩
    ·exact .inl hm
   ·rw [Heap.size_push] at h2
    exact .inr ⟨List.mem_cons_of_mem _ h1, Nat.le_of_succ_le h2, h3⟩
  ·rename_i hk
   rw [if_neg hk]
   rcases cells_mem hm with hm | ⟨h1, h2, h3⟩
   ·exact .inl hm
   ·exact .inr ⟨List.mem_cons_of_mem _ h1, h2, h3⟩
theorem cells_acc : ∀ {names : List (Str × NameKind)} {n : Nat} {acc : List (Str × Addr)} {p : Str × Addr}, p ∈ acc → p ∈ cellsFrom n names acc
 | [], _, _, _, h => h
 | (m, k) :: r, n, acc, p, h => by
  unfold cellsFrom
  split
  ·exact cells_acc (List.mem_cons_of_mem _ h)
  ·exact cells_acc h
theorem cells_has : ∀ {names : List (Str × NameKind)} {n : Nat} {acc : List (Str × Addr)} {x : Str}, (x, .cell) ∈ names → ∃ c, (x, c) ∈ cellsFrom n names acc
 | (m, k) :: r, n, acc, x, h => by
  unfold cellsFrom
  rcases List.mem_cons.mp h with e | h
  ·cases e
   exact ⟨n, cells_acc List.mem_cons_self⟩
  ·split
   ·exact cells_has h
   ·exact cells_has h
theorem cells_inj : ∀ {names : List (Str × NameKind)} {h : Heap} {acc : List (Str × Addr)} {x y : Str} {c : Addr}, (∀ p ∈ acc, p.2 < h.objs.size) → (∀ x y c, (x, c) ∈ acc → (y, c) ∈ acc → x = y) →
  (x, c) ∈ cellsFrom h.objs.size names acc → (y, c) ∈ cellsFrom h.objs.size names acc → x = y
 | [], _, _, _, _, _, _, hi, h1, h2 => hi _ _ _ h1 h2
 | (n, k) :: r, h, acc, x, y, c, hl, hi, h1, h2 => by
  unfold cellsFrom at h1 h2
  split at h1
  ·rename_i hk
   rw [if_pos hk] at h2
   rw [← Heap.size_push h { cls := .type "cell", data := .cell none }] at h1 h2
   refine cells_inj (h := h.push _) (fun p hp => ?_) (fun x y c a b => ?_) h1 h2
   ·rw [Heap.size_push]
    rcases List.mem_cons.mp hp with rfl | hp
    ·exact Nat.lt_succ_self _
    ·exact Nat.lt_succ_of_lt (hl p hp)
   ·rcases List.mem_cons.mp a with e | a <;> rcases List.mem_cons.mp b with e' | b
    ·cases e; cases e'; rfl
    ·cases e; exact absurd (hl _ b) (Nat.lt_irrefl _)
    ·cases e'; exact absurd (hl _ a) (Nat.lt_irrefl _)
    ·exact hi _ _ _ a b
  ·rename_i hk
   rw [if_neg hk] at h2
   exact cells_inj hl hi h1 h2
theorem newEnv_comp {M : Model} {A : Around} {E : Value → Shared → Prop} {s : Shared} {scope : Scope} {globals : Addr} {closure : List (Str × Addr)} {qual : Str} {func : Option Addr} {code : Value} {around : Env} {builtins : Addr} {Q : Env → Shared → Prop}
  (h : Q (newEnv scope s.heap.objs.size globals (cellsFrom (s.heap.objs.size + 1) scope.names closure) qual func code (some around) builtins)
   { s with heap := pushCells (s.heap.push { cls := .type "dict", data := .dict #[] }) scope.names }) :
  wpAny M A (newFunctionEnv scope globals closure [] qual func code (some around) builtins) Q E s := by
 simp only [newFunctionEnv, Option.isSome_some, if_true]
 refine wpAny_bind (wpAny_alloc ?_)
 refine wpAny_bind (wpAny_layCells _ (fun n k c => rfl) scope.names closure _ _ ?_)
 rw [show ({ s with heap := s.heap.push { cls := .type "dict", data := .dict #[] } } : Shared).heap.objs.size = s.heap.objs.size + 1 from Heap.size_push ..]
 rw [List.forIn_nil]
 exact wpAny_bind (wpAny_pure (wpAny_pure h))
theorem lookup_relS {sc : Scope} : ∀ {names : List (Str × NameKind)} {x : Str} {k : NameKind},
  (names.map fun (n, k) => if (k == NameKind.free && sc.kind == .function && sc.names.lookup n == some .cell) then (n, NameKind.cell) else (n, k)).lookup x = some k →
  ∃ k', names.lookup x = some k' ∧ (k = k' ∨ (k' = .free ∧ k = .cell))
 | [], _, _, h => by simp at h
 | (n, k₀) :: r, x, k, h => by
  have ih := @lookup_relS sc r x k
  have h' : List.lookup x ((if (k₀ == NameKind.free && sc.kind == .function && sc.names.lookup n == some .cell) = true then (n, NameKind.cell) else (n, k₀)) :: (r.map _)) = some k := h
  cases hx : x == n with
  | true =>
   simp only [List.lookup_cons, hx]
   by_cases hc : (k₀ == NameKind.free && sc.kind == .function && sc.names.lookup n == some .cell) = true
   ·rw [if_pos hc] at h'
    simp only [List.lookup_cons, hx] at h'
    cases h'
    simp only [Bool.and_eq_true, beq_iff_eq] at hc
    exact ⟨k₀, rfl, .inr ⟨hc.1.1, rfl⟩⟩
   ·rw [if_neg hc] at h'
    simp only [List.lookup_cons, hx] at h'
    cases h'
    exact ⟨_, rfl, .inl rfl⟩
  | false =>
   simp only [List.lookup_cons, hx]
   by_cases hc : (k₀ == NameKind.free && sc.kind == .function && sc.names.lookup n == some .cell) = true
   ·rw [if_pos hc] at h'
    simp only [List.lookup_cons, hx] at h'
    exact ih h'
   ·rw [if_neg hc] at h'
    simp only [List.lookup_cons, hx] at h'
    exact ih h'
structure BlkOk (N : List Str) (sc scope : Scope) (own : List (Str × Nat)) : Prop where
 kind : scope.kind = .function
 uniq : ∀ y ∈ scope.names, scope.names.lookup y.1 = some y.2
 ix : ∀ p ∈ own, N[p.2]? = some p.1
 free : ∀ y ∈ scope.names, y.2 = .free → sc.names.lookup y.1 = some .cell ∨ sc.names.lookup y.1 = some .free
 own : ∀ y ∈ scope.names, y.2 = .local ∨ y.2 = .cell → y.1 ∈ own.map (·.1) ∨ y.1 ∉ N
def wipe (σ : St) : List Nat → St
 | [] => σ
 | v :: vs => (wipe σ vs).set v none
theorem wipe_length (σ : St) : ∀ vs : List Nat, (wipe σ vs).length = σ.length
 | [] => rfl
 | v :: vs => by unfold wipe; rw [List.length_set, wipe_length σ vs]
theorem wipe_some {σ : St} {i : Nat} {x : V} : ∀ {vs : List Nat}, (wipe σ vs)[i]? = some (some x) → σ[i]? = some (some x) ∧ i ∉ vs
 | [], h => ⟨h, by simp⟩
 | v :: vs, h => by
  unfold wipe at h
  by_cases hi : v = i
  ·subst hi
   by_cases hv : v < (wipe σ vs).length
   ·rw [List.getElem?_set_self hv] at h; cases h
   ·rw [List.getElem?_eq_none (by simpa using hv)] at h; cases h
  ·rw [List.getElem?_set_ne hi] at h
   obtain ⟨h1, h2⟩ := wipe_some h
   exact ⟨h1, by simp only [List.mem_cons, not_or]; exact ⟨fun e => hi e.symm, h2⟩⟩
abbrev Cx.blk (X : Cx) (s : Shared) (H : Hp) (scope : Scope) (cenv : Env) (fp : List Addr) : Cx := { X with s_0 := s, H_0 := H, env := cenv, outer := X.stack, ex := fp, fn := fun x => scope.names.lookup x == some .cell, pn := [], xe := fun _ _ => False }
section
variable {X : Cx} {pins : List (Addr × Obj)} {σ : St} {H : Hp} {s : Shared}
theorem block_start {scope : Scope} {own : List (Str × Nat)} {fp : List Addr} (I : Inv X pins σ H s) (ok : BlkOk X.N X.env.scope scope own) (hN : X.N.Nodup) (hfp : ∀ b ∈ fp, FpOk X pins H b ∧ b < s.heap.objs.size) :
  Inv (X.blk s H scope (compEnvC scope (cellsFrom (s.heap.objs.size + 1) scope.names (cloFrom X.env.cells scope.names [])) s.heap.objs.size X.env) fp) [] (wipe σ (own.map (·.2))) H { s with heap := pushCells (s.heap.push { cls := .type "dict", data := .dict #[] }) scope.names } := by
 have hfree : ∀ y ∈ scope.names, y.2 = .free → ∃ c, X.env.cells.lookup y.1 = some c := fun y hy e => by
  rcases ok.free y hy e with k | k
  ·exact I.ok.has _ (.inl k)
  ·exact I.ok.has _ (.inr k)
 generalize hcenv : compEnvC scope (cellsFrom (s.heap.objs.size + 1) scope.names (cloFrom X.env.cells scope.names [])) s.heap.objs.size X.env = cenv
 have kp : ∀ b o, s.heap.get? b = some o → (pushCells (s.heap.push { cls := .type "dict", data := .dict #[] }) scope.names).get? b = some o := fun b o e => pushCells_keeps _ _ _ _ (Heap.get?_push_of_some _ e)
 have hL : cenv.locals = s.heap.objs.size := by rw [← hcenv]; rfl
 have hcl : cenv.cells = cellsFrom (s.heap.objs.size + 1) scope.names (cloFrom X.env.cells scope.names []) := by rw [← hcenv]; rfl
 have hsc : cenv.scope = relS scope X.env.scope := by rw [← hcenv]; rfl
 rw [← Heap.size_push s.heap { cls := .type "dict", data := .dict #[] }] at hcl
 have cm : ∀ {y c}, (y, c) ∈ cloFrom X.env.cells scope.names [] → X.env.cells.lookup y = some c ∧ c < s.heap.objs.size := fun {y c} hm => by
  rcases cloFrom_mem hm with hm | ⟨h1, rfl⟩
  ·cases hm
  ·obtain ⟨c, hc⟩ := hfree _ h1 rfl
   rw [hc]
   obtain ⟨w, z⟩ := I.cell _ _ hc
   exact ⟨rfl, z.lt⟩
 have mem : ∀ {y c}, cenv.cells.lookup y = some c → (X.env.cells.lookup y = some c ∧ c < s.heap.objs.size) ∨ (s.heap.objs.size + 1 ≤ c ∧ CellAt (pushCells (s.heap.push { cls := .type "dict", data := .dict #[] }) scope.names) c none) := fun {y c} e => by
  rw [hcl] at e
  rcases cells_mem (PySem.mem_of_lookup e) with hm | ⟨_, h2, h3⟩
  ·exact .inl (cm hm)
  ·rw [Heap.size_push] at h2; exact .inr ⟨h2, h3⟩
 have look : ∀ {y}, scope.names.lookup y = some .free → ∃ c, cenv.cells.lookup y = some c ∧ X.env.cells.lookup y = some c := fun {y} hl => by
  have hy : (y, NameKind.free) ∈ scope.names := PySem.mem_of_lookup hl
  obtain ⟨c', e'⟩ := mem_lookup (cells_acc (names := scope.names) (n := (s.heap.push { cls := .type "dict", data := .dict #[] }).objs.size) (cloFrom_has (cells := X.env.cells) (acc := []) hy))
  rw [← hcl] at e'
  refine ⟨c', e', ?_⟩
  rw [hcl] at e'
  rcases cells_mem (PySem.mem_of_lookup e') with hm | ⟨h1, _, _⟩
  ·exact (cm hm).1
  ·have := ok.uniq _ h1
   rw [hl] at this; cases this
 have okB : (X.blk s H scope cenv fp).Ok := by
  refine ⟨I.ok.mod, by show cenv.scope.kind = _; rw [hsc]; exact ok.kind, by show cenv.globals = _; rw [← hcenv]; exact I.ok.glob, by show cenv.builtins = _; rw [← hcenv]; exact I.ok.blt, by show s.heap.objs.size ≤ cenv.locals; rw [hL]; exact Nat.le_refl _,
   fun y z c e1 e2 => ?_, fun y hy => ?_, fun y c z e => ?_, I.ok.hd, I.ok.frames, .inl rfl, fun b hb => ⟨?_, fun y c e z => ?_⟩, I.bs, Nat.le_trans I.ok.bsz I.sz, fun b o e hb => ?_, fun b hb z => ?_, I.stack, I.stkFree⟩
  ·have e1 : cenv.cells.lookup y = some c := e1
   have e2 : cenv.cells.lookup z = some c := e2
   rw [hcl] at e1 e2
   refine cells_inj (fun p hp => ?_) (fun y z c a b => I.ok.inj y z c (cm a).1 (cm b).1) (PySem.mem_of_lookup e1) (PySem.mem_of_lookup e2)
   rw [Heap.size_push]
   exact Nat.lt_succ_of_lt (cm (y := p.1) (c := p.2) hp).2
  ·show ∃ c, cenv.cells.lookup y = some c
   have key : ∀ k, cenv.kindOf y = some k → (k = .cell ∨ k = .free) → ∃ c, cenv.cells.lookup y = some c := fun k hk hk' => by
    unfold Env.kindOf at hk
    rw [hsc] at hk
    obtain ⟨k', e, r⟩ := lookup_relS hk
    have : k' = .cell ∨ k' = .free := by
     rcases r with rfl | ⟨rfl, _⟩
     ·exact hk'
     ·exact .inr rfl
    rcases this with rfl | rfl
    ·obtain ⟨c, hm⟩ := cells_has (n := (s.heap.push { cls := .type "dict", data := .dict #[] }).objs.size) (acc := cloFrom X.env.cells scope.names []) (PySem.mem_of_lookup e)
     obtain ⟨c', e'⟩ := mem_lookup hm
     exact ⟨c', by rw [hcl]; exact e'⟩
    ·obtain ⟨c, h1, _⟩ := look e
     exact ⟨c, h1⟩
   rcases hy with hy | hy
   ·exact key _ hy (.inl rfl)
   ·exact key _ hy (.inr rfl)
  ·have z : (scope.names.lookup y == some NameKind.cell) = true := z
   have z : scope.names.lookup y = some .cell := by simpa using z
   have e : cenv.cells.lookup y = some c := e
   rw [hcl] at e
   rcases cells_mem (PySem.mem_of_lookup e) with hm | ⟨_, h2, _⟩
   ·rcases cloFrom_mem hm with hm | ⟨h1, _⟩
    ·cases hm
    ·have q := ok.uniq _ h1
     rw [z] at q; cases q
   ·rw [Heap.size_push] at h2
    exact Nat.le_of_succ_le h2
  ·show b ≠ cenv.locals
   rw [hL]; exact Nat.ne_of_lt (hfp b hb).2
  ·have e : cenv.cells.lookup y = some c := e
   rcases mem e with ⟨h1, _⟩ | ⟨h1, _⟩
   ·exact (hfp b hb).1.2.2.2.2.1 y c h1 z
   ·have h2 : s.heap.objs.size + 1 ≤ b := by rw [← z]; exact h1
    exact absurd (Nat.lt_of_lt_of_le (hfp b hb).2 (Nat.le_of_succ_le h2)) (Nat.lt_irrefl _)
  ·rcases (hfp b hb).1.2.2.2.1 with z | z
   ·exact I.ok.noex b o e z
   ·exact absurd (Nat.lt_of_lt_of_le (Heap.lt_size e) (Nat.le_trans I.ok.bsz z)) (Nat.lt_irrefl _)
  ·rcases List.mem_cons.mp (I.stkSub b z) with z | z
   ·exact (hfp b hb).1.2.1 z
   ·exact (hfp b hb).1.2.2.1 z
 refine ⟨okB, rfl, I.bare, Un.kept kp, ⟨fun _ => none, ?_, fun i y av e1 e2 e3 => ?_⟩, fun y c e => ?_, ?_, fun y c e => ?_, fun p hp => ?_, I.hok.kept kp, by rw [wipe_length]; exact I.len⟩
 ·show Heap.Ns _ cenv.locals _
  rw [hL]
  exact Heap.Ns.keeps (Heap.Ns.new ..) fun b o e => pushCells_keeps _ _ _ _ e
 ·obtain ⟨e2, hne⟩ := wipe_some e2
  have hfr : scope.names.lookup y = some .free ∧ (cenv.kindOf y = some .cell ∨ cenv.kindOf y = some .free) := by
   have key : ∀ k, cenv.scope.names.lookup y = some k → k = .local ∨ k = .cell ∨ k = .free → scope.names.lookup y = some .free ∧ (cenv.kindOf y = some .cell ∨ cenv.kindOf y = some .free) := fun k hk hk' => by
    have hk0 := hk
    rw [hsc] at hk
    obtain ⟨k', e, r⟩ := lookup_relS hk
    have no : ¬ (k' = .local ∨ k' = .cell) := fun hh => by
     rcases ok.own _ (PySem.mem_of_lookup e) hh with e' | e'
     ·obtain ⟨p, hp, hpy⟩ := List.mem_map.mp e'
      have e3 := ok.ix p hp
      have : p.1 = y := hpy
      rw [this] at e3
      exact hne (List.mem_map.mpr ⟨p, hp, nodup_ix hN e3 e1⟩)
     ·exact e' (List.mem_of_getElem? e1)
    rcases r with rfl | ⟨rfl, rfl⟩
    ·rcases hk' with rfl | rfl | rfl
     ·exact absurd (.inl rfl) no
     ·exact absurd (.inr rfl) no
     ·exact ⟨e, .inr hk0⟩
    ·exact ⟨e, .inl hk0⟩
   have e3 : Vis cenv.scope y := e3
   rcases e3 with e3 | e3 | e3
   ·exact key _ e3 (.inl rfl)
   ·exact key _ e3 (.inr (.inl rfl))
   ·exact key _ e3 (.inr (.inr rfl))
  obtain ⟨m, hn, hl⟩ := I.loc
  have hvis : Vis X.env.scope y := (ok.free _ (PySem.mem_of_lookup hfr.1) rfl).elim (fun k => .inr (.inl k)) (fun k => .inr (.inr k))
  obtain ⟨w, r, q⟩ := hl i y av e1 e2 hvis
  refine ⟨w, r, .inr ⟨hfr.2, ?_⟩⟩
  obtain ⟨c, h1, h2⟩ := look hfr.1
  rcases q with ⟨k, _⟩ | ⟨_, c', e', z⟩
  ·have k : X.env.scope.names.lookup y = some .local := k
   rcases ok.free _ (PySem.mem_of_lookup hfr.1) rfl with k' | k' <;> rw [show X.env.scope.names.lookup y = _ from k'] at k <;> cases k
  ·rw [h2] at e'; cases e'
   exact ⟨c, h1, z.keeps kp⟩
 ·have e : cenv.cells.lookup y = some c := e
  rcases mem e with ⟨h1, _⟩ | ⟨_, z⟩
  ·obtain ⟨w, z⟩ := I.cell y c h1
   exact ⟨w, z.keeps kp⟩
  ·exact ⟨_, z⟩
 ·show H cenv.locals = none
  rw [hL]; exact I.hok.fresh (Nat.le_refl _)
 ·have e : cenv.cells.lookup y = some c := e
  rcases mem e with ⟨h1, _⟩ | ⟨h1, _⟩
  ·exact I.freeC y c h1
  ·exact I.hok.fresh (Nat.le_of_succ_le h1)
 ·exact absurd (show p ∈ ([] : List (Addr × Obj)) ++ [] from hp) (by simp)
theorem app_ok {E : Value → Shared → Prop} {D : Addr} {xs : List V} {y : V} {v : Value} {Q : Value → Shared → Prop} (I : Inv X pins σ H s) (hD : H D = some (.lst xs)) (hz : xs.length < sizeLine) (r : RelV y v)
  (h : ∀ s', Inv X pins σ (upd H D (.lst (xs ++ [y]))) s' → Q .none s') : wpAny (model X.prog X.w) X.A (call (.builtin "list.append") [.ref D, v]) Q E s := by
 obtain ⟨hz', its, n, ri, e⟩ := I.hok D _ hD
 have hl := ri.length
 refine append_at (hsz := by rw [List.size_toArray]; omega) e fun h' sb ho' => ?_
 refine h { s with heap := h' } (I.write (t' := s.toks) (by rw [hD]; trivial) (.inl rfl) (fun b u hb q => (sb.2 b hb).trans q) ⟨_, ho'⟩ ⟨by rw [List.length_append]; exact hz, its ++ [v], n + 1, ri.append (.cons r .nil), ?_⟩)
 rw [ho']
 simp
def PTs (X : Cx) (ifs : List Expr) (t : TT) : Prop :=
 ∀ (pins : List (Addr × Obj)) (s : Shared) (σ : St) (H : Hp) (Q : Bool → Hp → Prop), Inv X pins σ H s → t σ H Q →
  wpAny (model X.prog X.w) X.A (forIn ifs true fun c r => if r = true then do let ok ← isTrue c X.env (eval c X.env); pure (ForInStep.yield ok) else pure (ForInStep.yield r)) (TP X pins σ Q) X.xe s
def tYes : TT := fun _ H Q => Q true H
theorem pts_nil : PTs X [] tYes := fun _ _ _ H _ I h => wpAny_tests_nil ⟨H, I, h⟩
theorem pts_one {c : Expr} {t : TT} (h : PT X c t) : PTs X [c] t := fun pins s σ H Q I hw => wpAny_tests_one (h pins s σ H Q I hw)
end
theorem thnF {α : Type} {t : Sem α} {Q Q' : α → Shared → Prop} {M : Model} {A : Around} {E : Value → Shared → Prop} {s : Shared} (h : wpAny M A t Q (fun _ _ => False) s) (hQ : ∀ a s, Q a s → Q' a s) : wpAny M A t Q' E s := wpAny_mono h hQ fun _ _ z => False.elim z
theorem compLoop_any {prog : Program} {w : World} {A : Around} {R : Result → Shared → Prop} {s : Shared} {elt target iter : Expr} {ifs : List Expr} {scope : Scope} {pos : Pos} {it acc : Value} {env : Env} (I : Nat → Shared → Prop)
  (turn : ∀ n s, I n s → wpAny (model prog w) A (pyNext it) (fun r s₁ => match r with
   | none => R (.ok .next) s₁
   | some v => wpAny (model prog w) A (letOwnedTupleGo target it v) (fun _ s₁' => wpAny (model prog w) A (assign target env v) (fun _ s₂ =>
     wpAny (model prog w) A (forIn ifs true fun c r => if r = true then do let ok ← isTrue c env (eval c env); pure (ForInStep.yield ok) else pure (ForInStep.yield r)) (fun ok s₃ =>
      if ok = true then wpAny (model prog w) A (eval elt env) (fun x s₄ =>
       wpAny (model prog w) A (call (.builtin "list.append") [acc, x]) (fun _ s₅ => ∃ m, m < n ∧ I m s₅) (notedBy (model prog w) A env fun e s' => R (.error e) s') s₄) (notedBy (model prog w) A env fun e s' => R (.error e) s') s₃
      else ∃ m, m < n ∧ I m s₃) (notedBy (model prog w) A env fun e s' => R (.error e) s') s₂) (notedBy (model prog w) A env fun e s' => R (.error e) s') s₁') (notedBy (model prog w) A env fun e s' => R (.error e) s') s₁) (notedBy (model prog w) A env fun e s' => R (.error e) s') s)
  (n : Nat) (h : I n s) :
  codeAny (model prog w) A (.compLoop (.ListComp elt [⟨target, iter, ifs, 0⟩] scope pos) 0 it acc env) R s := by
 refine codeAny_loop rfl I (fun n s hI => ?_) n h
 show wpAny _ A ((compTurn (.ListComp elt [⟨target, iter, ifs, 0⟩] scope pos) 0 it acc env).onRaise (fun x => do noteFrame x env; theTreesLotGoes x)) _ _ s
 refine wpAny_noted ?_
 rw [compTurn_list]
 refine wpAny_bind (wpAny_standAt (wpAny_bind (wpAny_mono (turn n s hI) (fun r s₁ h₁ => ?_) fun _ _ h' => h')))
 cases r with
 | none => exact wpAny_pure h₁
 | some v =>
  refine wpAny_bind (wpAny_mono h₁ (fun _ s₁' h₁' => ?_) fun _ _ h' => h')
  refine wpAny_bind (wpAny_mono h₁' (fun _ s₂ h₂ => wpAny_bind (wpAny_mono h₂ (fun ok s₃ h₃ => ?_) fun _ _ h' => h')) fun _ _ h' => h')
  cases ok with
  | false => exact wpAny_pure ⟨rfl, h₃⟩
  | true =>
   exact wpAny_bind (wpAny_bind (wpAny_mono h₃ (fun x s₄ h₄ => wpAny_bind (wpAny_mono h₄ (fun _ s₅ h₅ => wpAny_pure (wpAny_pure ⟨rfl, h₅⟩)) fun _ _ h' => h')) fun _ _ h' => h'))
section
variable {X : Cx}
def tLc (wi : TI) (g : TG) (tt : TT) (te : TE) (vs : List Nat) : TE := fun σ H Q => wi σ H fun J H1 => ∀ D, H1 D = none → ∃ W : Nat → Nat → Hp → Prop, (∃ m, W 0 m (upd H1 D (.lst []))) ∧ ∀ i m H, W i m H →
 (J.stop i H ∧ Q (.ref D) H) ∨ (J.go i H ∧ ∃ Nx : Hp → Prop, (∀ H', Nx H' → ∃ m', m' < m ∧ W (i + 1) m' H') ∧ ∀ x H', J.yld i H x H' → g x (wipe σ vs) H' fun σ2 H2 => wipe σ2 vs = wipe σ vs ∧ tt σ2 H2 fun b H3 =>
  if b = true then te σ2 H3 fun y H4 => ∃ acc, H4 D = some (.lst acc) ∧ acc.length < sizeLine ∧ Nx (upd H4 D (.lst (acc ++ [y]))) else Nx H3)
theorem lc_core {pins : List (Addr × Obj)} {s : Shared} {σ : St} {H : Hp} {Q : VK} {elt tg iter : Expr} {ifs : List Expr} {scope : Scope} {own : List (Str × Nat)} {pos pos' : Pos} {wi : TI} {g : TG} {tt : TT} {te : TE} {use : Option (Value → Sem Unit)} {Qf : Value → Shared → Prop}
  (hc : X.calm = true) (hN : X.N.Nodup) (I : Inv X pins σ H s) (hi : PI X tg iter wi) (ok : BlkOk X.N X.env.scope scope own)
  (hg : ∀ (s : Shared) (H : Hp) (C : Addr) (cl : List (Str × Addr)) (fp : List Addr), PG (X.blk s H scope (compEnvC scope cl C X.env) fp) tg g) (ht : ∀ (s : Shared) (H : Hp) (C : Addr) (cl : List (Str × Addr)) (fp : List Addr), PTs (X.blk s H scope (compEnvC scope cl C X.env) fp) ifs tt)
  (he : ∀ (s : Shared) (H : Hp) (C : Addr) (cl : List (Str × Addr)) (fp : List Addr), PE (X.blk s H scope (compEnvC scope cl C X.env) fp) elt te) (hs : ∀ x, foldedSetIterable iter X.env x = pure x)
  (h : tLc wi g tt te (own.map (·.2)) σ H Q)
  (hRR : ∀ D C s' m H', Inv X pins σ H' s' → Q (.ref D) H' → s'.heap.Ns C m → FpOk X pins H' C → compPost (model X.prog X.w) X.A X.xe use Qf (.ref D) C (.ok .next) s') :
  wpAny (model X.prog X.w) X.A (comprehension (.ListComp elt [⟨tg, iter, ifs, 0⟩] scope pos) scope X.env pos' (newList []) false (eval iter X.env) use) Qf X.xe s := by
 have hfree : ∀ y ∈ scope.names, y.2 = .free → ∃ c, X.env.cells.lookup y.1 = some c := fun y hy e => by
  rcases ok.free y hy e with k | k
  ·exact I.ok.has _ (.inl k)
  ·exact I.ok.has _ (.inr k)
 refine wpAny_comprehension_free (use := use) rfl hs (closure_ok hfree) ok.kind (fun y hy e => by rw [ok.uniq y hy, e])
  (thn (hi pins s σ H _ I h) fun xv s1 hx => thn hx fun itv s2 h2 => ?_)
 obtain ⟨it, fp, tn, J, H2, e, I2, T, st2, f2, q⟩ := h2
 subst e
 refine wpAny_newObj_type (newEnv_comp ?_) (by show 0 ≤ sizeLine; decide)
 generalize hD : s2.heap.objs.size = D
 have hDn : H2 D = none := I2.hok.fresh (Nat.le_of_eq hD)
 obtain ⟨W, ⟨m0, w0⟩, turn⟩ := q D hDn
 generalize hs3 : ({ s2 with heap := s2.heap.push { cls := .type "list", data := .seq ([] : List Value).toArray } } : Shared) = s3
 have I3 : Inv X pins σ (upd H2 D (.lst [])) s3 := by
  rw [← hs3]
  refine I2.laid (t' := s2.toks) (fun b o e => Heap.get?_push_of_some _ e) (Nat.le_of_eq hD) ⟨Nat.zero_le _, [], 0, .nil, ?_⟩
  rw [← hD]
  exact Heap.get?_push_size _ rfl
 have h3 : s3.heap = s2.heap.push { cls := .type "list", data := .seq ([] : List Value).toArray } := by rw [← hs3]
 have sz : ∀ b ∈ fp, b < s2.heap.objs.size := fun b hb => by
  obtain ⟨o, e, _⟩ := T.obj _ _ st2 b hb
  exact Heap.lt_size e
 have f3 : ∀ b ∈ fp, FpOk X pins (upd H2 D (.lst [])) b ∧ b < s3.heap.objs.size := fun b hb => by
  have hlt := sz b hb
  refine ⟨⟨?_, (f2 b hb).2⟩, by rw [h3, Heap.size_push]; exact Nat.lt_succ_of_lt hlt⟩
  rw [upd_ne (by rw [← hD]; exact Nat.ne_of_lt hlt)]
  exact (f2 b hb).1
 have st3 : tn 0 s3.heap := T.keep _ _ _ st2 fun b _ o e => by rw [h3]; exact Heap.get?_push_of_some _ e
 have I4 := block_start I3 ok hN f3
 have pg := hg s3 (upd H2 D (.lst [])) s3.heap.objs.size (cellsFrom (s3.heap.objs.size + 1) scope.names (cloFrom X.env.cells scope.names [])) fp
 have pt := ht s3 (upd H2 D (.lst [])) s3.heap.objs.size (cellsFrom (s3.heap.objs.size + 1) scope.names (cloFrom X.env.cells scope.names [])) fp
 have pe := he s3 (upd H2 D (.lst [])) s3.heap.objs.size (cellsFrom (s3.heap.objs.size + 1) scope.names (cloFrom X.env.cells scope.names [])) fp
 show codeAny _ _ (.compStart (.ListComp elt [⟨tg, iter, ifs, 0⟩] scope pos) 0 (.ref it) (.ref D) (compEnvC scope (cellsFrom (s3.heap.objs.size + 1) scope.names (cloFrom X.env.cells scope.names [])) s3.heap.objs.size X.env)) (compPost (model X.prog X.w) X.A X.xe use Qf (.ref D) s3.heap.objs.size) { s3 with heap := pushCells (s3.heap.push { cls := .type "dict", data := .dict #[] }) scope.names }
 have nfp : ∀ b ∈ fp, (upd H2 D (.lst [])) b = none := fun b hb => (f3 b hb).1.1
 generalize hce : compEnvC scope (cellsFrom (s3.heap.objs.size + 1) scope.names (cloFrom X.env.cells scope.names [])) s3.heap.objs.size X.env = ce at I4 pg pt pe ⊢
 have cL : ce.locals = s3.heap.objs.size := by subst hce; rfl
 generalize hH3 : upd H2 D (.lst []) = H3 at I3 I4 pg pt pe w0 nfp f3
 generalize hs4 : ({ s3 with heap := pushCells (s3.heap.push { cls := .type "dict", data := .dict #[] }) scope.names } : Shared) = s4 at I4 ⊢
 have st4 : tn 0 s4.heap := T.keep _ _ _ st3 fun b _ o e => by rw [← hs4]; exact pushCells_keeps _ _ _ _ (Heap.get?_push_of_some _ e)
 have stat : ∀ {σ' : St} {H' : Hp} {s' : Shared}, Inv (X.blk s3 H3 scope ce fp) [] σ' H' s' → (∀ b ∈ fp, H' b = none) → ∀ b ∈ fp, FpOk (X.blk s3 H3 scope ce fp) [] H' b := fun {σ' H' s'} I' hn b hb =>
  ⟨hn b hb, (I'.ok.exf b hb).1, I'.ok.exfs b hb, .inl hb, fun x c e => (I'.ok.exf b hb).2 x c e, fun p hp => absurd (show p ∈ ([] : List (Addr × Obj)) ++ [] from hp) (by simp)⟩
 have loop : codeAny (model X.prog X.w) X.A (.compLoop (.ListComp elt [⟨tg, iter, ifs, 0⟩] scope pos) 0 (.ref it) (.ref D) ce) (compPost (model X.prog X.w) X.A X.xe use Qf (.ref D) s3.heap.objs.size) s4 := by
  refine compLoop_any (fun n s' => ∃ i H', Inv (X.blk s3 H3 scope ce fp) [] (wipe σ (own.map (·.2))) H' s' ∧ tn i s'.heap ∧ (∀ b ∈ fp, H' b = none) ∧ W i n H') ?_ m0 ⟨0, H3, I4, st4, nfp, w0⟩
  rintro n s5 ⟨i, H5, I5, st5, n5, w5⟩
  rcases turn i n H5 w5 with ⟨stop, qq⟩ | ⟨go, Nx, hNx, step⟩
  ·have td := T.done (X.blk s3 H3 scope ce fp) rfl rfl rfl hc i [] s5 _ H5 (fun _ _ => False) I5 (stat I5 n5) st5 stop
   refine thnF td fun r s6 ⟨hr, I6⟩ => ?_
   subst hr
   have I7 : Inv X pins σ H5 s6 := I3.call' (ch := fp) I6.os I6.base I6.hok I6.bare fun b hb => ⟨(f3 b hb).1.2.2.2.1, (f3 b hb).1.2.1, (f3 b hb).1.2.2.2.2.1, (f3 b hb).1.2.2.2.2.2⟩
   have nC : H5 s3.heap.objs.size = none := by
    have z : H5 ce.locals = none := I6.free
    rw [cL] at z
    exact z
   obtain ⟨m, hn, _⟩ := I6.loc
   have hn : s6.heap.Ns ce.locals m := hn
   rw [cL] at hn
   exact hRR D s3.heap.objs.size s6 m H5 I7 qq hn (I3.fpOk (Nat.le_refl _) nC)
  ·have ti := T.item (X.blk s3 H3 scope ce fp) rfl rfl rfl hc i [] s5 _ H5 (fun _ _ => False) I5 (stat I5 n5) st5 go
   refine thnF ti fun r s6 ⟨u, hr, h6⟩ => ?_
   subst hr
   refine thnF h6 fun _ s7 ⟨x, H7, I7, r7, y7, st7, n7⟩ => ?_
   have I7' := I7.pinned (stat I7 n7) (T.obj _ _ st7)
   refine thnF (pg _ s7 _ H7 x u _ I7' r7 (step x H7 y7)) fun _ s8 ⟨σ8, H8, I8, hw8, q8⟩ => ?_
   refine thnF (pt _ s8 σ8 H8 _ I8 q8) fun b s9 ⟨H9, I9, q9⟩ => ?_
   have fin : ∀ {s' : Shared} {H' : Hp}, Inv (X.blk s3 H3 scope ce fp) ([] ++ pinsAt fp s7.heap) σ8 H' s' → Nx H' → ∃ m, m < n ∧ ∃ i H', Inv (X.blk s3 H3 scope ce fp) [] (wipe σ (own.map (·.2))) H' s' ∧ tn i s'.heap ∧ (∀ b ∈ fp, H' b = none) ∧ W i m H' := fun {s' H'} I' nx => by
    obtain ⟨m', hm, w'⟩ := hNx H' nx
    have pin' : ∀ b ∈ fp, ∀ o, s7.heap.get? b = some o → s'.heap.get? b = some o ∧ H' b = none := fun b hb o e =>
     let z := I'.pin (b, o) (List.mem_append_right _ (List.mem_append_right _ (mem_pinsAt hb e)))
     ⟨z.1, z.2.1⟩
    have hl : (wipe σ (own.map (·.2))).length = σ8.length := by rw [← hw8, wipe_length]
    refine ⟨m', hm, i + 1, H', (I'.unpinned (pins := [])).weak hl (fun j v e => ?_), T.keep _ _ _ st7 fun b hb o e => (pin' b hb o e).1, fun b hb => ?_, w'⟩
    ·rw [← hw8] at e
     exact (wipe_some e).1
    ·obtain ⟨o, e, _⟩ := T.obj _ _ st7 b hb
     exact (pin' b hb o e).2
   cases b with
   | false =>
    simp only [Bool.false_eq_true, if_false] at q9 ⊢
    exact fin I9 q9
   | true =>
    simp only [if_true] at q9 ⊢
    refine thnF (pe _ s9 σ8 H9 _ I9 q9) fun z s10 ⟨yv, H10, I10, r10, acc, hD10, hz10, nx⟩ => ?_
    exact app_ok (X := X.blk s3 H3 scope ce fp) I10 hD10 hz10 r10 fun s11 I11 => fin I11 nx
 exact codeAny_compStart_list loop (T.self X.A 0 _ _ _ st4 loop)
theorem pe_lc {elt tg iter : Expr} {ifs : List Expr} {scope : Scope} {own : List (Str × Nat)} {pos : Pos} {wi : TI} {g : TG} {tt : TT} {te : TE} (hc : X.calm = true) (hN : X.N.Nodup) (hi : PI X tg iter wi) (ok : BlkOk X.N X.env.scope scope own)
  (hg : ∀ (s : Shared) (H : Hp) (C : Addr) (cl : List (Str × Addr)) (fp : List Addr), PG (X.blk s H scope (compEnvC scope cl C X.env) fp) tg g) (ht : ∀ (s : Shared) (H : Hp) (C : Addr) (cl : List (Str × Addr)) (fp : List Addr), PTs (X.blk s H scope (compEnvC scope cl C X.env) fp) ifs tt)
  (he : ∀ (s : Shared) (H : Hp) (C : Addr) (cl : List (Str × Addr)) (fp : List Addr), PE (X.blk s H scope (compEnvC scope cl C X.env) fp) elt te) (hs : ∀ x, foldedSetIterable iter X.env x = pure x := by intro _; rfl) :
  PE X (.ListComp elt [⟨tg, iter, ifs, 0⟩] scope pos) (tLc wi g tt te (own.map (·.2))) := by
 intro pins s σ H Q I h
 rw [eval_ListComp]
 refine lc_core hc hN I hi ok hg ht he hs h fun D C s' m H' I' q hn f => ⟨m, hn, fun h'' sb => ?_⟩
 obtain ⟨f0, f1, f2, f3, f4, f5⟩ := f
 exact ⟨.ref D, H', I'.turned (t' := s'.toks) (fun b o hb e => (sb.2 b hb).trans e) f0 f1 f3 f4 f5, rfl, q⟩
theorem ps_setLc {i : Nat} {y : Str} {py : Pos} {elt tg iter : Expr} {ifs : List Expr} {scope : Scope} {own : List (Str × Nat)} {pos spos : Pos} {wi : TI} {g : TG} {tt : TT} {te : TE} (hc : X.calm = true) (hN : X.N.Nodup) (hy : X.N[i]? = some y) (hyl : X.env.scope.names.lookup y = some .local)
  (hsw : swapsWith (.ListComp elt [⟨tg, iter, ifs, 0⟩] scope pos) (some (.Name y py)) spos.line X.env = pure true) (hi : PI X tg iter wi) (ok : BlkOk X.N X.env.scope scope own)
  (hg : ∀ (s : Shared) (H : Hp) (C : Addr) (cl : List (Str × Addr)) (fp : List Addr), PG (X.blk s H scope (compEnvC scope cl C X.env) fp) tg g) (ht : ∀ (s : Shared) (H : Hp) (C : Addr) (cl : List (Str × Addr)) (fp : List Addr), PTs (X.blk s H scope (compEnvC scope cl C X.env) fp) ifs tt)
  (he : ∀ (s : Shared) (H : Hp) (C : Addr) (cl : List (Str × Addr)) (fp : List Addr), PE (X.blk s H scope (compEnvC scope cl C X.env) fp) elt te) (hs : ∀ x, foldedSetIterable iter X.env x = pure x := by intro _; rfl) :
  PS X (.Assign [.Name y py] (.ListComp elt [⟨tg, iter, ifs, 0⟩] scope pos) spos) (tAsg (tLc wi g tt te (own.map (·.2))) (gName i)) := by
 intro pins s σ H D I h
 rw [exec_Assign_Name_used _ _ _ _ hsw]
 refine wpAny_bind (wpAny_standAt (wpAny_bind ?_))
 show wpAny _ X.A (do let _ ← comprehension (.ListComp elt [⟨tg, iter, ifs, 0⟩] scope pos) scope X.env (firstIterPos [⟨tg, iter, ifs, 0⟩] pos) (newList []) false (eval iter X.env) (some (assign (.Name y py) X.env))) _ _ s
 have h : tLc wi g tt te (own.map (·.2)) σ H (fun x H1 => gName i x σ H1 D.nx) := h
 refine wpAny_bind (thn (lc_core (Qf := fun _ s' => SP X pins D .next s') hc hN I hi ok hg ht he hs h fun L C s' m H' I' q hn f => ?_) fun _ s' hq => wpAny_pure (wpAny_pure hq))
 show wpAny _ _ (assign (.Name y py) X.env (.ref L)) _ _ _
 refine wpAny_assign_Name (store_ok2 (v := V.ref L) I' hN hy (.inl hyl) rfl (fun s2 I2 ⟨a, sb, ha⟩ => ?_) (.inr hyl))
 obtain ⟨f0, f1, f2, f3, f4, f5⟩ := f
 have haC : C ≠ a := by
  rcases ha with z | z
  ·rw [z]; exact f1
  ·exact fun e => f4 y a z e.symm
 refine ⟨m, hn.sameBut sb haC, fun h3 sb3 => ?_⟩
 exact ⟨_, H', I2.turned (t' := s2.toks) (fun b o hb e => (sb3.2 b hb).trans e) f0 f1 f3 f4 f5, q⟩
theorem sw_true {elt : Expr} {gs : List Comprehension} {scope : Scope} {pos py : Pos} {y : Str} {l : Nat} {env : Env} (hk : env.scope.kind = .function) (hy : env.scope.names.lookup y = some .local) (hl : (py.line == pos.line) = true)
  (ha : (scope.names.any fun (n, k) => n == y && (k == .local || k == .cell)) = false) : swapsWith (.ListComp elt gs scope pos) (some (.Name y py)) l env = pure true := by
 have ky : env.kindOf y = some .local := hy
 have hb : env.blockKind = .function := by unfold Env.blockKind; rw [hk]; rfl
 unfold swapsWith
 simp only [hb, ky, ha, Expr.pos, hl]
 rfl
end
theorem lc_list {K : PySem.W.Frag} {a : Addr} {xs : List V} {g : TG} {tt : TT} {te : TE} {vs : List Nat} {σ : St} {H1 : Hp} {D : Addr} {Qd : Hp → Prop} (Pv : Nat → Hp → Prop) (h0 : Pv 0 (upd H1 D (.lst []))) (hl : ∀ i H, i ≤ xs.length → Pv i H → SqL K H a xs)
  (hs : ∀ i x H, xs[i]? = some x → Pv i H → g x (wipe σ vs) H fun σ2 H2 => wipe σ2 vs = wipe σ vs ∧ tt σ2 H2 fun b H3 =>
   if b = true then te σ2 H3 fun y H4 => ∃ acc, H4 D = some (.lst acc) ∧ acc.length < sizeLine ∧ Pv (i + 1) (upd H4 D (.lst (acc ++ [y]))) else Pv (i + 1) H3) (hd : ∀ H, Pv xs.length H → Qd H) :
  ∃ W : Nat → Nat → Hp → Prop, (∃ m, W 0 m (upd H1 D (.lst []))) ∧ ∀ i m H, W i m H →
   ((Itl K a).stop i H ∧ Qd H) ∨ ((Itl K a).go i H ∧ ∃ Nx : Hp → Prop, (∀ H', Nx H' → ∃ m', m' < m ∧ W (i + 1) m' H') ∧ ∀ x H', (Itl K a).yld i H x H' → g x (wipe σ vs) H' fun σ2 H2 => wipe σ2 vs = wipe σ vs ∧ tt σ2 H2 fun b H3 =>
    if b = true then te σ2 H3 fun y H4 => ∃ acc, H4 D = some (.lst acc) ∧ acc.length < sizeLine ∧ Nx (upd H4 D (.lst (acc ++ [y]))) else Nx H3) := by
 refine ⟨fun i m H => m = xs.length - i ∧ i ≤ xs.length ∧ Pv i H, ⟨xs.length, by simp, Nat.zero_le _, h0⟩, ?_⟩
 rintro i m H ⟨rfl, hi, p⟩
 have q := hl i H hi p
 by_cases hlt : i < xs.length
 ·refine .inr ⟨⟨xs, xs[i], q, by simp [hlt]⟩, Pv (i + 1), fun H' p' => ⟨xs.length - (i + 1), by omega, rfl, hlt, p'⟩, fun x H' y => ?_⟩
  obtain ⟨e, y⟩ := y
  subst e
  exact hs i x _ (y xs q) p
 ·have e : i = xs.length := by omega
  subst e
  exact .inl ⟨⟨xs, q, Nat.le_refl _⟩, hd H p⟩
def blkC (N : List Str) (sc scope : Scope) (own : List (Str × Nat)) : Bool :=
 (match scope.kind with | .function => true | _ => false) && (scope.names.all fun y => decide (scope.names.lookup y.1 = some y.2)) && (own.all fun p => decide (N[p.2]? = some p.1)) &&
  (scope.names.all fun y => match y.2 with
   | .free => (match sc.names.lookup y.1 with | some .cell => true | some .free => true | _ => false)
   | .local => decide (y.1 ∈ own.map (·.1)) || decide (y.1 ∉ N)
   | .cell => decide (y.1 ∈ own.map (·.1)) || decide (y.1 ∉ N)
   | _ => true)
theorem blkOk_by {N : List Str} {sc scope : Scope} {own : List (Str × Nat)} (h : blkC N sc scope own = true) : BlkOk N sc scope own := by
 unfold blkC at h
 simp only [Bool.and_eq_true, List.all_eq_true, decide_eq_true_eq] at h
 obtain ⟨⟨⟨h1, h2⟩, h3⟩, h4⟩ := h
 refine ⟨?_, h2, h3, fun y hy e => ?_, fun y hy e => ?_⟩
 ·split at h1
  ·assumption
  ·cases h1
 ·have q := h4 y hy
  simp only [e] at q
  split at q <;> first | exact .inl (by assumption) | exact .inr (by assumption) | cases q
 ·have q := h4 y hy
  rcases e with e | e <;> (simp only [e, Bool.or_eq_true, decide_eq_true_eq] at q; exact q)
section
variable {prog : Program} {w : World} {A : Around} {R : Result → Shared → Prop} {s : Shared} {elt t0 i0 t1 i1 : Expr} {ifs0 ifs1 : List Expr} {scope : Scope} {pos : Pos} {it acc : Value} {env : Env}
end
section
variable {X : Cx}
end
section
variable {κ : Type} [DecidableEq κ]
def valV (kvs : List (κ × V)) (k : κ) : Option V := (kvs.find? fun kv => decide (kv.1 = k)).map (·.2)
def putK (kvs : List (κ × V)) (k : κ) (v : V) : List (κ × V) :=
 if (kvs.any fun kv => decide (kv.1 = k)) = true then kvs.map (fun kv => if kv.1 = k then (kv.1, v) else kv) else kvs ++ [(k, v)]
def dropK (kvs : List (κ × V)) (k : κ) : List (κ × V) := kvs.filter fun kv => decide (kv.1 ≠ k)
theorem valV_nil {k : κ} : valV ([] : List (κ × V)) k = none := rfl
theorem valV_pos {p : κ × V} {r : List (κ × V)} {k : κ} (e : p.1 = k) : valV (p :: r) k = some p.2 := by simp [valV, List.find?_cons, e]
theorem valV_neg {p : κ × V} {r : List (κ × V)} {k : κ} (e : ¬ p.1 = k) : valV (p :: r) k = valV r k := by simp [valV, List.find?_cons, e]
theorem valV_any (k : κ) : ∀ kvs : List (κ × V), (kvs.any fun kv => decide (kv.1 = k)) = (valV kvs k).isSome
 | [] => rfl
 | p :: r => by
  rw [List.any_cons]
  by_cases e : p.1 = k
  ·simp only [valV_pos e, decide_eq_true e, Bool.true_or, Option.isSome_some]
  ·rw [valV_neg e, decide_eq_false e, Bool.false_or]; exact valV_any k r
theorem valV_map (k j : κ) (y : V) : ∀ kvs : List (κ × V), valV (kvs.map fun kv => if kv.1 = k then (kv.1, y) else kv) j = (valV kvs j).map fun x => if j = k then y else x
 | [] => rfl
 | p :: r => by
  have ih := valV_map k j y r
  rw [List.map_cons]
  by_cases h : p.1 = k
  ·rw [if_pos h]
   by_cases e : p.1 = j
   ·rw [valV_pos (p := (p.1, y)) e, valV_pos e, Option.map_some, if_pos (e.symm.trans h)]
   ·rw [valV_neg (p := (p.1, y)) e, valV_neg e, ih]
  ·rw [if_neg h]
   by_cases e : p.1 = j
   ·rw [valV_pos (p := p) e, valV_pos e, Option.map_some, if_neg (fun z => h (e.trans z))]
   ·rw [valV_neg (p := p) e, valV_neg e, ih]
theorem valV_snoc (k j : κ) (y : V) : ∀ kvs : List (κ × V), valV kvs k = none → valV (kvs ++ [(k, y)]) j = if j = k then some y else valV kvs j
 | [], _ => by
  by_cases e : k = j
  ·rw [if_pos e.symm]; exact valV_pos (p := (k, y)) e
  ·rw [if_neg (fun z => e z.symm)]; exact valV_neg (p := (k, y)) e
 | p :: r, hn => by
  rw [List.cons_append]
  have hk : ¬ p.1 = k := fun z => by rw [valV_pos z] at hn; cases hn
  rw [valV_neg hk] at hn
  have ih := valV_snoc k j y r hn
  by_cases e : p.1 = j
  ·rw [valV_pos e, valV_pos e, if_neg (fun z => hk (e.trans z))]
  ·rw [valV_neg e, valV_neg e, ih]
theorem valV_put (kvs : List (κ × V)) (k j : κ) (y : V) : valV (putK kvs k y) j = if j = k then some y else valV kvs j := by
 unfold putK
 by_cases a : (kvs.any fun kv => decide (kv.1 = k)) = true
 ·rw [if_pos a, valV_map]
  rw [valV_any] at a
  by_cases e : j = k
  ·obtain ⟨x, hx⟩ := Option.isSome_iff_exists.mp a
   rw [if_pos e, e, hx, Option.map_some, if_pos rfl]
  ·rw [if_neg e]
   cases valV kvs j with
   | none => rfl
   | some x => rw [Option.map_some, if_neg e]
 ·rw [if_neg a]
  refine valV_snoc k j y kvs ?_
  rw [valV_any] at a
  cases q : valV kvs k with
  | none => rfl
  | some x => rw [q] at a; exact (a rfl).elim
theorem length_putK (kvs : List (κ × V)) (k : κ) (v : V) : (putK kvs k v).length ≤ kvs.length + 1 := by
 unfold putK
 split
 ·rw [List.length_map]; omega
 ·rw [List.length_append, List.length_cons, List.length_nil]; omega
theorem RelO.isSome_eq {o : Option V} {u : Option Value} (r : RelO o u) : o.isSome = u.isSome := by
 cases o with
 | none => cases u with
  | none => rfl
  | some _ => exact (show False from r).elim
 | some _ => cases u with
  | none => exact (show False from r).elim
  | some _ => rfl
theorem RelO.getD {o : Option V} {u : Option Value} {d : V} {d' : Value} (r : RelO o u) (rd : RelV d d') : RelV (o.getD d) (u.getD d') := by
 cases o with
 | none => cases u with
  | none => exact rd
  | some _ => exact (show False from r).elim
 | some _ => cases u with
  | none => exact (show False from r).elim
  | some _ => exact r
theorem KV.val {kvs : List (κ × V)} {vs : List (κ × Value)} (r : KV kvs vs) (k : κ) : RelO (valV kvs k) (valueAt vs k) := by
 unfold KV at r
 induction r with
 | nil => exact True.intro
 | @cons p q ps qs h t ih =>
  obtain ⟨h1, h2⟩ := h
  by_cases e : p.1 = k
  ·have e' : q.1 = k := h1.symm.trans e
   have b : valueAt (q :: qs) k = some q.2 := by simp [valueAt, List.find?_cons, e']
   rw [valV_pos e, b]; exact h2
  ·have e' : ¬ q.1 = k := fun z => e (h1.trans z)
   have b : valueAt (q :: qs) k = valueAt qs k := by simp [valueAt, List.find?_cons, e']
   rw [valV_neg e, b]; exact ih
theorem KV.any {kvs : List (κ × V)} {vs : List (κ × Value)} (r : KV kvs vs) (k : κ) : (kvs.any fun kv => decide (kv.1 = k)) = vs.any fun kv => decide (kv.1 = k) := by
 unfold KV at r
 induction r with
 | nil => rfl
 | cons h t ih => rw [List.any_cons, List.any_cons, ih, h.1]
theorem KV.repl {kvs : List (κ × V)} {vs : List (κ × Value)} (r : KV kvs vs) (k : κ) {y : V} {u : Value} (ry : RelV y u) :
  KV (kvs.map fun kv => if kv.1 = k then (kv.1, y) else kv) (vs.map fun kv => if kv.1 = k then (kv.1, u) else kv) := by
 unfold KV at r ⊢
 induction r with
 | nil => exact .nil
 | @cons p q ps qs h t ih =>
  rw [List.map_cons, List.map_cons]
  refine .cons ?_ ih
  obtain ⟨h1, h2⟩ := h
  by_cases e : p.1 = k
  ·rw [if_pos e, if_pos (h1.symm.trans e)]; exact ⟨h1, ry⟩
  ·rw [if_neg e, if_neg (fun z => e (h1.trans z))]; exact ⟨h1, h2⟩
theorem KV.put {kvs : List (κ × V)} {vs : List (κ × Value)} (r : KV kvs vs) (k : κ) {y : V} {u : Value} (ry : RelV y u) : KV (putK kvs k y) (stored vs k u) := by
 unfold putK stored
 rw [r.any k]
 by_cases e : (vs.any fun kv => decide (kv.1 = k)) = true
 ·rw [if_pos e, if_pos e]; exact r.repl k ry
 ·rw [if_neg e, if_neg e]; exact Paired.snoc r ⟨rfl, ry⟩
theorem KV.drop {kvs : List (κ × V)} {vs : List (κ × Value)} (r : KV kvs vs) (k : κ) : KV (dropK kvs k) (without vs k) := by
 unfold KV at r ⊢
 unfold dropK without
 induction r with
 | nil => exact .nil
 | @cons p q ps qs h t ih =>
  obtain ⟨h1, h2⟩ := h
  rw [List.filter_cons, List.filter_cons]
  by_cases e : p.1 = k
  ·have a : ¬ decide (p.1 ≠ k) = true := by simp [e]
   have b : ¬ decide (q.1 ≠ k) = true := by simp [h1.symm.trans e]
   rw [if_neg a, if_neg b]; exact ih
  ·have e' : ¬ q.1 = k := fun z => e (h1.trans z)
   have a : decide (p.1 ≠ k) = true := by simp [e]
   have b : decide (q.1 ≠ k) = true := by simp [e']
   rw [if_pos a, if_pos b]; exact .cons ⟨h1, h2⟩ ih
theorem KV.length {kvs : List (κ × V)} {vs : List (κ × Value)} (r : KV kvs vs) : kvs.length = vs.length := Paired.length r
end
theorem kV_is {P : Program} {w : World} {k : Key} {u : Value} (r : RelV (kV k) u) : (mixKind P w).is k u = true := by
 cases k with
 | inl i => obtain ⟨t, e⟩ := (show ∃ t, u = Value.int i t from r); subst e; exact mixKind_int P w i t
 | inr x => obtain ⟨t, e⟩ := (show ∃ t, u = Value.str x t from r); subst e; exact mixKind_str P w x t
theorem items_are {P : Program} {w : World} : ∀ {ks : List Key} {us : List Value}, Vals (ks.map kV) us → ItemsAre (mixKind P w) ks us
 | [], _, r => by rw [List.map_nil] at r; cases r; exact .nil
 | k :: ks, _, r => by
  rw [List.map_cons] at r
  cases r with
  | cons h t => exact .cons (kV_is h) (items_are t)
abbrev KT (H : Hp) : List (List Key × V) → List (List Key × Addr × Value) → Prop := Paired fun p q => p.1 = q.1 ∧ H q.2.1 = some (.tup (p.1.map kV)) ∧ RelV p.2 q.2.2
theorem KT.val {H : Hp} {kvs : List (List Key × V)} {xs : List (List Key × Addr × Value)} (r : KT H kvs xs) (k : List Key) : RelO (valV kvs k) ((atKey xs k).map (·.2)) := by
 induction r with
 | nil => exact True.intro
 | @cons p q ps qs h t ih =>
  obtain ⟨h1, _, h2⟩ := h
  by_cases e : p.1 = k
  ·have e' : q.1 = k := h1.symm.trans e
   have b : atKey (q :: qs) k = some q.2 := by simp [atKey, List.find?_cons, e']
   rw [valV_pos e, b]; exact h2
  ·have e' : ¬ q.1 = k := fun z => e (h1.trans z)
   have b : atKey (q :: qs) k = atKey qs k := by simp [atKey, List.find?_cons, e']
   rw [valV_neg e, b]; exact ih
theorem KT.repl {H : Hp} {kvs : List (List Key × V)} {xs : List (List Key × Addr × Value)} (r : KT H kvs xs) (k : List Key) {y : V} {u : Value} (ry : RelV y u) :
  KT H (kvs.map fun kv => if kv.1 = k then (kv.1, y) else kv) (xs.map (putAt k u)) := by
 induction r with
 | nil => exact .nil
 | @cons p q ps qs h t ih =>
  rw [List.map_cons, List.map_cons]
  refine .cons ?_ ih
  obtain ⟨h1, h2, h3⟩ := h
  unfold putAt
  by_cases e : p.1 = k
  ·rw [if_pos e, if_pos (h1.symm.trans e)]; exact ⟨h1, h2, ry⟩
  ·rw [if_neg e, if_neg (fun z => e (h1.trans z))]; exact ⟨h1, h2, h3⟩
theorem KT.put {H : Hp} {kvs : List (List Key × V)} {xs : List (List Key × Addr × Value)} (r : KT H kvs xs) (k : List Key) {b : Addr} {y : V} {u : Value} (hb : H b = some (.tup (k.map kV))) (ry : RelV y u) :
  KT H (putK kvs k y) (storedH xs k b u) := by
 have e : (kvs.any fun kv => decide (kv.1 = k)) = (atKey xs k).isSome := by
  rw [valV_any, (r.val k).isSome_eq, Option.isSome_map]
 unfold putK storedH
 rw [e]
 by_cases q : (atKey xs k).isSome = true
 ·rw [if_pos q, if_pos q]; exact r.repl k ry
 ·rw [if_neg q, if_neg q]; exact Paired.snoc r ⟨rfl, hb, ry⟩
theorem KT.keeps {H H' : Hp} {kvs : List (List Key × V)} {xs : List (List Key × Addr × Value)} (r : KT H kvs xs) (ht : ∀ b ys, H b = some (.tup ys) → H' b = some (.tup ys)) : KT H' kvs xs :=
 Paired.mapP r fun _ _ z => ⟨z.1, ht _ _ z.2.1, z.2.2⟩
section
variable {P : Program} {w : World} {H : Hp} {h : Heap} {a : Addr}
theorem rd_of {u : HO} (ok : HOk P w H h) (e : Rd H a u) : ObjOk P w H h a u := e.ok ok
theorem dk_rd {kvs : List (Key × V)} (ok : HOk P w H h) (e : Rd H a (.dK kvs)) : kvs.length ≤ sizeLine ∧ (a == sysModules) = false ∧ ∃ vs, KV kvs vs ∧ h.DictOf (mixKind P w) a vs :=
 show ObjOk P w H h a (.dK kvs) from rd_of ok e
theorem dk_of {kvs : List (Key × V)} (ok : HOk P w H h) (e : H a = some (.dK kvs)) : kvs.length ≤ sizeLine ∧ (a == sysModules) = false ∧ ∃ vs, KV kvs vs ∧ h.DictOf (mixKind P w) a vs := dk_rd ok (.inl e)
theorem key_of {ks : List Key} (ok : HOk P w H h) (e : H a = some (.tup (ks.map kV))) : (tupleKind (mixKind P w)).is h ks a := by
 obtain ⟨_, its, r, o, h1, h2, n, h3⟩ := (show ObjOk P w H h a (.tup (ks.map kV)) from ok a _ e)
 exact ⟨o, its.toArray, n, h1, h2, h3, by simpa using items_are r⟩
theorem dt_rd {kvs : List (List Key × V)} (ok : HOk P w H h) (e : Rd H a (.dT kvs)) : kvs.length ≤ sizeLine ∧ (a == sysModules) = false ∧
  ∃ xs, KT H kvs xs ∧ h.DictOfH (tupleKind (mixKind P w)) a xs := by
 obtain ⟨z, y, xs, r, o, es, ep, h1, h2, h3, h4, h5⟩ := (show ObjOk P w H h a (.dT kvs) from rd_of ok e)
 refine ⟨z, y, xs, r, o, es, ep, h1, h2, h3, h4, fun x hx => ?_, h5⟩
 have all : ∀ {l : List (List Key × V)} {m : List (List Key × Addr × Value)}, KT H l m → ∀ x ∈ m, (tupleKind (mixKind P w)).is h x.1 x.2.1 := by
  intro l m q
  induction q with
  | nil => intro x hx; exact nomatch hx
  | @cons p q ps qs hq t ih =>
   intro x hx
   rcases List.mem_cons.mp hx with e | hx
   ·subst e
    exact key_of ok (by rw [← hq.1]; exact hq.2.1)
   ·exact ih x hx
 exact all r x hx
theorem dt_of {kvs : List (List Key × V)} (ok : HOk P w H h) (e : H a = some (.dT kvs)) : kvs.length ≤ sizeLine ∧ (a == sysModules) = false ∧
  ∃ xs, KT H kvs xs ∧ h.DictOfH (tupleKind (mixKind P w)) a xs := dt_rd ok (.inl e)
end
def DGet (H : Hp) (a : Addr) (y : V) (r : Option V) : Prop :=
 (∃ kvs k, Rd H a (.dK kvs) ∧ y = kV k ∧ r = valV kvs k) ∨ ∃ kvs k b, Rd H a (.dT kvs) ∧ y = .ref b ∧ H b = some (.tup (k.map kV)) ∧ r = valV kvs k
def DPut (H : Hp) (a : Addr) (y v : V) (H' : Hp) : Prop :=
 (∃ kvs k, H a = some (.dK kvs) ∧ y = kV k ∧ kvs.length < sizeLine ∧ H' = upd H a (.dK (putK kvs k v))) ∨
 ∃ kvs k b, H a = some (.dT kvs) ∧ y = .ref b ∧ H b = some (.tup (k.map kV)) ∧ kvs.length < sizeLine ∧ H' = upd H a (.dT (putK kvs k v))
theorem DGet.k {H : Hp} {a : Addr} {kvs : List (Key × V)} {k : Key} (e : H a = some (.dK kvs)) : DGet H a (kV k) (valV kvs k) := .inl ⟨kvs, k, .inl e, rfl, rfl⟩
theorem DGet.t {H : Hp} {a b : Addr} {kvs : List (List Key × V)} {k : List Key} (e : H a = some (.dT kvs)) (eb : H b = some (.tup (k.map kV))) : DGet H a (.ref b) (valV kvs k) := .inr ⟨kvs, k, b, .inl e, rfl, eb, rfl⟩
theorem DPut.k {H : Hp} {a : Addr} {kvs : List (Key × V)} {k : Key} {v : V} (e : H a = some (.dK kvs)) (hl : kvs.length < sizeLine) : DPut H a (kV k) v (upd H a (.dK (putK kvs k v))) := .inl ⟨kvs, k, e, rfl, hl, rfl⟩
theorem DPut.t {H : Hp} {a b : Addr} {kvs : List (List Key × V)} {k : List Key} {v : V} (e : H a = some (.dT kvs)) (eb : H b = some (.tup (k.map kV))) (hl : kvs.length < sizeLine) :
  DPut H a (.ref b) v (upd H a (.dT (putK kvs k v))) := .inr ⟨kvs, k, b, e, rfl, eb, hl, rfl⟩
section
variable {X : Cx} {pins : List (Addr × Obj)} {σ : St} {H : Hp} {s : Shared} {a : Addr} {y v : V} {u r : Value} {o : Option V} {A : Around} {E : Value → Shared → Prop}
theorem Inv.big (I : Inv X pins σ H s) : sysModules < s.heap.objs.size := by
 have h : mainGlobals < s.heap.objs.size := (I.mod.glob.keeps I.bk).lt
 exact Nat.lt_trans (by decide) h
theorem d_getItem {Q : Value → Shared → Prop} (hu : A.units + 1 < cLine) (I : Inv X pins σ H s) (g : DGet H a y (some v)) (ry : RelV y u) (h : ∀ w' s', Inv X pins σ H s' → RelV v w' → Q w' s') :
  wpAny (model X.prog X.w) A (getItem (.ref a) u) Q E s := by
 rcases g with ⟨kvs, k, e, ey, l⟩ | ⟨kvs, k, b, e, ey, eb, l⟩
 ·subst ey
  obtain ⟨z, hd, vs, rel, dd⟩ := dk_rd I.hok e
  obtain ⟨w', hw, rw'⟩ := RelO.some_of (v := v) (o := valueAt vs k) (by rw [l]; exact rel.val k)
  exact wpAny_getItem_of (kV_is ry) dd.mapOf hw (h w' _ (I.tok _) rw')
 ·subst ey
  cases (show u = Value.ref b from ry)
  obtain ⟨z, hd, xs, rel, dd⟩ := dt_rd I.hok e
  obtain ⟨w', hw, rw'⟩ := RelO.some_of (v := v) (o := (atKey xs k).map (·.2)) (by rw [l]; exact rel.val k)
  obtain ⟨p, hp, hp2⟩ := Option.map_eq_some_iff.mp hw
  refine wpAny_getItem_heap (tupleKind_room_in1 hu) (key_of I.hok eb) dd hp ?_
  rw [hp2]
  exact h w' _ (I.tok _) rw'
theorem d_notIn {Q : Value → Shared → Prop} (hu : A.units + 1 < cLine) (I : Inv X pins σ H s) (g : DGet H a y o) (ry : RelV y u) (h : ∀ s', Inv X pins σ H s' → Q (.bool (!o.isSome)) s') :
  wpAny (model X.prog X.w) A (compareOp .NotIn u (.ref a)) Q E s := by
 rcases g with ⟨kvs, k, e, ey, l⟩ | ⟨kvs, k, b, e, ey, eb, l⟩
 ·subst ey
  obtain ⟨z, hd, vs, rel, dd⟩ := dk_rd I.hok e
  refine wpAny_notIn_of (kV_is ry) hd dd.mapOf ?_
  rw [← (rel.val k).isSome_eq, ← l]
  exact h _ (I.tok _)
 ·subst ey
  cases (show u = Value.ref b from ry)
  obtain ⟨z, hd, xs, rel, dd⟩ := dt_rd I.hok e
  refine wpAny_notIn_heap (tupleKind_room_in1 hu) (key_of I.hok eb) hd dd ?_
  have q := (rel.val k).isSome_eq
  rw [Option.isSome_map] at q
  rw [← q, ← l]
  exact h _ (I.tok _)
theorem d_write {h' : Heap} {t' : Nat} {ob : HO} (I : Inv X pins σ H s) (mu : Mut (H a)) (hs : Heap.SameBut a s.heap h') (he : ∃ q, h'.get? a = some q) (new : ObjOk X.prog X.w (upd H a ob) h' a ob) :
  Inv X pins σ (upd H a ob) { s with heap := h', toks := t' } :=
 I.write (x := a) (e := a) mu (.inl rfl) (fun b q hb z => (hs.2 b hb).trans z) he new
theorem dk_new {P : Program} {w : World} {H' : Hp} {h' : Heap} {kvs : List (Key × V)} {vs : List (Key × Value)} (z : kvs.length ≤ sizeLine) (hd : (a == sysModules) = false) (rel : KV kvs vs) (dd : h'.DictOf (mixKind P w) a vs) :
  ObjOk P w H' h' a (.dK kvs) := ⟨z, hd, vs, rel, dd⟩
theorem d_setItem {H' : Hp} {Q : Unit → Shared → Prop} (hu : A.units + 1 < cLine) (I : Inv X pins σ H s) (g : DPut H a y v H') (ry : RelV y u) (rv : RelV v r) (h : ∀ s', Inv X pins σ H' s' → Q () s') :
  wpAny (model X.prog X.w) A (setItem (.ref a) u r) Q E s := by
 rcases g with ⟨kvs, k, e, ey, l, eH⟩ | ⟨kvs, k, b, e, ey, eb, l, eH⟩
 ·subst ey eH
  obtain ⟨z, hd, vs, rel, dd⟩ := dk_of I.hok e
  have hz : vs.length ≤ sizeLine := by rw [← rel.length]; exact z
  have hl : (putK kvs k v).length ≤ sizeLine := by have := length_putK kvs k v; omega
  refine wpAny_setItem_pairs (hsz := hz) (kV_is ry) dd fun h' dd' hs => h _ ?_
  have he : ∃ q, h'.get? a = some q := let ⟨q, _, _, hq, _⟩ := dd'; ⟨q, hq⟩
  exact d_write I (by rw [e]; exact True.intro) hs he (dk_new hl hd (rel.put k rv) dd')
 ·subst ey eH
  cases (show u = Value.ref b from ry)
  obtain ⟨z, hd, xs, rel, dd⟩ := dt_of I.hok e
  have hz : xs.length ≤ sizeLine := by rw [← Paired.length rel]; exact z
  have hl : (putK kvs k v).length ≤ sizeLine := by have := length_putK kvs k v; omega
  refine wpAny_setItem_heap (hsz := hz) (tupleKind_room_in1 hu) (key_of I.hok eb) dd fun h' dd' hs => h _ ?_
  obtain ⟨q, es, ep, hq, h2, h3, h4, _, h5⟩ := dd'
  refine d_write I (by rw [e]; exact True.intro) hs ⟨q, hq⟩ ⟨hl, hd, _, (rel.put k eb rv).keeps fun c ys ec => ?_, q, es, ep, hq, h2, h3, h4, h5⟩
  rw [upd_ne (ne_of ec e (fun z => nomatch z))]
  exact ec
end
section
variable {X : Cx} {pins : List (Addr × Obj)} {σ : St} {H : Hp} {s : Shared} {a : Addr} {kvs : List (Key × V)} {k : Key} {u : Value} {A : Around} {E : Value → Shared → Prop}
end
def NoSl (i : Expr) : Prop := ∀ ov iv, subscripted i false ov iv = operate [ov, iv] (getItem ov iv)
theorem subD_of {prog : Program} {w : World} {A : Around} {E : Value → Shared → Prop} {s : Shared} {env : Env} {value slice : Expr} {pos : Pos} {T id : String} {Q : Value → Shared → Prop}
  (hl : typeLookup (.type T) "__getitem__" = pure (some (.builtin id))) (hs : NoSl slice)
  (h : wpAny (model prog w) A (eval value env) (fun o s₁ => wpAny (model prog w) A (eval slice env) (fun i s₂ => s₂.TypeIs o T ∧ wpAny (model prog w) A (getItem o i) Q E s₂) E s₁) E s) :
  wpAny (model prog w) A (eval (.Subscript value slice pos) env) Q E s := by
 refine Subscript_ (wpAny_mono h (fun o s₁ h₁ => wpAny_mono h₁ (fun i s₂ h₂ => ?_) fun _ _ x => x) fun _ _ x => x)
 obtain ⟨hT, h₂⟩ := h₂
 unfold subscriptTail
 refine wpAny_bind ?_
 rw [getitemInPython_of_ne hT.not_modules]
 refine wpAny_bind (wpAny_specialOf hT hl ?_)
 have fin : wpAny (model prog w) A (subscripted slice false o i) (fun r s₃ => wpAny (model prog w) A (letTemporaryGo value o r >>= fun _ => pure r) Q E s₃) E s₂ := by
  rw [hs o i]
  exact wpAny_operating (wpAny_mono h₂ (fun r s₃ h₃ => wpAny_bind (wpAny_letTemporaryGo (wpAny_pure h₃))) fun _ _ x => x)
 first
  | exact wpAny_pure (wpAny_bind fin)
  | exact wpAny_bind (wpAny_pure (wpAny_bind fin))
  | exact wpAny_bind fin
theorem dict_typeIs {X : Cx} {pins : List (Addr × Obj)} {σ : St} {H : Hp} {s : Shared} {a : Addr} {y : V} {o : Option V} (I : Inv X pins σ H s) (g : DGet H a y o) : s.TypeIs (.ref a) "dict" := by
 rcases g with ⟨kvs, k, e, _, _⟩ | ⟨kvs, k, b, e, _, _, _⟩
 ·obtain ⟨_, _, vs, _, dd⟩ := dk_rd I.hok e
  exact dd.typeIs
 ·obtain ⟨_, _, xs, _, dd⟩ := dt_rd I.hok e
  exact dd.typeIs
def tDGet (td ty : TE) : TE := fun σ H Q => td σ H fun x H1 => ty σ H1 fun y H2 => ∃ a v, x = .ref a ∧ DGet H2 a y (some v) ∧ Q v H2
def tDNotIn (ty td : TE) : TE := fun σ H Q => ty σ H fun y H1 => td σ H1 fun x H2 => ∃ a o, x = .ref a ∧ DGet H2 a y o ∧ Q (.bl (!o.isSome)) H2
def sDPut (td ty tv : TE) : TS := fun D σ H => tv σ H fun v H1 => td σ H1 fun x H2 => ty σ H2 fun y H3 => ∃ a H4, x = .ref a ∧ DPut H3 a y v H4 ∧ D.nx σ H4
section
variable {X : Cx} {o i e value : Expr} {pos pos' tpos : Pos} {td ty tv : TE}
theorem pe_dget (hu : X.A.units + 1 < cLine) (ho : PE X o td) (hi : PE X i ty) (hs : NoSl i) : PE X (.Subscript o i pos) (tDGet td ty) := by
 intro pins s σ H Q I h
 refine subD_of PySem.F.slot_dict_getitem.lookup hs (thn (ho pins s σ H _ I h) fun u s1 ⟨x, H1, I1, rx, q1⟩ => thn (hi pins s1 σ H1 _ I1 q1) fun iv s2 ⟨y, H2, I2, ry, a, v, ex, g, q2⟩ => ?_)
 subst ex
 obtain rfl : u = Value.ref a := rx
 exact ⟨dict_typeIs I2 g, d_getItem hu I2 g ry fun w' s3 I3 rw' => ⟨v, H2, I3, rw', q2⟩⟩
theorem pc_dnotin (hu : X.A.units + 1 < cLine) (hi : PE X i ty) (ho : PE X o td) : PC X .NotIn i o (tDNotIn ty td) := by
 intro pins s σ H Q I h
 refine thn (hi pins s σ H _ I h) fun iv s1 ⟨y, H1, I1, ry, q1⟩ => thn (ho pins s1 σ H1 _ I1 q1) fun u s2 ⟨x, H2, I2, rx, a, ov, ex, g, q2⟩ => ?_
 subst ex
 obtain rfl : u = Value.ref a := rx
 exact d_notIn hu I2 g ry fun s3 I3 => ⟨.bl (!ov.isSome), H2, I3, rfl, q2⟩
theorem ps_dput (hu : X.A.units + 1 < cLine) (ho : PE X o td) (hi : PE X i ty) (hv : PE X value tv) (hs : swapsWith value (some (.Subscript o i pos')) pos.line X.env = pure false) :
  PS X (.Assign [.Subscript o i pos'] value pos) (sDPut td ty tv) := by
 intro pins s σ H D I h
 refine wpAny_Assign_Subscript (thn (hv pins s σ H _ I h) fun r s1 ⟨v, H1, I1, rv, q1⟩ => thn (ho pins s1 σ H1 _ I1 q1) fun u s2 ⟨x, H2, I2, rx, q2⟩ => thn (hi pins s2 σ H2 _ I2 q2) fun iv s3 ⟨y, H3, I3, ry, a, H4, ex, g, q3⟩ => ?_) hs
 subst ex
 obtain rfl : u = Value.ref a := rx
 exact d_setItem hu I3 g ry rv fun s4 I4 => ⟨σ, H4, I4, q3⟩
end
theorem dt_empty {P : Program} {w : World} {H : Hp} (h : Heap) (hb : sysModules < h.objs.size) : ObjOk P w H (h.push { cls := .type "dict", data := .dict #[] }) h.objs.size (.dT []) :=
 ⟨Nat.zero_le _, beq_eq_false_iff_ne.mpr (Ne.symm (Nat.ne_of_lt hb)), [], .nil, _, #[], 0, Heap.get?_push_size _ rfl, ⟨rfl, rfl, rfl⟩, rfl, rfl, List.nodup_nil⟩
def tDNewT : TE := fun _ H Q => ∀ p, H p = none → Q (.ref p) (upd H p (.dT []))
section
variable {X : Cx} {pos : Pos}
theorem pe_dnewT : PE X (.Dict [] [] pos) tDNewT := fun pins s σ H Q I h =>
 wpAny_Dict_empty ⟨.ref s.heap.objs.size, _, I.laid (a := s.heap.objs.size) (o := .dT []) (t' := s.toks) (fun _ _ q => Heap.get?_push_of_some _ q) (Nat.le_refl _) (dt_empty s.heap I.big), rfl, h _ (I.hok.fresh (Nat.le_refl _))⟩
end
structure M1 (X : Cx) (o : Expr) (m : Str) (apos : Pos) (e : Expr) (cpos : Pos) : Prop where
 base : attributeBase o m X.env (eval o X.env) = eval o X.env
 few : ((backTo cpos (starEach [e] X.env)).all (fun x => !x.1) && (backToKw cpos (keywordEach [] X.env)).all (fun x => x.1.isSome)
  && decide (([e] : List Expr).length + ([] : List Keyword).length + (if ([] : List Keyword).isEmpty then 0 else 1) < 30)) = true
 line : (apos.endLine == cpos.line) = true
 trees : backTo cpos (starEach [e] X.env) = [(false, eval e X.env)]
structure M2 (X : Cx) (o : Expr) (m : Str) (apos : Pos) (e f : Expr) (cpos : Pos) : Prop where
 base : attributeBase o m X.env (eval o X.env) = eval o X.env
 few : ((backTo cpos (starEach [e, f] X.env)).all (fun x => !x.1) && (backToKw cpos (keywordEach [] X.env)).all (fun x => x.1.isSome)
  && decide (([e, f] : List Expr).length + ([] : List Keyword).length + (if ([] : List Keyword).isEmpty then 0 else 1) < 30)) = true
 line : (apos.endLine == cpos.line) = true
 trees : backTo cpos (starEach [e, f] X.env) = [(false, eval e X.env), (false, eval f X.env)]
section
variable {X : Cx} {pins : List (Addr × Obj)} {σ : St} {H : Hp} {s : Shared} {a : Addr} {y d : V} {u r : Value} {o : Option V} {A : Around} {E : Value → Shared → Prop}
end
section
variable {X : Cx} {o e f : Expr} {apos cpos : Pos} {td ty tx : TE}
end
section
variable {X : Cx} {pins : List (Addr × Obj)} {σ : St} {H : Hp} {s : Shared} {a : Addr} {kvs : List (Key × V)} {A : Around} {E : Value → Shared → Prop}
end
section
variable {X : Cx} {pins : List (Addr × Obj)} {σ : St} {H : Hp} {s : Shared} {a : Addr} {y : V} {u : Value} {A : Around} {E : Value → Shared → Prop}
end
section
variable {prog : Program} {w : World} {A : Around} {E : Value → Shared → Prop}
end
section
variable {X : Cx}
end
section
variable {X : Cx} {pins : List (Addr × Obj)} {σ : St} {H : Hp} {s : Shared} {h' : Heap}
end
section
variable {X : Cx}
theorem pi_one {tg : Expr} {pins : List (Addr × Obj)} {σ : St} {H : Hp} {s : Shared} {R : It → Hp → Prop} {J : It} {tn : Nat → Heap → Prop} {tk : Nat} (I : Inv X pins σ H s) (o : Obj)
  (T : Turn X.prog X.w X.K tg J [s.heap.objs.size] s.heap.objs.size tn) (st : tn 0 (s.heap.push o)) (q : R J H) : PIE X pins σ tg R (.ref s.heap.objs.size) { s with heap := s.heap.push o, toks := tk } := by
 refine ⟨s.heap.objs.size, [s.heap.objs.size], tn, J, H, rfl, I.kept fun b ob e => Heap.get?_push_of_some _ e, T, st, fun b hb => ?_, q⟩
 have e : b = s.heap.objs.size := by simpa using hb
 subst e
 exact I.fpOk (Nat.le_refl _) (I.hok.fresh (Nat.le_refl _))
end
def RgC (i j c : Int) (n : Nat) : Prop := c ≠ 0 ∧ c.natAbs < 1073741824 ∧ Builtin.Range.small i j c = true ∧ Builtin.Range.rangeSize i j c = n
theorem RgC.neg {i j : Int} (ha : -(2 ^ 62) ≤ i) (ha' : i < 2 ^ 62) (hb : -(2 ^ 62) ≤ j) (hb' : j < 2 ^ 62) : RgC i j (-1) (i - j).toNat :=
 ⟨by decide, by decide, PySem.W.small_down ha ha' hb hb', PySem.W.rangeSize_downNat i j⟩
section
variable {X : Cx} {tg : Expr}
end
section
variable {X : Cx} {tg : Expr}
end
def Its (x : Str) : It := ⟨fun i _ => i < x.cps.size, fun i H v H' => H' = H ∧ ∃ c, x.cps[i]? = some c ∧ v = .str ⟨#[c]⟩, fun i _ => x.cps.size ≤ i⟩
theorem turn_str {P : Program} {w : World} {K : PySem.W.Frag} {tg : Expr} (it : Addr) (x : Str) (t : Tok) (ty : String) (hty : ty = "str_ascii_iterator" ∨ ty = "str_iterator") :
  Turn P w K tg (Its x) [it] it (fun i h => h.IsStrIter it ty x t i) where
 mem := by simp
 obj := fun i h st b hb => by
  have e : b = it := by simpa using hb
  subst e
  obtain ⟨o, e, c, d⟩ := st
  exact ⟨o, e, fun v z => by rw [d] at z; cases z⟩
 keep := fun i h h' st k => let ⟨o, ho, r⟩ := st; ⟨o, k it (by simp) o ho, r⟩
 item := by
  intro X hP hw hK hc i pins s σ H E I hf st hg
  subst hP hw hK
  obtain ⟨f0, f1, f2, f3, f4, f5⟩ := hf it (by simp)
  have W : Walks X.prog X.w X.A it [it] [it] x.cps.size (SignAt x) (fun i h => h.IsStrIter it ty x t i) := by
   rcases hty with e | e
   ·rw [e]; exact Walks.strAscii (I.ok.hd hc) it x t
   ·rw [e]; exact Walks.strWide (I.ok.hd hc) it x t
  have hno : ["enumerate", "zip", "dict_itemiterator", "dict_reverseitemiterator", "odict_iterator", "itertools.zip_longest", "itertools.pairwise"].contains ty = false := by
   rcases hty with e | e
   ·rw [e]; decide
   ·rw [e]; decide
  refine W.item i s _ _ hg st fun v h' tk hv st' kk => ?_
  obtain ⟨c, u, hcx, rfl⟩ := hv
  have I1 : Inv X pins σ H { s with heap := h', toks := tk } := I.turned (fun b o hb e => kk b o (by simpa using hb) e) f0 f1 f3 f4 f5
  obtain ⟨oi, e, cc, dd⟩ := id st'
  exact ⟨_, rfl, go_of (s := { s with heap := h', toks := tk }) e cc dd hno ⟨.str ⟨#[c]⟩, H, I1, ⟨u, rfl⟩, ⟨rfl, c, hcx, rfl⟩, st', fun b hb => (hf b hb).1⟩⟩
 done := by
  intro X hP hw hK hc i pins s σ H E I hf st hg
  subst hP hw hK
  obtain ⟨f0, f1, f2, f3, f4, f5⟩ := hf it (by simp)
  have hx : x.cps[i]? = none := Array.getElem?_eq_none hg
  rcases hty with e | e
  ·rw [e] at st
   exact wpAny_pyNext_ascii_end (I.ok.hd hc) st hx fun h' eb => ⟨rfl, I.turned (t' := s.toks) (fun b o hb e => eb b o hb e) f0 f1 f3 f4 f5⟩
  ·rw [e] at st
   exact wpAny_pyNext_wide_end (I.ok.hd hc) st hx fun h' eb => ⟨rfl, I.turned (t' := s.toks) (fun b o hb e => eb b o hb e) f0 f1 f3 f4 f5⟩
 self := fun A i s Q E st h => by
  rcases hty with e | e
  ·rw [e] at st; exact wpAny_pyIter_striter_ascii st h
  ·rw [e] at st; exact wpAny_pyIter_striter_wide st h
def iStr (te : TE) : TI := fun σ H R => te σ H fun v H1 => ∃ x, v = .str x ∧ R (Its x) H1
theorem pi_str {X : Cx} {tg e : Expr} {te : TE} (he : PE X e te) : PI X tg e (iStr te) := by
 intro pins s σ H R I h
 refine thn (he pins s σ H _ I h) fun v s1 ⟨y, H1, I1, r1, x, ex, q⟩ => ?_
 subst ex
 obtain ⟨t, rfl⟩ := r1
 cases ha : x.cps.all (· < 128)
 ·exact wpAny_pyIter_wide ha (pi_one (tk := s1.toks) I1 _ (turn_str _ x t "str_iterator" (.inr rfl)) ⟨_, Heap.get?_push_size _ rfl, rfl, rfl⟩ q)
 ·exact wpAny_pyIter_ascii ha (pi_one (tk := s1.toks) I1 _ (turn_str _ x t "str_ascii_iterator" (.inl rfl)) ⟨_, Heap.get?_push_size _ rfl, rfl, rfl⟩ q)
section
variable {prog : Program} {w : World} {A : Around} {E : Value → Shared → Prop} {s : Shared}
end
section
variable {X : Cx} {pins : List (Addr × Obj)} {σ : St} {H : Hp} {s : Shared} {d : Addr} {o : Obj}
end
section
variable {P : Program} {w : World} {K : PySem.W.Frag} {tg : Expr} {d : Addr} {o : Obj} {es : Array DictEntry} {ep : Nat}
end
section
variable {X : Cx} {tg e : Expr} {td : TE} {apos cpos : Pos}
end
end L2
section
namespace Bits
open PySem PyProof.Rows
end Bits
end
section
namespace TL
open PySem PySem.Builtin PySem.Builtin.Str PySem.StrLaws
abbrev tl (x : Str) : List Nat := x.cps.toList
theorem len_tl (x : Str) : x.length = (tl x).length := by simp [tl, Str.length]
def pre (S l : List Nat) : Bool := l.take S.length == S
def par (S : List Nat) : List Nat → List Nat → Option (List Nat × List Nat)
 | _, [] => none
 | acc, c :: r => if pre S (c :: r) = true then some (acc, (c :: r).drop S.length) else par S (acc ++ [c]) r
theorem len1 {y : Str} (hy : tl y ≠ []) : 1 ≤ y.length := by
 have e2 : 0 < (tl y).length := List.length_pos_iff.mpr hy
 rw [len_tl y]
 exact e2
theorem kind_ok {x y : Str} (h : y.cps.all (· < 256) = true) : ¬ Builtin.Str.strKind x < Builtin.Str.strKind y := by
 have e : Builtin.Str.strKind y = 1 := by unfold PySem.Builtin.Str.strKind; rw [if_pos h]
 rw [e]
 unfold PySem.Builtin.Str.strKind
 split
 ·omega
 ·split <;> omega
end TL
end
namespace L2
open PySem PySem.Spec PyProof.Rows
section
variable {X : Cx} {pins : List (Addr × Obj)} {σ : St} {H : Hp} {s : Shared} {Q : VK}
end
section
variable {X : Cx}
end
section
variable {X : Cx} {o e : Expr} {to te : TE}
end
section
variable {X : Cx}
end
theorem IsPart.raw {v : Value} {o : Option Int} (p : IsPart v o) : ∃ l : Option (Int × Tok), v = partValue l ∧ l.map (·.1) = o := by
 cases p with
 | none => exact ⟨none, rfl, rfl⟩
 | int i t => exact ⟨some (i, t), rfl, rfl⟩
end L2
namespace Att
open PySem PySem.W PySem.Calls PyProof.Rows
section
variable {prog : Program} {w : World} {A : Around} {E : Value → Shared → Prop} {s : Shared} {K : Frag}
end
end Att
namespace L2
open PySem PySem.Spec PyProof.Rows
def inClass (s : Stmt) (j : Nat) : Stmt := match s with
 | .ClassDef _ _ _ body _ _ _ _ _ _ _ => body.getD j (.Pass ⟨0, 0, 0, 0⟩)
 | _ => .Pass ⟨0, 0, 0, 0⟩
def defArgs (s : Stmt) : Arguments := match s with
 | .FunctionDef _ a _ _ _ _ _ _ _ _ => a
 | _ => { posonlyargs := [], args := [], vararg := none, kwonlyargs := [], kw_defaults := [], kwarg := none, defaults := [] }
def defBody (s : Stmt) : List Stmt := match s with
 | .FunctionDef _ _ b _ _ _ _ _ _ _ => b
 | _ => []
def defScope (s : Stmt) : Scope := match s with
 | .FunctionDef _ _ _ _ _ _ sc _ _ _ => sc
 | _ => { kind := .function, names := [], isGenerator := false, isCoroutine := false }
abbrev CX0 : CXT := fun _ _ _ _ _ _ => False
abbrev E0 : XK := fun _ _ _ => False
theorem pass0 {X : Cx} : Passes CX0 X E0 := fun _ _ _ _ _ _ _ h => h.elim
structure Fun (K : PySem.W.Frag) (x qual : Str) (st : Stmt) (f : Addr) (fd : FuncData) : Prop where
 ex : ∃ (oc : Value) (od : Option Addr) (kV doc pm : Value) (an : Option Addr) (cdv ct : Value) (osl : Array (Option Value)),
  fd = PySem.W.fnOf x qual (defArgs st) (defBody st) (defScope st) .none kV doc pm an cdv ct ∧ K.lookup f = some ⟨oc, od, .func fd, osl⟩ ∧ PySem.W.codeIn K cdv qual = true
 kp : PySem.W.keepIn K (.ref f) = true
section
variable {P : Program} {w : World} {K : PySem.W.Frag} {mg : Str → Option Value} {base : Heap}
theorem Fun.ok {x qual : Str} {st : Stmt} {f : Addr} {fd : FuncData} {N ps : List Str} {k : Nat} {sp : Sp} (F : Fun K x qual st f fd) (S : FnScope N ps (defScope st)) (len : ∀ vs H Q E, sp vs H Q E → vs.length = ps.length)
  (hbody : ∀ (cdv : Value) (A : Around) (outer : List Env) (s : Shared) (H : Hp) (vs : List V) (Q : VK) (E : XK), Room k (A.deeper (envOfC qual (defScope st) s.heap.objs.size f cdv)) → sp vs H Q E →
   ∃ t, PSs (cxOf CX0 P w K mg base N qual (defScope st) f cdv A outer s H E).nox (defBody st) t ∧ t { nx := fun _ H' => Q .non H', rt := Q } (start N vs) H) : FnOk P w K mg base CX0 (k + 1) f fd ps sp := by
 obtain ⟨oc, od, kV, doc, pm, an, cdv, ct, osl, rfl, lk, hcd⟩ := F.ex
 refine fn_of lk hcd S len fun A outer s H vs Q E hr hsp => ?_
 obtain ⟨t, h, q⟩ := hbody cdv A outer s H vs Q E hr hsp
 exact ⟨t, h.nox, q⟩
theorem Fun.binds {x qual : Str} {st : Stmt} {f : Addr} {fd : FuncData} {ps : List Str} (F : Fun K x qual st f fd)
  (h : ∀ (kV doc pm : Value) (an : Option Addr) (cdv ct : Value) (us : List Value), us.length = ps.length → bindArgs (PySem.W.fnOf x qual (defArgs st) (defBody st) (defScope st) .none kV doc pm an cdv ct) ⟨us, []⟩ = pure (ps.zip us)) : Binds K fd ps [] := by
 obtain ⟨oc, od, kV, doc, pm, an, cdv, ct, osl, rfl, lk, hcd⟩ := F.ex
 exact .all (h kV doc pm an cdv ct)
theorem fun_mk {x qual : Str} {st : Stmt} {f : Addr} {oc : Value} {od an : Option Addr} {osl : Array (Option Value)} {kV doc pm cdv ct : Value} (l : K.lookup f = some ⟨oc, od, .func (PySem.W.fnOf x qual (defArgs st) (defBody st) (defScope st) .none kV doc pm an cdv ct), osl⟩)
  (c : PySem.W.codeIn K cdv qual = true) (k : PySem.W.keepIn K (.ref f) = true) : Fun K x qual st f (PySem.W.fnOf x qual (defArgs st) (defBody st) (defScope st) .none kV doc pm an cdv ct) := ⟨⟨oc, od, kV, doc, pm, an, cdv, ct, osl, rfl, l, c⟩, k⟩
end
theorem hu_of {A : Around} {k : Nat} (hr : Room k A) : A.units + 1 < cLine := Nat.lt_of_le_of_lt (Nat.add_le_add_left (by decide : 1 ≤ 64) _) hr.units
section
variable {X : Cx}
theorem pv (i : Nat) {x : Str} {pos : Pos} (hN : X.N[i]? = some x := by rfl) (hv : Vis X.env.scope x := by first | exact Or.inl rfl | exact Or.inr (Or.inl rfl) | exact Or.inr (Or.inr rfl)) (hd : (x == ("__debug__" : Str)) = false := by decide)
  (hcd : (x == ("__classdict__" : Str)) = false := by decide) : PE X (.Name x pos) (tVar i) := pe_var hN hv hd hcd
end
def Same (H H' : Hp) : Prop := ∀ b o, H b = some o → H' b = some o
theorem Same.refl (H : Hp) : Same H H := fun _ _ h => h
theorem Same.trans {H H1 H2 : Hp} (a : Same H H1) (b : Same H1 H2) : Same H H2 := fun c o h => b c o (a c o h)
theorem Same.free {H H' : Hp} (e : Same H H') {l : Addr} (h : H' l = Option.none) : H l = Option.none := by
 cases q : H l with
 | none => rfl
 | some o =>
  rw [e l o q] at h
  cases h
theorem Same.seq {K : PySem.W.Frag} {H H' : Hp} {a : Addr} {xs : List V} (e : Same H H') (h : SqL K H a xs) : SqL K H' a xs := by
 rcases h with (h | ⟨o, h⟩) | h
 ·exact .inl (.inl (e _ _ h))
 ·exact .inl (.inr ⟨o, e _ _ h⟩)
 ·exact .inr h
section
variable {κ : Type} [DecidableEq κ]
end
theorem at_of {xs : List V} {z : Int} {j : Nat} {v : V} (e : z = (j : Int)) (h : xs[j]? = some v) : atI xs z = some v := by
 rw [e]
 exact atI_nat h
theorem Same.made {H H1 : Hp} {x dx C : Addr} (nx : H x = Option.none) (nd : H dx = Option.none) (k : ∀ b o, (upd (upd H dx (.own x)) x (.ins C dx [])) b = some o → b ≠ x → H1 b = some o) : Same H H1 := fun b o e =>
 k b o (by rw [upd_ne (ne_of_none e nx), upd_ne (ne_of_none e nd)]; exact e) (ne_of_none e nx)
end L2
end
section
section
namespace L2
open PySem PySem.Spec PyProof.Rows
open PySem.W (WData Codec OpenSpec Well WellAll ReadsW ReadsAllW)
mutual
inductive Dw (K : PySem.W.Frag) (H : Hp) : V → WData → Prop
 | non : Dw K H .non .none
 | bl (b : Bool) : Dw K H (.bl b) (.bool b)
 | int (i : Int) : Dw K H (.int i) (.int i)
 | str (x : Str) : Dw K H (.str x) (.str x)
 | byt (b : Array UInt8) : Dw K H (.byt b) (.bytes b.toList)
 | lst {a : Addr} {xs : List V} {ds : List WData} : SqL K H a xs → DwAll K H xs ds → Dw K H (.ref a) (.list ds)
 | tup {a : Addr} {xs : List V} {ds : List WData} : SqT K H a xs → DwAll K H xs ds → Dw K H (.ref a) (.tuple ds)
inductive DwAll (K : PySem.W.Frag) (H : Hp) : List V → List WData → Prop
 | nil : DwAll K H [] []
 | cons {v : V} {vs : List V} {d : WData} {ds : List WData} : Dw K H v d → DwAll K H vs ds → DwAll K H (v :: vs) (d :: ds)
end
theorem dw_ints {K : PySem.W.Frag} {H : Hp} : ∀ ns : List Int, DwAll K H (ns.map V.int) (ns.map WData.int)
 | [] => .nil
 | n :: r => .cons (.int n) (dw_ints r)
theorem ints_dw {K : PySem.W.Frag} {H : Hp} : ∀ (ns : List Int) (xs : List V), DwAll K H xs (ns.map WData.int) → xs = ns.map V.int
 | [], xs, h => by
  cases h
  rfl
 | n :: r, xs, h => by
  cases h with
  | cons h1 h2 =>
   cases h1
   rw [ints_dw r _ h2] <;> rfl
section
variable {P : Program} {w : World} {K : PySem.W.Frag} {H : Hp} {h : Heap} {R : PySem.W.WRecords} {cl : Str → Option Addr}
theorem sqL_at {a : Addr} {xs : List V} (hok : HOk P w H h) (KX : K.In h) (q : SqL K H a xs) : ∃ (its : List Value) (o : Obj) (n : Nat), Vals xs its ∧ h.get? a = some o ∧ o.cls = .type "list" ∧ o.data = .seq its.toArray n := by
 rcases q with q | ⟨o, its, n, e, hc, _, hd, _, hv⟩
 ·obtain ⟨_, its, n, hv, e⟩ := (show ObjOk P w H h a (.lst xs) from q.ok hok)
  exact ⟨its, _, n, hv, e, rfl, rfl⟩
 ·exact ⟨its.toList, o, n, hv, KX _ _ e, hc, by simp [hd]⟩
theorem sqT_at {a : Addr} {xs : List V} (hok : HOk P w H h) (KX : K.In h) (q : SqT K H a xs) : ∃ (its : List Value) (o : Obj) (n : Nat), Vals xs its ∧ h.get? a = some o ∧ o.cls = .type "tuple" ∧ o.data = .seq its.toArray n := by
 rcases q with q | ⟨o, its, n, e, hc, hd, _, hv⟩
 ·obtain ⟨_, its, hv, o, e, hc, n, hd⟩ := (show ObjOk P w H h a (.tup xs) from q.ok hok)
  exact ⟨its, o, n, hv, e, hc, hd⟩
 ·exact ⟨its.toList, o, n, hv, KX _ _ e, hc, by simp [hd]⟩
mutual
theorem Dw.reads (hok : HOk P w H h) (KX : K.In h) : ∀ (d : WData) (v : V) (u : Value), Dw K H v d → RelV v u → ∃ as, ReadsW R cl h u d as
 | .none, _, _, x, r => by
  cases x
  cases r
  exact ⟨_, ReadsW.none⟩
 | .bool b, _, _, x, r => by
  cases x
  cases r
  exact ⟨_, ReadsW.bool b⟩
 | .int i, _, _, x, r => by
  cases x
  obtain ⟨t, rfl⟩ := r
  exact ⟨_, ReadsW.int i t⟩
 | .str s, _, _, x, r => by
  cases x
  obtain ⟨t, rfl⟩ := r
  exact ⟨_, ReadsW.str s t⟩
 | .bytes b, _, _, x, r => by
  cases x
  obtain ⟨t, rfl⟩ := r
  exact ⟨_, ReadsW.bytes _ t⟩
 | .list ds, _, _, x, r => by
  cases x with
  | lst hs ha =>
   cases r
   obtain ⟨its, o, n, rv, ho, hc, hd⟩ := sqL_at hok KX hs
   obtain ⟨as, hr⟩ := Dw.readsAll hok KX ds _ its ha rv
   exact ⟨_, ReadsW.list ho hc hd hr⟩
 | .tuple ds, _, _, x, r => by
  cases x with
  | tup hs ha =>
   cases r
   obtain ⟨its, o, n, rv, ho, hc, hd⟩ := sqT_at hok KX hs
   obtain ⟨as, hr⟩ := Dw.readsAll hok KX ds _ its ha rv
   exact ⟨_, ReadsW.tuple ho hc hd hr⟩
 | .float _, _, _, x, _ => by cases x
 | .dict _, _, _, x, _ => by cases x
 | .bytearray _, _, _, x, _ => by cases x
 | .set _, _, _, x, _ => by cases x
 | .frozenset _, _, _, x, _ => by cases x
 | .obj _ _, _, _, x, _ => by cases x
theorem Dw.readsAll (hok : HOk P w H h) (KX : K.In h) : ∀ (ds : List WData) (vs : List V) (us : List Value), DwAll K H vs ds → Vals vs us → ∃ as, ReadsAllW R cl h us ds as
 | [], _, _, x, r => by
  cases x
  cases r
  exact ⟨_, ReadsAllW.nil⟩
 | d :: ds, _, _, x, r => by
  cases x with
  | cons h1 h2 =>
   cases r with
   | cons r1 r2 =>
    obtain ⟨as, q1⟩ := Dw.reads hok KX d _ _ h1 r1
    obtain ⟨bs, q2⟩ := Dw.readsAll hok KX ds _ _ h2 r2
    exact ⟨_, ReadsAllW.cons q1 q2⟩
end
end
mutual
def plW : WData → Bool
 | .none => true
 | .bool _ => true
 | .int _ => true
 | .str _ => true
 | .bytes _ => true
 | .list xs => plWs xs
 | .tuple xs => plWs xs
 | _ => false
def plWs : List WData → Bool
 | [] => true
 | x :: r => plW x && plWs r
end
theorem plWs_map {α : Type} {f : α → WData} (h : ∀ a, plW (f a) = true) : ∀ l : List α, plWs (l.map f) = true
 | [] => rfl
 | x :: r => by
  show (plW (f x) && plWs (r.map f)) = true
  rw [h x, plWs_map h r] <;> rfl
theorem pl_enc : ∀ (c : Codec) (a : c.denote), plW (c.enc a) = true
 | .unit, _ => rfl
 | .bool, _ => rfl
 | .int _ _, _ => rfl
 | .nat _ _, _ => rfl
 | .u8, _ => rfl
 | .bytes _ _, _ => rfl
 | .text _ _ _ _, _ => rfl
 | .list _ _ c, a => plWs_map (fun x => pl_enc c x) a
 | .pair c d, a => by
  show (plW (c.enc a.1) && (plW (d.enc a.2) && true)) = true
  rw [pl_enc c a.1, pl_enc d a.2] <;> rfl
 | .triple c d e, a => by
  show (plW (c.enc a.1) && (plW (d.enc a.2.1) && (plW (e.enc a.2.2) && true))) = true
  rw [pl_enc c a.1, pl_enc d a.2.1, pl_enc e a.2.2] <;> rfl
 | .option c, none => rfl
 | .option c, some x => pl_enc c x
theorem pl_encAll : ∀ (cs : List Codec) (a : Codec.denoteAll cs), plWs (Codec.encAll cs a) = true
 | [], _ => rfl
 | c :: cs, a => by
  show (plW (c.enc a.1) && plWs (Codec.encAll cs a.2)) = true
  rw [pl_enc c a.1, pl_encAll cs a.2] <;> rfl
theorem weight_mem : ∀ {xs : List WData} {d : WData}, d ∈ xs → d.weight ≤ WData.weightAll xs
 | [], d, h => absurd h (by simp)
 | x :: r, d, h => by
  show d.weight ≤ x.weight + 1 + WData.weightAll r
  rcases List.mem_cons.mp h with e | m
  ·rw [e]
   omega
  ·have z := weight_mem m
   omega
def toV : Value → V
 | .none => .non
 | .bool b => .bl b
 | .int i _ => .int i
 | .str x _ => .str x
 | .bytes b _ => .byt b
 | .ref a => .ref a
 | _ => .non
def OkU (A : List Addr) : Value → Prop
 | .none => True
 | .bool _ => True
 | .int _ _ => True
 | .str _ _ => True
 | .bytes _ _ => True
 | .ref a => a ∈ A
 | _ => False
theorem OkU.mono {A B : List Addr} (h : ∀ a ∈ A, a ∈ B) : ∀ {u : Value}, OkU A u → OkU B u := fun {u} x => by
 cases u with
 | ref a => exact h a x
 | none => trivial
 | bool b => trivial
 | int i t => trivial
 | str s t => trivial
 | bytes b t => trivial
 | _ => exact False.elim x
theorem relV_toV {A : List Addr} {u : Value} (x : OkU A u) : RelV (toV u) u := by
 cases u with
 | ref a => rfl
 | none => rfl
 | bool b => rfl
 | int i t => exact ⟨t, rfl⟩
 | str s t => exact ⟨t, rfl⟩
 | bytes b t => exact ⟨t, rfl⟩
 | _ => exact False.elim x
theorem vals_toV {A : List Addr} : ∀ {vs : List Value}, (∀ u ∈ vs, OkU A u) → Vals (vs.map toV) vs
 | [], _ => .nil
 | u :: r, h => .cons (relV_toV (h u (List.mem_cons_self ..))) (vals_toV fun x hx => h x (List.mem_cons_of_mem _ hx))
def ArgOb (h : Heap) (A : List Addr) (a : Addr) : Prop := ∃ vs : List Value, vs.length ≤ sizeLine ∧ (∀ u ∈ vs, OkU A u) ∧
 (h.get? a = some { cls := .type "list", data := .seq vs.toArray } ∨ h.get? a = some { cls := .type "tuple", data := .seq vs.toArray })
theorem ArgOb.mono {h : Heap} {A B : List Addr} {a : Addr} (k : ∀ a ∈ A, a ∈ B) (x : ArgOb h A a) : ArgOb h B a := by
 obtain ⟨vs, h1, h2, h3⟩ := x
 exact ⟨vs, h1, fun u hu => (h2 u hu).mono k, h3⟩
theorem wellAll_len {P : Params} {h : Heap} : ∀ {vs : List Value} {ds : List WData}, WellAll P h vs ds → vs.length = ds.length
 | _, _, .nil => rfl
 | _, _, .cons _ b => by
  show _ + 1 = _ + 1
  rw [wellAll_len b]
theorem well_list {P : Params} {h : Heap} {v : Value} {ds : List WData} (x : Well P h v (.list ds)) : ∃ (a : Addr) (vs : List Value), v = .ref a ∧ h.get? a = some { cls := .type "list", data := .seq vs.toArray } ∧ WellAll P h vs ds := by
 cases x with
 | list ho hall => exact ⟨_, _, rfl, ho, hall⟩
theorem well_tuple {P : Params} {h : Heap} {v : Value} {ds : List WData} (x : Well P h v (.tuple ds)) : ∃ (a : Addr) (vs : List Value), v = .ref a ∧ h.get? a = some { cls := .type "tuple", data := .seq vs.toArray } ∧ WellAll P h vs ds := by
 cases x with
 | tuple ho hall => exact ⟨_, _, rfl, ho, hall⟩
theorem well_cons {P : Params} {h : Heap} {us : List Value} {d : WData} {ds : List WData} (x : WellAll P h us (d :: ds)) : ∃ (v : Value) (vs : List Value), us = v :: vs ∧ Well P h v d ∧ WellAll P h vs ds := by
 cases x with
 | cons a b => exact ⟨_, _, rfl, a, b⟩
theorem line_of {n : Nat} (h : n ≤ 1048576) : n ≤ sizeLine := Nat.le_trans h (by decide)
section
variable {P : Params} {h : Heap}
mutual
theorem area_one : ∀ (d : WData) (v : Value), Well P h v d → plW d = true → d.weight ≤ 1048576 → ∃ A : List Addr, OkU A v ∧ ∀ a ∈ A, ArgOb h A a
 | .none, _, x, _, _ => by
  cases x
  exact ⟨[], trivial, fun a m => absurd m (by simp)⟩
 | .bool b, _, x, _, _ => by
  cases x
  exact ⟨[], trivial, fun a m => absurd m (by simp)⟩
 | .int i, _, x, _, _ => by
  cases x
  exact ⟨[], trivial, fun a m => absurd m (by simp)⟩
 | .str s, _, x, _, _ => by
  cases x
  exact ⟨[], trivial, fun a m => absurd m (by simp)⟩
 | .bytes b, _, x, _, _ => by
  cases x
  exact ⟨[], trivial, fun a m => absurd m (by simp)⟩
 | .list ds, _, x, p, z => by
  obtain ⟨a, vs, rfl, ho, hall⟩ := well_list x
  have z2 : WData.weightAll ds ≤ 1048576 := z
  obtain ⟨A, h1, h2⟩ := area_all ds _ hall p fun d hd => Nat.le_trans (weight_mem hd) z2
  have k : ∀ b ∈ A, b ∈ a :: A := fun b hb => List.mem_cons_of_mem _ hb
  refine ⟨a :: A, List.mem_cons_self .., fun b hb => ?_⟩
  rcases List.mem_cons.mp hb with e | m
  ·rw [e]
   exact ⟨vs, line_of (by rw [wellAll_len hall]; exact Nat.le_trans (PySem.W.length_le_weightAllW ds) z2), fun u hu => (h1 u hu).mono k, .inl ho⟩
  ·exact (h2 b m).mono k
 | .tuple ds, _, x, p, z => by
  obtain ⟨a, vs, rfl, ho, hall⟩ := well_tuple x
  have z2 : WData.weightAll ds ≤ 1048576 := z
  obtain ⟨A, h1, h2⟩ := area_all ds _ hall p fun d hd => Nat.le_trans (weight_mem hd) z2
  have k : ∀ b ∈ A, b ∈ a :: A := fun b hb => List.mem_cons_of_mem _ hb
  refine ⟨a :: A, List.mem_cons_self .., fun b hb => ?_⟩
  rcases List.mem_cons.mp hb with e | m
  ·rw [e]
   exact ⟨vs, line_of (by rw [wellAll_len hall]; exact Nat.le_trans (PySem.W.length_le_weightAllW ds) z2), fun u hu => (h1 u hu).mono k, .inr ho⟩
  ·exact (h2 b m).mono k
 | .float _, _, _, p, _ => Bool.noConfusion (show false = true from p)
 | .dict _, _, _, p, _ => Bool.noConfusion (show false = true from p)
 | .bytearray _, _, _, p, _ => Bool.noConfusion (show false = true from p)
 | .set _, _, _, p, _ => Bool.noConfusion (show false = true from p)
 | .frozenset _, _, _, p, _ => Bool.noConfusion (show false = true from p)
 | .obj _ _, _, _, p, _ => Bool.noConfusion (show false = true from p)
theorem area_all : ∀ (ds : List WData) (vs : List Value), WellAll P h vs ds → plWs ds = true → (∀ d ∈ ds, d.weight ≤ 1048576) → ∃ A : List Addr, (∀ u ∈ vs, OkU A u) ∧ ∀ a ∈ A, ArgOb h A a
 | [], _, x, _, _ => by
  cases x
  exact ⟨[], fun u m => absurd m (by simp), fun a m => absurd m (by simp)⟩
 | d :: ds, _, x, p, z => by
  obtain ⟨v, vs, rfl, x1, x2⟩ := well_cons x
  have q : plW d = true ∧ plWs ds = true := Bool.and_eq_true_iff.mp p
  obtain ⟨A, a1, a2⟩ := area_one d v x1 q.1 (z d (List.mem_cons_self ..))
  obtain ⟨B, b1, b2⟩ := area_all ds vs x2 q.2 fun e he => z e (List.mem_cons_of_mem _ he)
  have kA : ∀ b ∈ A, b ∈ A ++ B := fun b hb => List.mem_append.mpr (.inl hb)
  have kB : ∀ b ∈ B, b ∈ A ++ B := fun b hb => List.mem_append.mpr (.inr hb)
  refine ⟨A ++ B, fun u hu => ?_, fun b hb => ?_⟩
  ·rcases List.mem_cons.mp hu with e | m
   ·rw [e]
    exact a1.mono kA
   ·exact (b1 u m).mono kB
  ·rcases List.mem_append.mp hb with m | m
   ·exact (a2 b m).mono kA
   ·exact (b2 b m).mono kB
end
end
def hoOf (o : Obj) : Option HO := match o.data with
 | .seq vs _ => if (o.cls == Value.type "list") = true then some (.frz o (.lst (vs.toList.map toV))) else some (.frz o (.tup (vs.toList.map toV)))
 | _ => none
def argH (K : PySem.W.Frag) (h : Heap) (A : List Addr) : Hp := fun b => if b ∈ A then (if (K.lookup b).isNone = true then (h.get? b).bind hoOf else none) else none
def OnlyF (H : Hp) : Prop := ∀ b, H b = none ∨ ∃ o u, H b = some (.frz o u)
theorem hoOf_lst (vs : List Value) : hoOf { cls := .type "list", data := .seq vs.toArray } = some (.frz { cls := .type "list", data := .seq vs.toArray } (.lst (vs.map toV))) := by
 show (if (Value.type "list" == Value.type "list") = true then some (HO.frz { cls := .type "list", data := .seq vs.toArray } (.lst (vs.toArray.toList.map toV))) else some (HO.frz { cls := .type "list", data := .seq vs.toArray } (.tup (vs.toArray.toList.map toV)))) = _
 rw [if_pos (beq_self_eq_true _)]
theorem hoOf_tup (vs : List Value) : hoOf { cls := .type "tuple", data := .seq vs.toArray } = some (.frz { cls := .type "tuple", data := .seq vs.toArray } (.tup (vs.map toV))) := by
 show (if (Value.type "tuple" == Value.type "list") = true then some (HO.frz { cls := .type "tuple", data := .seq vs.toArray } (.lst (vs.toArray.toList.map toV))) else some (HO.frz { cls := .type "tuple", data := .seq vs.toArray } (.tup (vs.toArray.toList.map toV)))) = _
 rw [if_neg (by decide)]
section
variable {P : Program} {w : World} {K : PySem.W.Frag} {h : Heap} {A : List Addr}
theorem argH_at {b : Addr} {o : Obj} (hb : b ∈ A) (hk : K.lookup b = none) (e : h.get? b = some o) : argH K h A b = hoOf o := by
 unfold argH
 rw [if_pos hb, hk, if_pos (show (none : Option Obj).isNone = true from rfl), e] <;> rfl
theorem of_argH {b : Addr} {u : HO} (q : argH K h A b = some u) : b ∈ A ∧ K.lookup b = none := by
 unfold argH at q
 by_cases hb : b ∈ A
 ·rw [if_pos hb] at q
  cases hk : K.lookup b with
  | none => exact ⟨hb, rfl⟩
  | some o =>
   rw [hk, if_neg (by simp)] at q
   cases q
 ·rw [if_neg hb] at q
  cases q
theorem argH_is (ar : ∀ a ∈ A, ArgOb h A a) {b : Addr} {u : HO} (q : argH K h A b = some u) : K.lookup b = none ∧ ∃ vs : List Value, vs.length ≤ sizeLine ∧ (∀ u ∈ vs, OkU A u) ∧
  ((h.get? b = some { cls := .type "list", data := .seq vs.toArray } ∧ u = .frz { cls := .type "list", data := .seq vs.toArray } (.lst (vs.map toV))) ∨
   (h.get? b = some { cls := .type "tuple", data := .seq vs.toArray } ∧ u = .frz { cls := .type "tuple", data := .seq vs.toArray } (.tup (vs.map toV)))) := by
 obtain ⟨hb, hk⟩ := of_argH q
 obtain ⟨vs, h1, h2, h3⟩ := ar b hb
 refine ⟨hk, vs, h1, h2, ?_⟩
 rcases h3 with e | e
 ·rw [argH_at hb hk e, hoOf_lst] at q
  exact .inl ⟨e, (Option.some.inj q).symm⟩
 ·rw [argH_at hb hk e, hoOf_tup] at q
  exact .inr ⟨e, (Option.some.inj q).symm⟩
theorem argH_only (ar : ∀ a ∈ A, ArgOb h A a) : OnlyF (argH K h A) := fun b => by
 cases q : argH K h A b with
 | none => exact .inl rfl
 | some u =>
  obtain ⟨_, vs, _, _, ⟨_, e⟩ | ⟨_, e⟩⟩ := argH_is ar q
  ·exact .inr ⟨_, _, by rw [e]⟩
  ·exact .inr ⟨_, _, by rw [e]⟩
theorem argH_ok (ar : ∀ a ∈ A, ArgOb h A a) : HOk P w (argH K h A) h := fun b u q => by
 obtain ⟨_, vs, h1, h2, ⟨e, rfl⟩ | ⟨e, rfl⟩⟩ := argH_is ar q
 ·exact ⟨e, by rw [List.length_map]; exact h1, vs, _, vals_toV h2, e⟩
 ·exact ⟨e, by rw [List.length_map]; exact h1, vs, vals_toV h2, _, e, rfl, _, rfl⟩
theorem seq_inj {c c' : Value} {vs us : List Value} (e : (some { cls := c, data := .seq vs.toArray } : Option Obj) = some { cls := c', data := .seq us.toArray }) : c = c' ∧ vs = us := by
 have e1 := Option.some.inj e
 have e2 : c = c' := congrArg Obj.cls e1
 have e3 : Data.seq vs.toArray = Data.seq us.toArray := congrArg Obj.data e1
 injection e3 with e4
 refine ⟨e2, ?_⟩
 have e5 := congrArg Array.toList e4
 simpa using e5
theorem argL (KX : K.In h) (ar : ∀ a ∈ A, ArgOb h A a) {a : Addr} {vs : List Value} (ha : a ∈ A) (e : h.get? a = some { cls := .type "list", data := .seq vs.toArray }) : (∀ u ∈ vs, OkU A u) ∧ SqL K (argH K h A) a (vs.map toV) := by
 obtain ⟨us, h1, h2, h3⟩ := ar a ha
 have hu : us = vs := by
  rcases h3 with q | q
  ·rw [e] at q
   exact (seq_inj q).2.symm
  ·rw [e] at q
   exact absurd (Value.type.inj (seq_inj q).1) (by decide)
 subst hu
 refine ⟨h2, ?_⟩
 cases hk : K.lookup a with
 | none => exact .inl (.inr ⟨_, by rw [argH_at ha hk e, hoOf_lst]⟩)
 | some o =>
  have e2 := KX a o hk
  rw [e] at e2
  obtain rfl := Option.some.inj e2
  exact .inr ⟨_, us.toArray, _, hk, rfl, rfl, rfl, by rw [List.size_toArray]; exact h1, by simpa using vals_toV h2⟩
theorem argT (KX : K.In h) (ar : ∀ a ∈ A, ArgOb h A a) {a : Addr} {vs : List Value} (ha : a ∈ A) (e : h.get? a = some { cls := .type "tuple", data := .seq vs.toArray }) : (∀ u ∈ vs, OkU A u) ∧ SqT K (argH K h A) a (vs.map toV) := by
 obtain ⟨us, h1, h2, h3⟩ := ar a ha
 have hu : us = vs := by
  rcases h3 with q | q
  ·rw [e] at q
   exact absurd (Value.type.inj (seq_inj q).1) (by decide)
  ·rw [e] at q
   exact (seq_inj q).2.symm
 subst hu
 refine ⟨h2, ?_⟩
 cases hk : K.lookup a with
 | none => exact .inl (.inr ⟨_, by rw [argH_at ha hk e, hoOf_tup]⟩)
 | some o =>
  have e2 := KX a o hk
  rw [e] at e2
  obtain rfl := Option.some.inj e2
  exact .inr ⟨_, us.toArray, _, hk, rfl, rfl, by rw [List.size_toArray]; exact h1, by simpa using vals_toV h2⟩
mutual
theorem dw_one {Pm : Params} (KX : K.In h) (ar : ∀ a ∈ A, ArgOb h A a) : ∀ (d : WData) (v : Value), Well Pm h v d → plW d = true → OkU A v → Dw K (argH K h A) (toV v) d
 | .none, _, x, _, _ => by
  cases x
  exact .non
 | .bool b, _, x, _, _ => by
  cases x
  exact .bl b
 | .int i, _, x, _, _ => by
  cases x
  exact .int i
 | .str s, _, x, _, _ => by
  cases x
  exact .str s
 | .bytes b, _, x, _, _ => by
  cases x
  have z := Dw.byt (K := K) (H := argH K h A) b.toArray
  exact z
 | .list ds, _, x, p, hu => by
  obtain ⟨a, vs, rfl, ho, hall⟩ := well_list x
  obtain ⟨h2, hs⟩ := argL KX ar hu ho
  exact .lst hs (dw_all KX ar ds _ hall p h2)
 | .tuple ds, _, x, p, hu => by
  obtain ⟨a, vs, rfl, ho, hall⟩ := well_tuple x
  obtain ⟨h2, hs⟩ := argT KX ar hu ho
  exact .tup hs (dw_all KX ar ds _ hall p h2)
 | .float _, _, _, p, _ => Bool.noConfusion (show false = true from p)
 | .dict _, _, _, p, _ => Bool.noConfusion (show false = true from p)
 | .bytearray _, _, _, p, _ => Bool.noConfusion (show false = true from p)
 | .set _, _, _, p, _ => Bool.noConfusion (show false = true from p)
 | .frozenset _, _, _, p, _ => Bool.noConfusion (show false = true from p)
 | .obj _ _, _, _, p, _ => Bool.noConfusion (show false = true from p)
theorem dw_all {Pm : Params} (KX : K.In h) (ar : ∀ a ∈ A, ArgOb h A a) : ∀ (ds : List WData) (vs : List Value), WellAll Pm h vs ds → plWs ds = true → (∀ u ∈ vs, OkU A u) → DwAll K (argH K h A) (vs.map toV) ds
 | [], _, x, _, _ => by
  cases x
  exact .nil
 | d :: ds, _, x, p, hu => by
  obtain ⟨v, vs, rfl, x1, x2⟩ := well_cons x
  have q : plW d = true ∧ plWs ds = true := Bool.and_eq_true_iff.mp p
  exact .cons (dw_one KX ar d v x1 q.1 (hu _ (List.mem_cons_self ..))) (dw_all KX ar ds vs x2 q.2 fun u m => hu u (List.mem_cons_of_mem _ m))
end
end
theorem spec_call {P : Program} {w : World} {K : PySem.W.Frag} {mg mb : Str → Option Value} {CX : CXT} {k : Nat} {fa : Addr} {fd : FuncData} {ps : List Str} {sp : Sp} {s₁ : Shared} {vals : List Value} {ds : List WData} {R : PySem.W.WRecords} {cl : Str → Option Addr} {d0 : WData}
  (KX : K.In s₁.heap) (hns : s₁.heap.Ns mainGlobals mg) (hb : s₁.heap.Ns builtinsNs mb) (hbb : ∀ x : Str, x ≠ "__name__" → mb x = bootBuiltins x) (hlim : s₁.heap.NoLimit) (hg : s₁.gens = #[])
  (hwl : WellAll w.params s₁.heap vals ds) (hpl : plWs ds = true) (hwt : ∀ d ∈ ds, d.weight ≤ 1048576) (hr : Room k callerA)
  (F : ∀ base : Heap, K.In base → base.Ns mainGlobals mg → FnOk P w K mg base CX k fa fd ps sp) (hbind : ∀ (s : Shared) (us : List Value), us.length = ps.length → BindsTo s fd ⟨us, []⟩ (ps.zip us)) (hlen : ds.length = ps.length)
  (hsp : ∀ (H : Hp) (xs : List V), OnlyF H → DwAll K H xs ds → sp xs H (fun v H' => Dw K H' v d0) fun _ _ _ => False)
  (hCX : ∀ H e s', CX [] H s₁ (fun _ _ _ => False) e s' → False) :
  codeAny (model P w) callerA (.call (.ref fa) ⟨vals, []⟩) (fun r s' => ∃ u as, r = .ok (.ret u) ∧ ReadsW R cl s'.heap u d0 as ∧ OldK s₁.heap s'.heap ∧ s'.os = s₁.os ∧ AllBare s'.gens) s₁ := by
 obtain ⟨A, ho, ar⟩ := area_all ds vals hwl hpl hwt
 have hO : OnlyF (argH K s₁.heap A) := argH_only ar
 have hok : HOk P w (argH K s₁.heap A) s₁.heap := argH_ok ar
 have hS := dw_all KX ar ds vals hwl hpl ho
 have hV := vals_toV ho
 have hK : ∀ b u, argH K s₁.heap A b = some u → K.lookup b = none := fun b u q => (argH_is ar q).1
 have noA : ∀ {b : Addr} {o : Obj} {es : Array DictEntry} {ep : Nat}, s₁.heap.get? b = some o → o.data = .dict es ep → argH K s₁.heap A b = none := fun {b o es ep} e d => by
  cases q : argH K s₁.heap A b with
  | none => rfl
  | some u =>
   obtain ⟨_, vs, _, _, ⟨e2, _⟩ | ⟨e2, _⟩⟩ := argH_is ar q
   ·rw [e2] at e
    cases e
    have d' : Data.seq vs.toArray _ = Data.dict es ep := d
    cases d'
   ·rw [e2] at e
    cases e
    have d' : Data.seq vs.toArray _ = Data.dict es ep := d
    cases d'
 generalize argH K s₁.heap A = H at hO hok hS hK noA
 have base_of : ∀ {b : Addr} {o : Obj}, s₁.heap.get? b = some o → H b = none → (hidT s₁.heap H).get? b = some o := fun e n => hidT_get e n
 have nsK : ∀ {b : Addr} {m : Str → Option Value}, s₁.heap.Ns b m → (hidT s₁.heap H).Ns b m := fun {b m} ⟨o, es, ep, e, d, r⟩ => ⟨o, es, ep, base_of e (noA e d), d, r⟩
 have nK : ∀ b o, K.lookup b = some o → H b = none := fun b o e => by
  cases q : H b with
  | none => rfl
  | some u =>
   rw [hK b u q] at e
   cases e
 have hKb : K.In (hidT s₁.heap H) := fun b o e => base_of (KX b o e) (nK b o e)
 have hM : Mod K mg (hidT s₁.heap H) := ⟨hKb, nsK hns, ⟨mb, nsK hb, hbb⟩, let ⟨mc, h1, h2⟩ := hlim; ⟨mc, nsK h1, h2⟩⟩
 have e0 : Env0 P w K mg (hidT s₁.heap H) callerA [] s₁ H := ⟨rfl, hM, fun b o e => of_hidT e, Nat.le_of_eq (hidT_size _ _), trivial, fun b hb => absurd (show b ∈ ([] : List Addr) from hb) (by simp), hok, .of_eq hg⟩
 have hl : vals.length = ps.length := by rw [wellAll_len hwl]; exact hlen
 refine codeAny_mono ((F _ hKb (nsK hns)).run callerA [] s₁ H ⟨vals, []⟩ vals (vals.map toV) _ _ hr e0 (hbind s₁ vals hl) hV (hsp H _ hO hS)) fun r s' x => ?_
 cases r with
 | error e => exact (hCX H e s' x).elim
 | ok fl =>
  cases fl with
  | next => exact False.elim x
  | brk => exact False.elim x
  | cont => exact False.elim x
  | ret u =>
   obtain ⟨v, H', os, bare, un, hok', r', q⟩ := x
   have kept : ∀ b o, s₁.heap.get? b = some o → s'.heap.get? b = some o := fun b o e => by
    cases q2 : H b with
    | none => exact un.keep b o e q2 (by intro z; exact absurd (show b ∈ ([] : List Addr) from z) (by simp)) (by simp)
    | some u2 =>
     rcases hO b with z | ⟨ob, u3, z⟩
     ·rw [q2] at z
      cases z
     ·have z2 := un.frzs b ob _ z
      obtain ⟨e1, _⟩ := hok b _ z
      obtain ⟨e2, _⟩ := hok' b _ z2
      rw [e] at e1
      cases e1
      exact e2
   have KX' : K.In s'.heap := fun b o e => kept b o (KX b o e)
   obtain ⟨as, hrd⟩ := Dw.reads (R := R) (cl := cl) hok' KX' d0 v u q r'
   exact ⟨u, as, rfl, hrd, OldK.of_keep kept, os, bare⟩
theorem layable_weight {ds : List WData} (h : WData.layableAll ds = true) : ∀ d ∈ ds, d.weight ≤ 1048576 := fun d hd =>
 (PySem.W.layableW_iff.mp (List.all_eq_true.mp h d hd)).2.2
theorem encAll_len : ∀ (cs : List Codec) (a : Codec.denoteAll cs), (Codec.encAll cs a).length = cs.length
 | [], _ => rfl
 | c :: cs, a => by
  show (Codec.encAll cs a.2).length + 1 = cs.length + 1
  rw [encAll_len cs a.2]
theorem walk_spec {r : OpenSpec} {k : Nat} {q : Program} {loose : List Str} {XP : (Str → Option Value) → Heap → Prop} {YP : World → Heap → Prop} {d : DefRec} {K : Params → PySem.W.Frag} {CX : World → CXT} {ps : List Str} {sp : World → Sp}
  (hwell : r.wellSaid = true) (hdf : d.params.defaults = []) (hlen : r.args.length = ps.length) (hr : Room k callerA)
  (hY : ∀ (w : World) (h : Heap), YP w h → (K w.params).In h)
  (F : ∀ (w : World) (mg : Str → Option Value) (fa : Addr) (h : Heap), YP w h → (K w.params).In h → h.Ns mainGlobals mg → mg d.name = some (.ref fa) →
   ∃ fd : FuncData, (∀ (s : Shared) (us : List Value), us.length = ps.length → BindsTo s fd ⟨us, []⟩ (ps.zip us)) ∧
    ∀ base : Heap, (K w.params).In base → base.Ns mainGlobals mg → FnOk r.prog w (K w.params) mg base (CX w) k fa fd ps (sp w))
  (hsp : ∀ (w : World) (H : Hp) (xs : List V) (a : Codec.denoteAll r.args), OnlyF H → Codec.withinAll r.args a = true → Codec.app r.args r.asked a = true → DwAll (K w.params) H xs (Codec.encAll r.args a) →
   sp w xs H (fun v H' => Dw (K w.params) H' v (r.ret.enc (Codec.app r.args r.f a))) fun _ _ _ => False)
  (hCX : ∀ (w : World) (H : Hp) (s : Shared) (e : Value) (s' : Shared), CX w [] H s (fun _ _ _ => False) e s' → False) :
  PySem.W.WalkOS q loose XP YP r d [] (fun f vs => PySem.call f vs) := by
 intro w s_0 s₁ mg mb G Y fa o pm cd doc dV kV ho hd hcd hD hmg hg args vals as hpre hlay hrd hwl hlo
 obtain ⟨a, e1, e2⟩ := PySem.W.os_pre_some hpre
 obtain ⟨e3, hwi⟩ := Codec.encAll_of_decAll r.args args a e1
 subst e3
 have KX := hY w _ Y
 obtain ⟨fd, hb, hF⟩ := F w mg fa _ Y KX G.T.g hmg
 refine PySem.W.enter_call (codeAny_mono (spec_call (R := []) (cl := classAt s_0.heap) (d0 := r.ret.enc (Codec.app r.args r.f a)) KX G.T.g G.T.b G.T.builtins G.T.nolimit hg hwl (pl_encAll _ _) (layable_weight hlay) hr hF hb (by rw [encAll_len]; exact hlen)
  (fun H xs hO hS => hsp w H xs a hO hwi e2 hS) fun H e s' => hCX w H s₁ e s') fun r' s' hq => ?_)
 obtain ⟨u, as', rfl, h1, h2, h3, h4⟩ := hq
 exact ⟨.inl ⟨u, _, as', rfl, fun _ => rfl, h1, (OpenSpec.post_iff hwell hwi _ _).mpr rfl, fun z => Bool.noConfusion (show false = true from z)⟩, h2, h3, h4⟩
theorem walk_specK {r : OpenSpec} {k : Nat} {q : Program} {loose : List Str} {XP : (Str → Option Value) → Heap → Prop} {YP : World → Heap → Prop} {d : DefRec} {K : Params → PySem.W.Frag} {CX : CXT} {ps : List Str} {sp : PySem.W.Frag → Sp}
  (hwell : r.wellSaid = true) (hdf : d.params.defaults = []) (hlen : r.args.length = ps.length) (hr : Room k callerA)
  (hY : ∀ (w : World) (h : Heap), YP w h → (K w.params).In h)
  (F : ∀ (w : World) (mg : Str → Option Value) (fa : Addr) (h : Heap), YP w h → (K w.params).In h → h.Ns mainGlobals mg → mg d.name = some (.ref fa) →
   ∃ fd : FuncData, (∀ (s : Shared) (us : List Value), us.length = ps.length → BindsTo s fd ⟨us, []⟩ (ps.zip us)) ∧
    ∀ base : Heap, (K w.params).In base → base.Ns mainGlobals mg → FnOk r.prog w (K w.params) mg base CX k fa fd ps (sp (K w.params)))
  (hsp : ∀ (K : PySem.W.Frag) (H : Hp) (xs : List V) (a : Codec.denoteAll r.args), OnlyF H → Codec.withinAll r.args a = true → Codec.app r.args r.asked a = true → DwAll K H xs (Codec.encAll r.args a) →
   sp K xs H (fun v H' => Dw K H' v (r.ret.enc (Codec.app r.args r.f a))) fun _ _ _ => False)
  (hCX : ∀ (H : Hp) (s : Shared) (e : Value) (s' : Shared), CX [] H s (fun _ _ _ => False) e s' → False) :
  PySem.W.WalkOS q loose XP YP r d [] (fun f vs => PySem.call f vs) :=
 walk_spec (K := K) (CX := fun _ => CX) (sp := fun w => sp (K w.params)) hwell hdf hlen hr hY F (fun w H xs a h1 h2 h3 h4 => hsp (K w.params) H xs a h1 h2 h3 h4) fun _ H s e s' => hCX H s e s'
end L2
end
end
section
namespace ML
open PySem PySem.Spec PyProof.Rows L2
def GC (mg : Str → Option Value) (x : Str) (v : V) : Prop := ∃ u, mg x = some u ∧ RelV v u
def GT (K : PySem.W.Frag) (mg : Str → Option Value) (x : Str) (xs : List V) : Prop := ∃ a, mg x = some (.ref a) ∧ ∀ H : Hp, SqT K H a xs
def KDk (P : Program) (w : World) (K : PySem.W.Frag) (a : Addr) (kvs : List (Key × V)) : Prop :=
 ∃ o vs, K.lookup a = some o ∧ (a == sysModules) = false ∧ KV kvs vs ∧ o.IsDictOf (mixKind P w) vs
def KDt (P : Program) (w : World) (K : PySem.W.Frag) (a : Addr) (kvs : List (List Key × V)) : Prop :=
 ∃ o es ep xs, K.lookup a = some o ∧ (a == sysModules) = false ∧ o.ExactDict ∧ o.data = .dict es ep ∧ es.toList = xs.map (entryOfKey (tupleKind (mixKind P w))) ∧ (xs.map (·.1)).Nodup ∧
  Paired (fun (p : List Key × V) (q : List Key × Addr × Value) => p.1 = q.1 ∧ (∀ H : Hp, SqT K H q.2.1 (p.1.map kV)) ∧ RelV p.2 q.2.2) kvs xs
def GD (P : Program) (w : World) (K : PySem.W.Frag) (mg : Str → Option Value) (x : Str) (kvs : List (Key × V)) : Prop := ∃ a, mg x = some (.ref a) ∧ KDk P w K a kvs
def GDt (P : Program) (w : World) (K : PySem.W.Frag) (mg : Str → Option Value) (x : Str) (kvs : List (List Key × V)) : Prop := ∃ a, mg x = some (.ref a) ∧ KDt P w K a kvs
def Callee (P : Program) (w : World) (K : PySem.W.Frag) (mg : Str → Option Value) (base : Heap) (v : V) (k : Nat) (ps : List Str) (sp : Sp) : Prop :=
 ∃ f fd, v = .ref f ∧ PySem.W.keepIn K (.ref f) = true ∧ FnOk P w K mg base CX0 k f fd ps sp ∧ Binds K fd ps []
def GF (P : Program) (w : World) (K : PySem.W.Frag) (mg : Str → Option Value) (base : Heap) (x : Str) (k : Nat) (ps : List Str) (sp : Sp) : Prop :=
 ∃ f fd, mg x = some (.ref f) ∧ PySem.W.keepIn K (.ref f) = true ∧ FnOk P w K mg base CX0 k f fd ps sp ∧ Binds K fd ps []
def GM (P : Program) (w : World) (K : PySem.W.Frag) (mg : Str → Option Value) (base : Heap) (C : Addr) (m : Str) (k : Nat) (ps : List Str) (sp : Sp) : Prop :=
 ∃ f fd, Cls K C ∧ Meth K C m f ∧ FnOk P w K mg base CX0 k f fd ps sp ∧ Binds K fd ps []
def GMk (P : Program) (w : World) (K : PySem.W.Frag) (mg : Str → Option Value) (base : Heap) (x : Str) (C : Addr) (k : Nat) (ps : List Str) (sp : Sp) : Prop :=
 ∃ f fd, mg x = some (.ref C) ∧ Mk K C f ∧ FnOk P w K mg base CX0 k f fd ps sp ∧ Binds K fd ps []
section
variable {X : Cx} {x m : Str} {p pos apos cpos : Pos} {e o f : Expr} {es : List Expr} {ta te ty tx : TE} {t : TA} {v : V} {xs : List V} {k : Nat} {ps : List Str} {sp : Sp} {C : Addr}
theorem pe_gc (h : GC X.mg x v) (hg : Gl X x) (hd : (x == ("__debug__" : Str)) = false := by decide) : PE X (.Name x p) (tC v) := by
 obtain ⟨u, hm, r⟩ := h
 exact pe_glob hg hm r hd
def tGT (K : PySem.W.Frag) (xs : List V) : TE := fun _ H Q => ∀ a, (∀ H' : Hp, SqT K H' a xs) → Q (.ref a) H
theorem pe_gt (h : GT X.K X.mg x xs) (hg : Gl X x) (hd : (x == ("__debug__" : Str)) = false := by decide) : PE X (.Name x p) (tGT X.K xs) := by
 obtain ⟨a, hm, s⟩ := h
 intro pins sh σ H Q I q
 exact pe_glob hg hm (v := .ref a) rfl hd pins sh σ H Q I (q a s)
theorem pe_gf (G : GF X.prog X.w X.K X.mg X.base x k ps sp) (hr : Room k X.A) (hg : Gl X x) (ha : PA X (e :: es) t) (hdb : (x == ("__debug__" : Str)) = false := by decide)
  (he : starEach (e :: es) X.env = (false, eval e X.env) :: starEach es X.env := by rfl) (hpl : (backTo pos (starEach es X.env)).any (·.1) = false := by rfl) : PE X (.Call (.Name x p) (e :: es) [] pos) (tCall sp [] E0 t) := by
 obtain ⟨fa, fd, hm, hk, F, hb⟩ := G
 exact pe_call F hr hg hm hk hb .nil pass0 ha hdb he hpl
theorem pe_mk (G : GMk X.prog X.w X.K X.mg X.base x C k ps sp) (hr : Room (k + 1) X.A) (hg : Gl X x) (ha : PA X (e :: es) t) (hdb : (x == ("__debug__" : Str)) = false := by decide)
  (he : starEach (e :: es) X.env = (false, eval e X.env) :: starEach es X.env := by rfl) (hpl : (backTo pos (starEach es X.env)).any (·.1) = false := by rfl) : PE X (.Call (.Name x p) (e :: es) [] pos) (tMake C sp [] E0 t) := by
 obtain ⟨fa, fd, hm, M, F, hb⟩ := G
 exact pe_make M F hr hg hm hb .nil pass0 ha hdb he hpl
theorem pe_mk0 (G : GMk X.prog X.w X.K X.mg X.base x C k ps sp) (hr : Room (k + 1) X.A) (hg : Gl X x) (hdb : (x == ("__debug__" : Str)) = false := by decide) : PE X (.Call (.Name x p) [] [] pos) (tMake C sp [] E0 tNil) := by
 obtain ⟨fa, fd, hm, M, F, hb⟩ := G
 exact pe_make0 M F hr hg hm hb .nil pass0 hdb
theorem pe_gm {pl : Sem Bool} (ho : PE X o ta) (G : GM X.prog X.w X.K X.mg X.base C m k ps sp) (hr : Room k X.A) (ha : PA X (e :: es) t)
  (hst : starEach (e :: es) X.env = (false, eval e X.env) :: starEach es X.env := by rfl) (hpl : (backTo pos (starEach es X.env)).any (·.1) = false := by rfl)
  (ht : eval (.Call (.Attribute o m apos) (e :: es) [] pos) X.env = (do
   let ov ← eval o X.env
   standAt apos.atName
   let (f, first) ← holding [ov] (getMethod ov m pl)
   callWith pos f first (backTo pos (starEach (e :: es) X.env)) (backToKw pos (keywordEach [] X.env))) := by rfl) :
  PE X (.Call (.Attribute o m apos) (e :: es) [] pos) (tMeth C m sp [] E0 ta t) := by
 obtain ⟨fa, fd, c, M, F, hb⟩ := G
 exact pe_meth (pl := pl) ho c M F hr hb .nil pass0 ha hst hpl ht
theorem pe_gm0 {pl : Sem Bool} (ho : PE X o ta) (G : GM X.prog X.w X.K X.mg X.base C m k ps sp) (hr : Room k X.A)
  (ht : eval (.Call (.Attribute o m apos) [] [] pos) X.env = (do
   let ov ← eval o X.env
   standAt apos.atName
   let (f, first) ← holding [ov] (getMethod ov m pl)
   callWith pos f first (backTo pos (starEach [] X.env)) (backToKw pos (keywordEach [] X.env))) := by rfl) :
  PE X (.Call (.Attribute o m apos) [] [] pos) (tMeth C m sp [] E0 ta tNil) := by
 obtain ⟨fa, fd, c, M, F, hb⟩ := G
 exact pe_meth0 (pl := pl) ho c M F hr hb .nil pass0 ht
def tCallV (P : Program) (w : World) (K : PySem.W.Frag) (mg : Str → Option Value) (base : Heap) (k : Nat) (ta : TE) (t : TA) : TE := fun σ H Q => ta σ H fun x H1 => ∃ ps sp, Callee P w K mg base x k ps sp ∧ t σ H1 fun vs H2 => sp vs H2 Q E0
theorem pe_callV (hf : PE X (.Name x p) ta) (hr : Room k X.A) (ha : PA X (e :: es) t)
  (he : starEach (e :: es) X.env = (false, eval e X.env) :: starEach es X.env := by rfl) (hpl : (backTo pos (starEach es X.env)).any (·.1) = false := by rfl) :
  PE X (.Call (.Name x p) (e :: es) [] pos) (tCallV X.prog X.w X.K X.mg X.base k ta t) := by
 intro pins s σ H Q I h
 refine wpAny_Call_Name_kw (thn (hf pins s σ H _ I h) fun u s1 ⟨y, H1, I1, r1, ps, sp, ⟨fa, fd, e1, hk, F, hb⟩, q⟩ => ?_)
 subst e1
 obtain rfl : u = Value.ref fa := r1
 refine PySem.W.callWith_K (h₀ := X.base) I1.ok.mod.kin hk (thn (ha pos pins s1 σ H1 _ I1 q) fun us s2 ⟨vs, H2, I2, r, q2⟩ => ⟨I2.kIn, ?_⟩) he hpl
 exact run_fn (dvs := []) (ds := []) F hr hb .nil pass0 I2 r (by rw [List.append_nil]; exact q2)
end
section
variable {X : Cx} {pins : List (Addr × Obj)} {σ : L2.St} {H : Hp} {s : Shared} {a : Addr} {A : Around} {E : Value → Shared → Prop}
theorem kdk_at {kvs : List (Key × V)} (I : Inv X pins σ H s) (d : KDk X.prog X.w X.K a kvs) : (a == sysModules) = false ∧ ∃ vs, KV kvs vs ∧ s.heap.DictOf (mixKind X.prog X.w) a vs := by
 obtain ⟨o, vs, hk, hs, r, d⟩ := d
 exact ⟨hs, vs, r, Heap.dictOf_iff.mpr ⟨o, I.kIn a o hk, d⟩⟩
theorem kdt_at {kvs : List (List Key × V)} (I : Inv X pins σ H s) (d : KDt X.prog X.w X.K a kvs) : (a == sysModules) = false ∧ ∃ xs : List (List Key × Addr × Value),
  (∀ k, RelO (valV kvs k) ((atKey xs k).map (·.2))) ∧ s.heap.DictOfH (tupleKind (mixKind X.prog X.w)) a xs := by
 obtain ⟨o, es, ep, xs, hk, hs, ex, hd, he, hn, r⟩ := d
 refine ⟨hs, xs, fun k => ?_, o, es, ep, I.kIn a o hk, ex, hd, he, ?_, hn⟩
 ·clear he hn
  induction r with
  | nil => exact True.intro
  | @cons p q ps qs h t ih =>
   obtain ⟨h1, _, h2⟩ := h
   by_cases e : p.1 = k
   ·have e' : q.1 = k := h1.symm.trans e
    have b : atKey (q :: qs) k = some q.2 := by simp [atKey, List.find?_cons, e']
    rw [valV_pos e, b]; exact h2
   ·have e' : ¬ q.1 = k := fun z => e (h1.trans z)
    have b : atKey (q :: qs) k = atKey qs k := by simp [atKey, List.find?_cons, e']
    rw [valV_neg e, b]; exact ih
 ·clear he hn
  induction r with
  | nil => intro x hx; exact nomatch hx
  | @cons p q ps qs h t ih =>
   intro x hx
   rcases List.mem_cons.mp hx with e | hx
   ·subst e
    obtain ⟨h1, h2, _⟩ := h
    obtain ⟨its, rv, ⟨o', e1, e2, n, e3⟩, _⟩ := I.tuple (h2 H)
    rw [← h1]
    exact ⟨o', its.toArray, n, e1, e2, e3, by simpa using items_are rv⟩
   ·exact ih x hx
end
section
variable {X : Cx} {x : Str} {p pos apos cpos : Pos} {i e f : Expr} {ty tx : TE}
def tGDGet (kvs : List (Key × V)) (ty : TE) : TE := fun σ H Q => ty σ H fun y H1 => ∃ k v, y = kV k ∧ valV kvs k = some v ∧ Q v H1
theorem pe_gdget {kvs : List (Key × V)} (hu : X.A.units + 1 < cLine) (G : GD X.prog X.w X.K X.mg x kvs) (hg : Gl X x) (hi : PE X i ty) (hs : NoSl i) (hd : (x == ("__debug__" : Str)) = false := by decide) :
  PE X (.Subscript (.Name x p) i pos) (tGDGet kvs ty) := by
 obtain ⟨a, hm, d⟩ := G
 intro pins s σ H Q I h
 refine subD_of PySem.F.slot_dict_getitem.lookup hs (ld_glob I hg hm ?_ hd)
 refine thn (hi pins s σ H _ I h) fun iv s2 ⟨y, H2, I2, ry, k, v, ey, l, q2⟩ => ?_
 subst ey
 obtain ⟨hS, vs, rel, dd⟩ := kdk_at I2 d
 obtain ⟨w', hw, rw'⟩ := RelO.some_of (v := v) (o := valueAt vs k) (by rw [← l]; exact rel.val k)
 exact ⟨dd.typeIs, wpAny_getItem_of (kV_is ry) dd.mapOf hw ⟨v, H2, I2.tok _, rw', q2⟩⟩
def tGDGet2 (kvs : List (Key × V)) (ty tx : TE) : TE := fun σ H Q => ty σ H fun y H1 => tx σ H1 fun z H2 => ∃ k, y = kV k ∧ Q ((valV kvs k).getD z) H2
theorem pe_gdget2 {kvs : List (Key × V)} (hu : X.A.units + 1 < cLine) (G : GD X.prog X.w X.K X.mg x kvs) (hg : Gl X x) (he : PE X e ty) (hf : PE X f tx) (m : M2 X (.Name x p) "get" apos e f cpos) (hd : (x == ("__debug__" : Str)) = false := by decide) :
  PE X (.Call (.Attribute (.Name x p) "get" apos) [e, f] [] cpos) (tGDGet2 kvs ty tx) := by
 obtain ⟨a, hm, d⟩ := G
 intro pins s σ H Q I h
 refine wpAny_Call_method m.base m.few m.line PySem.F.plainAttrs_dict PySem.F.slot_dict_get PySem.F.type_dict_get (ld_glob I hg hm ?_ hd)
 obtain ⟨hS, vs, rel, dd⟩ := kdk_at I d
 refine ⟨dd.typeIs, dd.mapOf.noDict, ?_⟩
 rw [m.trees]
 refine Calls.callWith_builtin rfl (Calls.evalArgs_plain (Calls.spliced_cons (thn (he pins s σ H _ I h) fun iv s2 ⟨y, H2, I2, ry, q2⟩ =>
  Calls.spliced_cons (thn (hf pins s2 σ H2 _ I2 q2) fun fv s3 ⟨z, H3, I3, rz, k, ey, q3⟩ => Calls.spliced_nil ?_))))
 subst ey
 obtain ⟨hS, vs, rel, dd⟩ := kdk_at I3 d
 exact call_meetsIn PySem.F.slot_dict_get dd.typeIs PySem.F.entry_dict_get (PySem.F.args_dict_get_3 _ _ _) (meets_dict_get_default (mixKind X.prog X.w) a (kV_is ry) hS fv) ⟨_, dd.mapOf, _, H3, I3.tok _, (rel.val k).getD rz, q3⟩
def tGDGet2t (kvs : List (List Key × V)) (ty tx : TE) : TE := fun σ H Q => ty σ H fun y H1 => tx σ H1 fun z H2 => ∃ k b, y = .ref b ∧ H2 b = some (.tup (k.map kV)) ∧ Q ((valV kvs k).getD z) H2
theorem pe_gdget2t {kvs : List (List Key × V)} (hu : X.A.units + 1 < cLine) (G : GDt X.prog X.w X.K X.mg x kvs) (hg : Gl X x) (he : PE X e ty) (hf : PE X f tx) (m : M2 X (.Name x p) "get" apos e f cpos) (hd : (x == ("__debug__" : Str)) = false := by decide) :
  PE X (.Call (.Attribute (.Name x p) "get" apos) [e, f] [] cpos) (tGDGet2t kvs ty tx) := by
 obtain ⟨a, hm, d⟩ := G
 intro pins s σ H Q I h
 refine wpAny_Call_method m.base m.few m.line PySem.F.plainAttrs_dict PySem.F.slot_dict_get PySem.F.type_dict_get (ld_glob I hg hm ?_ hd)
 obtain ⟨hS, xs, rel, dd⟩ := kdt_at I d
 refine ⟨dd.typeIs, fun b q => (by cases q; obtain ⟨ob, _, _, h1, h2, _⟩ := dd; exact ⟨ob, h1, h2.2.1⟩), ?_⟩
 rw [m.trees]
 refine Calls.callWith_builtin rfl (Calls.evalArgs_plain (Calls.spliced_cons (thn (he pins s σ H _ I h) fun iv s2 ⟨y, H2, I2, ry, q2⟩ =>
  Calls.spliced_cons (thn (hf pins s2 σ H2 _ I2 q2) fun fv s3 ⟨z, H3, I3, rz, k, b, ey, eb, q3⟩ => Calls.spliced_nil ?_))))
 subst ey
 cases (show iv = Value.ref b from ry)
 obtain ⟨hS, xs, rel, dd⟩ := kdt_at I3 d
 exact call_meetsIn PySem.F.slot_dict_get dd.typeIs PySem.F.entry_dict_get (PySem.F.args_dict_get_3 _ _ _) (meetsH_dict_get_default (tupleKind (mixKind X.prog X.w)) a b hS fv)
  ⟨tupleKind_room_in1 hu, k, xs, key_of I3.hok eb, dd, _, H3, I3.tok _, (rel k).getD rz, q3⟩
def fstr (a b : Str) (i : Int) : Str := ((Str.empty ++ a) ++ Str.ofString (toString i)) ++ b
def tFstr (a b : Str) (te : TE) : TE := fun σ H Q => te σ H fun y H1 => ∃ i : Int, y = .int i ∧ i.natAbs.log2 < 1920 ∧ (fstr a b i).length ≤ sizeLine ∧ Q (.str (fstr a b i)) H1
theorem pe_fstr3 {a b : Str} {j1 j3 : Nat} {p1 p2 p3 : Pos} (he : PE X e ty) (hz1 : (Str.empty ++ a).length ≤ sizeLine := by decide +kernel) : PE X (.JoinedStr [.Constant (.str a) j1 p1, .FormattedValue e (-1) none p2, .Constant (.str b) j3 p3] pos) (tFstr a b ty) := by
 intro pins s σ H Q I h
 refine wpAny_JoinedStr ?_
 show wpAny _ _ (eval (.Constant (.str a) j1 p1) X.env) (fun v s₁ => ∃ y t, v = .str y t ∧ (Str.empty ++ y).length ≤ sizeLine ∧ Joins _ _ _ [eval (.FormattedValue e (-1) none p2) X.env, eval (.Constant (.str b) j3 p3) X.env] (Str.empty ++ y) _ s₁) _ s
 refine Calls.Constant_str ⟨a, _, rfl, ?_, ?_⟩
 ·exact hz1
 ·show wpAny _ _ (eval (.FormattedValue e (-1) none p2) X.env) _ _ _
  refine wpAny_FormattedValue_plain (thn (he pins _ σ H _ (I.tok _) h) fun v s1 ⟨x, H1, I1, r1, i, ex, hl, hz, q⟩ => ?_)
  subst ex
  obtain ⟨t, rfl⟩ := r1
  refine wpAny_formatField_int hl ⟨_, _, rfl, ?_, ?_⟩
  ·exact Nat.le_trans (by unfold fstr; rw [strLen_append (_ ++ _) b]; omega) hz
  ·show wpAny _ _ (eval (.Constant (.str b) j3 p3) X.env) _ _ _
   refine Calls.Constant_str ⟨b, _, rfl, hz, ?_⟩
   exact ⟨hz, .str _, H1, ((I1.tok _).tok _).tok _, ⟨_, rfl⟩, q⟩
end
end ML
end
section
namespace ML
open PySem PySem.Spec PyProof.Rows L2
def top (i : Nat) : Stmt := PySem.Challenge.pw_markedtext_s01_answers.main.body.getD i (.Pass ⟨0, 0, 0, 0⟩)
def FF (K : PySem.W.Frag) (mg : Str → Option Value) (x : Str) (st : Stmt) : Prop := ∃ f fd, mg x = some (.ref f) ∧ Fun K x x st f fd
def MF (K : PySem.W.Frag) (C : Addr) (m q : Str) (st : Stmt) : Prop := ∃ f fd, Meth K C m f ∧ Fun K m q st f fd
abbrev st_is_mark : Stmt := top 35
theorem sc_is_mark : FnScope ["sign"] ["sign"] (defScope st_is_mark) := ⟨rfl, rfl, rfl, by decide +kernel, rfl, by decide +kernel, by decide +kernel⟩
abbrev st_is_blank : Stmt := top 36
theorem sc_is_blank : FnScope ["sign"] ["sign"] (defScope st_is_blank) := ⟨rfl, rfl, rfl, by decide +kernel, rfl, by decide +kernel, by decide +kernel⟩
abbrev st_is_small_letter : Stmt := top 37
theorem sc_is_small_letter : FnScope ["sign"] ["sign"] (defScope st_is_small_letter) := ⟨rfl, rfl, rfl, by decide +kernel, rfl, by decide +kernel, by decide +kernel⟩
abbrev st_is_letter : Stmt := top 38
theorem sc_is_letter : FnScope ["sign"] ["sign"] (defScope st_is_letter) := ⟨rfl, rfl, rfl, by decide +kernel, rfl, by decide +kernel, by decide +kernel⟩
abbrev st_is_digit : Stmt := top 39
theorem sc_is_digit : FnScope ["sign"] ["sign"] (defScope st_is_digit) := ⟨rfl, rfl, rfl, by decide +kernel, rfl, by decide +kernel, by decide +kernel⟩
abbrev st_is_name_sign : Stmt := top 40
theorem sc_is_name_sign : FnScope ["sign"] ["sign"] (defScope st_is_name_sign) := ⟨rfl, rfl, rfl, by decide +kernel, rfl, by decide +kernel, by decide +kernel⟩
abbrev st_is_bare_sign : Stmt := top 41
theorem sc_is_bare_sign : FnScope ["sign"] ["sign"] (defScope st_is_bare_sign) := ⟨rfl, rfl, rfl, by decide +kernel, rfl, by decide +kernel, by decide +kernel⟩
abbrev st_signs_of : Stmt := top 42
theorem sc_signs_of : FnScope ["written", "letter"] ["written"] (defScope st_signs_of) := ⟨rfl, rfl, rfl, by decide +kernel, rfl, by decide +kernel, by decide +kernel⟩
abbrev st_counted : Stmt := top 43
theorem sc_counted : FnScope ["signs"] ["signs"] (defScope st_counted) := ⟨rfl, rfl, rfl, by decide +kernel, rfl, by decide +kernel, by decide +kernel⟩
abbrev st_digit_value : Stmt := top 49
theorem sc_digit_value : FnScope ["sign"] ["sign"] (defScope st_digit_value) := ⟨rfl, rfl, rfl, by decide +kernel, rfl, by decide +kernel, by decide +kernel⟩
abbrev st_number_of : Stmt := top 50
theorem sc_number_of : FnScope ["digits", "base", "number", "digit", "value"] ["digits", "base"] (defScope st_number_of) := ⟨rfl, rfl, rfl, by decide +kernel, rfl, by decide +kernel, by decide +kernel⟩
abbrev st_numbered_byte : Stmt := top 51
theorem sc_numbered_byte : FnScope ["body", "hexadecimal", "digits"] ["body"] (defScope st_numbered_byte) := ⟨rfl, rfl, rfl, by decide +kernel, rfl, by decide +kernel, by decide +kernel⟩
abbrev st_byte_of_body : Stmt := top 52
theorem sc_byte_of_body : FnScope ["body"] ["body"] (defScope st_byte_of_body) := ⟨rfl, rfl, rfl, by decide +kernel, rfl, by decide +kernel, by decide +kernel⟩
abbrev st_reference_step : Stmt := top 53
theorem sc_reference_step : FnScope ["body", "sign"] ["body", "sign"] (defScope st_reference_step) := ⟨rfl, rfl, rfl, by decide +kernel, rfl, by decide +kernel, by decide +kernel⟩
abbrev st_in_text : Stmt := top 88
theorem sc_in_text : FnScope ["reader", "sign"] ["reader", "sign"] (defScope st_in_text) := ⟨rfl, rfl, rfl, by decide +kernel, rfl, by decide +kernel, by decide +kernel⟩
abbrev st_in_reference : Stmt := top 89
theorem sc_in_reference : FnScope ["reader", "sign", "found"] ["reader", "sign"] (defScope st_in_reference) := ⟨rfl, rfl, rfl, by decide +kernel, rfl, by decide +kernel, by decide +kernel⟩
abbrev st_behind_less : Stmt := top 90
theorem sc_behind_less : FnScope ["reader", "sign"] ["reader", "sign"] (defScope st_behind_less) := ⟨rfl, rfl, rfl, by decide +kernel, rfl, by decide +kernel, by decide +kernel⟩
abbrev st_lengthen : Stmt := top 91
theorem sc_lengthen : FnScope ["reader", "name", "sign"] ["reader", "name", "sign"] (defScope st_lengthen) := ⟨rfl, rfl, rfl, by decide +kernel, rfl, by decide +kernel, by decide +kernel⟩
abbrev st_go_on_in_tag : Stmt := top 92
theorem sc_go_on_in_tag : FnScope ["reader", "sign"] ["reader", "sign"] (defScope st_go_on_in_tag) := ⟨rfl, rfl, rfl, by decide +kernel, rfl, by decide +kernel, by decide +kernel⟩
abbrev st_in_open_name : Stmt := top 93
theorem sc_in_open_name : FnScope ["reader", "sign"] ["reader", "sign"] (defScope st_in_open_name) := ⟨rfl, rfl, rfl, by decide +kernel, rfl, by decide +kernel, by decide +kernel⟩
abbrev st_behind_close : Stmt := top 94
theorem sc_behind_close : FnScope ["reader", "sign"] ["reader", "sign"] (defScope st_behind_close) := ⟨rfl, rfl, rfl, by decide +kernel, rfl, by decide +kernel, by decide +kernel⟩
abbrev st_in_close_name : Stmt := top 95
theorem sc_in_close_name : FnScope ["reader", "sign"] ["reader", "sign"] (defScope st_in_close_name) := ⟨rfl, rfl, rfl, by decide +kernel, rfl, by decide +kernel, by decide +kernel⟩
abbrev st_in_gap : Stmt := top 96
theorem sc_in_gap : FnScope ["reader", "sign"] ["reader", "sign"] (defScope st_in_gap) := ⟨rfl, rfl, rfl, by decide +kernel, rfl, by decide +kernel, by decide +kernel⟩
abbrev st_in_attribute_name : Stmt := top 97
theorem sc_in_attribute_name : FnScope ["reader", "sign"] ["reader", "sign"] (defScope st_in_attribute_name) := ⟨rfl, rfl, rfl, by decide +kernel, rfl, by decide +kernel, by decide +kernel⟩
abbrev st_behind_equals : Stmt := top 98
theorem sc_behind_equals : FnScope ["reader", "sign"] ["reader", "sign"] (defScope st_behind_equals) := ⟨rfl, rfl, rfl, by decide +kernel, rfl, by decide +kernel, by decide +kernel⟩
abbrev st_in_quoted : Stmt := top 99
theorem sc_in_quoted : FnScope ["reader", "sign", "quote", "reference_mode"] ["reader", "sign", "quote", "reference_mode"] (defScope st_in_quoted) := ⟨rfl, rfl, rfl, by decide +kernel, rfl, by decide +kernel, by decide +kernel⟩
abbrev st_in_quotes : Stmt := top 100
theorem sc_in_quotes : FnScope ["reader", "sign"] ["reader", "sign"] (defScope st_in_quotes) := ⟨rfl, rfl, rfl, by decide +kernel, rfl, by decide +kernel, by decide +kernel⟩
abbrev st_in_apostrophes : Stmt := top 101
theorem sc_in_apostrophes : FnScope ["reader", "sign"] ["reader", "sign"] (defScope st_in_apostrophes) := ⟨rfl, rfl, rfl, by decide +kernel, rfl, by decide +kernel, by decide +kernel⟩
abbrev st_in_bare : Stmt := top 102
theorem sc_in_bare : FnScope ["reader", "sign"] ["reader", "sign"] (defScope st_in_bare) := ⟨rfl, rfl, rfl, by decide +kernel, rfl, by decide +kernel, by decide +kernel⟩
abbrev st_behind_slash : Stmt := top 103
theorem sc_behind_slash : FnScope ["reader", "sign"] ["reader", "sign"] (defScope st_behind_slash) := ⟨rfl, rfl, rfl, by decide +kernel, rfl, by decide +kernel, by decide +kernel⟩
abbrev st_behind_bang : Stmt := top 104
theorem sc_behind_bang : FnScope ["reader", "sign"] ["reader", "sign"] (defScope st_behind_bang) := ⟨rfl, rfl, rfl, by decide +kernel, rfl, by decide +kernel, by decide +kernel⟩
abbrev st_in_comment : Stmt := top 105
theorem sc_in_comment : FnScope ["reader", "sign"] ["reader", "sign"] (defScope st_in_comment) := ⟨rfl, rfl, rfl, by decide +kernel, rfl, by decide +kernel, by decide +kernel⟩
abbrev st_in_raw : Stmt := top 106
theorem sc_in_raw : FnScope ["reader", "sign"] ["reader", "sign"] (defScope st_in_raw) := ⟨rfl, rfl, rfl, by decide +kernel, rfl, by decide +kernel, by decide +kernel⟩
abbrev st_in_raw_behind_less : Stmt := top 107
theorem sc_in_raw_behind_less : FnScope ["reader", "sign"] ["reader", "sign"] (defScope st_in_raw_behind_less) := ⟨rfl, rfl, rfl, by decide +kernel, rfl, by decide +kernel, by decide +kernel⟩
abbrev st_in_raw_close : Stmt := top 108
theorem sc_in_raw_close : FnScope ["reader", "sign", "awaited"] ["reader", "sign"] (defScope st_in_raw_close) := ⟨rfl, rfl, rfl, by decide +kernel, rfl, by decide +kernel, by decide +kernel⟩
abbrev st_step : Stmt := top 110
theorem sc_step : FnScope ["reader", "sign", "act"] ["reader", "sign"] (defScope st_step) := ⟨rfl, rfl, rfl, by decide +kernel, rfl, by decide +kernel, by decide +kernel⟩
abbrev st_Reader___init__ : Stmt := inClass (top 115) 0
theorem sc_Reader___init__ : FnScope ["self"] ["self"] (defScope st_Reader___init__) := ⟨rfl, rfl, rfl, by decide +kernel, rfl, by decide +kernel, by decide +kernel⟩
abbrev st_Reader_take : Stmt := inClass (top 115) 1
theorem sc_Reader_take : FnScope ["self", "sign"] ["self", "sign"] (defScope st_Reader_take) := ⟨rfl, rfl, rfl, by decide +kernel, rfl, by decide +kernel, by decide +kernel⟩
abbrev st_Reader_finish : Stmt := inClass (top 115) 2
theorem sc_Reader_finish : FnScope ["self"] ["self"] (defScope st_Reader_finish) := ⟨rfl, rfl, rfl, by decide +kernel, rfl, by decide +kernel, by decide +kernel⟩
abbrev st_Reader_fail : Stmt := inClass (top 115) 3
theorem sc_Reader_fail : FnScope ["self", "kind"] ["self", "kind"] (defScope st_Reader_fail) := ⟨rfl, rfl, rfl, by decide +kernel, rfl, by decide +kernel, by decide +kernel⟩
abbrev st_Reader_takes_mark : Stmt := inClass (top 115) 4
theorem sc_Reader_takes_mark : FnScope ["self"] ["self"] (defScope st_Reader_takes_mark) := ⟨rfl, rfl, rfl, by decide +kernel, rfl, by decide +kernel, by decide +kernel⟩
abbrev st_Reader_tell_run : Stmt := inClass (top 115) 5
theorem sc_Reader_tell_run : FnScope ["self", "kind"] ["self", "kind"] (defScope st_Reader_tell_run) := ⟨rfl, rfl, rfl, by decide +kernel, rfl, by decide +kernel, by decide +kernel⟩
abbrev st_Reader_end_run : Stmt := inClass (top 115) 6
theorem sc_Reader_end_run : FnScope ["self", "kind"] ["self", "kind"] (defScope st_Reader_end_run) := ⟨rfl, rfl, rfl, by decide +kernel, rfl, by decide +kernel, by decide +kernel⟩
abbrev st_Reader_has_attribute : Stmt := inClass (top 115) 7
theorem sc_Reader_has_attribute : FnScope ["self", "attribute"] ["self"] (defScope st_Reader_has_attribute) := ⟨rfl, rfl, rfl, by decide +kernel, rfl, by decide +kernel, by decide +kernel⟩
abbrev st_Reader_end_attribute : Stmt := inClass (top 115) 8
theorem sc_Reader_end_attribute : FnScope ["self"] ["self"] (defScope st_Reader_end_attribute) := ⟨rfl, rfl, rfl, by decide +kernel, rfl, by decide +kernel, by decide +kernel⟩
abbrev st_Reader_tell_open_tag : Stmt := inClass (top 115) 9
theorem sc_Reader_tell_open_tag : FnScope ["self", "ended"] ["self", "ended"] (defScope st_Reader_tell_open_tag) := ⟨rfl, rfl, rfl, by decide +kernel, rfl, by decide +kernel, by decide +kernel⟩
abbrev st_Reader_end_tag : Stmt := inClass (top 115) 10
theorem sc_Reader_end_tag : FnScope ["self"] ["self"] (defScope st_Reader_end_tag) := ⟨rfl, rfl, rfl, by decide +kernel, rfl, by decide +kernel, by decide +kernel⟩
abbrev st_Reader_end_ended_tag : Stmt := inClass (top 115) 11
theorem sc_Reader_end_ended_tag : FnScope ["self"] ["self"] (defScope st_Reader_end_ended_tag) := ⟨rfl, rfl, rfl, by decide +kernel, rfl, by decide +kernel, by decide +kernel⟩
abbrev st_Reader_end_close_tag : Stmt := inClass (top 115) 12
theorem sc_Reader_end_close_tag : FnScope ["self"] ["self"] (defScope st_Reader_end_close_tag) := ⟨rfl, rfl, rfl, by decide +kernel, rfl, by decide +kernel, by decide +kernel⟩
abbrev st_Reader_leave_tag : Stmt := inClass (top 115) 13
theorem sc_Reader_leave_tag : FnScope ["self"] ["self"] (defScope st_Reader_leave_tag) := ⟨rfl, rfl, rfl, by decide +kernel, rfl, by decide +kernel, by decide +kernel⟩
abbrev st_read_text : Stmt := top 116
theorem sc_read_text : FnScope ["text", "reader", "sign"] ["text"] (defScope st_read_text) := ⟨rfl, rfl, rfl, by decide +kernel, rfl, by decide +kernel, by decide +kernel⟩
abbrev st_told_open_tag : Stmt := top 117
theorem sc_told_open_tag : FnScope ["token", "attributes", "told", "attribute"] ["token"] (defScope st_told_open_tag) := ⟨rfl, rfl, rfl, by decide +kernel, rfl, by decide +kernel, by decide +kernel⟩
abbrev st_told_tokens : Stmt := top 118
theorem sc_told_tokens : FnScope ["tokens", "told", "token"] ["tokens"] (defScope st_told_tokens) := ⟨rfl, rfl, rfl, by decide +kernel, rfl, by decide +kernel, by decide +kernel⟩
abbrev st_may_stand : Stmt := top 128
theorem sc_may_stand : FnScope ["kind", "byte"] ["kind", "byte"] (defScope st_may_stand) := ⟨rfl, rfl, rfl, by decide +kernel, rfl, by decide +kernel, by decide +kernel⟩
abbrev st_decimal_reference : Stmt := top 129
theorem sc_decimal_reference : FnScope ["byte"] ["byte"] (defScope st_decimal_reference) := ⟨rfl, rfl, rfl, by decide +kernel, rfl, by decide +kernel, by decide +kernel⟩
abbrev st_escape_of_byte : Stmt := top 130
theorem sc_escape_of_byte : FnScope ["kind", "byte"] ["kind", "byte"] (defScope st_escape_of_byte) := ⟨rfl, rfl, rfl, by decide +kernel, rfl, by decide +kernel, by decide +kernel⟩
abbrev st_shortest_of_byte : Stmt := top 131
theorem sc_shortest_of_byte : FnScope ["kind", "byte"] ["kind", "byte"] (defScope st_shortest_of_byte) := ⟨rfl, rfl, rfl, by decide +kernel, rfl, by decide +kernel, by decide +kernel⟩
abbrev st_escape_of : Stmt := top 132
theorem sc_escape_of : FnScope ["kind", "content", "written", "byte"] ["kind", "content"] (defScope st_escape_of) := ⟨rfl, rfl, rfl, by decide +kernel, rfl, by decide +kernel, by decide +kernel⟩
abbrev st_shortest_form : Stmt := top 133
theorem sc_shortest_form : FnScope ["kind", "content", "written", "byte"] ["kind", "content"] (defScope st_shortest_form) := ⟨rfl, rfl, rfl, by decide +kernel, rfl, by decide +kernel, by decide +kernel⟩
abbrev st_value_length : Stmt := top 134
theorem sc_value_length : FnScope ["kind", "content", "quotes"] ["kind", "content"] (defScope st_value_length) := ⟨rfl, rfl, rfl, by decide +kernel, rfl, by decide +kernel, by decide +kernel⟩
abbrev st_shortest_value : Stmt := top 135
theorem sc_shortest_value : FnScope ["content", "kinds", "lengths", "least", "kind"] ["content"] (defScope st_shortest_value) := ⟨rfl, rfl, rfl, by decide +kernel, rfl, by decide +kernel, by decide +kernel⟩
abbrev st_refusal_of_row : Stmt := top 140
theorem sc_refusal_of_row : FnScope ["row", "highest", "longest", "number"] ["row", "highest", "longest"] (defScope st_refusal_of_row) := ⟨rfl, rfl, rfl, by decide +kernel, rfl, by decide +kernel, by decide +kernel⟩
abbrev st_refusal_of_bytes : Stmt := top 141
theorem sc_refusal_of_bytes : FnScope ["row"] ["row"] (defScope st_refusal_of_bytes) := ⟨rfl, rfl, rfl, by decide +kernel, rfl, by decide +kernel, by decide +kernel⟩
abbrev st_refusal_of_writing : Stmt := top 142
theorem sc_refusal_of_writing : FnScope ["kind", "row"] ["kind", "row"] (defScope st_refusal_of_writing) := ⟨rfl, rfl, rfl, by decide +kernel, rfl, by decide +kernel, by decide +kernel⟩
abbrev st_refusal_of_marked : Stmt := top 143
theorem sc_refusal_of_marked : FnScope ["row", "refusal", "sign"] ["row"] (defScope st_refusal_of_marked) := ⟨rfl, rfl, rfl, by decide +kernel, rfl, by decide +kernel, by decide +kernel⟩
abbrev st_datum_of : Stmt := top 146
theorem sc_datum_of : FnScope ["data", "mark", "number"] ["data", "mark"] (defScope st_datum_of) := ⟨rfl, rfl, rfl, by decide +kernel, rfl, by decide +kernel, by decide +kernel⟩
abbrev st_written_form : Stmt := top 147
theorem sc_written_form : FnScope ["content", "spot"] ["content", "spot"] (defScope st_written_form) := ⟨rfl, rfl, rfl, by decide +kernel, rfl, by decide +kernel, by decide +kernel⟩
abbrev st_written_forms : Stmt := top 148
theorem sc_written_forms : FnScope ["data", "spots", "made", "forms", "spotted"] ["data", "spots"] (defScope st_written_forms) := ⟨rfl, rfl, rfl, by decide +kernel, rfl, by decide +kernel, by decide +kernel⟩
abbrev st_put_length : Stmt := top 149
theorem sc_put_length : FnScope ["text", "forms", "form"] ["text", "forms"] (defScope st_put_length) := ⟨rfl, rfl, rfl, by decide +kernel, rfl, by decide +kernel, by decide +kernel⟩
abbrev st_refusal_of_reading : Stmt := top 150
theorem sc_refusal_of_reading : FnScope ["reading", "spotted"] ["reading"] (defScope st_refusal_of_reading) := ⟨rfl, rfl, rfl, by decide +kernel, rfl, by decide +kernel, by decide +kernel⟩
abbrev st_Putting___init__ : Stmt := inClass (top 151) 0
theorem sc_Putting___init__ : FnScope ["self", "data", "text"] ["self", "data", "text"] (defScope st_Putting___init__) := ⟨rfl, rfl, rfl, by decide +kernel, rfl, by decide +kernel, by decide +kernel⟩
abbrev st_Putting_use_reading : Stmt := inClass (top 151) 1
theorem sc_Putting_use_reading : FnScope ["self", "data", "text", "reading"] ["self", "data", "text", "reading"] (defScope st_Putting_use_reading) := ⟨rfl, rfl, rfl, by decide +kernel, rfl, by decide +kernel, by decide +kernel⟩
abbrev st_put_of : Stmt := top 152
theorem sc_put_of : FnScope ["text", "forms", "written", "taken", "sign"] ["text", "forms"] (defScope st_put_of) := ⟨rfl, rfl, rfl, by decide +kernel, rfl, by decide +kernel, by decide +kernel⟩
abbrev st_parts_of : Stmt := top 153
theorem sc_parts_of : FnScope ["text", "forms", "parts", "place", "taken", "sign", "length"] ["text", "forms"] (defScope st_parts_of) := ⟨rfl, rfl, rfl, by decide +kernel, rfl, by decide +kernel, by decide +kernel⟩
abbrev st_filled_text : Stmt := top 154
theorem sc_filled_text : FnScope ["data", "text", "filled", "sign"] ["data", "text"] (defScope st_filled_text) := ⟨rfl, rfl, rfl, by decide +kernel, rfl, by decide +kernel, by decide +kernel⟩
abbrev st_filled_token : Stmt := top 155
theorem sc_filled_token : FnScope ["data", "token", "attributes", "attribute"] ["data", "token"] (defScope st_filled_token) := ⟨rfl, rfl, rfl, by decide +kernel, rfl, by decide +kernel, by decide +kernel⟩
abbrev st_filled_tokens : Stmt := top 156
theorem sc_filled_tokens : FnScope ["data", "tokens", "filled", "token"] ["data", "tokens"] (defScope st_filled_tokens) := ⟨rfl, rfl, rfl, by decide +kernel, rfl, by decide +kernel, by decide +kernel⟩
abbrev st_Back___init__ : Stmt := inClass (top 158) 0
theorem sc_Back___init__ : FnScope ["self", "kind"] ["self", "kind"] (defScope st_Back___init__) := ⟨rfl, rfl, rfl, by decide +kernel, rfl, by decide +kernel, by decide +kernel⟩
abbrev st_Back_take : Stmt := inClass (top 158) 1
theorem sc_Back_take : FnScope ["self", "byte"] ["self", "byte"] (defScope st_Back_take) := ⟨rfl, rfl, rfl, by decide +kernel, rfl, by decide +kernel, by decide +kernel⟩
abbrev st_Back_take_in_reference : Stmt := inClass (top 158) 2
theorem sc_Back_take_in_reference : FnScope ["self", "byte", "found"] ["self", "byte"] (defScope st_Back_take_in_reference) := ⟨rfl, rfl, rfl, by decide +kernel, rfl, by decide +kernel, by decide +kernel⟩
abbrev st_Back_finish : Stmt := inClass (top 158) 3
theorem sc_Back_finish : FnScope ["self"] ["self"] (defScope st_Back_finish) := ⟨rfl, rfl, rfl, by decide +kernel, rfl, by decide +kernel, by decide +kernel⟩
abbrev st_read_back : Stmt := top 159
theorem sc_read_back : FnScope ["kind", "text", "back", "byte"] ["kind", "text"] (defScope st_read_back) := ⟨rfl, rfl, rfl, by decide +kernel, rfl, by decide +kernel, by decide +kernel⟩
abbrev st_cut_of : Stmt := top 160
theorem sc_cut_of : FnScope ["text", "back", "n", "bound"] ["text", "back", "n"] (defScope st_cut_of) := ⟨rfl, rfl, rfl, by decide +kernel, rfl, by decide +kernel, by decide +kernel⟩
abbrev st_begin : Stmt := top 164
theorem sc_begin : FnScope ["data", "numbers", "row"] ["data", "numbers", "row"] (defScope st_begin) := ⟨rfl, rfl, rfl, by decide +kernel, rfl, by decide +kernel, by decide +kernel⟩
abbrev st_datum : Stmt := top 165
theorem sc_datum : FnScope ["data", "numbers", "row", "refusal"] ["data", "numbers", "row"] (defScope st_datum) := ⟨rfl, rfl, rfl, by decide +kernel, rfl, by decide +kernel, by decide +kernel⟩
abbrev st_drop : Stmt := top 166
theorem sc_drop : FnScope ["data", "numbers", "row"] ["data", "numbers", "row"] (defScope st_drop) := ⟨rfl, rfl, rfl, by decide +kernel, rfl, by decide +kernel, by decide +kernel⟩
abbrev st_escape : Stmt := top 167
theorem sc_escape : FnScope ["data", "numbers", "row", "kind", "refusal"] ["data", "numbers", "row"] (defScope st_escape) := ⟨rfl, rfl, rfl, by decide +kernel, rfl, by decide +kernel, by decide +kernel⟩
abbrev st_shortest : Stmt := top 168
theorem sc_shortest : FnScope ["data", "numbers", "row", "kind", "refusal"] ["data", "numbers", "row"] (defScope st_shortest) := ⟨rfl, rfl, rfl, by decide +kernel, rfl, by decide +kernel, by decide +kernel⟩
abbrev st_back : Stmt := top 169
theorem sc_back : FnScope ["data", "numbers", "row", "kind", "refusal", "reading"] ["data", "numbers", "row"] (defScope st_back) := ⟨rfl, rfl, rfl, by decide +kernel, rfl, by decide +kernel, by decide +kernel⟩
abbrev st_cut : Stmt := top 170
theorem sc_cut : FnScope ["data", "numbers", "row", "kind", "n", "refusal", "reading"] ["data", "numbers", "row"] (defScope st_cut) := ⟨rfl, rfl, rfl, by decide +kernel, rfl, by decide +kernel, by decide +kernel⟩
abbrev st_quotes : Stmt := top 171
theorem sc_quotes : FnScope ["data", "numbers", "row", "refusal"] ["data", "numbers", "row"] (defScope st_quotes) := ⟨rfl, rfl, rfl, by decide +kernel, rfl, by decide +kernel, by decide +kernel⟩
abbrev st_spots : Stmt := top 172
theorem sc_spots : FnScope ["data", "numbers", "row", "refusal", "reading", "told", "spotted"] ["data", "numbers", "row"] (defScope st_spots) := ⟨rfl, rfl, rfl, by decide +kernel, rfl, by decide +kernel, by decide +kernel⟩
abbrev st_put : Stmt := top 173
theorem sc_put : FnScope ["data", "numbers", "row", "putting"] ["data", "numbers", "row"] (defScope st_put) := ⟨rfl, rfl, rfl, by decide +kernel, rfl, by decide +kernel, by decide +kernel⟩
abbrev st_parts : Stmt := top 174
theorem sc_parts : FnScope ["data", "numbers", "row", "putting"] ["data", "numbers", "row"] (defScope st_parts) := ⟨rfl, rfl, rfl, by decide +kernel, rfl, by decide +kernel, by decide +kernel⟩
abbrev st_fill : Stmt := top 175
theorem sc_fill : FnScope ["data", "numbers", "row", "putting"] ["data", "numbers", "row"] (defScope st_fill) := ⟨rfl, rfl, rfl, by decide +kernel, rfl, by decide +kernel, by decide +kernel⟩
abbrev st_tokens : Stmt := top 176
theorem sc_tokens : FnScope ["data", "numbers", "row", "refusal", "reading"] ["data", "numbers", "row"] (defScope st_tokens) := ⟨rfl, rfl, rfl, by decide +kernel, rfl, by decide +kernel, by decide +kernel⟩
abbrev st_answers : Stmt := top 180
theorem sc_answers : FnScope ["calls", "data", "told", "place", "call", "row_place", "numbers", "row", "act"] ["calls"] (defScope st_answers) := ⟨rfl, rfl, rfl, by decide +kernel, rfl, by decide +kernel, by decide +kernel⟩
structure Txt (P : Program) (w : World) (K : PySem.W.Frag) (mg : Str → Option Value) (CR CP CB : Addr) : Prop where
 g_UNEXPECTED : GC mg "UNEXPECTED" (.int 1)
 g_NAME_TOO_LONG : GC mg "NAME_TOO_LONG" (.int 2)
 g_NAME_TWICE : GC mg "NAME_TWICE" (.int 3)
 g_WRONG_REFERENCE : GC mg "WRONG_REFERENCE" (.int 4)
 g_WRONG_MARK : GC mg "WRONG_MARK" (.int 5)
 g_WRONG_RAW_END : GC mg "WRONG_RAW_END" (.int 6)
 g_UNFINISHED : GC mg "UNFINISHED" (.int 7)
 g_OUT_OF_RANGE : GC mg "OUT_OF_RANGE" (.int (-1))
 g_TOO_MANY_NUMBERS : GC mg "TOO_MANY_NUMBERS" (.int (-2))
 g_TOO_MANY_DATA : GC mg "TOO_MANY_DATA" (.int (-3))
 g_NO_DATA : GC mg "NO_DATA" (.int (-4))
 g_NO_SUCH_KIND : GC mg "NO_SUCH_KIND" (.int (-5))
 g_NO_SHORTEST_FORM : GC mg "NO_SHORTEST_FORM" (.int (-6))
 g_NOT_READ_BACK : GC mg "NOT_READ_BACK" (.int (-7))
 g_CUT_BELOW_ZERO : GC mg "CUT_BELOW_ZERO" (.int (-8))
 g_TOO_MANY_MARKS : GC mg "TOO_MANY_MARKS" (.int (-9))
 g_NOT_READ_FINE : GC mg "NOT_READ_FINE" (.int (-10))
 g_MARK_IN_RAW : GC mg "MARK_IN_RAW" (.int (-11))
 g_PUT_TOO_LONG : GC mg "PUT_TOO_LONG" (.int (-12))
 g_QUOTE : GC mg "QUOTE" (.int 34)
 g_HASH : GC mg "HASH" (.int 35)
 g_AND : GC mg "AND" (.int 38)
 g_APOSTROPHE : GC mg "APOSTROPHE" (.int 39)
 g_DASH : GC mg "DASH" (.int 45)
 g_SLASH : GC mg "SLASH" (.int 47)
 g_SEMICOLON : GC mg "SEMICOLON" (.int 59)
 g_LESS : GC mg "LESS" (.int 60)
 g_EQUALS : GC mg "EQUALS" (.int 61)
 g_GREATER : GC mg "GREATER" (.int 62)
 g_SMALL_X : GC mg "SMALL_X" (.int 120)
 g_HIGHEST_BYTE : GC mg "HIGHEST_BYTE" (.int 255)
 g_HIGHEST_SIGN : GC mg "HIGHEST_SIGN" (.int 65535)
 g_BLANKS : GT K mg "BLANKS" [.int 9, .int 10, .int 13, .int 32]
 g_NEITHER_BLANK_NOR_BARE : GT K mg "NEITHER_BLANK_NOR_BARE" [.int 34, .int 38, .int 39, .int 60, .int 61, .int 62, .int 96]
 g_LONGEST_BODY : GC mg "LONGEST_BODY" (.int 4)
 g_GOES_ON : GC mg "GOES_ON" (.int (-1))
 g_WRONG : GC mg "WRONG" (.int (-2))
 g_NAMED_BODIES : GDt P w K mg "NAMED_BODIES" [([Sum.inl 97, Sum.inl 109, Sum.inl 112], .int 38), ([Sum.inl 108, Sum.inl 116], .int 60), ([Sum.inl 103, Sum.inl 116], .int 62), ([Sum.inl 113, Sum.inl 117, Sum.inl 111, Sum.inl 116], .int 34), ([Sum.inl 97, Sum.inl 112, Sum.inl 111, Sum.inl 115], .int 39)]
 g_TEXT : GC mg "TEXT" (.int 0)
 g_REFERENCE_IN_TEXT : GC mg "REFERENCE_IN_TEXT" (.int 1)
 g_REFERENCE_IN_QUOTES : GC mg "REFERENCE_IN_QUOTES" (.int 2)
 g_REFERENCE_IN_APOSTROPHES : GC mg "REFERENCE_IN_APOSTROPHES" (.int 3)
 g_REFERENCE_IN_BARE : GC mg "REFERENCE_IN_BARE" (.int 4)
 g_BEHIND_LESS : GC mg "BEHIND_LESS" (.int 5)
 g_OPEN_NAME : GC mg "OPEN_NAME" (.int 6)
 g_BEHIND_CLOSE : GC mg "BEHIND_CLOSE" (.int 7)
 g_CLOSE_NAME : GC mg "CLOSE_NAME" (.int 8)
 g_GAP : GC mg "GAP" (.int 9)
 g_ATTRIBUTE_NAME : GC mg "ATTRIBUTE_NAME" (.int 10)
 g_BEHIND_EQUALS : GC mg "BEHIND_EQUALS" (.int 11)
 g_IN_QUOTES : GC mg "IN_QUOTES" (.int 12)
 g_IN_APOSTROPHES : GC mg "IN_APOSTROPHES" (.int 13)
 g_IN_BARE : GC mg "IN_BARE" (.int 14)
 g_BEHIND_VALUE : GC mg "BEHIND_VALUE" (.int 15)
 g_BEHIND_SLASH : GC mg "BEHIND_SLASH" (.int 16)
 g_BEHIND_BANG : GC mg "BEHIND_BANG" (.int 17)
 g_COMMENT : GC mg "COMMENT" (.int 19)
 g_COMMENT_TWO_DASHES : GC mg "COMMENT_TWO_DASHES" (.int 21)
 g_RAW : GC mg "RAW" (.int 22)
 g_RAW_BEHIND_LESS : GC mg "RAW_BEHIND_LESS" (.int 23)
 g_RAW_CLOSE : GC mg "RAW_CLOSE" (.int 24)
 g_ENDED : GC mg "ENDED" (.int 25)
 g_FAULT : GC mg "FAULT" (.int 26)
 g_RUN_TOKEN : GC mg "RUN_TOKEN" (.int 0)
 g_OPEN_TOKEN : GC mg "OPEN_TOKEN" (.int 1)
 g_CLOSE_TOKEN : GC mg "CLOSE_TOKEN" (.int 2)
 g_COMMENT_TOKEN : GC mg "COMMENT_TOKEN" (.int 3)
 g_RAW_TOKEN : GC mg "RAW_TOKEN" (.int 4)
 g_BANG : GC mg "BANG" (.int 33)
 g_LONGEST_NAME : GC mg "LONGEST_NAME" (.int 32)
 g_BEHIND_REFERENCE : GD P w K mg "BEHIND_REFERENCE" [(Sum.inl 1, .int 0), (Sum.inl 2, .int 12), (Sum.inl 3, .int 13), (Sum.inl 4, .int 14)]
 g_STEPS : ∃ a_in_text a_in_reference a_behind_less a_in_open_name a_behind_close a_in_close_name a_in_gap a_in_attribute_name a_behind_equals a_in_quotes a_in_apostrophes a_in_bare a_go_on_in_tag a_behind_slash a_behind_bang a_in_comment a_in_raw a_in_raw_behind_less a_in_raw_close : Addr, mg "in_text" = some (.ref a_in_text) ∧ mg "in_reference" = some (.ref a_in_reference) ∧ mg "behind_less" = some (.ref a_behind_less) ∧ mg "in_open_name" = some (.ref a_in_open_name) ∧ mg "behind_close" = some (.ref a_behind_close) ∧ mg "in_close_name" = some (.ref a_in_close_name) ∧ mg "in_gap" = some (.ref a_in_gap) ∧ mg "in_attribute_name" = some (.ref a_in_attribute_name) ∧ mg "behind_equals" = some (.ref a_behind_equals) ∧ mg "in_quotes" = some (.ref a_in_quotes) ∧ mg "in_apostrophes" = some (.ref a_in_apostrophes) ∧ mg "in_bare" = some (.ref a_in_bare) ∧ mg "go_on_in_tag" = some (.ref a_go_on_in_tag) ∧ mg "behind_slash" = some (.ref a_behind_slash) ∧ mg "behind_bang" = some (.ref a_behind_bang) ∧ mg "in_comment" = some (.ref a_in_comment) ∧ mg "in_raw" = some (.ref a_in_raw) ∧ mg "in_raw_behind_less" = some (.ref a_in_raw_behind_less) ∧ mg "in_raw_close" = some (.ref a_in_raw_close) ∧ GD P w K mg "STEPS" [(Sum.inl 0, .ref a_in_text), (Sum.inl 1, .ref a_in_reference), (Sum.inl 2, .ref a_in_reference), (Sum.inl 3, .ref a_in_reference), (Sum.inl 4, .ref a_in_reference), (Sum.inl 5, .ref a_behind_less), (Sum.inl 6, .ref a_in_open_name), (Sum.inl 7, .ref a_behind_close), (Sum.inl 8, .ref a_in_close_name), (Sum.inl 9, .ref a_in_gap), (Sum.inl 10, .ref a_in_attribute_name), (Sum.inl 11, .ref a_behind_equals), (Sum.inl 12, .ref a_in_quotes), (Sum.inl 13, .ref a_in_apostrophes), (Sum.inl 14, .ref a_in_bare), (Sum.inl 15, .ref a_go_on_in_tag), (Sum.inl 16, .ref a_behind_slash), (Sum.inl 17, .ref a_behind_bang), (Sum.inl 18, .ref a_behind_bang), (Sum.inl 19, .ref a_in_comment), (Sum.inl 20, .ref a_in_comment), (Sum.inl 21, .ref a_in_comment), (Sum.inl 22, .ref a_in_raw), (Sum.inl 23, .ref a_in_raw_behind_less), (Sum.inl 24, .ref a_in_raw_close)]
 g_SPOTS : GD P w K mg "SPOTS" [(Sum.inl 0, .int 0), (Sum.inl 12, .int 1), (Sum.inl 13, .int 2), (Sum.inl 14, .int 3), (Sum.inl 11, .int 4), (Sum.inl 22, .int 5)]
 g_SPOT_BEHIND_EQUALS : GC mg "SPOT_BEHIND_EQUALS" (.int 4)
 g_SPOT_IN_RAW : GC mg "SPOT_IN_RAW" (.int 5)
 g_BETWEEN_QUOTES : GC mg "BETWEEN_QUOTES" (.int 1)
 g_BETWEEN_APOSTROPHES : GC mg "BETWEEN_APOSTROPHES" (.int 2)
 g_BARE : GC mg "BARE" (.int 3)
 g_KINDS : GT K mg "KINDS" [.int 0, .int 1, .int 2, .int 3]
 g_ENDING_BYTES : GT K mg "ENDING_BYTES" [.int 60, .int 34, .int 39]
 g_PLAIN_IN_BARE : GT K mg "PLAIN_IN_BARE" [.int 45, .int 46, .int 95]
 g_ESCAPE_NAMES : GD P w K mg "ESCAPE_NAMES" [(Sum.inl 34, .str "&quot;"), (Sum.inl 38, .str "&amp;"), (Sum.inl 39, .str "&apos;"), (Sum.inl 60, .str "&lt;")]
 g_SHORT_NAMES : GD P w K mg "SHORT_NAMES" [(Sum.inl 38, .str "&amp;"), (Sum.inl 60, .str "&lt;"), (Sum.inl 62, .str "&gt;")]
 g_LONGEST_TEXT : GC mg "LONGEST_TEXT" (.int 4096)
 g_MOST_MARKS : GC mg "MOST_MARKS" (.int 256)
 g_NOT_REFUSED : GC mg "NOT_REFUSED" (.int 0)
 g_LONGEST_PUT : GC mg "LONGEST_PUT" (.int 65536)
 g_MOST_DATA : GC mg "MOST_DATA" (.int 64)
 g_LONGEST_DATUM : GC mg "LONGEST_DATUM" (.int 512)
 g_CALLS : ∃ a_begin a_datum a_drop a_escape a_shortest a_back a_cut a_quotes a_spots a_put a_parts a_fill a_tokens : Addr, mg "begin" = some (.ref a_begin) ∧ mg "datum" = some (.ref a_datum) ∧ mg "drop" = some (.ref a_drop) ∧ mg "escape" = some (.ref a_escape) ∧ mg "shortest" = some (.ref a_shortest) ∧ mg "back" = some (.ref a_back) ∧ mg "cut" = some (.ref a_cut) ∧ mg "quotes" = some (.ref a_quotes) ∧ mg "spots" = some (.ref a_spots) ∧ mg "put" = some (.ref a_put) ∧ mg "parts" = some (.ref a_parts) ∧ mg "fill" = some (.ref a_fill) ∧ mg "tokens" = some (.ref a_tokens) ∧ GD P w K mg "CALLS" [(Sum.inl 0, .ref a_begin), (Sum.inl 1, .ref a_datum), (Sum.inl 2, .ref a_drop), (Sum.inl 3, .ref a_escape), (Sum.inl 4, .ref a_shortest), (Sum.inl 5, .ref a_back), (Sum.inl 6, .ref a_cut), (Sum.inl 7, .ref a_quotes), (Sum.inl 8, .ref a_spots), (Sum.inl 9, .ref a_put), (Sum.inl 10, .ref a_parts), (Sum.inl 11, .ref a_fill), (Sum.inl 12, .ref a_tokens)]
 g_WITHOUT_ROW : GT K mg "WITHOUT_ROW" [.int 0, .int 2]
 g_NUMBERS_AHEAD : GD P w K mg "NUMBERS_AHEAD" [(Sum.inl 3, .int 1), (Sum.inl 4, .int 1), (Sum.inl 5, .int 1), (Sum.inl 6, .int 2)]
 b_any : mg "any" = none
 b_len : mg "len" = none
 b_list : mg "list" = none
 b_max : mg "max" = none
 b_min : mg "min" = none
 b_ord : mg "ord" = none
 b_sum : mg "sum" = none
 b_tuple : mg "tuple" = none
 f_is_mark : FF K mg "is_mark" st_is_mark
 f_is_blank : FF K mg "is_blank" st_is_blank
 f_is_small_letter : FF K mg "is_small_letter" st_is_small_letter
 f_is_letter : FF K mg "is_letter" st_is_letter
 f_is_digit : FF K mg "is_digit" st_is_digit
 f_is_name_sign : FF K mg "is_name_sign" st_is_name_sign
 f_is_bare_sign : FF K mg "is_bare_sign" st_is_bare_sign
 f_signs_of : FF K mg "signs_of" st_signs_of
 f_counted : FF K mg "counted" st_counted
 f_digit_value : FF K mg "digit_value" st_digit_value
 f_number_of : FF K mg "number_of" st_number_of
 f_numbered_byte : FF K mg "numbered_byte" st_numbered_byte
 f_byte_of_body : FF K mg "byte_of_body" st_byte_of_body
 f_reference_step : FF K mg "reference_step" st_reference_step
 f_in_text : FF K mg "in_text" st_in_text
 f_in_reference : FF K mg "in_reference" st_in_reference
 f_behind_less : FF K mg "behind_less" st_behind_less
 f_lengthen : FF K mg "lengthen" st_lengthen
 f_go_on_in_tag : FF K mg "go_on_in_tag" st_go_on_in_tag
 f_in_open_name : FF K mg "in_open_name" st_in_open_name
 f_behind_close : FF K mg "behind_close" st_behind_close
 f_in_close_name : FF K mg "in_close_name" st_in_close_name
 f_in_gap : FF K mg "in_gap" st_in_gap
 f_in_attribute_name : FF K mg "in_attribute_name" st_in_attribute_name
 f_behind_equals : FF K mg "behind_equals" st_behind_equals
 f_in_quoted : FF K mg "in_quoted" st_in_quoted
 f_in_quotes : FF K mg "in_quotes" st_in_quotes
 f_in_apostrophes : FF K mg "in_apostrophes" st_in_apostrophes
 f_in_bare : FF K mg "in_bare" st_in_bare
 f_behind_slash : FF K mg "behind_slash" st_behind_slash
 f_behind_bang : FF K mg "behind_bang" st_behind_bang
 f_in_comment : FF K mg "in_comment" st_in_comment
 f_in_raw : FF K mg "in_raw" st_in_raw
 f_in_raw_behind_less : FF K mg "in_raw_behind_less" st_in_raw_behind_less
 f_in_raw_close : FF K mg "in_raw_close" st_in_raw_close
 f_step : FF K mg "step" st_step
 f_read_text : FF K mg "read_text" st_read_text
 f_told_open_tag : FF K mg "told_open_tag" st_told_open_tag
 f_told_tokens : FF K mg "told_tokens" st_told_tokens
 f_may_stand : FF K mg "may_stand" st_may_stand
 f_decimal_reference : FF K mg "decimal_reference" st_decimal_reference
 f_escape_of_byte : FF K mg "escape_of_byte" st_escape_of_byte
 f_shortest_of_byte : FF K mg "shortest_of_byte" st_shortest_of_byte
 f_escape_of : FF K mg "escape_of" st_escape_of
 f_shortest_form : FF K mg "shortest_form" st_shortest_form
 f_value_length : FF K mg "value_length" st_value_length
 f_shortest_value : FF K mg "shortest_value" st_shortest_value
 f_refusal_of_row : FF K mg "refusal_of_row" st_refusal_of_row
 f_refusal_of_bytes : FF K mg "refusal_of_bytes" st_refusal_of_bytes
 f_refusal_of_writing : FF K mg "refusal_of_writing" st_refusal_of_writing
 f_refusal_of_marked : FF K mg "refusal_of_marked" st_refusal_of_marked
 f_datum_of : FF K mg "datum_of" st_datum_of
 f_written_form : FF K mg "written_form" st_written_form
 f_written_forms : FF K mg "written_forms" st_written_forms
 f_put_length : FF K mg "put_length" st_put_length
 f_refusal_of_reading : FF K mg "refusal_of_reading" st_refusal_of_reading
 f_put_of : FF K mg "put_of" st_put_of
 f_parts_of : FF K mg "parts_of" st_parts_of
 f_filled_text : FF K mg "filled_text" st_filled_text
 f_filled_token : FF K mg "filled_token" st_filled_token
 f_filled_tokens : FF K mg "filled_tokens" st_filled_tokens
 f_read_back : FF K mg "read_back" st_read_back
 f_cut_of : FF K mg "cut_of" st_cut_of
 f_begin : FF K mg "begin" st_begin
 f_datum : FF K mg "datum" st_datum
 f_drop : FF K mg "drop" st_drop
 f_escape : FF K mg "escape" st_escape
 f_shortest : FF K mg "shortest" st_shortest
 f_back : FF K mg "back" st_back
 f_cut : FF K mg "cut" st_cut
 f_quotes : FF K mg "quotes" st_quotes
 f_spots : FF K mg "spots" st_spots
 f_put : FF K mg "put" st_put
 f_parts : FF K mg "parts" st_parts
 f_fill : FF K mg "fill" st_fill
 f_tokens : FF K mg "tokens" st_tokens
 f_answers : FF K mg "answers" st_answers
 c_Reader : mg "Reader" = some (.ref CR)
 k_Reader : Cls K CR
 m_Reader : PySem.W.makesIn K CR = true
 e_Reader : PySem.W.keepIn K (.ref CR) = true
 n_Reader_mode : NoAttr K CR "mode"
 n_Reader_count : NoAttr K CR "count"
 n_Reader_tokens : NoAttr K CR "tokens"
 n_Reader_tag_name : NoAttr K CR "tag_name"
 n_Reader_attributes : NoAttr K CR "attributes"
 n_Reader_attribute_name : NoAttr K CR "attribute_name"
 n_Reader_body : NoAttr K CR "body"
 n_Reader_run : NoAttr K CR "run"
 n_Reader_spots : NoAttr K CR "spots"
 n_Reader_fault : NoAttr K CR "fault"
 mf_Reader___init__ : MF K CR "__init__" "Reader.__init__" st_Reader___init__
 mf_Reader_take : MF K CR "take" "Reader.take" st_Reader_take
 mf_Reader_finish : MF K CR "finish" "Reader.finish" st_Reader_finish
 mf_Reader_fail : MF K CR "fail" "Reader.fail" st_Reader_fail
 mf_Reader_takes_mark : MF K CR "takes_mark" "Reader.takes_mark" st_Reader_takes_mark
 mf_Reader_tell_run : MF K CR "tell_run" "Reader.tell_run" st_Reader_tell_run
 mf_Reader_end_run : MF K CR "end_run" "Reader.end_run" st_Reader_end_run
 mf_Reader_has_attribute : MF K CR "has_attribute" "Reader.has_attribute" st_Reader_has_attribute
 mf_Reader_end_attribute : MF K CR "end_attribute" "Reader.end_attribute" st_Reader_end_attribute
 mf_Reader_tell_open_tag : MF K CR "tell_open_tag" "Reader.tell_open_tag" st_Reader_tell_open_tag
 mf_Reader_end_tag : MF K CR "end_tag" "Reader.end_tag" st_Reader_end_tag
 mf_Reader_end_ended_tag : MF K CR "end_ended_tag" "Reader.end_ended_tag" st_Reader_end_ended_tag
 mf_Reader_end_close_tag : MF K CR "end_close_tag" "Reader.end_close_tag" st_Reader_end_close_tag
 mf_Reader_leave_tag : MF K CR "leave_tag" "Reader.leave_tag" st_Reader_leave_tag
 c_Putting : mg "Putting" = some (.ref CP)
 k_Putting : Cls K CP
 m_Putting : PySem.W.makesIn K CP = true
 e_Putting : PySem.W.keepIn K (.ref CP) = true
 n_Putting_tokens : NoAttr K CP "tokens"
 n_Putting_forms : NoAttr K CP "forms"
 n_Putting_refusal : NoAttr K CP "refusal"
 mf_Putting___init__ : MF K CP "__init__" "Putting.__init__" st_Putting___init__
 mf_Putting_use_reading : MF K CP "use_reading" "Putting.use_reading" st_Putting_use_reading
 c_Back : mg "Back" = some (.ref CB)
 k_Back : Cls K CB
 m_Back : PySem.W.makesIn K CB = true
 e_Back : PySem.W.keepIn K (.ref CB) = true
 n_Back_kind : NoAttr K CB "kind"
 n_Back_count : NoAttr K CB "count"
 n_Back_content : NoAttr K CB "content"
 n_Back_within : NoAttr K CB "within"
 n_Back_body : NoAttr K CB "body"
 n_Back_bounds : NoAttr K CB "bounds"
 n_Back_fault : NoAttr K CB "fault"
 mf_Back___init__ : MF K CB "__init__" "Back.__init__" st_Back___init__
 mf_Back_take : MF K CB "take" "Back.take" st_Back_take
 mf_Back_take_in_reference : MF K CB "take_in_reference" "Back.take_in_reference" st_Back_take_in_reference
 mf_Back_finish : MF K CB "finish" "Back.finish" st_Back_finish
end ML
end
section
open PySem PySem.W PyProof.Rows
namespace ML
open L2
section
variable {P : Program} {w : World} {K : PySem.W.Frag} {h : Heap} {mg : Str → Option Value} {x : Str}
theorem gc_int {n : Int} {t : Tok} (X : K.In h) (G : h.Ns mainGlobals mg) (e : PySem.W.nsIn K mainGlobals x = some (some (.int n t))) : GC mg x (.int n) := ⟨_, PySem.W.mg_of X G e, ⟨t, rfl⟩⟩
theorem ff_mk {st : Stmt} {f : Addr} {oc : Value} {od an : Option Addr} {osl : Array (Option Value)} {kV doc pm cdv ct : Value} (X : K.In h) (G : h.Ns mainGlobals mg) (e : PySem.W.nsIn K mainGlobals x = some (some (.ref f))) (l : K.lookup f = some ⟨oc, od, .func (PySem.W.fnOf x x (defArgs st) (defBody st) (defScope st) .none kV doc pm an cdv ct), osl⟩)
  (c : PySem.W.codeIn K cdv x = true) (k : PySem.W.keepIn K (.ref f) = true) : FF K mg x st := ⟨f, _, PySem.W.mg_of X G e, fun_mk l c k⟩
theorem mf_mk {C : Addr} {m q : Str} {st : Stmt} {f : Addr} {oc : Value} {od an : Option Addr} {osl : Array (Option Value)} {kV doc pm cdv ct : Value} (e : PySem.W.findIn K (.ref C) m = some (some (.ref f))) (i : PySem.W.isFn K (.ref f) = true) (l : K.lookup f = some ⟨oc, od, .func (PySem.W.fnOf m q (defArgs st) (defBody st) (defScope st) .none kV doc pm an cdv ct), osl⟩)
  (c : PySem.W.codeIn K cdv q = true) (k : PySem.W.keepIn K (.ref f) = true) : MF K C m q st := ⟨f, _, ⟨e, i, k⟩, fun_mk l c k⟩
theorem gt_mk {xs : List V} {a : Addr} {od : Option Addr} {its : Array Value} {n : Nat} {sl : Array (Option Value)} (X : K.In h) (G : h.Ns mainGlobals mg) (e : PySem.W.nsIn K mainGlobals x = some (some (.ref a))) (l : K.lookup a = some ⟨.type "tuple", od, .seq its n, sl⟩) (hs : its.size ≤ sizeLine) (hv : Vals xs its.toList) : GT K mg x xs :=
 ⟨a, PySem.W.mg_of X G e, fun _ => .inr ⟨_, its, n, l, rfl, rfl, hs, hv⟩⟩
theorem st_mk {xs : List V} {a : Addr} {od : Option Addr} {its : Array Value} {n : Nat} {sl : Array (Option Value)} (l : K.lookup a = some ⟨.type "tuple", od, .seq its n, sl⟩) (hs : its.size ≤ sizeLine) (hv : Vals xs its.toList) : ∀ H : Hp, SqT K H a xs :=
 fun _ => .inr ⟨_, its, n, l, rfl, rfl, hs, hv⟩
theorem gd_mk {kvs : List (Key × V)} {vs : List (Key × Value)} {a : Addr} {es : Array DictEntry} {ep : Nat} (X : K.In h) (G : h.Ns mainGlobals mg) (e : PySem.W.nsIn K mainGlobals x = some (some (.ref a))) (l : K.lookup a = some ⟨.type "dict", none, .dict es ep, #[]⟩) (hs : (a == sysModules) = false) (hk : KeysOf (mixKind P w) es) (hp : Pairs (mixKind P w) es.toList vs) (hn : (vs.map (·.1)).Nodup) (hv : KV kvs vs) : GD P w K mg x kvs :=
 ⟨a, PySem.W.mg_of X G e, _, vs, l, hs, hv, es, ep, ⟨rfl, rfl, rfl⟩, rfl, hk, hp, hn⟩
def Ent (P : Program) (w : World) (p : Key × V) (e : DictEntry) : Prop := (mixKind P w).is p.1 e.key = true ∧ e.hash = (mixKind P w).hash p.1 ∧ RelV p.2 e.val
theorem ent_keys : ∀ {kvs : List (Key × V)} {es : List DictEntry}, Paired (Ent P w) kvs es → ∀ e ∈ es, ∃ k, (mixKind P w).is k e.key = true ∧ e.hash = (mixKind P w).hash k
 | _, _, .nil, _, z => nomatch z
 | _, _, .cons h t, e, z => by
  rcases List.mem_cons.mp z with rfl | z
  ·exact ⟨_, h.1, h.2.1⟩
  ·exact ent_keys t e z
theorem ent_vs : ∀ {kvs : List (Key × V)} {es : List DictEntry}, Paired (Ent P w) kvs es → ∃ vs : List (Key × Value), Pairs (mixKind P w) es vs ∧ KV kvs vs ∧ vs.map (·.1) = kvs.map (·.1)
 | _, _, .nil => ⟨[], .nil, .nil, rfl⟩
 | _, _, .cons (a := p) (b := e) h t => by
  obtain ⟨vs, h1, h2, h3⟩ := ent_vs t
  exact ⟨(p.1, e.val) :: vs, .cons h.1 rfl h1, .cons ⟨rfl, h.2.2⟩ h2, by rw [List.map_cons, List.map_cons, h3]⟩
theorem gd_of {kvs : List (Key × V)} {a : Addr} {es : Array DictEntry} {ep : Nat} (X : K.In h) (G : h.Ns mainGlobals mg) (e : PySem.W.nsIn K mainGlobals x = some (some (.ref a))) (l : K.lookup a = some ⟨.type "dict", none, .dict es ep, #[]⟩) (hs : (a == sysModules) = false) (hE : Paired (Ent P w) kvs es.toList) (hn : (kvs.map (·.1)).Nodup) : GD P w K mg x kvs := by
 obtain ⟨vs, h1, h2, h3⟩ := ent_vs hE
 exact gd_mk X G e l hs (fun e he => ent_keys hE e (Array.mem_toList_iff.mpr he)) h1 (by rw [h3]; exact hn) h2
theorem gdt_mk {kvs : List (List Key × V)} {a : Addr} {es : Array DictEntry} {ep : Nat} {xs : List (List Key × Addr × Value)} (X : K.In h) (G : h.Ns mainGlobals mg) (e : PySem.W.nsIn K mainGlobals x = some (some (.ref a))) (l : K.lookup a = some ⟨.type "dict", none, .dict es ep, #[]⟩) (hs : (a == sysModules) = false)
  (hx : Paired (fun (p : List Key × V) (q : List Key × Addr × Value) => p.1 = q.1 ∧ (∀ H : Hp, SqT K H q.2.1 (p.1.map kV)) ∧ RelV p.2 q.2.2) kvs xs) (he : es.toList = xs.map (entryOfKey (tupleKind (mixKind P w)))) (hn : (xs.map (·.1)).Nodup) : GDt P w K mg x kvs :=
 ⟨a, PySem.W.mg_of X G e, _, es, ep, xs, l, hs, ⟨rfl, rfl, rfl⟩, rfl, he, hn, hx⟩
end
theorem mk_STEPS {P : Program} {w : World} {K : PySem.W.Frag} {h : Heap} {mg : Str → Option Value} {a_in_text a_in_reference a_behind_less a_in_open_name a_behind_close a_in_close_name a_in_gap a_in_attribute_name a_behind_equals a_in_quotes a_in_apostrophes a_in_bare a_go_on_in_tag a_behind_slash a_behind_bang a_in_comment a_in_raw a_in_raw_behind_less a_in_raw_close d : Addr} {es : Array DictEntry} {ep : Nat} (X : K.In h) (G : h.Ns mainGlobals mg) (m0 : PySem.W.nsIn K mainGlobals "in_text" = some (some (.ref a_in_text))) (m1 : PySem.W.nsIn K mainGlobals "in_reference" = some (some (.ref a_in_reference))) (m2 : PySem.W.nsIn K mainGlobals "behind_less" = some (some (.ref a_behind_less))) (m3 : PySem.W.nsIn K mainGlobals "in_open_name" = some (some (.ref a_in_open_name))) (m4 : PySem.W.nsIn K mainGlobals "behind_close" = some (some (.ref a_behind_close))) (m5 : PySem.W.nsIn K mainGlobals "in_close_name" = some (some (.ref a_in_close_name))) (m6 : PySem.W.nsIn K mainGlobals "in_gap" = some (some (.ref a_in_gap))) (m7 : PySem.W.nsIn K mainGlobals "in_attribute_name" = some (some (.ref a_in_attribute_name))) (m8 : PySem.W.nsIn K mainGlobals "behind_equals" = some (some (.ref a_behind_equals))) (m9 : PySem.W.nsIn K mainGlobals "in_quotes" = some (some (.ref a_in_quotes))) (m10 : PySem.W.nsIn K mainGlobals "in_apostrophes" = some (some (.ref a_in_apostrophes))) (m11 : PySem.W.nsIn K mainGlobals "in_bare" = some (some (.ref a_in_bare))) (m12 : PySem.W.nsIn K mainGlobals "go_on_in_tag" = some (some (.ref a_go_on_in_tag))) (m13 : PySem.W.nsIn K mainGlobals "behind_slash" = some (some (.ref a_behind_slash))) (m14 : PySem.W.nsIn K mainGlobals "behind_bang" = some (some (.ref a_behind_bang))) (m15 : PySem.W.nsIn K mainGlobals "in_comment" = some (some (.ref a_in_comment))) (m16 : PySem.W.nsIn K mainGlobals "in_raw" = some (some (.ref a_in_raw))) (m17 : PySem.W.nsIn K mainGlobals "in_raw_behind_less" = some (some (.ref a_in_raw_behind_less))) (m18 : PySem.W.nsIn K mainGlobals "in_raw_close" = some (some (.ref a_in_raw_close))) (e : PySem.W.nsIn K mainGlobals "STEPS" = some (some (.ref d))) (l : K.lookup d = some ⟨.type "dict", none, .dict es ep, #[]⟩) (hs : (d == sysModules) = false) (hE : Paired (Ent P w) [(Sum.inl 0, .ref a_in_text), (Sum.inl 1, .ref a_in_reference), (Sum.inl 2, .ref a_in_reference), (Sum.inl 3, .ref a_in_reference), (Sum.inl 4, .ref a_in_reference), (Sum.inl 5, .ref a_behind_less), (Sum.inl 6, .ref a_in_open_name), (Sum.inl 7, .ref a_behind_close), (Sum.inl 8, .ref a_in_close_name), (Sum.inl 9, .ref a_in_gap), (Sum.inl 10, .ref a_in_attribute_name), (Sum.inl 11, .ref a_behind_equals), (Sum.inl 12, .ref a_in_quotes), (Sum.inl 13, .ref a_in_apostrophes), (Sum.inl 14, .ref a_in_bare), (Sum.inl 15, .ref a_go_on_in_tag), (Sum.inl 16, .ref a_behind_slash), (Sum.inl 17, .ref a_behind_bang), (Sum.inl 18, .ref a_behind_bang), (Sum.inl 19, .ref a_in_comment), (Sum.inl 20, .ref a_in_comment), (Sum.inl 21, .ref a_in_comment), (Sum.inl 22, .ref a_in_raw), (Sum.inl 23, .ref a_in_raw_behind_less), (Sum.inl 24, .ref a_in_raw_close)] es.toList) :
  ∃ a_in_text a_in_reference a_behind_less a_in_open_name a_behind_close a_in_close_name a_in_gap a_in_attribute_name a_behind_equals a_in_quotes a_in_apostrophes a_in_bare a_go_on_in_tag a_behind_slash a_behind_bang a_in_comment a_in_raw a_in_raw_behind_less a_in_raw_close : Addr, mg "in_text" = some (.ref a_in_text) ∧ mg "in_reference" = some (.ref a_in_reference) ∧ mg "behind_less" = some (.ref a_behind_less) ∧ mg "in_open_name" = some (.ref a_in_open_name) ∧ mg "behind_close" = some (.ref a_behind_close) ∧ mg "in_close_name" = some (.ref a_in_close_name) ∧ mg "in_gap" = some (.ref a_in_gap) ∧ mg "in_attribute_name" = some (.ref a_in_attribute_name) ∧ mg "behind_equals" = some (.ref a_behind_equals) ∧ mg "in_quotes" = some (.ref a_in_quotes) ∧ mg "in_apostrophes" = some (.ref a_in_apostrophes) ∧ mg "in_bare" = some (.ref a_in_bare) ∧ mg "go_on_in_tag" = some (.ref a_go_on_in_tag) ∧ mg "behind_slash" = some (.ref a_behind_slash) ∧ mg "behind_bang" = some (.ref a_behind_bang) ∧ mg "in_comment" = some (.ref a_in_comment) ∧ mg "in_raw" = some (.ref a_in_raw) ∧ mg "in_raw_behind_less" = some (.ref a_in_raw_behind_less) ∧ mg "in_raw_close" = some (.ref a_in_raw_close) ∧ GD P w K mg "STEPS" [(Sum.inl 0, .ref a_in_text), (Sum.inl 1, .ref a_in_reference), (Sum.inl 2, .ref a_in_reference), (Sum.inl 3, .ref a_in_reference), (Sum.inl 4, .ref a_in_reference), (Sum.inl 5, .ref a_behind_less), (Sum.inl 6, .ref a_in_open_name), (Sum.inl 7, .ref a_behind_close), (Sum.inl 8, .ref a_in_close_name), (Sum.inl 9, .ref a_in_gap), (Sum.inl 10, .ref a_in_attribute_name), (Sum.inl 11, .ref a_behind_equals), (Sum.inl 12, .ref a_in_quotes), (Sum.inl 13, .ref a_in_apostrophes), (Sum.inl 14, .ref a_in_bare), (Sum.inl 15, .ref a_go_on_in_tag), (Sum.inl 16, .ref a_behind_slash), (Sum.inl 17, .ref a_behind_bang), (Sum.inl 18, .ref a_behind_bang), (Sum.inl 19, .ref a_in_comment), (Sum.inl 20, .ref a_in_comment), (Sum.inl 21, .ref a_in_comment), (Sum.inl 22, .ref a_in_raw), (Sum.inl 23, .ref a_in_raw_behind_less), (Sum.inl 24, .ref a_in_raw_close)] :=
 ⟨a_in_text, a_in_reference, a_behind_less, a_in_open_name, a_behind_close, a_in_close_name, a_in_gap, a_in_attribute_name, a_behind_equals, a_in_quotes, a_in_apostrophes, a_in_bare, a_go_on_in_tag, a_behind_slash, a_behind_bang, a_in_comment, a_in_raw, a_in_raw_behind_less, a_in_raw_close, PySem.W.mg_of X G m0, PySem.W.mg_of X G m1, PySem.W.mg_of X G m2, PySem.W.mg_of X G m3, PySem.W.mg_of X G m4, PySem.W.mg_of X G m5, PySem.W.mg_of X G m6, PySem.W.mg_of X G m7, PySem.W.mg_of X G m8, PySem.W.mg_of X G m9, PySem.W.mg_of X G m10, PySem.W.mg_of X G m11, PySem.W.mg_of X G m12, PySem.W.mg_of X G m13, PySem.W.mg_of X G m14, PySem.W.mg_of X G m15, PySem.W.mg_of X G m16, PySem.W.mg_of X G m17, PySem.W.mg_of X G m18, gd_of X G e l hs hE (by simp)⟩
theorem mk_CALLS {P : Program} {w : World} {K : PySem.W.Frag} {h : Heap} {mg : Str → Option Value} {a_begin a_datum a_drop a_escape a_shortest a_back a_cut a_quotes a_spots a_put a_parts a_fill a_tokens d : Addr} {es : Array DictEntry} {ep : Nat} (X : K.In h) (G : h.Ns mainGlobals mg) (m0 : PySem.W.nsIn K mainGlobals "begin" = some (some (.ref a_begin))) (m1 : PySem.W.nsIn K mainGlobals "datum" = some (some (.ref a_datum))) (m2 : PySem.W.nsIn K mainGlobals "drop" = some (some (.ref a_drop))) (m3 : PySem.W.nsIn K mainGlobals "escape" = some (some (.ref a_escape))) (m4 : PySem.W.nsIn K mainGlobals "shortest" = some (some (.ref a_shortest))) (m5 : PySem.W.nsIn K mainGlobals "back" = some (some (.ref a_back))) (m6 : PySem.W.nsIn K mainGlobals "cut" = some (some (.ref a_cut))) (m7 : PySem.W.nsIn K mainGlobals "quotes" = some (some (.ref a_quotes))) (m8 : PySem.W.nsIn K mainGlobals "spots" = some (some (.ref a_spots))) (m9 : PySem.W.nsIn K mainGlobals "put" = some (some (.ref a_put))) (m10 : PySem.W.nsIn K mainGlobals "parts" = some (some (.ref a_parts))) (m11 : PySem.W.nsIn K mainGlobals "fill" = some (some (.ref a_fill))) (m12 : PySem.W.nsIn K mainGlobals "tokens" = some (some (.ref a_tokens))) (e : PySem.W.nsIn K mainGlobals "CALLS" = some (some (.ref d))) (l : K.lookup d = some ⟨.type "dict", none, .dict es ep, #[]⟩) (hs : (d == sysModules) = false) (hE : Paired (Ent P w) [(Sum.inl 0, .ref a_begin), (Sum.inl 1, .ref a_datum), (Sum.inl 2, .ref a_drop), (Sum.inl 3, .ref a_escape), (Sum.inl 4, .ref a_shortest), (Sum.inl 5, .ref a_back), (Sum.inl 6, .ref a_cut), (Sum.inl 7, .ref a_quotes), (Sum.inl 8, .ref a_spots), (Sum.inl 9, .ref a_put), (Sum.inl 10, .ref a_parts), (Sum.inl 11, .ref a_fill), (Sum.inl 12, .ref a_tokens)] es.toList) :
  ∃ a_begin a_datum a_drop a_escape a_shortest a_back a_cut a_quotes a_spots a_put a_parts a_fill a_tokens : Addr, mg "begin" = some (.ref a_begin) ∧ mg "datum" = some (.ref a_datum) ∧ mg "drop" = some (.ref a_drop) ∧ mg "escape" = some (.ref a_escape) ∧ mg "shortest" = some (.ref a_shortest) ∧ mg "back" = some (.ref a_back) ∧ mg "cut" = some (.ref a_cut) ∧ mg "quotes" = some (.ref a_quotes) ∧ mg "spots" = some (.ref a_spots) ∧ mg "put" = some (.ref a_put) ∧ mg "parts" = some (.ref a_parts) ∧ mg "fill" = some (.ref a_fill) ∧ mg "tokens" = some (.ref a_tokens) ∧ GD P w K mg "CALLS" [(Sum.inl 0, .ref a_begin), (Sum.inl 1, .ref a_datum), (Sum.inl 2, .ref a_drop), (Sum.inl 3, .ref a_escape), (Sum.inl 4, .ref a_shortest), (Sum.inl 5, .ref a_back), (Sum.inl 6, .ref a_cut), (Sum.inl 7, .ref a_quotes), (Sum.inl 8, .ref a_spots), (Sum.inl 9, .ref a_put), (Sum.inl 10, .ref a_parts), (Sum.inl 11, .ref a_fill), (Sum.inl 12, .ref a_tokens)] :=
 ⟨a_begin, a_datum, a_drop, a_escape, a_shortest, a_back, a_cut, a_quotes, a_spots, a_put, a_parts, a_fill, a_tokens, PySem.W.mg_of X G m0, PySem.W.mg_of X G m1, PySem.W.mg_of X G m2, PySem.W.mg_of X G m3, PySem.W.mg_of X G m4, PySem.W.mg_of X G m5, PySem.W.mg_of X G m6, PySem.W.mg_of X G m7, PySem.W.mg_of X G m8, PySem.W.mg_of X G m9, PySem.W.mg_of X G m10, PySem.W.mg_of X G m11, PySem.W.mg_of X G m12, gd_of X G e l hs hE (by simp)⟩
abbrev nbX : List (List Key × Addr × Value) := [([.inl 97, .inl 109, .inl 112], 79, .int 38 353), ([.inl 108, .inl 116], 80, .int 60 356), ([.inl 103, .inl 116], 81, .int 62 359), ([.inl 113, .inl 117, .inl 111, .inl 116], 82, .int 34 364), ([.inl 97, .inl 112, .inl 111, .inl 115], 83, .int 39 369)]
abbrev nbE : Array DictEntry := #[{ hash := 4773761836662839649, key := .ref 79, val := .int 38 353 }, { hash := -1718784658242572702, key := .ref 80, val := .int 60 356 }, { hash := 4767798028956035058, key := .ref 81, val := .int 62 359 }, { hash := 6407754560328111152, key := .ref 82, val := .int 34 364 }, { hash := 6783043442459324222, key := .ref 83, val := .int 39 369 }]
theorem nb_nodup : (nbX.map (·.1)).Nodup := by simp
theorem nb_ents (P : Program) (w : World) : nbE.toList = nbX.map (entryOfKey (tupleKind (mixKind P w))) := by kernel_rfl
theorem nb_mk {P : Program} {w : World} {K : PySem.W.Frag} {h : Heap} {mg : Str → Option Value} {a : Addr} {ep : Nat} (X : K.In h) (G : h.Ns mainGlobals mg) (e : PySem.W.nsIn K mainGlobals "NAMED_BODIES" = some (some (.ref a))) (l : K.lookup a = some ⟨.type "dict", none, .dict nbE ep, #[]⟩) (hs : (a == sysModules) = false) (t0 : ∀ H : Hp, SqT K H 79 [.int 97, .int 109, .int 112]) (t1 : ∀ H : Hp, SqT K H 80 [.int 108, .int 116]) (t2 : ∀ H : Hp, SqT K H 81 [.int 103, .int 116]) (t3 : ∀ H : Hp, SqT K H 82 [.int 113, .int 117, .int 111, .int 116]) (t4 : ∀ H : Hp, SqT K H 83 [.int 97, .int 112, .int 111, .int 115]) :
  GDt P w K mg "NAMED_BODIES" [([Sum.inl 97, Sum.inl 109, Sum.inl 112], .int 38), ([Sum.inl 108, Sum.inl 116], .int 60), ([Sum.inl 103, Sum.inl 116], .int 62), ([Sum.inl 113, Sum.inl 117, Sum.inl 111, Sum.inl 116], .int 34), ([Sum.inl 97, Sum.inl 112, Sum.inl 111, Sum.inl 115], .int 39)] :=
 gdt_mk (xs := nbX) X G e l hs (.cons ⟨rfl, t0, ⟨_, rfl⟩⟩ (.cons ⟨rfl, t1, ⟨_, rfl⟩⟩ (.cons ⟨rfl, t2, ⟨_, rfl⟩⟩ (.cons ⟨rfl, t3, ⟨_, rfl⟩⟩ (.cons ⟨rfl, t4, ⟨_, rfl⟩⟩ .nil))))) (nb_ents P w) nb_nodup
abbrev spA (K : PySem.W.Frag) : Sp := fun vs H Q _ => ∃ a l, vs = [.ref a] ∧ SqL K H a (l.map V.int) ∧ PyVaescc.answers_asked l = true ∧ ∀ p H', H p = none → Same H H' → H' p = some (.lst ((PyVaescc.answers l).map V.int)) → Q (.ref p) H'
end ML
end
namespace PySem.W.Fast
def tw10004348925346700416:=0
def tw10005272590912170397:=0
def tw10036998520872999093:=0
def tw10060480663267884103:=0
def tw10085875111736514466:=0
def tw10127096576432055288:=0
def tw10150387069939202196:=0
def tw10204588248653637863:=0
def tw10222734957014853207:=0
def tw10226615228068654121:=0
def tw10226794644909606839:=0
def tw10253981325834440278:=0
def tw10255817473018963576:=0
def tw10274925450549318355:=0
def tw10289764345569798931:=0
def tw10300534415459094741:=0
def tw10333419871740675316:=0
def tw10379861165935305357:=0
def tw10390562225404744085:=0
def tw10400398292507672112:=0
def tw10464966678320613282:=0
def tw1050913575278494181:=0
def tw10584749013882102820:=0
def tw105969379064985205:=0
def tw10607549118973689730:=0
def tw10695149307550589238:=0
def tw10726653179472034957:=0
def tw10748113189902573653:=0
def tw10757898514161084563:=0
def tw1079700119120947245:=0
def tw10818335811352547574:=0
def tw10824361444208475949:=0
def tw10829421967629973619:=0
def tw10847300581800634599:=0
def tw10851331267501461427:=0
def tw10853805830421354747:=0
def tw10869917743911749684:=0
def tw10870256067590297487:=0
def tw10873545087347785191:=0
def tw10893366111053609979:=0
def tw10910653304198597929:=0
def tw10971386381751104083:=0
def tw10976950182309108050:=0
def tw10986766167521957531:=0
def tw10992875544725102705:=0
def tw10995716718250679716:=0
def tw11065076225843913344:=0
def tw11128509117147618810:=0
def tw11170775474403541569:=0
def tw11174382131977336442:=0
def tw11214999296899831435:=0
def tw11217496782936769419:=0
def tw11268815341791400579:=0
def tw11343935143158889356:=0
def tw11349768218855638420:=0
def tw11365793840006345192:=0
def tw11388588018065575843:=0
def tw11388627412075820990:=0
def tw1140441356869342636:=0
def tw11407144914983277189:=0
def tw11420304725467976438:=0
def tw11439435575048719734:=0
def tw11440222093492286780:=0
def tw11455288752061740704:=0
def tw11492532122155969164:=0
def tw1149759445177931612:=0
def tw11501520427181877857:=0
def tw11510967345460437758:=0
def tw11566287332958784839:=0
def tw11569498576285299539:=0
def tw11576179298679090783:=0
def tw11585825561714205191:=0
def tw11605841913893429430:=0
def tw11615674983647288113:=0
def tw1161887466678622096:=0
def tw11622279861518566394:=0
def tw1163148472171321073:=0
def tw11646991928813402834:=0
def tw11707724599114331246:=0
def tw1172727559134621689:=0
def tw11738276093031374212:=0
def tw11750759230919161119:=0
def tw11751626509135321842:=0
def tw1175390624725897573:=0
def tw11762158175517055267:=0
def tw11792334575062284638:=0
def tw11808086969819598882:=0
def tw11857934967307842037:=0
def tw1185967959544573883:=0
def tw11882695227865260288:=0
def tw11886788310501357760:=0
def tw12059685181541213063:=0
def tw12066000036866810241:=0
def tw12087719254661874756:=0
def tw12112072963543068866:=0
def tw12231961015544860280:=0
def tw12241284362247455799:=0
def tw12278300718041266224:=0
def tw12289883241968939438:=0
def tw1229801780372431898:=0
def tw12311584142281530482:=0
def tw12314957458199876662:=0
def tw12363834197433483079:=0
def tw12364152488839634316:=0
def tw12393342929820997446:=0
def tw12399976527000668046:=0
def tw12424448126081520158:=0
def tw12457372576114622521:=0
def tw12472917705784621807:=0
def tw1248469398746301873:=0
def tw12485835400259490654:=0
def tw12490220789361167458:=0
def tw12491216583525864130:=0
def tw12534119117342214124:=0
def tw1254951056675302299:=0
def tw12564792365937154070:=0
def tw12617863491309719299:=0
def tw1263070636520894131:=0
def tw12650548441670396684:=0
def tw1268105172438382709:=0
def tw12687540358350066858:=0
def tw12740569726247887275:=0
def tw12745081051425739538:=0
def tw12773291840610955436:=0
def tw12801730091729138796:=0
def tw12833117531059271756:=0
def tw12844186665273569212:=0
def tw12873269366006585723:=0
def tw12880985547920072278:=0
def tw12892344056192746277:=0
def tw12918570116379856170:=0
def tw12944969390444876090:=0
def tw12982219158791422686:=0
def tw13019067095528666191:=0
def tw13084709623404220964:=0
def tw13085752404089763345:=0
def tw13133960996386207363:=0
def tw13183234030594907277:=0
def tw1319195352971586808:=0
def tw1319897636140627167:=0
def tw13225688933138016806:=0
def tw13229965860184812522:=0
def tw13247985078683927201:=0
def tw13275480431262460311:=0
def tw13288026782566436460:=0
def tw13288335648502546444:=0
def tw13301072792308127320:=0
def tw13366301720210932812:=0
def tw13425987521124959018:=0
def tw13483126761710944823:=0
def tw13489207953957478015:=0
def tw13529658656568173328:=0
def tw13544287489846324083:=0
def tw13558359231353242012:=0
def tw13598008959953073797:=0
def tw13601982094542048281:=0
def tw13617168383454805002:=0
def tw13648779560507534869:=0
def tw13649349914260454413:=0
def tw1368027392545719711:=0
def tw13686965457220124184:=0
def tw13720922901486285646:=0
def tw13722816809858646712:=0
def tw13760718423857264105:=0
def tw13760760898833002494:=0
def tw13786272391155209696:=0
def tw13865646456360198351:=0
def tw13926530638971623813:=0
def tw13999617416531942529:=0
def tw14036735076808462914:=0
def tw1413539954683209392:=0
def tw14136763735169294687:=0
def tw1417951036102100894:=0
def tw14223324538432240079:=0
def tw14230859198336795222:=0
def tw14248015756508874640:=0
def tw14282886901713842362:=0
def tw14299367366567246839:=0
def tw14302495603735058664:=0
def tw14312068438049363909:=0
def tw14316174004311100225:=0
def tw14342561855581132300:=0
def tw14377466254197295637:=0
def tw14380267522868555893:=0
def tw1439239371717791588:=0
def tw1439965429072800536:=0
def tw14441045849076646682:=0
def tw14482227833004644230:=0
def tw14502114283070067941:=0
def tw14514387895625782022:=0
def tw14528165813744960916:=0
def tw1454823541303642578:=0
def tw1456502680714954347:=0
def tw14618159245822849729:=0
def tw14620053995478659715:=0
def tw14643282350757961402:=0
def tw14689611949498525655:=0
def tw14691158457377947137:=0
def tw14741184644240973014:=0
def tw14741932433184051919:=0
def tw14743584087015000216:=0
def tw14753343319197213389:=0
def tw14790974000249053327:=0
def tw14813150947492198048:=0
def tw14823431180808746327:=0
def tw1484553052173086306:=0
def tw14853299027477532932:=0
def tw14875988348742769730:=0
def tw14876985913294180989:=0
def tw14887195230834587679:=0
def tw14903146091174341146:=0
def tw14916595883199979596:=0
def tw14947142040057899509:=0
def tw14963242391268616676:=0
def tw14996530425212504601:=0
def tw15008704028983023774:=0
def tw15053458494209385841:=0
def tw1505433163822522320:=0
def tw1507712484007757525:=0
def tw15079687583564719876:=0
def tw15092439238600128073:=0
def tw15095253089217132913:=0
def tw15104849744468809272:=0
def tw15143752123950429749:=0
def tw1516034731462000790:=0
def tw15189168100830587298:=0
def tw15205775599896971231:=0
def tw15214527986188668564:=0
def tw15257511836309150468:=0
def tw15264915751805475373:=0
def tw15283782459165963432:=0
def tw15336640172263611623:=0
def tw15367019403641282793:=0
def tw15379736695776941546:=0
def tw15457448853749298858:=0
def tw15478742528417606189:=0
def tw15480296433526294505:=0
def tw15501678339508422098:=0
def tw15575073800203684322:=0
def tw15615413822684144852:=0
def tw15680874708056117864:=0
def tw15683873234266831162:=0
def tw15723540750013360070:=0
def tw15746670142826430813:=0
def tw15752973177644728513:=0
def tw15775448985467442251:=0
def tw15809966932151454440:=0
def tw15815468831109990709:=0
def tw15887673196635431208:=0
def tw15909742542908792909:=0
def tw1592784651428670309:=0
def tw15935091737964861667:=0
def tw15943859189451585221:=0
def tw1595180713669198860:=0
def tw15954935279580603204:=0
def tw15955501656643003134:=0
def tw15963045217618209069:=0
def tw15975678686324539801:=0
def tw16002881815370681053:=0
def tw16008819286992643602:=0
def tw16009741403983039316:=0
def tw16075248157316653968:=0
def tw16082018877070305692:=0
def tw16084266731811344466:=0
def tw16213862866850971794:=0
def tw16224568641906331728:=0
def tw16226598904693465121:=0
def tw16312538559268084844:=0
def tw16396337813068269743:=0
def tw16438950353602048440:=0
def tw16538660995105629311:=0
def tw16543744952666416899:=0
def tw16641453967825543833:=0
def tw16641487587656087645:=0
def tw16720459920391522412:=0
def tw16729028221708028556:=0
def tw16770210198581563032:=0
def tw16772254294168110146:=0
def tw16790840548396340377:=0
def tw16804491910855133587:=0
def tw16814960910953971132:=0
def tw16844475040889554557:=0
def tw16912301783267602164:=0
def tw1692497581983501901:=0
def tw16940391293521797176:=0
def tw16942076283051790463:=0
def tw16943265227897177569:=0
def tw16949884933221454799:=0
def tw16968023730340163694:=0
def tw1700411138243096945:=0
def tw17037863405436675221:=0
def tw17046070743882227668:=0
def tw17061508806454449276:=0
def tw17062969391536327662:=0
def tw17068609464260900309:=0
def tw17109380461146517763:=0
def tw17115732621941448091:=0
def tw17117036472676906515:=0
def tw17159455426374935764:=0
def tw17165224655553783528:=0
def tw17166772427240186564:=0
def tw17195402151813048350:=0
def tw17198653295572306279:=0
def tw17201834177568631340:=0
def tw17240700527338894930:=0
def tw17307837441051625455:=0
def tw17321020550327013586:=0
def tw17321384749633798258:=0
def tw17324554661189003630:=0
def tw17329660110507840353:=0
def tw17347168730975642774:=0
def tw17361255338493048194:=0
def tw17367127099710383124:=0
def tw17370585272043107481:=0
def tw17379137819957823608:=0
def tw17385288741165650568:=0
def tw17418051951884406135:=0
def tw1743814874858382117:=0
def tw17474222875329456220:=0
def tw17502741131697813404:=0
def tw17514248211149531032:=0
def tw17536374963039415761:=0
def tw17559791233803170663:=0
def tw17601600940973608901:=0
def tw1760221843758334872:=0
def tw17612561249667491939:=0
def tw17615375049430315131:=0
def tw17637376431820146667:=0
def tw17657625374816232579:=0
def tw17684547414595257110:=0
def tw17715138000271324563:=0
def tw17737291356374677818:=0
def tw17737710229846074444:=0
def tw17821359151484677802:=0
def tw17821921603796421099:=0
def tw17827137545463277794:=0
def tw17842309517805045602:=0
def tw17851029914858319722:=0
def tw17852495663316780308:=0
def tw1786752095103187172:=0
def tw17919895555812026687:=0
def tw17923950632364943325:=0
def tw1792992414755651121:=0
def tw17962629843378958647:=0
def tw18026167445757089980:=0
def tw18080730758934867367:=0
def tw18143999056570209473:=0
def tw18157605911430082366:=0
def tw18157695806505521658:=0
def tw1816892256955584434:=0
def tw18179923121570995911:=0
def tw181855150695668027:=0
def tw18200971682774844830:=0
def tw18205144752824756094:=0
def tw18252453456430182433:=0
def tw18254119505846611056:=0
def tw18281196335261104561:=0
def tw18287066989916118928:=0
def tw1828999144662183697:=0
def tw18343783959229451066:=0
def tw18350535427441095971:=0
def tw18351971129054960184:=0
def tw18356056262331963778:=0
def tw18387118662883045723:=0
def tw1840888890415780793:=0
def tw18432263335742980129:=0
def tw1853957162799971101:=0
def tw1865948854925976433:=0
def tw1877638660103474615:=0
def tw1913874062344357844:=0
def tw1944579408156500694:=0
def tw1945892690126452962:=0
def tw1946147023452149371:=0
def tw1986533179184656001:=0
def tw2046561354104647962:=0
def tw2064884157928491589:=0
def tw2067141041740801545:=0
def tw2067843439322663096:=0
def tw2077065295826629854:=0
def tw2077380846179812204:=0
def tw2086671015713748439:=0
def tw2118032432444600377:=0
def tw2149899134824859593:=0
def tw2152067325120426729:=0
def tw216303610565233767:=0
def tw2174789029111104702:=0
def tw2188138788562168620:=0
def tw2193338450163971905:=0
def tw2250565257166947780:=0
def tw2343497260358815462:=0
def tw2416899133496575551:=0
def tw242332655050678954:=0
def tw2432461672381783037:=0
def tw2473729418879880109:=0
def tw2494783379936994493:=0
def tw250584587854316233:=0
def tw2510042230732723927:=0
def tw2512698738710939278:=0
def tw2530807883922428683:=0
def tw2546458833085918988:=0
def tw2554454363727600447:=0
def tw2568667460893744921:=0
def tw2588191040251292952:=0
def tw2596299235495541226:=0
def tw2607620437774903804:=0
def tw2616422276574311920:=0
def tw2620193027124887520:=0
def tw2633098769271179514:=0
def tw2681087702197599266:=0
def tw2707979029658977857:=0
def tw2736594932183162909:=0
def tw2746137442629862290:=0
def tw2761859692260229478:=0
def tw2834353303265225881:=0
def tw2836717812730725671:=0
def tw2940923175194758972:=0
def tw2941029282781945411:=0
def tw2945603272398403264:=0
def tw294960808921167884:=0
def tw2958292094826935036:=0
def tw2963806378030483053:=0
def tw2964525742309141200:=0
def tw2968491295345806659:=0
def tw2974927104607850227:=0
def tw29834373797732905:=0
def tw3014947694049153411:=0
def tw3026528706177389764:=0
def tw3029462909244303874:=0
def tw3044288646352349764:=0
def tw3117530577150136621:=0
def tw3125094845923180197:=0
def tw3131682736641434450:=0
def tw3175445088479708473:=0
def tw3242132151988577640:=0
def tw3306279067644478277:=0
def tw3322759550513947329:=0
def tw3447449108102445204:=0
def tw3512680455574858075:=0
def tw3570643555607958243:=0
def tw3589911795678733152:=0
def tw3608864742724310129:=0
def tw3627596500925767266:=0
def tw3657178628318053862:=0
def tw3716393519140353767:=0
def tw3742364012502061169:=0
def tw3752764781597808709:=0
def tw377769243528809723:=0
def tw3799910891868201480:=0
def tw3808586044380633568:=0
def tw3813150661499964755:=0
def tw3813259210790203827:=0
def tw3815625089196474427:=0
def tw3840004540219743282:=0
def tw3860322491524559402:=0
def tw3866125092710859033:=0
def tw3877825058152922572:=0
def tw3884333772761365797:=0
def tw3889049690793109842:=0
def tw3893103761822808454:=0
def tw3894810289829057595:=0
def tw3897899993325183734:=0
def tw3901197472804176288:=0
def tw3907877234629225650:=0
def tw3928633783741320798:=0
def tw3943981783761035788:=0
def tw3949617495553786178:=0
def tw3959414549704847684:=0
def tw3960469348266738438:=0
def tw4006281507465657374:=0
def tw4031286669253634151:=0
def tw4033398707497105424:=0
def tw4052658299980131219:=0
def tw4149487744484913089:=0
def tw419594983782062609:=0
def tw4200531200017552771:=0
def tw4231424734964644295:=0
def tw4243845287915865690:=0
def tw4299870538097717391:=0
def tw4360762216171562032:=0
def tw436528935199796479:=0
def tw439521799201782081:=0
def tw4422157582300489268:=0
def tw4447893466288318545:=0
def tw4463937825611913388:=0
def tw4486035748552415068:=0
def tw4512592199621304555:=0
def tw451322784351320467:=0
def tw4526742647495572236:=0
def tw4547927758272693792:=0
def tw4564288858425753740:=0
def tw4580565377982797992:=0
def tw4623518992864204703:=0
def tw464818222372341359:=0
def tw4655821142848392280:=0
def tw4660872017047042396:=0
def tw4683131619236535540:=0
def tw4719292523920102302:=0
def tw4736291394103403097:=0
def tw4736992846827224098:=0
def tw473750503626094309:=0
def tw4771530879085841784:=0
def tw479434411825627617:=0
def tw4801419892820872821:=0
def tw4805671516907174442:=0
def tw481131463742203752:=0
def tw4833278842576544203:=0
def tw4846300955228641912:=0
def tw4882246889462293767:=0
def tw488348273252260478:=0
def tw4935125777175092661:=0
def tw4939102890115410178:=0
def tw4973628296213902777:=0
def tw4990264179787731355:=0
def tw5000451563306776013:=0
def tw5000453823492645395:=0
def tw5013254691632328045:=0
def tw5021678417531909954:=0
def tw5022099243103984601:=0
def tw5037245780635016834:=0
def tw5038470659941760506:=0
def tw5052525262017012375:=0
def tw5078286662222933568:=0
def tw5087589773305095000:=0
def tw511361163817457866:=0
def tw5118230962259263059:=0
def tw5129322840561579417:=0
def tw51389994589179804:=0
def tw5157707830969317982:=0
def tw5165333788390776621:=0
def tw5166606735422448845:=0
def tw5256179177112731507:=0
def tw5256705472698115442:=0
def tw5316441088348733590:=0
def tw5354199188085808565:=0
def tw5372336342265367622:=0
def tw5397327177861061216:=0
def tw5491322757459562676:=0
def tw5496176577472565444:=0
def tw5500074962238960630:=0
def tw5525856585514769448:=0
def tw5579715523407207802:=0
def tw5619713896907158811:=0
def tw5704760317389149555:=0
def tw5722748404368687988:=0
def tw5750694260782486818:=0
def tw5768363279712378084:=0
def tw5826611060172384376:=0
def tw5855863152585486290:=0
def tw5870724109537416918:=0
def tw5873379942322881923:=0
def tw5885144500372794887:=0
def tw5886804213695870967:=0
def tw59076738087625981:=0
def tw5968919280627091137:=0
def tw5983117725562931648:=0
def tw6004491236788619456:=0
def tw6022828662911332324:=0
def tw604842548248608775:=0
def tw608214235808877586:=0
def tw6109703331562054870:=0
def tw6178760256312852991:=0
def tw6240167792221877234:=0
def tw626662807577986615:=0
def tw6270024832022459105:=0
def tw6270476834549394794:=0
def tw6281198558379137485:=0
def tw6289877268293812391:=0
def tw6339096648651557028:=0
def tw6344717338643781482:=0
def tw6375617871173754921:=0
def tw6381828842406793097:=0
def tw6402437385866937005:=0
def tw64381110543468176:=0
def tw6450119015087266085:=0
def tw6485210432777586149:=0
def tw6506792970657102270:=0
def tw6509556107049825652:=0
def tw6541470287175843899:=0
def tw6585792655518549535:=0
def tw6590952066303568366:=0
def tw6593684897402858140:=0
def tw6598279423015303184:=0
def tw659937356408235901:=0
def tw6627790553845779067:=0
def tw6674836543709738980:=0
def tw6699554893219770288:=0
def tw6724182884466964108:=0
def tw6748016142268966844:=0
def tw6791197614072483561:=0
def tw6825254466722023830:=0
def tw6837891965416182305:=0
def tw6844029320820232459:=0
def tw6871636584124990563:=0
def tw6884335881533477693:=0
def tw6885262364010878447:=0
def tw6897925824724867622:=0
def tw6902916870215820864:=0
def tw6904316958561445986:=0
def tw6930126153303618355:=0
def tw6936984298397527575:=0
def tw6939796740115748956:=0
def tw6981567553953025507:=0
def tw6996305954979260148:=0
def tw7030723077137199487:=0
def tw7038231980321570545:=0
def tw7045838578510994685:=0
def tw7057045538767874809:=0
def tw7057904944574256052:=0
def tw7079009483832880539:=0
def tw7092498575331631991:=0
def tw7098990752093213239:=0
def tw7102441228833857960:=0
def tw710770185534216963:=0
def tw7123551952221507348:=0
def tw7153737535266106054:=0
def tw7197406409410729241:=0
def tw7227574727601111338:=0
def tw724311305855831613:=0
def tw7252779572812020082:=0
def tw7298053381193337088:=0
def tw7306417723294721851:=0
def tw7318036725128207649:=0
def tw7327887449411516046:=0
def tw7338028849875880296:=0
def tw7338786737088273284:=0
def tw7339450682998004845:=0
def tw735868207012643132:=0
def tw7374368960520977063:=0
def tw7410949889268389116:=0
def tw741494865223087969:=0
def tw7420434219804747133:=0
def tw7422033743669143037:=0
def tw743360841753230974:=0
def tw7436043963226967530:=0
def tw7440519414469727429:=0
def tw7455980040471340771:=0
def tw7456088232778463923:=0
def tw7476876463334265716:=0
def tw7565661902670798051:=0
def tw7593037642949576995:=0
def tw7622396471407675117:=0
def tw7628435906783691772:=0
def tw763494405041589088:=0
def tw7651570049056674016:=0
def tw7671264185903919162:=0
def tw7692358663458525987:=0
def tw7718349834660944492:=0
def tw7721772689932075203:=0
def tw7739219289426290803:=0
def tw7764267103004603146:=0
def tw7764610017792992090:=0
def tw7832148975384429326:=0
def tw7844112522852102621:=0
def tw7918980623458753394:=0
def tw7921802418332571818:=0
def tw7924494136130461082:=0
def tw7934075021514783549:=0
def tw7948847744913030045:=0
def tw8025194093580896275:=0
def tw802582187336670219:=0
def tw8090673358183546569:=0
def tw810847922250438702:=0
def tw8138557370711841882:=0
def tw8143664365609644177:=0
def tw8151705199230723590:=0
def tw8152839347831923161:=0
def tw8166002522261392871:=0
def tw8176754272537775576:=0
def tw8178167026997393909:=0
def tw825294328203360775:=0
def tw8285011678266186730:=0
def tw8312772140192583286:=0
def tw8386047704289043435:=0
def tw8399912687619321534:=0
def tw8401087179019962910:=0
def tw8433346264472571456:=0
def tw844914261964174170:=0
def tw8449589732610157624:=0
def tw8470164407488272545:=0
def tw8480617967288004443:=0
def tw84939495757691509:=0
def tw8522030021723390417:=0
def tw8674113098898157557:=0
def tw8715868970878185677:=0
def tw8770094603648826804:=0
def tw8781118374152257361:=0
def tw878813884914176265:=0
def tw8800939124771283422:=0
def tw8814902209975166691:=0
def tw8852226746489762812:=0
def tw8865075849278308163:=0
def tw8891698695272924068:=0
def tw8908417346609296241:=0
def tw8955278423405758777:=0
def tw8957684123570267547:=0
def tw8960864194698801786:=0
def tw9014750729283371677:=0
def tw9029626828896084624:=0
def tw9066582149828573883:=0
def tw9068386583907311111:=0
def tw91053177204077571:=0
def tw910737423298995451:=0
def tw9107981680000363540:=0
def tw9137751658871422629:=0
def tw9143802654729139628:=0
def tw915762947114804955:=0
def tw9165145219480916754:=0
def tw9172514359507051685:=0
def tw9221628782910603423:=0
def tw9228450074030639105:=0
def tw9249196644493468461:=0
def tw9263075526731117937:=0
def tw9290255439979453586:=0
def tw930762605083276958:=0
def tw9331691254592719178:=0
def tw9345613155375060253:=0
def tw9374701284311260554:=0
def tw938997407173037476:=0
def tw9421099602777575314:=0
def tw9457172579503420595:=0
def tw9460332014685083809:=0
def tw9470960853735419472:=0
def tw9486455449135401504:=0
def tw9500011362832890060:=0
def tw9509669158030711084:=0
def tw9574382509691600363:=0
def tw9575222814028669957:=0
def tw9591637737025050747:=0
def tw9608616401235931094:=0
def tw9617529124258760645:=0
def tw9636559849127497252:=0
def tw9665970141477909060:=0
def tw9671868970171581601:=0
def tw9716656644204050060:=0
def tw972100251227255615:=0
def tw9756056503260444654:=0
def tw9757041393452776766:=0
def tw9776902803322975696:=0
def tw9781785611815507601:=0
def tw9794984108498359297:=0
def tw9804454978521414454:=0
def tw9817444052125448184:=0
def tw9828183207124472464:=0
def tw9830172769419638963:=0
def tw9832965048247921011:=0
def tw9865971229527992312:=0
def tw9895539815448371903:=0
def tw9900964506397405149:=0
def tw9903493570149682062:=0
def tw9915570435159110653:=0
def tw9923655003577842490:=0
def tw9928371605522363061:=0
def tw9978072492291995100:=0
end PySem.W.Fast
section
namespace MH
open PySem PySem.W PyProof.Rows
abbrev q0 (p : Program) : Program := { p with main := { p.main with body := [], scope := { p.main.scope with names := [] } } }
theorem left_of {p q : Program} {loose : List Str} {Xt : Shared → Bool} {α : Type} {Yf : Shared → α} {Ya : World → α} {N : Nat} {g0 : Bool}
  (h : LeftO p (q0 p) (looseW q loose ++ ((recsOf q).map (·.name) ++ ((litsOf q).map (·.1) ++ (clssOf q (looseW q loose)).map (·.name)))) Xt
   (fun s => (tablesOk q s.heap, seen ((recsOf q).map (·.name)) (ownsOf q) [] { s with gens := #[] }, tabsOk q s, pinSeenD q (drecsOf q) s, plainSeenE q (looseW q loose) s, plainSeenD q loose s, wideSeen q s, clsSeenW q loose s, Yf s))
   (fun w => (true, expectedOf q, true, pinGoodD (drecsOf q), plainGoodE q (looseW q loose), plainGoodD q loose, wideGood q, clsGoodW q loose, Ya w)) N g0) : LeftO p q loose Xt Yf Ya N g0 := fun w => by
 obtain ⟨s, e1, e2⟩ := Option.map_eq_some_iff.mp (h w)
 rw [e1]
 simp only [openSeen, openGood, Prod.mk.injEq] at e2
 obtain ⟨⟨_, b2, b3, _⟩, c1, c2, c3, c4, c5, c6, c7, c8, c9⟩ := e2
 simp only [Bool.and_eq_true] at b3
 obtain ⟨⟨⟨⟨⟨⟨k1, k2⟩, k3⟩, k4⟩, _⟩, k5⟩, k6⟩ := b3
 have kk : s.heap.keysOk (looseW q loose) ((recsOf q).map (·.name)) ((litsOf q).map (·.1)) ((clssOf q (looseW q loose)).map (·.name)) = true := by
  unfold Heap.keysOk at k1 ⊢
  rw [List.all_eq_true] at k1 ⊢
  intro k hk
  have z := k1 k hk
  have e : looseW (q0 p) (looseW q loose ++ ((recsOf q).map (·.name) ++ ((litsOf q).map (·.1) ++ (clssOf q (looseW q loose)).map (·.name)))) = looseW q loose ++ ((recsOf q).map (·.name) ++ ((litsOf q).map (·.1) ++ (clssOf q (looseW q loose)).map (·.name))) := by
   generalize (looseW q loose ++ ((recsOf q).map (·.name) ++ ((litsOf q).map (·.1) ++ (clssOf q (looseW q loose)).map (·.name)))) = L
   show (L ++ [] ++ []) ++ [] = L
   simp
  rw [e] at z
  simp only [Bool.or_eq_true, List.contains_eq_mem, decide_eq_true_eq, List.mem_append] at z ⊢
  have n1 : recsOf (q0 p) = [] := rfl
  have n2 : litsOf (q0 p) = [] := rfl
  have n3 : ∀ l, clssOf (q0 p) l = [] := fun _ => rfl
  rw [n1, n2, n3] at z
  simp only [List.map_nil, List.not_mem_nil, or_false] at z
  rcases z with z | z | z | z | z
  ·exact .inl (.inl (.inl (.inl z)))
  ·exact .inl (.inl (.inl (.inr z)))
  ·exact .inl (.inl (.inr z))
  ·exact .inl (.inr z)
  ·exact .inr z
 show some (openSeen q loose (importedModules p.main.body) Xt g0 s, Yf s) = some (openGood q loose, Ya w)
 rw [c9]
 unfold openSeen openGood
 rw [c2, b2, c3, c4, c5, c6, c7, c8, kk, k2, k3, k4, c1, k5, k6]
 rfl
theorem keep {A B : Prop} (a : A) (h : A → B) : B := h a
end MH
end
section
open PySem PySem.W PyProof.Rows
local macro_rules
 | `(tactic| refine $f:term $args*) => do
  let g := fun (n : Lean.Name) (a : Lean.Syntax) => a.isOfKind ``Lean.Parser.Term.syntheticHole && a[1].getId.eraseMacroScopes == n
  if args.any (fun a => g `hl a.raw) then
   let args' ← args.mapM fun a => if g `hl a.raw then (do let t : Lean.TSyntax `term := ⟨a.raw⟩; let u ← `((MH.left_of $t)); pure ⟨u.raw⟩) else if g `hc a.raw then (do let t : Lean.TSyntax `term := ⟨a.raw⟩; let u ← `((MH.keep $(Lean.mkIdent `ao) $t)); pure ⟨u.raw⟩) else pure a
   `(tactic| refine $f $args'*)
  else Lean.Macro.throwUnsupported
local macro_rules | `(tactic| walk_at "r0") => `(tactic| (refine' ML.gc_int (by assumption) (by assumption) ?e; (case e => k_is)))
local macro_rules | `(tactic| walk_at "r1") => `(tactic| (refine PySem.W.mg_none_of (by assumption) (by assumption) ?e; (case e => k_is)))
local macro_rules | `(tactic| walk_at "r2") => `(tactic| (refine' ML.ff_mk (by assumption) (by assumption) ?e ?l ?c ?k; (case e => k_is); (case l => k_is); (case c => k_is); (case k => k_is)))
local macro_rules | `(tactic| walk_at "r3") => `(tactic| (refine ⟨?a, ?b, ?c, ?d⟩; (case a => k_is); (case b => k_is); (case c => k_is); (case d => k_is)))
local macro_rules | `(tactic| walk_at "r4") => `(tactic| (k_is))
local macro_rules | `(tactic| walk_at "r5") => `(tactic| (refine (show PySem.W.findIn _ _ _ = some none from ?e); (case e => k_is)))
local macro_rules | `(tactic| walk_at "r6") => `(tactic| (refine' ML.mf_mk ?e ?i ?l ?c ?k; (case e => k_is); (case i => k_is); (case l => k_is); (case c => k_is); (case k => k_is)))
theorem ML.hd (ao : ∀ (P : Program) (w : World) (K : PySem.W.Frag) (mg : Str → Option Value) (fa : Addr), mg "answers" = some (.ref fa) → (∃ CR CP CB, ML.Txt P w K mg CR CP CB) → ∃ fd : FuncData, (∀ (s : Shared) (us : List Value), us.length = (["calls"] : List Str).length → BindsTo s fd ⟨us, []⟩ ((["calls"] : List Str).zip us)) ∧ ∀ base : Heap, K.In base → base.Ns mainGlobals mg → L2.FnOk P w K mg base L2.CX0 14 fa fd ["calls"] (ML.spA K)) : PySem.Challenge.rw_markedtext_s01_answers.Holds := by
 have hws := ML.well
 w_on; k_headS; (case hw => exact ⟨[.list [.int 0]], by decide +kernel, by decide +kernel⟩)
 intro ao
 k_fillS
 refine L2.walk_specK (r := PySem.Challenge.rw_markedtext_s01_answers) (k := 14) (CX := L2.CX0) (ps := ["calls"]) (sp := ML.spA) ML.well rfl rfl ⟨rfl, by decide, by decide⟩ (fun w h Y => PySem.W.kIn_of Y) ?F ?S (fun _ _ _ _ z => z)
 case F =>
  intro w mg fa h Y KX G hmg
  clear Y
  refine ao _ _ _ _ _ hmg ?T
  clear hmg
  refine' ⟨_, _, _, ML.Txt.mk ?g_UNEXPECTED ?g_NAME_TOO_LONG ?g_NAME_TWICE ?g_WRONG_REFERENCE ?g_WRONG_MARK ?g_WRONG_RAW_END ?g_UNFINISHED ?g_OUT_OF_RANGE ?g_TOO_MANY_NUMBERS ?g_TOO_MANY_DATA ?g_NO_DATA ?g_NO_SUCH_KIND ?g_NO_SHORTEST_FORM ?g_NOT_READ_BACK ?g_CUT_BELOW_ZERO ?g_TOO_MANY_MARKS ?g_NOT_READ_FINE ?g_MARK_IN_RAW ?g_PUT_TOO_LONG ?g_QUOTE ?g_HASH ?g_AND ?g_APOSTROPHE ?g_DASH ?g_SLASH ?g_SEMICOLON ?g_LESS ?g_EQUALS ?g_GREATER ?g_SMALL_X ?g_HIGHEST_BYTE ?g_HIGHEST_SIGN ?g_BLANKS ?g_NEITHER_BLANK_NOR_BARE ?g_LONGEST_BODY ?g_GOES_ON ?g_WRONG ?g_NAMED_BODIES ?g_TEXT ?g_REFERENCE_IN_TEXT ?g_REFERENCE_IN_QUOTES ?g_REFERENCE_IN_APOSTROPHES ?g_REFERENCE_IN_BARE ?g_BEHIND_LESS ?g_OPEN_NAME ?g_BEHIND_CLOSE ?g_CLOSE_NAME ?g_GAP ?g_ATTRIBUTE_NAME ?g_BEHIND_EQUALS ?g_IN_QUOTES ?g_IN_APOSTROPHES ?g_IN_BARE ?g_BEHIND_VALUE ?g_BEHIND_SLASH ?g_BEHIND_BANG ?g_COMMENT ?g_COMMENT_TWO_DASHES ?g_RAW ?g_RAW_BEHIND_LESS ?g_RAW_CLOSE ?g_ENDED ?g_FAULT ?g_RUN_TOKEN ?g_OPEN_TOKEN ?g_CLOSE_TOKEN ?g_COMMENT_TOKEN ?g_RAW_TOKEN ?g_BANG ?g_LONGEST_NAME ?g_BEHIND_REFERENCE ?g_STEPS ?g_SPOTS ?g_SPOT_BEHIND_EQUALS ?g_SPOT_IN_RAW ?g_BETWEEN_QUOTES ?g_BETWEEN_APOSTROPHES ?g_BARE ?g_KINDS ?g_ENDING_BYTES ?g_PLAIN_IN_BARE ?g_ESCAPE_NAMES ?g_SHORT_NAMES ?g_LONGEST_TEXT ?g_MOST_MARKS ?g_NOT_REFUSED ?g_LONGEST_PUT ?g_MOST_DATA ?g_LONGEST_DATUM ?g_CALLS ?g_WITHOUT_ROW ?g_NUMBERS_AHEAD ?b_any ?b_len ?b_list ?b_max ?b_min ?b_ord ?b_sum ?b_tuple ?f_is_mark ?f_is_blank ?f_is_small_letter ?f_is_letter ?f_is_digit ?f_is_name_sign ?f_is_bare_sign ?f_signs_of ?f_counted ?f_digit_value ?f_number_of ?f_numbered_byte ?f_byte_of_body ?f_reference_step ?f_in_text ?f_in_reference ?f_behind_less ?f_lengthen ?f_go_on_in_tag ?f_in_open_name ?f_behind_close ?f_in_close_name ?f_in_gap ?f_in_attribute_name ?f_behind_equals ?f_in_quoted ?f_in_quotes ?f_in_apostrophes ?f_in_bare ?f_behind_slash ?f_behind_bang ?f_in_comment ?f_in_raw ?f_in_raw_behind_less ?f_in_raw_close ?f_step ?f_read_text ?f_told_open_tag ?f_told_tokens ?f_may_stand ?f_decimal_reference ?f_escape_of_byte ?f_shortest_of_byte ?f_escape_of ?f_shortest_form ?f_value_length ?f_shortest_value ?f_refusal_of_row ?f_refusal_of_bytes ?f_refusal_of_writing ?f_refusal_of_marked ?f_datum_of ?f_written_form ?f_written_forms ?f_put_length ?f_refusal_of_reading ?f_put_of ?f_parts_of ?f_filled_text ?f_filled_token ?f_filled_tokens ?f_read_back ?f_cut_of ?f_begin ?f_datum ?f_drop ?f_escape ?f_shortest ?f_back ?f_cut ?f_quotes ?f_spots ?f_put ?f_parts ?f_fill ?f_tokens ?f_answers ?c_Reader ?k_Reader ?m_Reader ?e_Reader ?n_Reader_mode ?n_Reader_count ?n_Reader_tokens ?n_Reader_tag_name ?n_Reader_attributes ?n_Reader_attribute_name ?n_Reader_body ?n_Reader_run ?n_Reader_spots ?n_Reader_fault ?mf_Reader___init__ ?mf_Reader_take ?mf_Reader_finish ?mf_Reader_fail ?mf_Reader_takes_mark ?mf_Reader_tell_run ?mf_Reader_end_run ?mf_Reader_has_attribute ?mf_Reader_end_attribute ?mf_Reader_tell_open_tag ?mf_Reader_end_tag ?mf_Reader_end_ended_tag ?mf_Reader_end_close_tag ?mf_Reader_leave_tag ?c_Putting ?k_Putting ?m_Putting ?e_Putting ?n_Putting_tokens ?n_Putting_forms ?n_Putting_refusal ?mf_Putting___init__ ?mf_Putting_use_reading ?c_Back ?k_Back ?m_Back ?e_Back ?n_Back_kind ?n_Back_count ?n_Back_content ?n_Back_within ?n_Back_body ?n_Back_bounds ?n_Back_fault ?mf_Back___init__ ?mf_Back_take ?mf_Back_take_in_reference ?mf_Back_finish⟩
  (case c_Reader => refine' PySem.W.mg_of KX G ?z177e; (case z177e => k_is))
  (case c_Putting => refine' PySem.W.mg_of KX G ?z205e; (case z205e => k_is))
  (case c_Back => refine' PySem.W.mg_of KX G ?z214e; (case z214e => k_is))
  case g_UNEXPECTED => walk_at "r0"
  case g_NAME_TOO_LONG => walk_at "r0"
  case g_NAME_TWICE => walk_at "r0"
  case g_WRONG_REFERENCE => walk_at "r0"
  case g_WRONG_MARK => walk_at "r0"
  case g_WRONG_RAW_END => walk_at "r0"
  case g_UNFINISHED => walk_at "r0"
  case g_OUT_OF_RANGE => walk_at "r0"
  case g_TOO_MANY_NUMBERS => walk_at "r0"
  case g_TOO_MANY_DATA => walk_at "r0"
  case g_NO_DATA => walk_at "r0"
  case g_NO_SUCH_KIND => walk_at "r0"
  case g_NO_SHORTEST_FORM => walk_at "r0"
  case g_NOT_READ_BACK => walk_at "r0"
  case g_CUT_BELOW_ZERO => walk_at "r0"
  case g_TOO_MANY_MARKS => walk_at "r0"
  case g_NOT_READ_FINE => walk_at "r0"
  case g_MARK_IN_RAW => walk_at "r0"
  case g_PUT_TOO_LONG => walk_at "r0"
  case g_QUOTE => walk_at "r0"
  case g_HASH => walk_at "r0"
  case g_AND => walk_at "r0"
  case g_APOSTROPHE => walk_at "r0"
  case g_DASH => walk_at "r0"
  case g_SLASH => walk_at "r0"
  case g_SEMICOLON => walk_at "r0"
  case g_LESS => walk_at "r0"
  case g_EQUALS => walk_at "r0"
  case g_GREATER => walk_at "r0"
  case g_SMALL_X => walk_at "r0"
  case g_HIGHEST_BYTE => walk_at "r0"
  case g_HIGHEST_SIGN => walk_at "r0"
  (case g_BLANKS => (refine' ML.gt_mk KX G ?z32e ?z32l ?z32s ?z32v; (case z32e => k_is); (case z32l => k_is); (case z32s => decide); (case z32v => exact (.cons ⟨_, rfl⟩ (.cons ⟨_, rfl⟩ (.cons ⟨_, rfl⟩ (.cons ⟨_, rfl⟩ .nil)))))))
  (case g_NEITHER_BLANK_NOR_BARE => (refine' ML.gt_mk KX G ?z33e ?z33l ?z33s ?z33v; (case z33e => k_is); (case z33l => k_is); (case z33s => decide); (case z33v => exact (.cons ⟨_, rfl⟩ (.cons ⟨_, rfl⟩ (.cons ⟨_, rfl⟩ (.cons ⟨_, rfl⟩ (.cons ⟨_, rfl⟩ (.cons ⟨_, rfl⟩ (.cons ⟨_, rfl⟩ .nil))))))))))
  case g_LONGEST_BODY => walk_at "r0"
  case g_GOES_ON => walk_at "r0"
  case g_WRONG => walk_at "r0"
  (case g_NAMED_BODIES => (refine' ML.nb_mk KX G ?z37e ?z37l ?z37s ?z37t0 ?z37t1 ?z37t2 ?z37t3 ?z37t4; (case z37e => k_is); (case z37l => k_is); (case z37s => rfl); (case z37t0 => refine' ML.st_mk ?z37a0 ?z37b0 ?z37c0; (case z37a0 => k_is); (case z37b0 => decide); (case z37c0 => exact (.cons ⟨_, rfl⟩ (.cons ⟨_, rfl⟩ (.cons ⟨_, rfl⟩ .nil))))); (case z37t1 => refine' ML.st_mk ?z37a1 ?z37b1 ?z37c1; (case z37a1 => k_is); (case z37b1 => decide); (case z37c1 => exact (.cons ⟨_, rfl⟩ (.cons ⟨_, rfl⟩ .nil)))); (case z37t2 => refine' ML.st_mk ?z37a2 ?z37b2 ?z37c2; (case z37a2 => k_is); (case z37b2 => decide); (case z37c2 => exact (.cons ⟨_, rfl⟩ (.cons ⟨_, rfl⟩ .nil)))); (case z37t3 => refine' ML.st_mk ?z37a3 ?z37b3 ?z37c3; (case z37a3 => k_is); (case z37b3 => decide); (case z37c3 => exact (.cons ⟨_, rfl⟩ (.cons ⟨_, rfl⟩ (.cons ⟨_, rfl⟩ (.cons ⟨_, rfl⟩ .nil)))))); (case z37t4 => refine' ML.st_mk ?z37a4 ?z37b4 ?z37c4; (case z37a4 => k_is); (case z37b4 => decide); (case z37c4 => exact (.cons ⟨_, rfl⟩ (.cons ⟨_, rfl⟩ (.cons ⟨_, rfl⟩ (.cons ⟨_, rfl⟩ .nil))))))))
  case g_TEXT => walk_at "r0"
  case g_REFERENCE_IN_TEXT => walk_at "r0"
  case g_REFERENCE_IN_QUOTES => walk_at "r0"
  case g_REFERENCE_IN_APOSTROPHES => walk_at "r0"
  case g_REFERENCE_IN_BARE => walk_at "r0"
  case g_BEHIND_LESS => walk_at "r0"
  case g_OPEN_NAME => walk_at "r0"
  case g_BEHIND_CLOSE => walk_at "r0"
  case g_CLOSE_NAME => walk_at "r0"
  case g_GAP => walk_at "r0"
  case g_ATTRIBUTE_NAME => walk_at "r0"
  case g_BEHIND_EQUALS => walk_at "r0"
  case g_IN_QUOTES => walk_at "r0"
  case g_IN_APOSTROPHES => walk_at "r0"
  case g_IN_BARE => walk_at "r0"
  case g_BEHIND_VALUE => walk_at "r0"
  case g_BEHIND_SLASH => walk_at "r0"
  case g_BEHIND_BANG => walk_at "r0"
  case g_COMMENT => walk_at "r0"
  case g_COMMENT_TWO_DASHES => walk_at "r0"
  case g_RAW => walk_at "r0"
  case g_RAW_BEHIND_LESS => walk_at "r0"
  case g_RAW_CLOSE => walk_at "r0"
  case g_ENDED => walk_at "r0"
  case g_FAULT => walk_at "r0"
  case g_RUN_TOKEN => walk_at "r0"
  case g_OPEN_TOKEN => walk_at "r0"
  case g_CLOSE_TOKEN => walk_at "r0"
  case g_COMMENT_TOKEN => walk_at "r0"
  case g_RAW_TOKEN => walk_at "r0"
  case g_BANG => walk_at "r0"
  case g_LONGEST_NAME => walk_at "r0"
  (case g_BEHIND_REFERENCE => (refine' ML.gd_of KX G ?z70e ?z70l ?z70s ?z70v ?z70n; (case z70e => k_is); (case z70l => k_is); (case z70s => rfl); (case z70v => exact (.cons ⟨rfl, rfl, ⟨_, rfl⟩⟩ (.cons ⟨rfl, rfl, ⟨_, rfl⟩⟩ (.cons ⟨rfl, rfl, ⟨_, rfl⟩⟩ (.cons ⟨rfl, rfl, ⟨_, rfl⟩⟩ .nil))))); (case z70n => decide)))
  (case g_STEPS => (refine' ML.mk_STEPS KX G ?z71m0 ?z71m1 ?z71m2 ?z71m3 ?z71m4 ?z71m5 ?z71m6 ?z71m7 ?z71m8 ?z71m9 ?z71m10 ?z71m11 ?z71m12 ?z71m13 ?z71m14 ?z71m15 ?z71m16 ?z71m17 ?z71m18 ?z71e ?z71l ?z71s ?z71v; (case z71m0 => k_is); (case z71m1 => k_is); (case z71m2 => k_is); (case z71m3 => k_is); (case z71m4 => k_is); (case z71m5 => k_is); (case z71m6 => k_is); (case z71m7 => k_is); (case z71m8 => k_is); (case z71m9 => k_is); (case z71m10 => k_is); (case z71m11 => k_is); (case z71m12 => k_is); (case z71m13 => k_is); (case z71m14 => k_is); (case z71m15 => k_is); (case z71m16 => k_is); (case z71m17 => k_is); (case z71m18 => k_is); (case z71e => k_is); (case z71l => k_is); (case z71s => rfl); (case z71v => exact (.cons ⟨rfl, rfl, rfl⟩ (.cons ⟨rfl, rfl, rfl⟩ (.cons ⟨rfl, rfl, rfl⟩ (.cons ⟨rfl, rfl, rfl⟩ (.cons ⟨rfl, rfl, rfl⟩ (.cons ⟨rfl, rfl, rfl⟩ (.cons ⟨rfl, rfl, rfl⟩ (.cons ⟨rfl, rfl, rfl⟩ (.cons ⟨rfl, rfl, rfl⟩ (.cons ⟨rfl, rfl, rfl⟩ (.cons ⟨rfl, rfl, rfl⟩ (.cons ⟨rfl, rfl, rfl⟩ (.cons ⟨rfl, rfl, rfl⟩ (.cons ⟨rfl, rfl, rfl⟩ (.cons ⟨rfl, rfl, rfl⟩ (.cons ⟨rfl, rfl, rfl⟩ (.cons ⟨rfl, rfl, rfl⟩ (.cons ⟨rfl, rfl, rfl⟩ (.cons ⟨rfl, rfl, rfl⟩ (.cons ⟨rfl, rfl, rfl⟩ (.cons ⟨rfl, rfl, rfl⟩ (.cons ⟨rfl, rfl, rfl⟩ (.cons ⟨rfl, rfl, rfl⟩ (.cons ⟨rfl, rfl, rfl⟩ (.cons ⟨rfl, rfl, rfl⟩ .nil))))))))))))))))))))))))))))
  (case g_SPOTS => (refine' ML.gd_of KX G ?z72e ?z72l ?z72s ?z72v ?z72n; (case z72e => k_is); (case z72l => k_is); (case z72s => rfl); (case z72v => exact (.cons ⟨rfl, rfl, ⟨_, rfl⟩⟩ (.cons ⟨rfl, rfl, ⟨_, rfl⟩⟩ (.cons ⟨rfl, rfl, ⟨_, rfl⟩⟩ (.cons ⟨rfl, rfl, ⟨_, rfl⟩⟩ (.cons ⟨rfl, rfl, ⟨_, rfl⟩⟩ (.cons ⟨rfl, rfl, ⟨_, rfl⟩⟩ .nil))))))); (case z72n => decide)))
  case g_SPOT_BEHIND_EQUALS => walk_at "r0"
  case g_SPOT_IN_RAW => walk_at "r0"
  case g_BETWEEN_QUOTES => walk_at "r0"
  case g_BETWEEN_APOSTROPHES => walk_at "r0"
  case g_BARE => walk_at "r0"
  (case g_KINDS => (refine' ML.gt_mk KX G ?z78e ?z78l ?z78s ?z78v; (case z78e => k_is); (case z78l => k_is); (case z78s => decide); (case z78v => exact (.cons ⟨_, rfl⟩ (.cons ⟨_, rfl⟩ (.cons ⟨_, rfl⟩ (.cons ⟨_, rfl⟩ .nil)))))))
  (case g_ENDING_BYTES => (refine' ML.gt_mk KX G ?z79e ?z79l ?z79s ?z79v; (case z79e => k_is); (case z79l => k_is); (case z79s => decide); (case z79v => exact (.cons ⟨_, rfl⟩ (.cons ⟨_, rfl⟩ (.cons ⟨_, rfl⟩ .nil))))))
  (case g_PLAIN_IN_BARE => (refine' ML.gt_mk KX G ?z80e ?z80l ?z80s ?z80v; (case z80e => k_is); (case z80l => k_is); (case z80s => decide); (case z80v => exact (.cons ⟨_, rfl⟩ (.cons ⟨_, rfl⟩ (.cons ⟨_, rfl⟩ .nil))))))
  (case g_ESCAPE_NAMES => (refine' ML.gd_of KX G ?z81e ?z81l ?z81s ?z81v ?z81n; (case z81e => k_is); (case z81l => k_is); (case z81s => rfl); (case z81v => exact (.cons ⟨rfl, rfl, ⟨_, rfl⟩⟩ (.cons ⟨rfl, rfl, ⟨_, rfl⟩⟩ (.cons ⟨rfl, rfl, ⟨_, rfl⟩⟩ (.cons ⟨rfl, rfl, ⟨_, rfl⟩⟩ .nil))))); (case z81n => decide)))
  (case g_SHORT_NAMES => (refine' ML.gd_of KX G ?z82e ?z82l ?z82s ?z82v ?z82n; (case z82e => k_is); (case z82l => k_is); (case z82s => rfl); (case z82v => exact (.cons ⟨rfl, rfl, ⟨_, rfl⟩⟩ (.cons ⟨rfl, rfl, ⟨_, rfl⟩⟩ (.cons ⟨rfl, rfl, ⟨_, rfl⟩⟩ .nil)))); (case z82n => decide)))
  case g_LONGEST_TEXT => walk_at "r0"
  case g_MOST_MARKS => walk_at "r0"
  case g_NOT_REFUSED => walk_at "r0"
  case g_LONGEST_PUT => walk_at "r0"
  case g_MOST_DATA => walk_at "r0"
  case g_LONGEST_DATUM => walk_at "r0"
  (case g_CALLS => (refine' ML.mk_CALLS KX G ?z89m0 ?z89m1 ?z89m2 ?z89m3 ?z89m4 ?z89m5 ?z89m6 ?z89m7 ?z89m8 ?z89m9 ?z89m10 ?z89m11 ?z89m12 ?z89e ?z89l ?z89s ?z89v; (case z89m0 => k_is); (case z89m1 => k_is); (case z89m2 => k_is); (case z89m3 => k_is); (case z89m4 => k_is); (case z89m5 => k_is); (case z89m6 => k_is); (case z89m7 => k_is); (case z89m8 => k_is); (case z89m9 => k_is); (case z89m10 => k_is); (case z89m11 => k_is); (case z89m12 => k_is); (case z89e => k_is); (case z89l => k_is); (case z89s => rfl); (case z89v => exact (.cons ⟨rfl, rfl, rfl⟩ (.cons ⟨rfl, rfl, rfl⟩ (.cons ⟨rfl, rfl, rfl⟩ (.cons ⟨rfl, rfl, rfl⟩ (.cons ⟨rfl, rfl, rfl⟩ (.cons ⟨rfl, rfl, rfl⟩ (.cons ⟨rfl, rfl, rfl⟩ (.cons ⟨rfl, rfl, rfl⟩ (.cons ⟨rfl, rfl, rfl⟩ (.cons ⟨rfl, rfl, rfl⟩ (.cons ⟨rfl, rfl, rfl⟩ (.cons ⟨rfl, rfl, rfl⟩ (.cons ⟨rfl, rfl, rfl⟩ .nil))))))))))))))))
  (case g_WITHOUT_ROW => (refine' ML.gt_mk KX G ?z90e ?z90l ?z90s ?z90v; (case z90e => k_is); (case z90l => k_is); (case z90s => decide); (case z90v => exact (.cons ⟨_, rfl⟩ (.cons ⟨_, rfl⟩ .nil)))))
  (case g_NUMBERS_AHEAD => (refine' ML.gd_of KX G ?z91e ?z91l ?z91s ?z91v ?z91n; (case z91e => k_is); (case z91l => k_is); (case z91s => rfl); (case z91v => exact (.cons ⟨rfl, rfl, ⟨_, rfl⟩⟩ (.cons ⟨rfl, rfl, ⟨_, rfl⟩⟩ (.cons ⟨rfl, rfl, ⟨_, rfl⟩⟩ (.cons ⟨rfl, rfl, ⟨_, rfl⟩⟩ .nil))))); (case z91n => decide)))
  case b_any => walk_at "r1"
  case b_len => walk_at "r1"
  case b_list => walk_at "r1"
  case b_max => walk_at "r1"
  case b_min => walk_at "r1"
  case b_ord => walk_at "r1"
  case b_sum => walk_at "r1"
  case b_tuple => walk_at "r1"
  case f_is_mark => walk_at "r2"
  case f_is_blank => walk_at "r2"
  case f_is_small_letter => walk_at "r2"
  case f_is_letter => walk_at "r2"
  case f_is_digit => walk_at "r2"
  case f_is_name_sign => walk_at "r2"
  case f_is_bare_sign => walk_at "r2"
  case f_signs_of => walk_at "r2"
  case f_counted => walk_at "r2"
  case f_digit_value => walk_at "r2"
  case f_number_of => walk_at "r2"
  case f_numbered_byte => walk_at "r2"
  case f_byte_of_body => walk_at "r2"
  case f_reference_step => walk_at "r2"
  case f_in_text => walk_at "r2"
  case f_in_reference => walk_at "r2"
  case f_behind_less => walk_at "r2"
  case f_lengthen => walk_at "r2"
  case f_go_on_in_tag => walk_at "r2"
  case f_in_open_name => walk_at "r2"
  case f_behind_close => walk_at "r2"
  case f_in_close_name => walk_at "r2"
  case f_in_gap => walk_at "r2"
  case f_in_attribute_name => walk_at "r2"
  case f_behind_equals => walk_at "r2"
  case f_in_quoted => walk_at "r2"
  case f_in_quotes => walk_at "r2"
  case f_in_apostrophes => walk_at "r2"
  case f_in_bare => walk_at "r2"
  case f_behind_slash => walk_at "r2"
  case f_behind_bang => walk_at "r2"
  case f_in_comment => walk_at "r2"
  case f_in_raw => walk_at "r2"
  case f_in_raw_behind_less => walk_at "r2"
  case f_in_raw_close => walk_at "r2"
  case f_step => walk_at "r2"
  case f_read_text => walk_at "r2"
  case f_told_open_tag => walk_at "r2"
  case f_told_tokens => walk_at "r2"
  case f_may_stand => walk_at "r2"
  case f_decimal_reference => walk_at "r2"
  case f_escape_of_byte => walk_at "r2"
  case f_shortest_of_byte => walk_at "r2"
  case f_escape_of => walk_at "r2"
  case f_shortest_form => walk_at "r2"
  case f_value_length => walk_at "r2"
  case f_shortest_value => walk_at "r2"
  case f_refusal_of_row => walk_at "r2"
  case f_refusal_of_bytes => walk_at "r2"
  case f_refusal_of_writing => walk_at "r2"
  case f_refusal_of_marked => walk_at "r2"
  case f_datum_of => walk_at "r2"
  case f_written_form => walk_at "r2"
  case f_written_forms => walk_at "r2"
  case f_put_length => walk_at "r2"
  case f_refusal_of_reading => walk_at "r2"
  case f_put_of => walk_at "r2"
  case f_parts_of => walk_at "r2"
  case f_filled_text => walk_at "r2"
  case f_filled_token => walk_at "r2"
  case f_filled_tokens => walk_at "r2"
  case f_read_back => walk_at "r2"
  case f_cut_of => walk_at "r2"
  case f_begin => walk_at "r2"
  case f_datum => walk_at "r2"
  case f_drop => walk_at "r2"
  case f_escape => walk_at "r2"
  case f_shortest => walk_at "r2"
  case f_back => walk_at "r2"
  case f_cut => walk_at "r2"
  case f_quotes => walk_at "r2"
  case f_spots => walk_at "r2"
  case f_put => walk_at "r2"
  case f_parts => walk_at "r2"
  case f_fill => walk_at "r2"
  case f_tokens => walk_at "r2"
  case f_answers => walk_at "r2"
  case k_Reader => walk_at "r3"
  case m_Reader => walk_at "r4"
  case e_Reader => walk_at "r4"
  case n_Reader_mode => walk_at "r5"
  case n_Reader_count => walk_at "r5"
  case n_Reader_tokens => walk_at "r5"
  case n_Reader_tag_name => walk_at "r5"
  case n_Reader_attributes => walk_at "r5"
  case n_Reader_attribute_name => walk_at "r5"
  case n_Reader_body => walk_at "r5"
  case n_Reader_run => walk_at "r5"
  case n_Reader_spots => walk_at "r5"
  case n_Reader_fault => walk_at "r5"
  case mf_Reader___init__ => walk_at "r6"
  case mf_Reader_take => walk_at "r6"
  case mf_Reader_finish => walk_at "r6"
  case mf_Reader_fail => walk_at "r6"
  case mf_Reader_takes_mark => walk_at "r6"
  case mf_Reader_tell_run => walk_at "r6"
  case mf_Reader_end_run => walk_at "r6"
  case mf_Reader_has_attribute => walk_at "r6"
  case mf_Reader_end_attribute => walk_at "r6"
  case mf_Reader_tell_open_tag => walk_at "r6"
  case mf_Reader_end_tag => walk_at "r6"
  case mf_Reader_end_ended_tag => walk_at "r6"
  case mf_Reader_end_close_tag => walk_at "r6"
  case mf_Reader_leave_tag => walk_at "r6"
  case k_Putting => walk_at "r3"
  case m_Putting => walk_at "r4"
  case e_Putting => walk_at "r4"
  case n_Putting_tokens => walk_at "r5"
  case n_Putting_forms => walk_at "r5"
  case n_Putting_refusal => walk_at "r5"
  case mf_Putting___init__ => walk_at "r6"
  case mf_Putting_use_reading => walk_at "r6"
  case k_Back => walk_at "r3"
  case m_Back => walk_at "r4"
  case e_Back => walk_at "r4"
  case n_Back_kind => walk_at "r5"
  case n_Back_count => walk_at "r5"
  case n_Back_content => walk_at "r5"
  case n_Back_within => walk_at "r5"
  case n_Back_body => walk_at "r5"
  case n_Back_bounds => walk_at "r5"
  case n_Back_fault => walk_at "r5"
  case mf_Back___init__ => walk_at "r6"
  case mf_Back_take => walk_at "r6"
  case mf_Back_take_in_reference => walk_at "r6"
  case mf_Back_finish => walk_at "r6"
 case S =>
  intro K H xs a hO hwi hask hx
  cases hx with
  | cons h1 h2 =>
   cases h2
   cases h1 with
   | lst hs ha =>
    have e := L2.ints_dw a.1 _ ha
    subst e
    exact ⟨_, a.1, rfl, hs, hask, fun p H' hp s hr => .lst (L2.SqL.of hr) (L2.dw_ints _)⟩
end
section
namespace ML
open PySem PySem.Spec PyProof.Rows L2
def vi (t : List Nat) : List V := t.map fun (n : Nat) => V.int (n : Int)
theorem vi_cons (n : Nat) (t : List Nat) : vi (n :: t) = .int n :: vi t := rfl
theorem vi_append (s t : List Nat) : vi (s ++ t) = vi s ++ vi t := by unfold vi; rw [List.map_append]
theorem vi_snoc (s : List Nat) (n : Nat) : vi (s ++ [n]) = vi s ++ [.int n] := vi_append s [n]
theorem vi_length (t : List Nat) : (vi t).length = t.length := by unfold vi; rw [List.length_map]
theorem vi_get (t : List Nat) (i : Nat) : (vi t)[i]? = (t[i]?).map fun (n : Nat) => V.int (n : Int) := by unfold vi; rw [List.getElem?_map]
theorem vi_get_of {t : List Nat} {i : Nat} {x : V} (h : (vi t)[i]? = some x) : ∃ n : Nat, t[i]? = some n ∧ x = .int n := by
 rw [vi_get] at h
 cases e : t[i]? with
 | none => rw [e] at h; cases h
 | some n => rw [e] at h; exact ⟨n, rfl, (Option.some.inj h).symm⟩
theorem vi_take (t : List Nat) (i : Nat) : (vi t).take i = vi (t.take i) := by unfold vi; rw [List.map_take]
theorem vi_drop (t : List Nat) (i : Nat) : (vi t).drop i = vi (t.drop i) := by unfold vi; rw [List.map_drop]
theorem vi_isEmpty (t : List Nat) : (vi t).isEmpty = t.isEmpty := by cases t <;> rfl
theorem take_snoc {α : Type} {l : List α} {i : Nat} {x : α} (h : l[i]? = some x) : l.take (i + 1) = l.take i ++ [x] := by
 rw [List.take_add_one, h]; rfl
def pd (t : List Nat) : PyData := .list (t.map fun (n : Nat) => PyData.int (n : Int))
theorem dpAll_vi {K : PySem.W.Frag} {H : Hp} : ∀ t : List Nat, DpAll K H (vi t) (t.map fun (n : Nat) => PyData.int (n : Int))
 | [] => .nil
 | n :: t => .cons (.int n) (dpAll_vi t)
theorem dp_vi {K : PySem.W.Frag} {H : Hp} {a : Addr} {t : List Nat} (h : SqL K H a (vi t)) : Dp K H (.ref a) (pd t) := .lst h (dpAll_vi t)
theorem lay_vi : ∀ t : List Nat, PyData.canLayAll0 (t.map fun (n : Nat) => PyData.int (n : Int)) = true ∧ PyData.depthAll (t.map fun (n : Nat) => PyData.int (n : Int)) = 0
 | [] => ⟨by simp [PyData.canLayAll0], by simp [PyData.depthAll]⟩
 | n :: t => by
  obtain ⟨a, b⟩ := lay_vi t
  exact ⟨by simp [PyData.canLayAll0, PyData.canLay0, a], by simp [PyData.depthAll, PyData.depth, b]⟩
theorem lay_pd (t : List Nat) : (pd t).canLay0 = true := by unfold pd; simp only [PyData.canLay0]; exact (lay_vi t).1
theorem depth_pd (t : List Nat) : (pd t).depth = 1 := by unfold pd; simp only [PyData.depth, (lay_vi t).2]
theorem shaped_pd (t : List Nat) : SeqAt.shaped (pd t) = true := by
 unfold SeqAt.shaped
 rw [lay_pd, depth_pd]; decide
theorem eqv_pd : ∀ s t : List Nat, PyData.eqv (pd s) (pd t) = decide (s = t) := by
 intro s t
 unfold pd
 simp only [PyData.eqv]
 induction s generalizing t with
 | nil => cases t <;> simp [PyData.eqvAll]
 | cons a s ih =>
  cases t with
  | nil => simp [PyData.eqvAll]
  | cons b t =>
   simp only [List.map_cons, PyData.eqvAll, PyData.eqv, ih]
   by_cases h : a = b
   ·subst h; simp
   ·have : ¬ (a : Int) = (b : Int) := by omega
    simp [h, this]
def rEqL (K : PySem.W.Frag) : R2 := fun x y H Q => ∃ a b s t, x = .ref a ∧ y = .ref b ∧ SqL K H a (vi s) ∧ SqL K H b (vi t) ∧ Q (.bl (decide (s = t))) H
def rNeL (K : PySem.W.Frag) : R2 := fun x y H Q => ∃ a b s t, x = .ref a ∧ y = .ref b ∧ SqL K H a (vi s) ∧ SqL K H b (vi t) ∧ Q (.bl (!decide (s = t))) H
def rInL (K : PySem.W.Frag) : R2 := fun x y H Q => ∃ a p bs s ts, x = .ref a ∧ y = .ref p ∧ SqL K H a (vi s) ∧ SqT K H p (bs.map V.ref) ∧ Paired (fun b t => SqL K H b (vi t)) bs ts ∧ Q (.bl (decide (s ∈ ts))) H
section
variable {X : Cx}
theorem op_eqL (hu : X.A.units + 64 < cLine) : OpR X (compareOp .Eq) (rEqL X.K) := by
 intro pins s σ H x y v u Q I rx ry h
 obtain ⟨a, b, t1, t2, rfl, rfl, h1, h2, q⟩ := h
 exact op_eqD hu pins s σ H _ _ v u Q I rx ry ⟨_, _, dp_vi h1, dp_vi h2, shaped_pd _, shaped_pd _, by rw [eqv_pd]; exact q⟩
theorem op_neL (hu : X.A.units + 64 < cLine) : OpR X (compareOp .NotEq) (rNeL X.K) := by
 intro pins s σ H x y v u Q I rx ry h
 obtain ⟨a, b, t1, t2, rfl, rfl, h1, h2, q⟩ := h
 exact op_neD hu pins s σ H _ _ v u Q I rx ry ⟨_, _, dp_vi h1, dp_vi h2, shaped_pd _, shaped_pd _, by rw [eqv_pd]; exact q⟩
theorem dpAll_pds {K : PySem.W.Frag} {H : Hp} : ∀ {bs : List Addr} {ts : List (List Nat)}, Paired (fun b t => SqL K H b (vi t)) bs ts → DpAll K H (bs.map V.ref) (ts.map pd)
 | _, _, .nil => .nil
 | _, _, .cons h r => .cons (dp_vi h) (dpAll_pds r)
theorem lay_pds : ∀ ts : List (List Nat), PyData.canLayAll0 (ts.map pd) = true ∧ PyData.depthAll (ts.map pd) ≤ 1
 | [] => ⟨by simp [PyData.canLayAll0], by simp [PyData.depthAll]⟩
 | t :: ts => by
  obtain ⟨a, b⟩ := lay_pds ts
  exact ⟨by simp [PyData.canLayAll0, lay_pd, a], by simp only [List.map_cons, PyData.depthAll, depth_pd]; omega⟩
theorem any_pds (s : List Nat) : ∀ ts : List (List Nat), ((ts.map pd).any fun y => PyData.eqv y (pd s)) = decide (s ∈ ts)
 | [] => by simp
 | t :: ts => by
  rw [List.map_cons, List.any_cons, any_pds s ts, eqv_pd]
  by_cases h : t = s
  ·subst h; simp
  ·have h' : ¬ s = t := fun e => h e.symm
   simp [h, h']
theorem op_inL (hu : X.A.units + 64 < cLine) : OpR X (compareOp .In) (rInL X.K) := by
 intro pins s σ H x y v u Q I rx ry h
 obtain ⟨a, p, bs, t, ts, rfl, rfl, h1, h2, h3, q⟩ := h
 obtain ⟨as, r1⟩ := Dp.reads I (pd t) _ v (dp_vi h1) rx
 obtain ⟨cs, r2⟩ := Dp.reads I (.tuple (ts.map pd)) _ u (.tup h2 (dpAll_pds h3)) ry
 refine SeqAt.in_tuple_reads r2 r1 (lay_pds ts).1 (lay_pd t) ?_ ⟨.bl _, H, I, rfl, ?_⟩
 ·rw [depth_pd]; have := (lay_pds ts).2; omega
 ·rw [any_pds]; exact q
theorem op_addU : OpR X (binaryOp .Add) (fun x y H Q => rI0 (fun i j => .int (i + j)) x y H Q ∨ rCat x y H Q) := op_add.or op_cat
theorem op_mulU : OpR X (binaryOp .Mult) (fun x y H Q => rI CMul (fun i j => .int (i * j)) x y H Q ∨ rRep x y H Q) := op_mul.or op_rep
theorem op_eqU (hu : X.A.units + 64 < cLine) : OpR X (compareOp .Eq) (fun x y H Q => rEq x y H Q ∨ rEqL X.K x y H Q) := op_eq.or (op_eqL hu)
theorem op_neU (hu : X.A.units + 64 < cLine) : OpR X (compareOp .NotEq) (fun x y H Q => rNe x y H Q ∨ rNeL X.K x y H Q) := op_ne.or (op_neL hu)
end
def Kp (T : Addr → Prop) (H H' : Hp) : Prop := ∀ b o, H b = some o → ¬ T b → H' b = some o
theorem Kp.refl {T : Addr → Prop} (H : Hp) : Kp T H H := fun _ _ h _ => h
theorem Kp.trans {T : Addr → Prop} {H H1 H2 : Hp} (a : Kp T H H1) (b : Kp T H1 H2) : Kp T H H2 := fun c o h n => b c o (a c o h n) n
theorem Kp.mono {T T' : Addr → Prop} {H H' : Hp} (a : Kp T H H') (h : ∀ b, T b → T' b) : Kp T' H H' := fun c o e n => a c o e fun z => n (h c z)
theorem Kp.same {T : Addr → Prop} {H H' : Hp} (a : Same H H') : Kp T H H' := fun c o e _ => a c o e
theorem Kp.updT {T : Addr → Prop} {H : Hp} {a : Addr} {o : HO} (h : T a) : Kp T H (upd H a o) := fun b u e n => by
 rw [upd_ne (fun z => n (by rw [z]; exact h))]; exact e
theorem Kp.newA {T : Addr → Prop} {H : Hp} {a : Addr} {o : HO} (h : H a = none) : Kp T H (upd H a o) := fun b u e _ => by
 rw [upd_ne (ne_of_none e h)]; exact e
theorem same_new {H : Hp} {a : Addr} {o : HO} (h : H a = none) : Same H (upd H a o) := fun b u e => by
 rw [upd_ne (ne_of_none e h)]; exact e
def rNew (xs : List V) (H : Hp) (Q : VK) : Prop := ∀ p H', H p = none → Same H H' → H' p = some (.lst xs) → Q (.ref p) H'
end ML
end
section
namespace ML
open PySem PySem.Spec PyProof.Rows L2
theorem us1 {α : Type} {C : List α → Prop} (h : ∀ a, C [a]) (us : List α) (e : us.length = 1) : C us := match us, e with | [a], _ => h a
theorem us2 {α : Type} {C : List α → Prop} (h : ∀ a b, C [a, b]) (us : List α) (e : us.length = 2) : C us := match us, e with | [a, b], _ => h a b
theorem us3 {α : Type} {C : List α → Prop} (h : ∀ a b c, C [a, b, c]) (us : List α) (e : us.length = 3) : C us := match us, e with | [a, b, c], _ => h a b c
theorem us4 {α : Type} {C : List α → Prop} (h : ∀ a b c d, C [a, b, c, d]) (us : List α) (e : us.length = 4) : C us := match us, e with | [a, b, c, d], _ => h a b c d
theorem ln1 {A0 : Type} {vs : List V} {n : Nat} {f : A0 → List V} {R : A0 → Prop} (h : ∃ a0, vs = f a0 ∧ R a0) (e : ∀ a0, (f a0).length = n) : vs.length = n := by
 obtain ⟨a0, rfl, _⟩ := h
 exact e _ 
theorem ln2 {A0 A1 : Type} {vs : List V} {n : Nat} {f : A0 → A1 → List V} {R : A0 → A1 → Prop} (h : ∃ a0 a1, vs = f a0 a1 ∧ R a0 a1) (e : ∀ a0 a1, (f a0 a1).length = n) : vs.length = n := by
 obtain ⟨a0, a1, rfl, _⟩ := h
 exact e _ _ 
theorem ln3 {A0 A1 A2 : Type} {vs : List V} {n : Nat} {f : A0 → A1 → A2 → List V} {R : A0 → A1 → A2 → Prop} (h : ∃ a0 a1 a2, vs = f a0 a1 a2 ∧ R a0 a1 a2) (e : ∀ a0 a1 a2, (f a0 a1 a2).length = n) : vs.length = n := by
 obtain ⟨a0, a1, a2, rfl, _⟩ := h
 exact e _ _ _ 
theorem ln4 {A0 A1 A2 A3 : Type} {vs : List V} {n : Nat} {f : A0 → A1 → A2 → A3 → List V} {R : A0 → A1 → A2 → A3 → Prop} (h : ∃ a0 a1 a2 a3, vs = f a0 a1 a2 a3 ∧ R a0 a1 a2 a3) (e : ∀ a0 a1 a2 a3, (f a0 a1 a2 a3).length = n) : vs.length = n := by
 obtain ⟨a0, a1, a2, a3, rfl, _⟩ := h
 exact e _ _ _ _ 
theorem ln5 {A0 A1 A2 A3 A4 : Type} {vs : List V} {n : Nat} {f : A0 → A1 → A2 → A3 → A4 → List V} {R : A0 → A1 → A2 → A3 → A4 → Prop} (h : ∃ a0 a1 a2 a3 a4, vs = f a0 a1 a2 a3 a4 ∧ R a0 a1 a2 a3 a4) (e : ∀ a0 a1 a2 a3 a4, (f a0 a1 a2 a3 a4).length = n) : vs.length = n := by
 obtain ⟨a0, a1, a2, a3, a4, rfl, _⟩ := h
 exact e _ _ _ _ _ 
theorem ln6 {A0 A1 A2 A3 A4 A5 : Type} {vs : List V} {n : Nat} {f : A0 → A1 → A2 → A3 → A4 → A5 → List V} {R : A0 → A1 → A2 → A3 → A4 → A5 → Prop} (h : ∃ a0 a1 a2 a3 a4 a5, vs = f a0 a1 a2 a3 a4 a5 ∧ R a0 a1 a2 a3 a4 a5) (e : ∀ a0 a1 a2 a3 a4 a5, (f a0 a1 a2 a3 a4 a5).length = n) : vs.length = n := by
 obtain ⟨a0, a1, a2, a3, a4, a5, rfl, _⟩ := h
 exact e _ _ _ _ _ _ 
theorem ln7 {A0 A1 A2 A3 A4 A5 A6 : Type} {vs : List V} {n : Nat} {f : A0 → A1 → A2 → A3 → A4 → A5 → A6 → List V} {R : A0 → A1 → A2 → A3 → A4 → A5 → A6 → Prop} (h : ∃ a0 a1 a2 a3 a4 a5 a6, vs = f a0 a1 a2 a3 a4 a5 a6 ∧ R a0 a1 a2 a3 a4 a5 a6) (e : ∀ a0 a1 a2 a3 a4 a5 a6, (f a0 a1 a2 a3 a4 a5 a6).length = n) : vs.length = n := by
 obtain ⟨a0, a1, a2, a3, a4, a5, a6, rfl, _⟩ := h
 exact e _ _ _ _ _ _ _ 
section
variable {P : Program} {w : World} {K : PySem.W.Frag} {mg : Str → Option Value} {base : Heap}
theorem gf_mk {x : Str} {st : Stmt} {N ps : List Str} {k : Nat} {sp : Sp} (F : FF K mg x st) (S : FnScope N ps (defScope st))
  (hb : ∀ (kV doc pm : Value) (an : Option Addr) (cdv ct : Value) (us : List Value), us.length = ps.length → bindArgs (PySem.W.fnOf x x (defArgs st) (defBody st) (defScope st) .none kV doc pm an cdv ct) ⟨us, []⟩ = pure (ps.zip us))
  (len : ∀ vs H Q E, sp vs H Q E → vs.length = ps.length)
  (hbody : ∀ (f : Addr) (cdv : Value) (A : Around) (outer : List Env) (s : Shared) (H : Hp) (vs : List V) (Q : VK) (E : XK), Room k (A.deeper (envOfC x (defScope st) s.heap.objs.size f cdv)) → sp vs H Q E →
   ∃ t, PSs (cxOf CX0 P w K mg base N x (defScope st) f cdv A outer s H E).nox (defBody st) t ∧ t { nx := fun _ H' => Q .non H', rt := Q } (start N vs) H) : GF P w K mg base x (k + 1) ps sp := by
 obtain ⟨f, fd, hm, F⟩ := F
 exact ⟨f, fd, hm, F.kp, F.ok S len (hbody f), F.binds hb⟩
theorem gm_mk {C : Addr} {m q : Str} {st : Stmt} {N ps : List Str} {k : Nat} {sp : Sp} (c : Cls K C) (M : MF K C m q st) (S : FnScope N ps (defScope st))
  (hb : ∀ (kV doc pm : Value) (an : Option Addr) (cdv ct : Value) (us : List Value), us.length = ps.length → bindArgs (PySem.W.fnOf m q (defArgs st) (defBody st) (defScope st) .none kV doc pm an cdv ct) ⟨us, []⟩ = pure (ps.zip us))
  (len : ∀ vs H Q E, sp vs H Q E → vs.length = ps.length)
  (hbody : ∀ (f : Addr) (cdv : Value) (A : Around) (outer : List Env) (s : Shared) (H : Hp) (vs : List V) (Q : VK) (E : XK), Room k (A.deeper (envOfC q (defScope st) s.heap.objs.size f cdv)) → sp vs H Q E →
   ∃ t, PSs (cxOf CX0 P w K mg base N q (defScope st) f cdv A outer s H E).nox (defBody st) t ∧ t { nx := fun _ H' => Q .non H', rt := Q } (start N vs) H) : GM P w K mg base C m (k + 1) ps sp := by
 obtain ⟨f, fd, M, F⟩ := M
 exact ⟨f, fd, c, M, F.ok S len (hbody f), F.binds hb⟩
end
end ML
namespace ML
open PySem PySem.Spec PyProof.Rows L2
section
variable {CX : CXT} {P : Program} {w : World} {K : PySem.W.Frag} {mg : Str → Option Value} {base : Heap} {N : List Str} {q : Str} {sc : Scope} {f : Addr} {cdv : Value} {A : Around} {outer : List Env} {s : Shared} {H : Hp} {E : XK}
theorem cx_K : (cxOf CX P w K mg base N q sc f cdv A outer s H E).K = K := rfl
theorem cx_prog : (cxOf CX P w K mg base N q sc f cdv A outer s H E).prog = P := rfl
theorem cx_w : (cxOf CX P w K mg base N q sc f cdv A outer s H E).w = w := rfl
theorem cx_mg : (cxOf CX P w K mg base N q sc f cdv A outer s H E).mg = mg := rfl
theorem cx_base : (cxOf CX P w K mg base N q sc f cdv A outer s H E).base = base := rfl
end
end ML
end
section
namespace ML
open PySem PySem.Spec PyProof.Rows L2
def rAddU : R2 := fun x y H Q => rI0 (fun i j => .int (i + j)) x y H Q ∨ rCat x y H Q
def rMulU : R2 := fun x y H Q => rI CMul (fun i j => .int (i * j)) x y H Q ∨ rRep x y H Q
def rEqU (K : PySem.W.Frag) : R2 := fun x y H Q => rEq x y H Q ∨ rEqL K x y H Q
def rNeU (K : PySem.W.Frag) : R2 := fun x y H Q => rNe x y H Q ∨ rNeL K x y H Q
section
variable {X : Cx}
theorem op_addW : OpR X (binaryOp .Add) rAddU := op_addU
theorem op_mulW : OpR X (binaryOp .Mult) rMulU := op_mulU
theorem op_eqW (hu : X.A.units + 64 < cLine) : OpR X (compareOp .Eq) (rEqU X.K) := op_eqU hu
theorem op_neW (hu : X.A.units + 64 < cLine) : OpR X (compareOp .NotEq) (rNeU X.K) := op_neU hu
end
theorem rAddU_int {i j : Int} {H : Hp} {Q : VK} : rAddU (.int i) (.int j) H Q ↔ Q (.int (i + j)) H := by
 constructor
 ·rintro (⟨a, b, h1, h2, q⟩ | h)
  ·injection h1 with h1; injection h2 with h2; subst h1 h2; exact q
  ·obtain ⟨_, _, _, _, h, _⟩ := h; cases h
 ·intro q; exact .inl ⟨i, j, rfl, rfl, q⟩
theorem rEqU_int {K : PySem.W.Frag} {i j : Int} {H : Hp} {Q : VK} : rEqU K (.int i) (.int j) H Q ↔ Q (.bl (decide (i = j))) H := by
 have e : decide (V.int i = V.int j) = decide (i = j) := by simp
 constructor
 ·rintro (⟨h1, q⟩ | h)
  ·rw [e] at q; exact q
  ·obtain ⟨_, _, _, _, h, _⟩ := h; cases h
 ·intro q; exact .inl ⟨rfl, by rw [e]; exact q⟩
theorem rNeU_int {K : PySem.W.Frag} {i j : Int} {H : Hp} {Q : VK} : rNeU K (.int i) (.int j) H Q ↔ Q (.bl (!decide (i = j))) H := by
 have e : decide (V.int i = V.int j) = decide (i = j) := by simp
 constructor
 ·rintro (⟨h1, q⟩ | h)
  ·rw [e] at q; exact q
  ·obtain ⟨_, _, _, _, h, _⟩ := h; cases h
 ·intro q; exact .inl ⟨rfl, by rw [e]; exact q⟩
theorem tru_bl {K : PySem.W.Frag} {b : Bool} {H : Hp} {Q : Bool → Prop} : (∃ k, TruV K (.bl b) H k ∧ Q k) ↔ Q b := by
 constructor
 ·rintro ⟨k, e, q⟩; have e' : k = b := e; rw [e'] at q; exact q
 ·intro q; exact ⟨b, rfl, q⟩
theorem inV_ints (c : Int) : ∀ l : List Int, inV (.int c) (l.map V.int) = decide (c ∈ l)
 | [] => rfl
 | a :: l => by
  have ih := inV_ints c l
  unfold inV at ih ⊢
  rw [List.map_cons, List.any_cons, ih]
  by_cases h : a = c
  ·subst h; simp [eqV]
  ·have h' : ¬ c = a := fun e => h e.symm
   simp [eqV, h, h']
theorem flat_ints : ∀ l : List Int, (l.map V.int).all flatV = true
 | [] => rfl
 | a :: l => by rw [List.map_cons, List.all_cons, flat_ints l]; rfl
def tInC (neg : Bool) (l : List Int) (te : TE) : TE := fun σ H Q => te σ H fun x H1 => ∃ i : Int, x = .int i ∧ Q (.bl (if neg then !decide (i ∈ l) else decide (i ∈ l))) H1
def tInD (kvs : List (Key × V)) (te : TE) : TE := fun σ H Q => te σ H fun y H1 => ∃ k, y = kV k ∧ Q (.bl (valV kvs k).isSome) H1
section
variable {X : Cx} {e : Expr} {te : TE} {x : Str} {p : Pos}
theorem pc_inC (l : List Int) (G : GT X.K X.mg x (l.map V.int)) (hg : Gl X x) (he : PE X e te) (hd : (x == ("__debug__" : Str)) = false := by decide) : PC X .In e (.Name x p) (tInC false l te) := by
 intro pins s σ H Q I h
 refine thn (he pins s σ H _ I h) fun v s1 ⟨y, H1, I1, r1, i, ei, q⟩ => ?_
 subst ei
 refine thn (pe_gt G hg hd pins s1 σ H1 (fun z H2 => ∃ a, z = .ref a ∧ H2 = H1 ∧ ∀ H' : Hp, SqT X.K H' a (l.map V.int)) I1 fun a ha => ⟨a, rfl, rfl, ha⟩) fun u s2 ⟨z, H2, I2, r2, a, ez, e2, ha⟩ => ?_
 subst ez e2
 exact op_in_seq pins s2 σ H2 _ _ v u Q I2 r1 r2 ⟨a, _, rfl, .inr (ha H2), rfl, flat_ints l, by rw [inV_ints]; exact q⟩
theorem pc_notInC (l : List Int) (G : GT X.K X.mg x (l.map V.int)) (hg : Gl X x) (he : PE X e te) (hd : (x == ("__debug__" : Str)) = false := by decide) : PC X .NotIn e (.Name x p) (tInC true l te) := by
 intro pins s σ H Q I h
 refine thn (he pins s σ H _ I h) fun v s1 ⟨y, H1, I1, r1, i, ei, q⟩ => ?_
 subst ei
 refine thn (pe_gt G hg hd pins s1 σ H1 (fun z H2 => ∃ a, z = .ref a ∧ H2 = H1 ∧ ∀ H' : Hp, SqT X.K H' a (l.map V.int)) I1 fun a ha => ⟨a, rfl, rfl, ha⟩) fun u s2 ⟨z, H2, I2, r2, a, ez, e2, ha⟩ => ?_
 subst ez e2
 exact op_notIn_seq pins s2 σ H2 _ _ v u Q I2 r1 r2 ⟨a, _, rfl, .inr (ha H2), rfl, flat_ints l, by rw [inV_ints]; exact q⟩
end
def sp1 (f : Nat → V) : Sp := fun vs H Q _ => ∃ c : Nat, vs = [.int c] ∧ Q (f c) H
theorem sp1_at {f : Nat → V} {c : Nat} {H : Hp} {Q : VK} {E : XK} : sp1 f [.int c] H Q E ↔ Q (f c) H := by
 constructor
 ·rintro ⟨d, e, q⟩
  injection e with e _
  injection e with e
  have : d = c := by omega
  rw [this] at q; exact q
 ·intro q; exact ⟨c, rfl, q⟩
theorem blq {Q : VK} {H : Hp} {b c : Bool} (q : Q (.bl c) H) (e : b = c) : Q (.bl b) H := e ▸ q
theorem intq {Q : VK} {H : Hp} {b c : Int} (q : Q (.int c) H) (e : b = c) : Q (.int b) H := e ▸ q
theorem SqL.same {K : PySem.W.Frag} {H H' : Hp} {a : Addr} {xs : List V} (h : SqL K H a xs) (s : Same H H') : SqL K H' a xs := by
 rcases h with h | h
 ·rcases h with h | ⟨o, h⟩
  ·exact .inl (.inl (s _ _ h))
  ·exact .inl (.inr ⟨o, s _ _ h⟩)
 ·exact .inr h
end ML
namespace ML
open PySem PySem.Spec PyProof.Rows L2
section
variable {K : PySem.W.Frag} {H : Hp} {Q : VK} {a b p : Addr} {xs ys : List V}
theorem lenv (h : SqL K H a xs) : LenV K (.ref a) H xs.length := .inl ⟨xs, h, rfl⟩
theorem rAddU_lst (h1 : H a = some (.lst xs)) (h2 : H b = some (.lst ys)) (hz : xs.length + ys.length ≤ sizeLine) (k : ∀ q, H q = none → Q (.ref q) (upd H q (.lst (xs ++ ys)))) : rAddU (.ref a) (.ref b) H Q := .inr ⟨a, b, _, _, rfl, rfl, h1, h2, hz, k⟩
theorem rEqU_lst {s t : List Nat} (h1 : SqL K H a (vi s)) (h2 : SqL K H b (vi t)) (k : Q (.bl (decide (s = t))) H) : rEqU K (.ref a) (.ref b) H Q := .inr ⟨a, b, s, t, rfl, rfl, h1, h2, k⟩
theorem truL {Q : Bool → Prop} (h : SqL K H a xs) (q : Q (!xs.isEmpty)) : ∃ k, TruV K (.ref a) H k ∧ Q k := ⟨_, .inl ⟨xs, h, rfl⟩, q⟩
theorem rMulU_int {i j : Int} (h : CMul i j) (q : Q (.int (i * j)) H) : rMulU (.int i) (.int j) H Q := .inl ⟨i, j, rfl, rfl, h, q⟩
theorem rIx_lst {i : Int} {j : Nat} {v : V} (h : SqL K H a xs) (e : i = (j : Int)) (hv : xs[j]? = some v) (q : Q v H) : rIx K (.ref a) (.int i) H Q := .inl ⟨a, xs, i, v, rfl, rfl, h, at_of e hv, q⟩
theorem rIx_tup {i : Int} {j : Nat} {v : V} (h : SqT K H a xs) (e : i = (j : Int)) (hv : xs[j]? = some v) (q : Q v H) : rIx K (.ref a) (.int i) H Q := .inr (.inl ⟨a, xs, i, v, rfl, rfl, h, at_of e hv, q⟩)
end
theorem szl {n : Nat} (h : n ≤ 1000000 := by first | omega | simp) : n ≤ sizeLine := Nat.le_trans h (by rw [sizeLine_eq]; decide)
theorem szlt {n : Nat} (h : n ≤ 1000000 := by first | omega | simp) : n < sizeLine := Nat.lt_of_le_of_lt h (by rw [sizeLine_eq]; decide)
theorem upd_of {H : Hp} {p a : Addr} {o u : HO} (hp : H p = none) (ha : H a = some u) : upd H p o a = some u := same_new hp a u ha
end ML
namespace ML
open PySem PySem.Spec PyProof.Rows L2
theorem drop_of {α : Type} {l : List α} {i : Nat} {x : α} (h : l[i]? = some x) : l.drop i = x :: l.drop (i + 1) := by
 obtain ⟨h1, h2⟩ := List.getElem?_eq_some_iff.mp h
 rw [← h2]; exact List.drop_eq_getElem_cons h1
theorem lt_of_get {α : Type} {l : List α} {i : Nat} {x : α} (h : l[i]? = some x) : i < l.length := (List.getElem?_eq_some_iff.mp h).1
end ML
namespace ML
open PySem PySem.Spec PyProof.Rows L2
theorem cutV_nat (xs : List V) (i j : Nat) : cutV xs (some (i : Int)) (some (j : Int)) = (xs.drop i).take (j - i) := by
 unfold cutV
 rw [HT.sIx_nat, HT.sIx_nat]
 by_cases h : i ≤ xs.length
 ·rw [Nat.min_eq_left h]
  by_cases h2 : j ≤ xs.length
  ·rw [Nat.min_eq_left h2]
  ·rw [Nat.min_eq_right (by omega), List.take_of_length_le (by rw [List.length_drop]; omega), List.take_of_length_le (by rw [List.length_drop]; omega)]
 ·rw [Nat.min_eq_right (show xs.length ≤ i by omega), List.drop_of_length_le (Nat.le_refl _), List.drop_of_length_le (show xs.length ≤ i by omega)]; simp
theorem cutV_from (xs : List V) (i : Nat) : cutV xs (some (i : Int)) none = xs.drop i := by
 unfold cutV
 rw [HT.sIx_nat]
 have e : HT.sIx xs.length xs.length none = xs.length := rfl
 rw [e]
 by_cases h : i ≤ xs.length
 ·rw [Nat.min_eq_left h, List.take_of_length_le (by rw [List.length_drop]; omega)]
 ·rw [Nat.min_eq_right (show xs.length ≤ i by omega), List.drop_of_length_le (Nat.le_refl _), List.drop_of_length_le (show xs.length ≤ i by omega)]; simp
theorem cutV_to (xs : List V) (j : Nat) : cutV xs none (some (j : Int)) = xs.take j := by
 unfold cutV
 rw [HT.sIx_nat]
 have e : HT.sIx xs.length 0 none = 0 := rfl
 rw [e]
 by_cases h : j ≤ xs.length
 ·rw [Nat.min_eq_left h]; simp
 ·rw [Nat.min_eq_right (by omega)]; simp; rw [List.take_of_length_le (by omega)]
theorem tyL {K : PySem.W.Frag} {H : Hp} {a : Addr} {xs : List V} (h : H a = some (.lst xs)) : tyV K "list" (.ref a) H := .inl ⟨rfl, xs, SqL.of h⟩
theorem bool_ne {b : Bool} (h : ¬ b = true) : b = false := by cases b with | true => exact absurd rfl h | false => rfl
end ML
namespace ML
open PySem PySem.Spec PyProof.Rows L2
section
variable {X : Cx} {a e : Expr} {ta : TE} {f : Str} {pos : Pos}
theorem pt_truthK (K : PySem.W.Frag) (hK : X.K = K) (ha : PE X a ta) (he : ∀ whole, isTrue a X.env whole = (do let v ← whole; standAt a.pos; holding [v] (truthy v))) :
  PT X a (fun σ H Q => ta σ H fun x H' => ∃ k, TruV K x H' k ∧ Q k H') := by subst hK; exact pt_truth ha he
theorem ix_seqK (K : PySem.W.Frag) (hK : X.K = K) : IxR X (rIx K) := by subst hK; exact ix_seq
theorem op_eqK (K : PySem.W.Frag) (hK : X.K = K) (hu : X.A.units + 64 < cLine) : OpR X (compareOp .Eq) (rEqU K) := by subst hK; exact op_eqW hu
theorem op_neK (K : PySem.W.Frag) (hK : X.K = K) (hu : X.A.units + 64 < cLine) : OpR X (compareOp .NotEq) (rNeU K) := by subst hK; exact op_neW hu
theorem pe_fldK (K : PySem.W.Frag) (hK : X.K = K) (he : PE X e ta) (hb : attributeBase e f X.env (eval e X.env) = eval e X.env) : PE X (.Attribute e f pos) (tFld K ta f) := by subst hK; exact pe_fld he hb
theorem call_lenK (K : PySem.W.Frag) (hK : X.K = K) : CallR X (.builtin "len") (fun xs H Q => ∃ x n, xs = [x] ∧ LenV K x H n ∧ Q (.int n) H) := by subst hK; exact call_len
end
end ML
end
section
namespace ML
open PySem PySem.Spec PyProof.Rows L2
theorem lcL {K : PySem.W.Frag} {a : Addr} {xs : List V} {tl : TE} {g : TG} {tt : TT} {te : TE} {vs : List Nat} {σ : L2.St} {H : Hp} {Q : VK} (h : ∀ R : VK, R (.ref a) H → tl σ H R) (ha : SqL K H a xs) (Pv : Addr → Nat → Hp → Prop)
  (h0 : ∀ D, H D = none → Pv D 0 (upd H D (.lst []))) (hl : ∀ D i H', H D = none → Pv D i H' → SqL K H' a xs)
  (hs : ∀ D i x H', H D = none → xs[i]? = some x → Pv D i H' → g x (wipe σ vs) H' fun σ2 H2 => wipe σ2 vs = wipe σ vs ∧ tt σ2 H2 fun b H3 =>
   if b = true then te σ2 H3 fun y H4 => ∃ acc, H4 D = some (.lst acc) ∧ acc.length < sizeLine ∧ Pv D (i + 1) (upd H4 D (.lst (acc ++ [y]))) else Pv D (i + 1) H3)
  (hd : ∀ D H', H D = none → Pv D xs.length H' → Q (.ref D) H') : tLc (iList K tl) g tt te vs σ H Q := by
 refine h _ ⟨a, rfl, ⟨_, ha⟩, fun D hD => ?_⟩
 exact lc_list (K := K) (a := a) (xs := xs) (Qd := fun H' => Q (.ref D) H') (Pv D) (h0 D hD) (fun i H' _ p => hl D i H' hD p) (fun i x H' hx p => hs D i x H' hD hx p) (fun H' p => hd D H' hD p)
theorem gvar {σ : L2.St} {i : Nat} {v : V} {H : Hp} (h : σ[i]? = some (some v)) (R : VK) (r : R v H) : tVar i σ H R := ⟨v, h, r⟩
theorem same_upd {H0 H : Hp} {D : Addr} {o : HO} (hD : H0 D = none) (s : Same H0 H) : Same H0 (upd H D o) := fun b u e => by
 rw [upd_ne (ne_of_none e hD)]; exact s _ _ e
end ML
namespace ML
open PySem PySem.Spec PyProof.Rows L2
def tCut (t u : TS) : TS := fun D σ H => ∃ M : L2.St → Hp → Prop, t { D with nx := M } σ H ∧ ∀ σ' H', M σ' H' → u D σ' H'
theorem pss_cut {X : Cx} {st : Stmt} {rest : List Stmt} {t u : TS} (h1 : PS X st t) (h2 : PSs X rest u) : PSs X (st :: rest) (tCut t u) := by
 intro pins s σ H D I ⟨M, h, hM⟩
 refine wpAny_execs_cons (thn (h1 pins s σ H { D with nx := M } I h) fun f s1 q => ?_)
 cases f with
 | next =>
  obtain ⟨σ', H', I', q⟩ := q
  exact h2 pins s1 σ' H' D I' (hM σ' H' q)
 | ret v => exact q
 | brk => exact q
 | cont => exact q
end ML
end
section
namespace ML
open PySem PySem.Spec PyProof.Rows L2
theorem pc_inD {X : Cx} {e : Expr} {te : TE} {x : Str} {p : Pos} {kvs : List (Key × V)} (hu : X.A.units + 1 < cLine) (G : GD X.prog X.w X.K X.mg x kvs) (hg : Gl X x) (he : PE X e te) (hd : (x == ("__debug__" : Str)) = false := by decide) : PC X .In e (.Name x p) (tInD kvs te) := by
 obtain ⟨a, hm, d⟩ := G
 intro pins s σ H Q I h
 refine thn (he pins s σ H _ I h) fun v s1 ⟨y, H1, I1, r1, k, ek, q⟩ => ?_
 subst ek
 refine ld_glob I1 hg hm ?_ hd
 obtain ⟨hS, vs, rel, dd⟩ := kdk_at I1 d
 refine wpAny_in_of (kV_is r1) hS dd.mapOf ?_
 rw [← (rel.val k).isSome_eq]
 exact ⟨.bl _, H1, I1.tok _, rfl, q⟩
end ML
end
section
namespace ML
open PySem PySem.Spec PyProof.Rows L2
section
variable {P : Program} {w : World} {K : PySem.W.Frag} {mg : Str → Option Value}
def FX (P : Program) (w : World) (K : PySem.W.Frag) (mg : Str → Option Value) (x : Str) (k : Nat) (ps : List Str) (sp : Sp) : Prop :=
 ∃ f fd, mg x = some (.ref f) ∧ (∀ base : Heap, FnOk P w K mg base CX0 k f fd ps sp) ∧ ∀ (s : Shared) (us : List Value), us.length = ps.length → BindsTo s fd ⟨us, []⟩ (ps.zip us)
theorem gf_mkA {x : Str} {st : Stmt} {N ps : List Str} {k : Nat} {sp : Sp} (F : FF K mg x st) (S : FnScope N ps (defScope st))
  (hb : ∀ (kV doc pm : Value) (an : Option Addr) (cdv ct : Value) (us : List Value), us.length = ps.length → bindArgs (PySem.W.fnOf x x (defArgs st) (defBody st) (defScope st) .none kV doc pm an cdv ct) ⟨us, []⟩ = pure (ps.zip us))
  (len : ∀ vs H Q E, sp vs H Q E → vs.length = ps.length)
  (hbody : ∀ (base : Heap) (f : Addr) (cdv : Value) (A : Around) (outer : List Env) (s : Shared) (H : Hp) (vs : List V) (Q : VK) (E : XK), Room k (A.deeper (envOfC x (defScope st) s.heap.objs.size f cdv)) → sp vs H Q E →
   ∃ t, PSs (cxOf CX0 P w K mg base N x (defScope st) f cdv A outer s H E).nox (defBody st) t ∧ t { nx := fun _ H' => Q .non H', rt := Q } (start N vs) H) : FX P w K mg x (k + 1) ps sp := by
 obtain ⟨f, fd, hm, F⟩ := F
 refine ⟨f, fd, hm, fun base => F.ok S len (hbody base f), fun s us hu => ?_⟩
 obtain ⟨⟨oc, od, kV, doc, pm, an, cdv, ct, osl, rfl, l, c⟩, k⟩ := F
 exact .of_eq (hb kV doc pm an cdv ct us hu)
end
end ML
end
section
namespace Mt
open Vaesca
def digitV (c : Nat) : Nat := if isDigit c then c - 48 else if 97 ≤ c ∧ c ≤ 102 then c - 87 else if 65 ≤ c ∧ c ≤ 70 then c - 55 else 16
def numGo (base : Nat) : List Nat → Nat → Option Nat
 | [], n => some n
 | c :: r, n => if base ≤ digitV c then none else numGo base r (n * base + digitV c)
def numberOf (base : Nat) (d : List Nat) : Int := match numGo base d 0 with
 | none => -2
 | some n => if 255 < n then -2 else (n : Int)
def refB (o : Option Nat) : Int := match o with
 | some b => (b : Int)
 | none => -2
theorem digitV_hex (c : Nat) : (16 ≤ digitV c ∧ hexOf c = none) ∨ (digitV c < 16 ∧ hexOf c = some (digitV c)) := by
 unfold digitV hexOf
 by_cases h : isDigit c = true
 ·simp only [h, if_true]
  right
  simp [isDigit] at h
  exact ⟨by omega, trivial⟩
 ·have h' : isDigit c = false := by simpa using h
  simp only [h', Bool.false_eq_true, if_false]
  by_cases h1 : 97 ≤ c ∧ c ≤ 102
  ·rw [if_pos h1, if_pos h1]
   exact .inr ⟨by omega, rfl⟩
  ·rw [if_neg h1, if_neg h1]
   by_cases h2 : 65 ≤ c ∧ c ≤ 70
   ·rw [if_pos h2, if_pos h2]
    exact .inr ⟨by omega, rfl⟩
   ·rw [if_neg h2, if_neg h2]
    exact .inl ⟨by omega, rfl⟩
theorem digitV_dec (c : Nat) : (10 ≤ digitV c ∧ isDigit c = false) ∨ (digitV c < 10 ∧ isDigit c = true ∧ digitV c = c - 48) := by
 unfold digitV
 by_cases h : isDigit c = true
 ·simp only [h, if_true]
  right
  simp [isDigit] at h
  simp
  omega
 ·have h' : isDigit c = false := by simpa using h
  simp only [h', Bool.false_eq_true, if_false]
  left
  refine ⟨?_, trivial⟩
  split
  ·omega
  ·split <;> omega
theorem numberOf_dec : ∀ d : List Nat, d ≠ [] → d.length ≤ 3 → numberOf 10 d = refB (byDigits d) := by
 intro d h0 hl
 have key : ∀ (d : List Nat) (n : Nat), (d.all isDigit = true ∧ numGo 10 d n = some (d.foldl (fun n c => 10 * n + (c - 48)) n)) ∨ (d.all isDigit = false ∧ numGo 10 d n = none) := by
  intro d
  induction d with
  | nil => intro n; left; simp [numGo]
  | cons c r ih =>
   intro n
   rcases digitV_dec c with ⟨h1, h2⟩ | ⟨h1, h2, h3⟩
   ·right; simp [numGo, h1, h2]
   ·rcases ih (n * 10 + digitV c) with ⟨a, b⟩ | ⟨a, b⟩
    ·left
     refine ⟨by simp [h2, a], ?_⟩
     have : ¬ 10 ≤ digitV c := by omega
     simp only [numGo, this, if_false, b, List.foldl_cons]
     rw [h3, Nat.mul_comm]
    ·right
     have : ¬ 10 ≤ digitV c := by omega
     exact ⟨by simp [a], by simp only [numGo, this, if_false, b]⟩
 have hz : (d.length == 0) = false := by cases d with
  | nil => exact absurd rfl h0
  | cons a b => simp
 have h3 : decide (3 < d.length) = false := by simp; omega
 unfold numberOf byDigits decimal
 rcases key d 0 with ⟨a, b⟩ | ⟨a, b⟩
 ·simp only [hz, h3, a, b, Bool.not_true, Bool.or_self, Bool.false_eq_true, if_false]
  by_cases h : d.foldl (fun n c => 10 * n + (c - 48)) 0 < 256
  ·rw [if_neg (by omega), if_pos h]; rfl
  ·rw [if_pos (by omega), if_neg h]; rfl
 ·simp [hz, h3, a, b, refB]
theorem numberOf_hex (h : List Nat) (h0 : h ≠ []) (hl : h.length ≤ 2) : numberOf 16 h = refB (byHex h) := by
 match h, h0, hl with
 | [a], _, _ =>
  unfold numberOf byHex
  rcases digitV_hex a with ⟨h1, h2⟩ | ⟨h1, h2⟩
  ·simp [numGo, h1, h2, refB]
  ·have : ¬ 16 ≤ digitV a := by omega
   simp only [numGo, this, if_false, h2, Nat.zero_mul, Nat.zero_add]
   rw [if_neg (by omega)]; rfl
 | [a, b], _, _ =>
  unfold numberOf byHex
  rcases digitV_hex a with ⟨h1, h2⟩ | ⟨h1, h2⟩
  ·simp [numGo, h1, h2, refB]
  ·have na : ¬ 16 ≤ digitV a := by omega
   rcases digitV_hex b with ⟨h3, h4⟩ | ⟨h3, h4⟩
   ·simp [numGo, na, h3, h2, h4, refB]
   ·have nb : ¬ 16 ≤ digitV b := by omega
    simp only [numGo, na, nb, if_false, h2, h4, Nat.zero_mul, Nat.zero_add, Option.bind_some, Option.map_some]
    rw [if_neg (by omega)]
    unfold refB
    simp only
    omega
 | _ :: _ :: _ :: _, _, hl => simp at hl
theorem byteOf_hash (d : List Nat) : byteOf (35 :: d) = match d with
  | 120 :: h => byHex h
  | _ => byDigits d := by
 unfold byteOf
 have e : ∀ (x : List Nat) (y : Nat), y ≠ 35 → ((35 :: d) == y :: x) = false := fun x y h => by
  rw [List.cons_beq_cons]
  have : (35 == y) = false := by simp; omega
  rw [this]; rfl
 rw [e _ 97 (by decide), e _ 108 (by decide), e _ 103 (by decide), e _ 113 (by decide), e _ 97 (by decide)]
 simp only [Bool.false_eq_true, if_false]
 cases d with
 | nil => rfl
 | cons c r =>
  by_cases h : c = 120
  ·subst h; rfl
  ·split
   ·rename_i h' ; injection h' with _ e2; injection e2 with e3; exact absurd e3 h
   ·rename_i h' ; injection h' with _ e2; subst e2; split
    ·rename_i h''; injection h'' with e3; exact absurd e3 h
    ·rfl
   ·rename_i h' ; exact absurd rfl (h' _)
theorem numbered_ok (d : List Nat) (hl : d.length ≤ 3) :
  (if (if d.take 1 = [120] then d.drop 1 else d) = [] then (-2 : Int) else numberOf (if d.take 1 = [120] then 16 else 10) (if d.take 1 = [120] then d.drop 1 else d)) = refB (byteOf (35 :: d)) := by
 rw [byteOf_hash]
 match d, hl with
 | [], _ => rfl
 | c :: r, hl =>
  by_cases h : c = 120
  ·subst h
   have e : (120 :: r).take 1 = [120] := rfl
   rw [if_pos e, if_pos e, List.drop_one, List.tail_cons]
   by_cases hr : r = []
   ·subst hr; rfl
   ·rw [if_neg hr]
    exact numberOf_hex r hr (by simpa using hl)
  ·have e : ¬ (c :: r).take 1 = [120] := by simp [h]
   rw [if_neg e, if_neg e, if_neg (by simp)]
   have := numberOf_dec (c :: r) (by simp) (by simpa using hl)
   rw [this]
   split
   ·rename_i h'; injection h' with e3; exact absurd e3 h
   ·rfl
def named (b : List Nat) : Int := if b = [97, 109, 112] then 38 else if b = [108, 116] then 60 else if b = [103, 116] then 62 else if b = [113, 117, 111, 116] then 34 else if b = [97, 112, 111, 115] then 39 else -2
theorem named_ok (b : List Nat) (h : ¬ b.take 1 = [35]) : named b = refB (byteOf b) := by
 unfold named byteOf
 by_cases h1 : b = [97, 109, 112]
 ·subst h1; rfl
 by_cases h2 : b = [108, 116]
 ·subst h2; rfl
 by_cases h3 : b = [103, 116]
 ·subst h3; rfl
 by_cases h4 : b = [113, 117, 111, 116]
 ·subst h4; rfl
 by_cases h5 : b = [97, 112, 111, 115]
 ·subst h5; rfl
 have e : ∀ (x : List Nat), ¬ b = x → (b == x) = false := fun x hx => by simp [hx]
 rw [e _ h1, e _ h2, e _ h3, e _ h4, e _ h5, if_neg h1, if_neg h2, if_neg h3, if_neg h4, if_neg h5]
 simp only [Bool.false_eq_true, if_false]
 match b with
 | [] => rfl
 | c :: r =>
  have hc : c ≠ 35 := fun z => h (by rw [z]; rfl)
  split
  ·rename_i h' ; injection h' with e1; exact absurd e1 hc
  ·rename_i h' ; injection h' with e1; exact absurd e1 hc
  ·rfl
end Mt
end
section
namespace Mt
open Vaesca
def outside (kind : Nat) (e : Text) (j : Nat) : Bool := (Vaescc.backRun kind (e.take j)).body.isNone
theorem cut_out (kind : Nat) (e : Text) : ∀ m, outside kind e (Vaescc.cutLength kind e m) = true ∧ Vaescc.cutLength kind e m ≤ m ∧ ∀ j, j ≤ m → outside kind e j = true → j ≤ Vaescc.cutLength kind e m
 | 0 => ⟨by simp [Vaescc.cutLength, outside, Vaescc.backRun], Nat.le_refl _, fun j h _ => h⟩
 | m + 1 => by
  obtain ⟨a, b, c⟩ := cut_out kind e m
  unfold Vaescc.cutLength
  cases h : (Vaescc.backRun kind (e.take (m + 1))).body with
  | some x =>
   simp only [Option.isSome_some, if_true]
   refine ⟨a, by omega, fun j hj ho => ?_⟩
   by_cases hj' : j = m + 1
   ·subst hj'
    unfold outside at ho
    rw [h] at ho
    simp at ho
   ·exact c j (by omega) ho
  | none =>
   simp only [Option.isSome_none, Bool.false_eq_true, if_false]
   refine ⟨?_, Nat.le_refl _, fun j hj _ => hj⟩
   unfold outside
   rw [h]; rfl
def boundsTo (kind : Nat) (e : Text) (i : Nat) : List Nat := (List.range (i + 1)).filter (outside kind e)
theorem mem_bounds {kind : Nat} {e : Text} {i j : Nat} : j ∈ boundsTo kind e i ↔ j ≤ i ∧ outside kind e j = true := by
 unfold boundsTo
 rw [List.mem_filter, List.mem_range]
 constructor
 ·rintro ⟨h1, h2⟩; exact ⟨by omega, h2⟩
 ·rintro ⟨h1, h2⟩; exact ⟨by omega, h2⟩
theorem bounds_zero (kind : Nat) (e : Text) : boundsTo kind e 0 = [0] := by
 unfold boundsTo
 simp [outside, Vaescc.backRun, List.range_succ]
theorem bounds_succ (kind : Nat) (e : Text) (i : Nat) : boundsTo kind e (i + 1) = boundsTo kind e i ++ (if outside kind e (i + 1) then [i + 1] else []) := by
 unfold boundsTo
 rw [List.range_succ, List.filter_append]
 congr 1
 cases h : outside kind e (i + 1) <;> simp [h]
theorem max_bound {kind : Nat} {e : Text} {n : Int} (hn : 0 ≤ n) {M : Int} (h1 : M ∈ ((boundsTo kind e e.length).filter fun (j : Nat) => decide ((j : Int) ≤ n)).map Int.ofNat)
  (h2 : ∀ y, y ∈ ((boundsTo kind e e.length).filter fun (j : Nat) => decide ((j : Int) ≤ n)).map Int.ofNat → y ≤ M) : M = (Vaescc.cutLength kind e (min n.toNat e.length) : Nat) := by
 obtain ⟨a, b, c⟩ := cut_out kind e (min n.toNat e.length)
 obtain ⟨j, hj, rfl⟩ := List.mem_map.mp h1
 obtain ⟨hj1, hj2⟩ := List.mem_filter.mp hj
 obtain ⟨hj3, hj4⟩ := mem_bounds.mp hj1
 have hj5 : (j : Int) ≤ n := of_decide_eq_true hj2
 have u := c j (by omega) hj4
 have v : ((Vaescc.cutLength kind e (min n.toNat e.length) : Nat) : Int) ≤ Int.ofNat j := by
  refine h2 _ (List.mem_map.mpr ⟨_, List.mem_filter.mpr ⟨mem_bounds.mpr ⟨by omega, a⟩, decide_eq_true (by omega)⟩, rfl⟩)
 have v' : ((Vaescc.cutLength kind e (min n.toNat e.length) : Nat) : Int) ≤ (j : Int) := v
 show (j : Int) = _
 omega
theorem backRun_snoc (kind : Nat) (e : Text) {i : Nat} {c : Nat} (h : e[i]? = some c) : Vaescc.backRun kind (e.take (i + 1)) = Vaescc.eatBack kind (Vaescc.backRun kind (e.take i)) c := by
 have e1 : e.take (i + 1) = e.take i ++ [c] := by
  rw [List.take_succ, h]; rfl
 unfold Vaescc.backRun
 rw [e1, List.foldl_append]; rfl
theorem eatBack_wrong {kind : Nat} {s : Vaescc.Back} {c : Nat} (h : s.wrong.isSome = true) : Vaescc.eatBack kind s c = s := by
 unfold Vaescc.eatBack
 rw [if_pos h]
theorem backRun_wrong {kind : Nat} : ∀ (r : List Nat) {s : Vaescc.Back}, s.wrong.isSome = true → r.foldl (Vaescc.eatBack kind) s = s
 | [], _, _ => rfl
 | c :: r, s, h => by rw [List.foldl_cons, eatBack_wrong h]; exact backRun_wrong r h
theorem backRun_wrong_all {kind : Nat} {e : Text} {i : Nat} (h : (Vaescc.backRun kind (e.take i)).wrong.isSome = true) : Vaescc.backRun kind e = Vaescc.backRun kind (e.take i) := by
 have e1 : e = e.take i ++ e.drop i := (List.take_append_drop i e).symm
 have : Vaescc.backRun kind (e.take i ++ e.drop i) = Vaescc.backRun kind (e.take i) := by
  unfold Vaescc.backRun at h ⊢
  rw [List.foldl_append]
  exact backRun_wrong _ h
 rw [← e1] at this
 exact this
end Mt
end
section
namespace Mt
open Vaesca
structure BInv (i : Nat) (s : Vaescc.Back) : Prop where
 pl : s.wrong = none → s.place = i
 con : s.content.length ≤ i
 bod : ∀ b, s.body = some b → b.length ≤ 4
 wr : ∀ w, s.wrong = some w → (w.1 = 1 ∨ w.1 = 4) ∧ w.2 = s.place
theorem BInv.eat {i k c : Nat} {s : Vaescc.Back} (h : BInv i s) : BInv (i + 1) (Vaescc.eatBack k s c) := by
 obtain ⟨h1, h2, h3, h4⟩ := h
 unfold Vaescc.eatBack
 split
 ·rename_i hw
  exact ⟨fun e => (by rw [e] at hw; cases hw), by omega, h3, h4⟩
 ·rename_i hw
  have hw' : s.wrong = none := by
   cases e : s.wrong with
   | none => rfl
   | some w => rw [e] at hw; simp at hw
  have hp := h1 hw'
  split
  ·rename_i b hb
   have hb4 := h3 b hb
   unfold Vaescc.inBody
   split
   ·split
    ·exact ⟨fun _ => by simp [hp], by simp; omega, by simp, by simp [hw']⟩
    ·exact ⟨by simp, by simp; omega, h3, by simp⟩
   ·split
    ·rename_i z
     refine ⟨fun _ => by simp [hp], by simp; omega, ?_, by simp [hw']⟩
     intro b' e
     simp only [Option.some.injEq] at e
     subst e
     have z2 : b.length < 4 := by simp [Vaesca.BODY] at z; exact of_decide_eq_true z.2
     rw [List.length_append]; simp; omega
    ·exact ⟨by simp, by simp; omega, h3, by simp⟩
  ·split
   ·exact ⟨fun _ => by simp [hp], by simp; omega, by simp, by simp [hw']⟩
   ·split
    ·exact ⟨fun _ => by simp [hp], by simp; omega, h3, by simp [hw']⟩
    ·exact ⟨by simp, by simp; omega, h3, by simp⟩
theorem BInv.run (k : Nat) (e : Text) : ∀ i, i ≤ e.length → BInv i (Vaescc.backRun k (e.take i))
 | 0, _ => ⟨fun _ => rfl, Nat.zero_le _, fun b h => (by cases h), fun w h => (by cases h)⟩
 | i + 1, hi => by
  have ih := BInv.run k e i (by omega)
  have hc : e[i]? = some e[i] := List.getElem?_eq_getElem (by omega)
  rw [backRun_snoc k e hc]
  exact ih.eat
def finB (k : Nat) (e : Text) : Vaescc.Back :=
 if (Vaescc.backRun k e).wrong.isSome then Vaescc.backRun k e
 else if (Vaescc.backRun k e).body.isSome = true ∨ (k = 3 ∧ e = []) then { Vaescc.backRun k e with wrong := some (7, e.length) }
 else Vaescc.backRun k e
theorem finB_ok (k : Nat) (e : Text) : match Vaescc.back k e with
  | .error (kd, pl) => (finB k e).wrong = some (kd, pl) ∧ (finB k e).place = pl ∧ kd ≠ 0
  | .ok c => (finB k e).wrong = none ∧ (finB k e).content = c := by
 have B := BInv.run k e e.length (Nat.le_refl _)
 rw [List.take_length] at B
 unfold Vaescc.back finB
 cases hw : (Vaescc.backRun k e).wrong with
 | some w =>
  obtain ⟨kd, pl⟩ := w
  have := B.wr _ hw
  simp only [hw, Option.isSome_some, if_true]
  exact ⟨trivial, this.2.symm, by have := this.1; simp at this; omega⟩
 | none =>
  have hp := B.pl hw
  have he : ((Vaescc.backRun k e).body.isSome || (k == 3 && e.isEmpty)) = true ↔ ((Vaescc.backRun k e).body.isSome = true ∨ (k = 3 ∧ e = [])) := by
   simp
  simp only [hw, Option.isSome_none, Bool.false_eq_true, if_false]
  by_cases z : (Vaescc.backRun k e).body.isSome = true ∨ (k = 3 ∧ e = [])
  ·simp only [if_pos z, if_pos (he.mpr z)]
   exact ⟨trivial, hp, by decide⟩
  ·simp only [if_neg z, if_neg (fun y => z (he.mp y))]
   exact ⟨hw, trivial⟩
end Mt
end
section
namespace Mt
open Vaesca
def inTag : Mode → Bool
 | .lt => true | .openName => true | .ltSlash => true | .closeName => true | .gap => true | .attrName => true | .eq => true | .behind => true | .slash => true | .bang => true | .bangDash => true
 | _ => false
def isRef : Mode → Bool
 | .ref _ => true
 | _ => false
structure Gd (m : Reader) : Prop where
 tag : m.tag.length ≤ 32
 attr : m.attr.length ≤ 32
 ref : isRef m.mode = true → m.body.length ≤ 4
 rend : m.mode = .rawEnd → m.body.length ≤ m.tag.length
 body : isRef m.mode = false → m.mode ≠ .rawEnd → m.mode ≠ .fault → m.body = []
 raw : (m.mode = .raw ∨ m.mode = .rawLt ∨ m.mode = .rawEnd) → isRaw m.tag = true
 com : ∀ d, m.mode = .comment d → d ≤ 2
 run : inTag m.mode = true → m.run = []
 wr : m.mode ≠ .fault → m.wrong = none
 wr2 : ∀ w, m.wrong = some w → w.1 ≠ 0 ∧ w.2 = m.count ∧ m.mode = .fault
structure Bs (n : Nat) (m : Reader) : Prop where
 run : m.run.length ≤ 3 * n
 tok : m.tokens.length ≤ 2 * n
 ats : m.attrs.length ≤ n
 mrk : m.marks.length ≤ n
theorem raw_tag {t : Text} (h : isRaw t = true) : t.length ≤ 32 ∧ 62 ∉ t := by
 unfold isRaw at h
 simp at h
 rcases h with h | h <;> (subst h; decide)
end Mt
end
section
namespace Mt
open Vaesca
theorem Gd.fail {m : Reader} (g : Gd m) (k : Nat) (hk : k ≠ 0) : Gd (m.fail k) := by
 have a := g.tag
 have b := g.attr
 constructor <;> simp_all [Reader.fail, isRef, inTag]
theorem Gd.mode {m : Reader} (g : Gd m) (md : Mode) (hf : m.mode ≠ .fault) (h1 : md ≠ .fault) (h2 : isRef md = true → m.body.length ≤ 4) (h3 : md = .rawEnd → m.body.length ≤ m.tag.length) (h4 : isRef md = false → md ≠ .rawEnd → m.body = [])
  (h5 : (md = .raw ∨ md = .rawLt ∨ md = .rawEnd) → isRaw m.tag = true) (h6 : ∀ d, md = .comment d → d ≤ 2) (h7 : inTag md = true → m.run = []) : Gd (m.go md) := by
 have hw := g.wr hf
 refine ⟨g.tag, g.attr, h2, h3, fun a b _ => h4 a b, h5, h6, h7, fun _ => hw, fun w hw' => ?_⟩
 have : m.wrong = some w := hw'
 rw [hw] at this; cases this
theorem Gd.endAttr {m : Reader} (g : Gd m) : Gd (endAttr m) := by
 obtain ⟨a1, a2, a3, a4, a5, a6, a7, a8, a9, a10⟩ := g
 exact ⟨a1, Nat.zero_le _, a3, a4, a5, a6, a7, fun _ => rfl, a9, a10⟩
theorem Gd.endTag {m : Reader} (g : Gd m) (hf : m.mode ≠ .fault) (hb : m.body = []) : Gd (endTag m) := by
 have hw := g.wr hf
 have h1 := g.tag
 have h2 := g.attr
 unfold Vaesca.endTag
 split
 ·rename_i hr
  exact ⟨h1, h2, (by intro z; cases z), (by intro z; cases z), fun _ _ _ => hb, fun _ => hr, (by intro d z; cases z), (by intro z; cases z), fun _ => hw, fun w h => by rw [show _ = some w from h] at hw; cases hw⟩
 ·exact ⟨Nat.zero_le _, h2, (by intro z; cases z), (by intro z; cases z), fun _ _ _ => hb, (by intro z; rcases z with z | z | z <;> cases z), (by intro d z; cases z), (by intro z; cases z), fun _ => hw, fun w h => by rw [show _ = some w from h] at hw; cases hw⟩
def okM (x : Reader) : Mode → Prop
 | .fault => False
 | .ref _ => x.body.length ≤ 4
 | .rawEnd => x.body.length ≤ x.tag.length ∧ isRaw x.tag = true
 | .raw => x.body = [] ∧ isRaw x.tag = true
 | .rawLt => x.body = [] ∧ isRaw x.tag = true
 | .comment d => x.body = [] ∧ d ≤ 2
 | md => x.body = [] ∧ (inTag md = true → x.run = [])
theorem Gd.of {x : Reader} {md : Mode} (hm : x.mode = md) (t : x.tag.length ≤ 32) (a : x.attr.length ≤ 32) (w : x.wrong = none) (ok : okM x md) : Gd x := by
 subst hm
 have w2 : ∀ w, x.wrong = some w → w.1 ≠ 0 ∧ w.2 = x.count ∧ x.mode = .fault := fun _ h => by rw [w] at h; cases h
 cases e : x.mode with
 | fault => rw [e] at ok; exact ok.elim
 | _ =>
  rw [e] at ok
  refine ⟨t, a, ?_, ?_, ?_, ?_, ?_, ?_, fun _ => w, w2⟩ <;> rw [e] <;> first
   | (intro z; cases z; done) | (intro _ z; exact absurd rfl z) | exact fun _ => ok | exact fun _ => ok.1 | exact fun _ => ok.2 | exact fun _ _ _ => ok.1 | exact ok.2 | (intro z; rcases z with z | z | z <;> cases z) | (intro d z; cases z; exact ok.2) | (intro d z; cases z; done)
theorem o32 {c : Nat} : ([c] : Text).length ≤ 32 := by simp
theorem Gd.gap {m : Reader} {c : Nat} (g : Gd m) (hf : m.mode ≠ .fault) (hb : m.body = []) (hr : m.run = []) : Gd (inGap m c) := by
 have hF : ∀ k, k ≠ 0 → Gd (m.fail k) := fun k hk => g.fail k hk
 have hE := g.endTag hf hb
 have hw := g.wr hf
 unfold inGap tagEnds
 split
 ·exact .of rfl g.tag g.attr hw ⟨hb, fun _ => hr⟩
 ·split
  ·exact .of rfl g.tag o32 hw ⟨hb, fun _ => hr⟩
  ·split
   ·exact .of rfl g.tag g.attr hw ⟨hb, fun _ => hr⟩
   ·split
    ·exact hE
    ·exact hF 1 (by decide)
theorem l32 {t : Text} {c : Nat} (z : t.length < NAME) : (t ++ [c]).length ≤ 32 := by rw [List.length_append]; exact z
theorem Gd.byte {m : Reader} {c : Nat} (g : Gd m) (he : m.mode ≠ .ended) (hf : m.mode ≠ .fault) : Gd (byte m c) := by
 have hF : ∀ k, k ≠ 0 → Gd (m.fail k) := fun k hk => g.fail k hk
 have hw := g.wr hf
 have a1 := g.tag
 have a2 := g.attr
 have hB := g.body
 have hR := g.run
 unfold Vaesca.byte
 cases hm : m.mode with
 | text =>
  have hb : m.body = [] := hB (by rw [hm]; rfl) (by rw [hm]; decide) hf
  simp only [inText, endText]
  split
  ·split
   ·rename_i z
    exact .of rfl a1 a2 hw ⟨hb, fun _ => List.isEmpty_iff.mp z⟩
   ·exact .of rfl a1 a2 hw ⟨hb, fun _ => rfl⟩
  ·cases m.run.isEmpty <;> (simp only [if_true, Bool.false_eq_true, if_false]; split)
   ·exact .of rfl a1 a2 hw (by show m.body.length ≤ 4; rw [hb]; decide)
   ·exact .of (x := m.add [c]) hm a1 a2 hw ⟨hb, fun z => by cases z⟩
   ·exact .of rfl a1 a2 hw (by show m.body.length ≤ 4; rw [hb]; decide)
   ·exact .of (x := { m with from_ := m.count, run := m.run ++ [c] }) hm a1 a2 hw ⟨hb, fun z => by cases z⟩
 | ref h =>
  have hb : m.body.length ≤ 4 := g.ref (by rw [hm]; rfl)
  simp only [inRef]
  split
  ·split
   ·cases h <;> exact .of rfl a1 a2 hw ⟨rfl, fun z => by cases z⟩
   ·exact hF 4 (by decide)
  ·split
   ·rename_i z
    have z2 : m.body.length < 4 := by
     simp only [Bool.and_eq_true] at z
     exact of_decide_eq_true z.2
    exact .of (x := { m with body := m.body ++ [c] }) hm a1 a2 hw (by show (m.body ++ [c]).length ≤ 4; rw [List.length_append]; exact z2)
   ·exact hF 4 (by decide)
 | lt =>
  have hb : m.body = [] := hB (by rw [hm]; rfl) (by rw [hm]; decide) hf
  have hr : m.run = [] := hR (by rw [hm]; rfl)
  simp only [inLt]
  split
  ·exact .of rfl o32 a2 hw ⟨hb, fun _ => hr⟩
  ·split
   ·exact .of rfl a1 a2 hw ⟨hb, fun _ => hr⟩
   ·split
    ·exact .of rfl a1 a2 hw ⟨hb, fun _ => hr⟩
    ·exact hF 1 (by decide)
 | openName =>
  have hb : m.body = [] := hB (by rw [hm]; rfl) (by rw [hm]; decide) hf
  have hr : m.run = [] := hR (by rw [hm]; rfl)
  have hE := g.endTag hf hb
  simp only [inOpenName, tagEnds]
  split
  ·split
   ·rename_i z; exact .of (x := { m with tag := m.tag ++ [c] }) hm (l32 z) a2 hw ⟨hb, fun _ => hr⟩
   ·exact hF 2 (by decide)
  ·split
   ·exact .of rfl a1 a2 hw ⟨hb, fun _ => hr⟩
   ·split
    ·exact .of rfl a1 a2 hw ⟨hb, fun _ => hr⟩
    ·split
     ·exact hE
     ·exact hF 1 (by decide)
 | ltSlash =>
  have hb : m.body = [] := hB (by rw [hm]; rfl) (by rw [hm]; decide) hf
  have hr : m.run = [] := hR (by rw [hm]; rfl)
  simp only [inLtSlash]
  split
  ·exact .of rfl o32 a2 hw ⟨hb, fun _ => hr⟩
  ·exact hF 1 (by decide)
 | closeName =>
  have hb : m.body = [] := hB (by rw [hm]; rfl) (by rw [hm]; decide) hf
  have hr : m.run = [] := hR (by rw [hm]; rfl)
  simp only [inCloseName, endClose]
  split
  ·split
   ·rename_i z; exact .of (x := { m with tag := m.tag ++ [c] }) hm (l32 z) a2 hw ⟨hb, fun _ => hr⟩
   ·exact hF 2 (by decide)
  ·split
   ·exact .of rfl (Nat.zero_le _) a2 hw ⟨hb, fun _ => hr⟩
   ·exact hF 1 (by decide)
 | gap => exact g.gap hf (hB (by rw [hm]; rfl) (by rw [hm]; decide) hf) (hR (by rw [hm]; rfl))
 | attrName =>
  have hb : m.body = [] := hB (by rw [hm]; rfl) (by rw [hm]; decide) hf
  have hr : m.run = [] := hR (by rw [hm]; rfl)
  have hE : Gd (inGap (Vaesca.endAttr m) c) := g.endAttr.gap hf hb rfl
  simp only [inAttrName]
  split
  ·split
   ·rename_i z; exact .of (x := { m with attr := m.attr ++ [c] }) hm a1 (l32 z) hw ⟨hb, fun _ => hr⟩
   ·exact hF 2 (by decide)
  ·split
   ·exact hF 1 (by decide)
   ·split
    ·exact hF 3 (by decide)
    ·split
     ·exact .of rfl a1 a2 hw ⟨hb, fun _ => hr⟩
     ·exact hE
 | eq =>
  have hb : m.body = [] := hB (by rw [hm]; rfl) (by rw [hm]; decide) hf
  have hr : m.run = [] := hR (by rw [hm]; rfl)
  simp only [inEq]
  split
  ·exact .of rfl a1 a2 hw ⟨hb, fun _ => hr⟩
  ·split
   ·exact .of rfl a1 a2 hw ⟨hb, fun _ => hr⟩
   ·split
    ·exact .of rfl a1 a2 hw (by show m.body.length ≤ 4; rw [hb]; decide)
    ·split
     ·exact .of rfl a1 a2 hw ⟨hb, fun z => by cases z⟩
     ·exact hF 1 (by decide)
 | double =>
  have hb : m.body = [] := hB (by rw [hm]; rfl) (by rw [hm]; decide) hf
  simp only [inQuotes]
  split
  ·exact .of rfl a1 (Nat.zero_le _) hw ⟨hb, fun _ => rfl⟩
  ·split
   ·exact .of rfl a1 a2 hw (by show m.body.length ≤ 4; rw [hb]; decide)
   ·exact .of (x := m.add [c]) hm a1 a2 hw ⟨hb, fun z => by cases z⟩
 | single =>
  have hb : m.body = [] := hB (by rw [hm]; rfl) (by rw [hm]; decide) hf
  simp only [inQuotes]
  split
  ·exact .of rfl a1 (Nat.zero_le _) hw ⟨hb, fun _ => rfl⟩
  ·split
   ·exact .of rfl a1 a2 hw (by show m.body.length ≤ 4; rw [hb]; decide)
   ·exact .of (x := m.add [c]) hm a1 a2 hw ⟨hb, fun z => by cases z⟩
 | bare =>
  have hb : m.body = [] := hB (by rw [hm]; rfl) (by rw [hm]; decide) hf
  simp only [inBare]
  split
  ·exact .of (x := m.add [c]) hm a1 a2 hw ⟨hb, fun z => by cases z⟩
  ·split
   ·exact .of rfl a1 a2 hw (by show m.body.length ≤ 4; rw [hb]; decide)
   ·split
    ·exact .of rfl a1 (Nat.zero_le _) hw ⟨hb, fun _ => rfl⟩
    ·split
     ·exact g.endAttr.endTag hf hb
     ·exact hF 1 (by decide)
 | behind =>
  have hb : m.body = [] := hB (by rw [hm]; rfl) (by rw [hm]; decide) hf
  have hr : m.run = [] := hR (by rw [hm]; rfl)
  simp only [inBehind, tagEnds]
  split
  ·exact .of rfl a1 a2 hw ⟨hb, fun _ => hr⟩
  ·split
   ·exact .of rfl a1 a2 hw ⟨hb, fun _ => hr⟩
   ·split
    ·exact g.endTag hf hb
    ·exact hF 1 (by decide)
 | slash =>
  have hb : m.body = [] := hB (by rw [hm]; rfl) (by rw [hm]; decide) hf
  simp only [inSlash]
  split
  ·exact .of rfl (Nat.zero_le _) a2 hw ⟨hb, fun z => by cases z⟩
  ·exact hF 1 (by decide)
 | bang =>
  have hb : m.body = [] := hB (by rw [hm]; rfl) (by rw [hm]; decide) hf
  have hr : m.run = [] := hR (by rw [hm]; rfl)
  simp only [inBang]
  split
  ·exact .of rfl a1 a2 hw ⟨hb, fun _ => hr⟩
  ·exact hF 1 (by decide)
 | bangDash =>
  have hb : m.body = [] := hB (by rw [hm]; rfl) (by rw [hm]; decide) hf
  simp only [inBangDash]
  split
  ·exact .of rfl a1 a2 hw ⟨hb, by decide⟩
  ·exact hF 1 (by decide)
 | comment d =>
  have hb : m.body = [] := hB (by rw [hm]; rfl) (by rw [hm]; exact fun z => by cases z) hf
  have hd := g.com d hm
  simp only [inComment]
  split
  ·split
   ·exact .of rfl a1 a2 hw ⟨hb, by omega⟩
   ·exact .of (x := m.add [45]) hm a1 a2 hw ⟨hb, hd⟩
  ·split
   ·exact .of rfl a1 a2 hw ⟨hb, fun z => by cases z⟩
   ·exact .of rfl a1 a2 hw ⟨hb, by decide⟩
 | raw =>
  have hb : m.body = [] := hB (by rw [hm]; rfl) (by rw [hm]; decide) hf
  have hr := g.raw (.inl hm)
  simp only [inRaw]
  split
  ·exact .of rfl a1 a2 hw ⟨hb, hr⟩
  ·exact .of (x := m.add [c]) hm a1 a2 hw ⟨hb, hr⟩
 | rawLt =>
  have hb : m.body = [] := hB (by rw [hm]; rfl) (by rw [hm]; decide) hf
  have hr := g.raw (.inr (.inl hm))
  simp only [inRawLt]
  split
  ·exact .of rfl a1 a2 hw ⟨by show m.body.length ≤ m.tag.length; rw [hb]; exact Nat.zero_le _, hr⟩
  ·split
   ·exact .of (x := m.add [60]) hm a1 a2 hw ⟨hb, hr⟩
   ·exact .of rfl a1 a2 hw ⟨hb, hr⟩
 | rawEnd =>
  have hr := g.raw (.inr (.inr hm))
  simp only [inRawEnd]
  split
  ·split
   ·rename_i z _; exact .of (x := { m with body := m.body ++ [c] }) hm a1 a2 hw ⟨by show (m.body ++ [c]).length ≤ m.tag.length; rw [List.length_append]; exact z, hr⟩
   ·exact hF 6 (by decide)
  ·split
   ·exact .of rfl (Nat.zero_le _) a2 hw ⟨rfl, fun z => by cases z⟩
   ·exact hF 6 (by decide)
 | ended => exact absurd hm he
 | fault => exact absurd hm hf
end Mt
end
section
namespace Mt
open Vaesca
structure Up (m m' : Reader) : Prop where
 run : m'.run.length ≤ m.run.length + 3
 tok : m'.tokens.length ≤ m.tokens.length + 2
 ats : m'.attrs.length ≤ m.attrs.length + 1
 mrk : m'.marks.length ≤ m.marks.length + 1
 cnt : m'.count = m.count
 ne : m.mode ≠ .ended → m'.mode ≠ .ended
 fw : m'.mode = .fault → m.mode = .fault ∨ m'.wrong.isSome = true
theorem Up.mk' {m m' : Reader} (h : m'.run.length ≤ m.run.length + 3 ∧ m'.tokens.length ≤ m.tokens.length + 2 ∧ m'.attrs.length ≤ m.attrs.length + 1 ∧ m'.marks.length ≤ m.marks.length + 1 ∧ m'.count = m.count ∧ (m.mode ≠ .ended → m'.mode ≠ .ended) ∧ (m'.mode = .fault → m.mode = .fault ∨ m'.wrong.isSome = true)) : Up m m' := ⟨h.1, h.2.1, h.2.2.1, h.2.2.2.1, h.2.2.2.2.1, h.2.2.2.2.2.1, h.2.2.2.2.2.2⟩
theorem up_fail (m : Reader) (k : Nat) : Up m (m.fail k) := Up.mk' (by simp +contextual [Reader.fail])
theorem up_go (m : Reader) (md : Mode) (h : md ≠ .ended := by simp) (h2 : md ≠ .fault := by simp) : Up m (m.go md) := Up.mk' (by simp +contextual [Reader.go, h, h2])
theorem up_endTag (m : Reader) : Up m (endTag m) := by
 unfold endTag
 split <;> exact Up.mk' (by simp +contextual)
theorem up_endTag2 (m : Reader) : Up m (endTag (endAttr m)) := by
 unfold endTag endAttr
 split <;> exact Up.mk' (by simp +contextual)
theorem up_text (m : Reader) (c : Nat) : Up m (inText m c) := by
 unfold inText endText
 split
 ·split <;> exact Up.mk' (by simp +contextual)
 ·cases m.run.isEmpty <;> (simp only [if_true, Bool.false_eq_true, if_false]; split <;> exact Up.mk' (by simp +contextual [Reader.go, Reader.add]))
theorem up_byte {m : Reader} {c : Nat} (g : Gd m) : Up m (byte m c) := by
 unfold Vaesca.byte
 cases hm : m.mode with
 | text => exact up_text m c
 | ref h =>
  simp only [inRef]
  repeat' split
  all_goals first | exact up_fail m _ | exact Up.mk' (by cases h <;> simp +contextual [Home.mode]) | exact Up.mk' (by simp +contextual)
 | lt =>
  simp only [inLt]
  repeat' split
  all_goals first | exact up_fail m _ | exact up_go m _ | exact Up.mk' (by simp +contextual)
 | openName =>
  simp only [inOpenName, tagEnds]
  split
  ·by_cases z : m.tag.length < NAME
   ·rw [if_pos z]; exact Up.mk' (by simp +contextual)
   ·rw [if_neg z]; exact up_fail m _
  ·repeat' split
   all_goals first | exact up_fail m _ | exact up_go m _ | exact up_endTag m
 | ltSlash =>
  simp only [inLtSlash]
  split <;> first | exact up_fail m _ | exact Up.mk' (by simp +contextual)
 | closeName =>
  simp only [inCloseName, endClose]
  split
  ·by_cases z : m.tag.length < NAME
   ·rw [if_pos z]; exact Up.mk' (by simp +contextual)
   ·rw [if_neg z]; exact up_fail m _
  ·split <;> first | exact up_fail m _ | exact Up.mk' (by simp +contextual)
 | gap =>
  simp only [inGap, tagEnds]
  repeat' split
  all_goals first | exact up_fail m _ | exact up_go m _ | exact up_endTag m | exact Up.mk' (by simp +contextual)
 | attrName =>
  simp only [inAttrName, inGap, tagEnds]
  split
  ·by_cases z : m.attr.length < NAME
   ·rw [if_pos z]; exact Up.mk' (by simp +contextual)
   ·rw [if_neg z]; exact up_fail m _
  ·repeat' split
   all_goals first | exact up_fail m _ | exact up_go m _ | exact up_endTag2 m | exact Up.mk' (by simp +contextual [Reader.go, Reader.fail, endAttr])
 | eq =>
  simp only [inEq]
  repeat' split
  all_goals first | exact up_fail m _ | exact up_go m _ | exact Up.mk' (by simp +contextual)
 | double =>
  simp only [inQuotes]
  repeat' split
  all_goals first | exact up_go m _ | exact Up.mk' (by simp +contextual [endAttr, Reader.add])
 | single =>
  simp only [inQuotes]
  repeat' split
  all_goals first | exact up_go m _ | exact Up.mk' (by simp +contextual [endAttr, Reader.add])
 | bare =>
  simp only [inBare]
  repeat' split
  all_goals first | exact up_fail m _ | exact up_go m _ | exact up_endTag2 m | exact Up.mk' (by simp +contextual [endAttr, Reader.add])
 | behind =>
  simp only [inBehind, tagEnds]
  repeat' split
  all_goals first | exact up_fail m _ | exact up_go m _ | exact up_endTag m
 | slash =>
  simp only [inSlash, endEnded]
  split <;> first | exact up_fail m _ | exact Up.mk' (by simp +contextual)
 | bang =>
  simp only [inBang]
  split <;> first | exact up_fail m _ | exact up_go m _
 | bangDash =>
  simp only [inBangDash]
  split <;> first | exact up_fail m _ | exact up_go m _
 | comment d =>
  have hd := g.com d hm
  simp only [inComment]
  repeat' split
  all_goals first | exact up_go m _ | (exact Up.mk' (by simp +contextual [endComment, Reader.add, Reader.go, hd])) | (exact Up.mk' (by simp +contextual [endComment, Reader.add, Reader.go]))
 | raw =>
  simp only [inRaw]
  split <;> first | exact up_go m _ | exact Up.mk' (by simp +contextual [Reader.add])
 | rawLt =>
  simp only [inRawLt]
  repeat' split
  all_goals first | exact up_go m _ | exact Up.mk' (by simp +contextual [Reader.add, Reader.go])
 | rawEnd =>
  simp only [inRawEnd, endRaw]
  split
  ·split <;> first | exact up_fail m _ | exact Up.mk' (by simp +contextual)
  ·split
   ·cases m.run.isEmpty <;> exact Up.mk' (by simp +contextual)
   ·exact up_fail m _
 | ended => exact Up.mk' (by simp +contextual)
 | fault => exact Up.mk' (by simp +contextual)
theorem byte_text {m : Reader} {c : Nat} (h : m.mode = .text) : Vaesca.byte m c = inText m c := by unfold Vaesca.byte; rw [h]
theorem Gd.marks {m : Reader} (g : Gd m) (l : List (Nat × Nat)) : Gd { m with marks := l } := ⟨g.tag, g.attr, g.ref, g.rend, g.body, g.raw, g.com, g.run, g.wr, g.wr2⟩
theorem Gd.mark {m : Reader} {c : Nat} (g : Gd m) (hf : m.mode ≠ .fault) (he : m.mode ≠ .ended) : Gd (mark m c) ∧ Up m (mark m c) := by
 unfold Vaesca.mark
 split
 ·exact ⟨g.fail 5 (by decide), up_fail m 5⟩
 ·rename_i s hs
  have gm := g.marks (m.marks ++ [(c, s)])
  have hw := g.wr hf
  have body : isRef m.mode = false → m.mode ≠ .rawEnd → m.body = [] := fun a b => g.body a b hf
  have wr2 : ∀ {P : Prop} (w : Nat × Nat), m.wrong = some w → P := fun w h => by rw [hw] at h; cases h
  have addOk : inTag m.mode = false → Gd (Reader.add { m with marks := m.marks ++ [(c, s)] } [c]) := fun hn =>
   ⟨g.tag, g.attr, g.ref, g.rend, g.body, g.raw, g.com, (fun h => by rw [show inTag m.mode = true from h] at hn; cases hn), g.wr, g.wr2⟩
  unfold spotOf at hs
  split
  ·rename_i z
   have hm : m.mode = .text := by
    cases hm : m.mode <;> rw [hm] at hs <;> simp at hs <;> simp_all
   refine ⟨?_, ?_⟩
   ·have := gm.byte (c := c) (show _ ≠ _ by rw [hm]; simp) (show _ ≠ _ by rw [hm]; simp)
    rw [byte_text (m := { m with marks := m.marks ++ [(c, s)] }) hm] at this
    exact this
   ·have u := up_text { m with marks := m.marks ++ [(c, s)] } c
    refine ⟨u.run, u.tok, u.ats, Nat.le_trans (Nat.le_of_eq ?_) (Nat.le_refl _), u.cnt, u.ne, u.fw⟩
    have : (inText { m with marks := m.marks ++ [(c, s)] } c).marks = m.marks ++ [(c, s)] := by
     unfold inText endText
     split
     ·split <;> rfl
     ·cases ({ m with marks := m.marks ++ [(c, s)] } : Reader).run.isEmpty <;> (simp only [if_true, Bool.false_eq_true, if_false]; split <;> rfl)
    rw [this]; simp
  ·split
   ·rename_i z
    have hm : m.mode = .eq := by
     cases hm : m.mode <;> rw [hm] at hs <;> simp at hs <;> simp_all
    refine ⟨⟨g.tag, Nat.zero_le _, (by intro h; cases h), (by intro h; cases h), fun _ _ _ => body (by rw [hm]; rfl) (by rw [hm]; simp), (by intro h; rcases h with h | h | h <;> cases h), (by intro d h; cases h), fun _ => rfl, fun _ => hw, fun w h => wr2 w h⟩, Up.mk' (by simp +contextual [Vaesca.endAttr])⟩
   ·rename_i z0 z4
    refine ⟨addOk ?_, Up.mk' (by simp +contextual [Reader.add])⟩
    cases hm : m.mode <;> rw [hm] at hs <;> simp at hs <;> simp_all [inTag]
theorem Gd.count {m : Reader} (g : Gd m) (n : Nat) (hf : m.mode ≠ .fault) : Gd { m with count := n } :=
 ⟨g.tag, g.attr, g.ref, g.rend, g.body, g.raw, g.com, g.run, g.wr, fun w h => absurd (g.wr2 w h).2.2 hf⟩
theorem eat_ok {m : Reader} {c n : Nat} (g : Gd m) (b : Bs n m) (he : m.mode ≠ .ended) (hf : m.mode ≠ .fault) : Gd (eat m c) ∧ Bs (n + 1) (eat m c) ∧ (eat m c).mode ≠ .ended := by
 unfold eat
 split
 ·exact ⟨g, ⟨by have := b.run; omega, by have := b.tok; omega, by have := b.ats; omega, by have := b.mrk; omega⟩, he⟩
 ·have key : Gd (if isMark c then Vaesca.mark m c else Vaesca.byte m c) ∧ Up m (if isMark c then Vaesca.mark m c else Vaesca.byte m c) := by
   split
   ·exact g.mark hf he
   ·exact ⟨g.byte he hf, up_byte g⟩
  simp only
  generalize (if isMark c then Vaesca.mark m c else Vaesca.byte m c) = s at key
  obtain ⟨gs, u⟩ := key
  have bs : Bs (n + 1) s := ⟨by have := b.run; have := u.run; omega, by have := b.tok; have := u.tok; omega, by have := b.ats; have := u.ats; omega, by have := b.mrk; have := u.mrk; omega⟩
  split
  ·exact ⟨gs, bs, u.ne he⟩
  ·rename_i z
   exact ⟨gs.count _ (fun e => z (by rw [e]; rfl)), ⟨bs.run, bs.tok, bs.ats, bs.mrk⟩, u.ne he⟩
theorem gd_fresh : Gd fresh := ⟨by decide, by decide, (by intro z; cases z), (by intro z; cases z), fun _ _ _ => rfl, (by rintro (z | z | z) <;> cases z), (by intro d z; cases z), (by intro z; cases z), fun _ => rfl, (by intro w z; cases z)⟩
theorem bs_fresh : Bs 0 fresh := ⟨by decide, by decide, by decide, by decide⟩
theorem eat_fault {m : Reader} {c : Nat} (h : m.mode = .fault) : eat m c = m := by
 unfold eat isDone
 rw [h]; rfl
theorem run_fault : ∀ (l : Text) {m : Reader}, m.mode = .fault → Vaesca.run m l = m
 | [], _, _ => rfl
 | c :: l, m, h => by
  show Vaesca.run (eat m c) l = m
  rw [eat_fault h]; exact run_fault l h
theorem run_snoc (m : Reader) (l : Text) (c : Nat) : Vaesca.run m (l ++ [c]) = eat (Vaesca.run m l) c := by
 unfold Vaesca.run
 rw [List.foldl_append]; rfl
theorem run_append (m : Reader) (l k : Text) : Vaesca.run m (l ++ k) = Vaesca.run (Vaesca.run m l) k := by
 unfold Vaesca.run
 rw [List.foldl_append]
end Mt
end
section
namespace Mt
open Vaesca
theorem et_marks (m : Reader) : (endTag m).marks = m.marks := by unfold endTag; split <;> rfl
theorem txt_marks (m : Reader) (c : Nat) : (inText m c).marks = m.marks := by
 unfold inText endText
 split
 ·split <;> rfl
 ·cases m.run.isEmpty <;> (simp only [if_true, Bool.false_eq_true, if_false]; split <;> rfl)
theorem byte_marks (m : Reader) (c : Nat) : (byte m c).marks = m.marks := by
 unfold Vaesca.byte
 cases hm : m.mode with
 | text => exact txt_marks m c
 | ref h => simp only [inRef]; (repeat' split) <;> rfl
 | lt => simp only [inLt]; (repeat' split) <;> rfl
 | openName =>
  simp only [inOpenName, tagEnds]
  split
  ·by_cases z : m.tag.length < NAME
   ·rw [if_pos z]
   ·rw [if_neg z]; rfl
  ·(repeat' split) <;> first | rfl | exact et_marks m
 | ltSlash => simp only [inLtSlash]; split <;> rfl
 | closeName =>
  simp only [inCloseName, endClose]
  split
  ·by_cases z : m.tag.length < NAME
   ·rw [if_pos z]
   ·rw [if_neg z]; rfl
  ·split <;> rfl
 | gap => simp only [inGap, tagEnds]; (repeat' split) <;> first | rfl | exact et_marks m
 | attrName =>
  simp only [inAttrName, inGap, tagEnds]
  split
  ·by_cases z : m.attr.length < NAME
   ·rw [if_pos z]
   ·rw [if_neg z]; rfl
  ·(repeat' split) <;> first | rfl | exact et_marks (endAttr m)
 | eq => simp only [inEq]; (repeat' split) <;> rfl
 | double => simp only [inQuotes]; (repeat' split) <;> rfl
 | single => simp only [inQuotes]; (repeat' split) <;> rfl
 | bare => simp only [inBare]; (repeat' split) <;> first | rfl | exact et_marks (endAttr m)
 | behind => simp only [inBehind, tagEnds]; (repeat' split) <;> first | rfl | exact et_marks m
 | slash => simp only [inSlash, endEnded]; split <;> rfl
 | bang => simp only [inBang]; split <;> rfl
 | bangDash => simp only [inBangDash]; split <;> rfl
 | comment d => simp only [inComment, endComment]; (repeat' split) <;> rfl
 | raw => simp only [inRaw]; split <;> rfl
 | rawLt => simp only [inRawLt]; (repeat' split) <;> rfl
 | rawEnd => simp only [inRawEnd, endRaw]; (repeat' split) <;> rfl
 | ended => rfl
 | fault => rfl
theorem spot_le {m : Reader} {s : Nat} (h : spotOf m = some s) : s ≤ 5 := by
 unfold spotOf at h
 cases hm : m.mode <;> rw [hm] at h <;> simp at h <;> omega
theorem mark_marks {m : Reader} {c s : Nat} (h : spotOf m = some s) : (mark m c).marks = m.marks ++ [(c, s)] := by
 unfold mark
 rw [h]
 simp only
 split
 ·exact txt_marks _ _
 ·split <;> rfl
structure Mk (l : Text) (m : Reader) : Prop where
 fst : m.marks.map (·.1) = l.filter isMark
 each : ∀ p ∈ m.marks, 256 ≤ p.1 ∧ p.2 ≤ 5
theorem mk_eat {l : Text} {m : Reader} {c : Nat} (h : Mk l m) (hd : isDone m = false) (hf : (eat m c).mode ≠ .fault) : Mk (l ++ [c]) (eat m c) := by
 have e : (eat m c).marks = (if isMark c then Vaesca.mark m c else Vaesca.byte m c).marks := by
  unfold Vaesca.eat
  rw [hd]
  simp only [Bool.false_eq_true, if_false]
  generalize (if isMark c = true then Vaesca.mark m c else Vaesca.byte m c) = s
  split <;> rfl
 refine ⟨?_, ?_⟩
 ·rw [e, List.filter_append]
  cases hc : isMark c with
  | false =>
   rw [if_neg (by decide), byte_marks]
   rw [h.fst]
   simp [List.filter_cons, hc]
  | true =>
   rw [if_pos rfl]
   cases hs : spotOf m with
   | none =>
    exfalso
    apply hf
    unfold Vaesca.eat
    rw [hd, hc]
    simp only [Bool.false_eq_true, if_false, if_true]
    unfold mark
    rw [hs]; rfl
   | some s =>
    rw [mark_marks hs, List.map_append, h.fst]
    simp [List.filter_cons, hc]
 ·rw [e]
  cases hc : isMark c with
  | false => rw [if_neg (by decide), byte_marks]; exact h.each
  | true =>
   rw [if_pos rfl]
   cases hs : spotOf m with
   | none =>
    have : (Vaesca.mark m c).marks = m.marks := by unfold mark; rw [hs]; rfl
    rw [this]; exact h.each
   | some s =>
    rw [mark_marks hs]
    intro p hp
    rcases List.mem_append.mp hp with hp | hp
    ·exact h.each p hp
    ·rw [List.mem_singleton.mp hp]
     exact ⟨by simpa [isMark] using hc, spot_le hs⟩
theorem run_inv : ∀ (n : Nat) (l : Text), l.length = n → (Vaesca.run fresh l).mode ≠ .fault → Mk l (Vaesca.run fresh l) ∧ Gd (Vaesca.run fresh l) ∧ Bs n (Vaesca.run fresh l) ∧ (Vaesca.run fresh l).mode ≠ .ended
 | 0, l, hl, _ => by
  have : l = [] := List.eq_nil_of_length_eq_zero hl
  subst this
  exact ⟨⟨rfl, fun p hp => by cases hp⟩, gd_fresh, bs_fresh, by intro z; cases z⟩
 | n + 1, l, hl, hf => by
  rcases List.eq_nil_or_concat l with e | ⟨l0, c, e⟩
  ·subst e; simp at hl
  ·rw [List.concat_eq_append] at e
   subst e
   rw [run_snoc] at hf ⊢
   have hl0 : l0.length = n := by simpa using hl
   have hf0 : (Vaesca.run fresh l0).mode ≠ .fault := fun z => hf (by rw [eat_fault z]; exact z)
   obtain ⟨k, g, b, ne⟩ := run_inv n l0 hl0 hf0
   obtain ⟨g2, b2, e2⟩ := eat_ok (c := c) g b ne hf0
   have hd : isDone (Vaesca.run fresh l0) = false := by
    unfold isDone
    cases hm : (Vaesca.run fresh l0).mode <;> first | rfl | (exact absurd hm ne) | (exact absurd hm hf0)
   exact ⟨mk_eat k hd hf, g2, b2, e2⟩
theorem run_fw : ∀ (n : Nat) (l : Text), l.length = n → (Vaesca.run fresh l).mode = .fault → (Vaesca.run fresh l).wrong.isSome = true ∧ ∀ w, (Vaesca.run fresh l).wrong = some w → w.1 ≠ 0 ∧ w.2 = (Vaesca.run fresh l).count
 | 0, l, hl, h => by
  have : l = [] := List.eq_nil_of_length_eq_zero hl
  subst this; cases h
 | n + 1, l, hl, hf => by
  rcases List.eq_nil_or_concat l with e | ⟨l0, c, e⟩
  ·subst e; simp at hl
  ·rw [List.concat_eq_append] at e
   subst e
   have hl0 : l0.length = n := by simpa using hl
   rw [run_snoc] at hf ⊢
   by_cases hf0 : (Vaesca.run fresh l0).mode = .fault
   ·rw [eat_fault hf0]
    exact run_fw n l0 hl0 hf0
   ·obtain ⟨k, g, b, ne⟩ := run_inv n l0 hl0 hf0
    obtain ⟨g2, b2, e2⟩ := eat_ok (c := c) g b ne hf0
    have hd : isDone (Vaesca.run fresh l0) = false := by
     unfold isDone
     cases hm : (Vaesca.run fresh l0).mode <;> first | rfl | (exact absurd hm ne) | (exact absurd hm hf0)
    refine ⟨?_, fun w hw => ⟨(g2.wr2 w hw).1, (g2.wr2 w hw).2.1⟩⟩
    have u : Up (Vaesca.run fresh l0) (if isMark c then Vaesca.mark (Vaesca.run fresh l0) c else Vaesca.byte (Vaesca.run fresh l0) c) := by
     split
     ·exact (g.mark hf0 ne).2
     ·exact up_byte g
    unfold Vaesca.eat at hf ⊢
    rw [hd] at hf ⊢
    simp only [Bool.false_eq_true, if_false] at hf ⊢
    generalize (if isMark c = true then Vaesca.mark (Vaesca.run fresh l0) c else Vaesca.byte (Vaesca.run fresh l0) c) = s at u hf ⊢
    split
    ·rename_i z
     rw [if_pos z] at hf
     exact (u.fw hf).resolve_left hf0
    ·rename_i z
     rw [if_neg z] at hf
     exact absurd (by rw [show _ = Mode.fault from hf]; rfl) z
theorem fin_tok (m : Reader) : (endText m).marks = m.marks := by unfold endText; split <;> rfl
theorem read_fine {x : Text} (h : (Vaesca.read x).wrong = none) : Mk x (Vaesca.read x) ∧ (Vaesca.read x).tokens = (endText (Vaesca.run fresh x)).tokens ∧ (Vaesca.run fresh x).mode ≠ .fault := by
 have hm : (Vaesca.run fresh x).mode ≠ .fault := by
  intro z
  have h1 := (run_fw x.length x rfl z).1
  have : Vaesca.read x = Vaesca.run fresh x := by
   unfold Vaesca.read finish isDone
   rw [z]; rfl
  rw [this] at h
  rw [h] at h1; cases h1
 obtain ⟨k, g, b, ne⟩ := run_inv x.length x rfl hm
 have hd : isDone (Vaesca.run fresh x) = false := by
  unfold isDone
  cases hmm : (Vaesca.run fresh x).mode <;> first | rfl | (exact absurd hmm ne) | (exact absurd hmm hm)
 unfold Vaesca.read finish at h ⊢
 rw [hd] at h ⊢
 simp only [Bool.false_eq_true, if_false] at h ⊢
 split
 ·refine ⟨⟨?_, ?_⟩, rfl, hm⟩
  ·show (endText (Vaesca.run fresh x)).marks.map (·.1) = _
   rw [fin_tok]; exact k.fst
  ·show ∀ p ∈ (endText (Vaesca.run fresh x)).marks, _
   rw [fin_tok]; exact k.each
 ·rename_i z
  rw [if_neg z] at h; cases h
theorem read_wr (x : Text) : ∀ w, (Vaesca.read x).wrong = some w → w.1 ≠ 0 ∧ w.2 = (Vaesca.read x).count := by
 intro w hw
 by_cases hm : (Vaesca.run fresh x).mode = .fault
 ·have e : Vaesca.read x = Vaesca.run fresh x := by
   unfold Vaesca.read finish isDone
   rw [hm]; rfl
  rw [e] at hw ⊢
  exact (run_fw x.length x rfl hm).2 w hw
 ·obtain ⟨k, g, b, ne⟩ := run_inv x.length x rfl hm
  have hd : isDone (Vaesca.run fresh x) = false := by
   unfold isDone
   cases hmm : (Vaesca.run fresh x).mode <;> first | rfl | (exact absurd hmm ne) | (exact absurd hmm hm)
  have hw0 := g.wr hm
  unfold Vaesca.read finish at hw ⊢
  rw [hd] at hw ⊢
  simp only [Bool.false_eq_true, if_false] at hw ⊢
  split
  ·rename_i z
   rw [if_pos z] at hw
   exfalso
   have : (endText (Vaesca.run fresh x)).wrong = some w := hw
   have e2 : (endText (Vaesca.run fresh x)).wrong = (Vaesca.run fresh x).wrong := by unfold endText; split <;> rfl
   rw [e2, hw0] at this; cases this
  ·rename_i z
   rw [if_neg z] at hw
   have : some (7, (Vaesca.run fresh x).count) = some w := hw
   cases this
   exact ⟨by show 7 ≠ 0; decide, rfl⟩
theorem eat_marks (m : Reader) (c : Nat) : (eat m c).marks.length ≤ m.marks.length + 1 := by
 unfold Vaesca.eat
 split
 ·omega
 ·have e : (if isMark c = true then Vaesca.mark m c else Vaesca.byte m c).marks.length ≤ m.marks.length + 1 := by
   split
   ·cases hs : spotOf m with
    | none =>
     have : (Vaesca.mark m c).marks = m.marks := by unfold mark; rw [hs]; rfl
     rw [this]; omega
    | some s => rw [mark_marks hs, List.length_append]; simp
   ·rw [byte_marks]; omega
  simp only
  generalize (if isMark c = true then Vaesca.mark m c else Vaesca.byte m c) = s at e
  split <;> exact e
theorem run_marks : ∀ (n : Nat) (l : Text), l.length = n → (Vaesca.run fresh l).marks.length ≤ n
 | 0, l, hl => by
  have : l = [] := List.eq_nil_of_length_eq_zero hl
  subst this; exact Nat.le_refl _
 | n + 1, l, hl => by
  rcases List.eq_nil_or_concat l with e | ⟨l0, c, e⟩
  ·subst e; simp at hl
  ·rw [List.concat_eq_append] at e
   subst e
   have hl0 : l0.length = n := by simpa using hl
   have := run_marks n l0 hl0
   rw [run_snoc]
   have := eat_marks (Vaesca.run fresh l0) c
   omega
theorem read_marks (x : Text) : (Vaesca.read x).marks.length ≤ x.length := by
 have h := run_marks x.length x rfl
 have e : (Vaesca.read x).marks = (Vaesca.run fresh x).marks := by
  unfold Vaesca.read finish
  split
  ·rfl
  ·split
   ·exact fin_tok _
   ·rfl
 rw [e]; exact h
end Mt
end
section
namespace Mt
open Vaesca
def wt (c : Nat) : Nat := if isMark c then 512 else 1
def W (s : Text) : Nat := (s.map wt).sum
def AW (as : List (Text × Text)) : Nat := (as.map fun a => 2 + W a.1 + W a.2).sum
def TW : Token → Nat
 | .text _ s => 2 + W s
 | .opened _ n as _ => 4 + W n + AW as
 | .closed _ n => 2 + W n
 | .comment _ s => 2 + W s
 | .raw _ s => 2 + W s
def TS (ts : List Token) : Nat := (ts.map TW).sum
def tw : Mode → Nat
 | .raw => 1 | .rawLt => 1 | .rawEnd => 1 | .fault => 1
 | _ => 2
def Phi (m : Reader) : Nat := TS m.tokens + W m.run + AW m.attrs + W m.attr + tw m.mode * W m.tag
theorem W_nil : W [] = 0 := rfl
theorem W_app (s t : Text) : W (s ++ t) = W s + W t := by unfold W; rw [List.map_append, List.sum_append]
theorem W_one (c : Nat) : W [c] = wt c := by simp [W]
theorem AW_nil : AW [] = 0 := rfl
theorem AW_app (s t : List (Text × Text)) : AW (s ++ t) = AW s + AW t := by unfold AW; rw [List.map_append, List.sum_append]
theorem AW_one (a : Text × Text) : AW [a] = 2 + W a.1 + W a.2 := by simp [AW]
theorem TS_app (s t : List Token) : TS (s ++ t) = TS s + TS t := by unfold TS; rw [List.map_append, List.sum_append]
theorem TS_one (t : Token) : TS [t] = TW t := by simp [TS]
theorem tw_le (m : Mode) : 1 ≤ tw m ∧ tw m ≤ 2 := by unfold tw; split <;> decide
theorem ph_fail (m : Reader) (k : Nat) : Phi (m.fail k) ≤ Phi m := by
 have := tw_le m.mode
 unfold Phi Reader.fail
 have : 1 * W m.tag ≤ tw m.mode * W m.tag := Nat.mul_le_mul_right _ this.1
 simp only [show tw .fault = 1 from rfl]; omega
theorem ph_endTag {m : Reader} (h : tw m.mode = 2) : Phi (endTag m) ≤ Phi m + 4 := by
 unfold endTag
 split <;> (simp only [Phi, TS_app, TS_one, TW, AW_nil, W_nil, show tw .raw = 1 from rfl, show tw .text = 2 from rfl, h]; omega)
theorem ph_endAttr (m : Reader) : Phi (endAttr m) ≤ Phi m + 2 := by
 simp only [endAttr, Phi, AW_app, AW_one, W_nil]; omega
theorem hex_lt {c x : Nat} (h : hexOf c = some x) : x < 16 := by
 unfold hexOf at h
 split at h
 ·rename_i z; simp [isDigit] at z; cases h; omega
 ·split at h
  ·cases h; omega
  ·split at h
   ·cases h; omega
   ·cases h
theorem byHex_lt {l : Text} {x : Nat} (h : byHex l = some x) : x < 256 := by
 match l, h with
 | [a], h => have := hex_lt (show hexOf a = some x from h); omega
 | [a, b], h =>
  have h' : (hexOf a).bind (fun x => (hexOf b).map fun y => 16 * x + y) = some x := h
  cases ha : hexOf a with
  | none => rw [ha] at h'; cases h'
  | some y =>
   cases hb : hexOf b with
   | none => rw [ha, hb] at h'; cases h'
   | some z =>
    rw [ha, hb] at h'
    have h1 := hex_lt ha
    have h2 := hex_lt hb
    have : 16 * y + z = x := Option.some.inj h'
    omega
theorem byteOf_lt {b : Text} {x : Nat} (h : byteOf b = some x) : x < 256 := by
 unfold byteOf at h
 split at h
 ·cases h; decide
 ·split at h
  ·cases h; decide
  ·split at h
   ·cases h; decide
   ·split at h
    ·cases h; decide
    ·split at h
     ·cases h; decide
     ·split at h
      ·exact byHex_lt h
      ·unfold byDigits at h
       split at h
       ·cases h
       ·split at h
        ·cases h; assumption
        ·cases h
      ·cases h
theorem wt_byte {c : Nat} (h : isMark c = false) : wt c = 1 := by unfold wt; rw [h]; rfl
theorem wt_le (c : Nat) : wt c ≤ 512 := by unfold wt; split <;> decide
theorem ph_text (m : Reader) (c : Nat) (hm : m.mode = .text) : Phi (inText m c) ≤ Phi m + 2 + wt c := by
 unfold inText endText
 split
 ·split
  ·simp only [Phi, tw, hm]; omega
  ·simp only [Phi, TS_app, TS_one, TW, W_nil, tw, hm]; omega
 ·cases m.run.isEmpty <;> (simp only [if_true, Bool.false_eq_true, if_false]; split <;> (simp only [Reader.go, Reader.add, Phi, W_app, W_one, tw, hm]; omega))
theorem ph_byte {m : Reader} {c : Nat} (g : Gd m) (hc : isMark c = false) : Phi (byte m c) ≤ Phi m + 8 := by
 have hF : ∀ k, Phi (m.fail k) ≤ Phi m + 8 := fun k => Nat.le_trans (ph_fail m k) (by omega)
 have w1 := wt_byte hc
 unfold Vaesca.byte
 cases hm : m.mode with
 | text => have := ph_text m c hm; simp only; omega
 | ref h =>
  simp only [inRef]
  split
  ·split
   ·rename_i x hx
    have hb := byteOf_lt hx
    have : wt x = 1 := wt_byte (by simp [isMark]; omega)
    have t2 : tw h.mode = 2 := by cases h <;> rfl
    simp only [Phi, W_app, W_one, this, hm, show tw (.ref h) = 2 from rfl, t2]; omega
   ·exact hF 4
  ·split
   ·simp only [Phi, hm]; omega
   ·exact hF 4
 | lt =>
  simp only [inLt]
  repeat' split
  all_goals first | with_reducible exact hF _ | (simp only [Phi, Reader.go, W_one, w1, tw, hm]; omega)
 | openName =>
  have hE := ph_endTag (m := m) (by rw [hm]; rfl)
  simp only [inOpenName, tagEnds]
  split
  ·by_cases z : m.tag.length < NAME
   ·rw [if_pos z]; simp only [Phi, W_app, W_one, w1, tw, hm]; omega
   ·rw [if_neg z]; exact hF 2
  ·repeat' split
   all_goals first | with_reducible exact hF _ | omega | (simp only [Phi, Reader.go, tw, hm]; omega)
 | ltSlash =>
  simp only [inLtSlash]
  split <;> first | with_reducible exact hF _ | (simp only [Phi, W_one, w1, tw, hm]; omega)
 | closeName =>
  simp only [inCloseName, endClose]
  split
  ·by_cases z : m.tag.length < NAME
   ·rw [if_pos z]; simp only [Phi, W_app, W_one, w1, tw, hm]; omega
   ·rw [if_neg z]; exact hF 2
  ·split <;> first | with_reducible exact hF _ | (simp only [Phi, TS_app, TS_one, TW, W_nil, tw, hm]; omega)
 | gap =>
  have hE := ph_endTag (m := m) (by rw [hm]; rfl)
  simp only [inGap, tagEnds]
  repeat' split
  all_goals first | with_reducible exact hF _ | omega | (simp only [Phi, Reader.go, W_one, w1, tw, hm]; omega)
 | attrName =>
  have hA := ph_endAttr m
  have hE := ph_endTag (m := endAttr m) (by show tw m.mode = 2; rw [hm]; rfl)
  have hFA : ∀ k, Phi ((endAttr m).fail k) ≤ Phi m + 8 := fun k => Nat.le_trans (ph_fail _ k) (by omega)
  simp only [inAttrName, inGap, tagEnds]
  split
  ·by_cases z : m.attr.length < NAME
   ·rw [if_pos z]; simp only [Phi, W_app, W_one, w1, tw, hm]; omega
   ·rw [if_neg z]; exact hF 2
  ·repeat' split
   all_goals first | with_reducible exact hF _ | with_reducible exact hFA _ | omega | (simp only [Phi, Reader.go, endAttr, AW_app, AW_one, W_nil, W_one, w1, tw, hm]; omega)
 | eq =>
  simp only [inEq]
  repeat' split
  all_goals first | with_reducible exact hF _ | (simp only [Phi, Reader.go, W_one, w1, tw, hm]; omega)
 | double =>
  simp only [inQuotes]
  repeat' split
  all_goals (simp only [Phi, Reader.go, Reader.add, endAttr, AW_app, AW_one, W_app, W_nil, W_one, w1, tw, hm]; omega)
 | single =>
  simp only [inQuotes]
  repeat' split
  all_goals (simp only [Phi, Reader.go, Reader.add, endAttr, AW_app, AW_one, W_app, W_nil, W_one, w1, tw, hm]; omega)
 | bare =>
  have hA := ph_endAttr m
  have hE := ph_endTag (m := endAttr m) (by show tw m.mode = 2; rw [hm]; rfl)
  simp only [inBare]
  repeat' split
  all_goals first | with_reducible exact hF _ | omega | (simp only [Phi, Reader.go, Reader.add, endAttr, AW_app, AW_one, W_app, W_nil, W_one, w1, tw, hm]; omega)
 | behind =>
  have hE := ph_endTag (m := m) (by rw [hm]; rfl)
  simp only [inBehind, tagEnds]
  repeat' split
  all_goals first | with_reducible exact hF _ | omega | (simp only [Phi, Reader.go, tw, hm]; omega)
 | slash =>
  simp only [inSlash, endEnded]
  split <;> first | with_reducible exact hF _ | (simp only [Phi, TS_app, TS_one, TW, AW_nil, W_nil, tw, hm]; omega)
 | bang =>
  simp only [inBang]
  split <;> first | with_reducible exact hF _ | (simp only [Phi, Reader.go, tw, hm]; omega)
 | bangDash =>
  simp only [inBangDash]
  split <;> first | with_reducible exact hF _ | (simp only [Phi, Reader.go, tw, hm]; omega)
 | comment d =>
  have hd := g.com d hm
  have hr : W (List.replicate d 45) ≤ 2 := by
   match d, hd with
   | 0, _ => decide
   | 1, _ => decide
   | 2, _ => decide
  have w45 : W [45] = 1 := rfl
  simp only [inComment]
  repeat' split
  all_goals (simp only [Phi, endComment, Reader.go, Reader.add, TS_app, TS_one, TW, W_app, W_nil, W_one, w45, w1, tw, hm]; omega)
 | raw =>
  simp only [inRaw]
  split <;> (simp only [Phi, Reader.go, Reader.add, W_app, W_one, w1, tw, hm]; omega)
 | rawLt =>
  have w60 : W [60] = 1 := rfl
  have w60c : W [60, c] = 2 := by rw [show [60, c] = [60] ++ [c] from rfl, W_app, W_one c, w1]; rfl
  simp only [inRawLt]
  repeat' split
  all_goals (simp only [Phi, Reader.go, Reader.add, W_app, w60, w60c, tw, hm]; omega)
 | rawEnd =>
  simp only [inRawEnd, endRaw]
  split
  ·split <;> first | with_reducible exact hF _ | (simp only [Phi, tw, hm]; omega)
  ·split
   ·cases m.run.isEmpty <;> (simp only [Phi, TS_app, TS_one, TW, W_nil, tw, hm, if_true, Bool.false_eq_true, if_false, List.nil_append, TS]; simp [TW]; omega)
   ·with_reducible exact hF _
 | ended => simp only; omega
 | fault => simp only; omega
theorem ph_mark {m : Reader} {c s : Nat} (h : spotOf m = some s) : Phi (mark m c) ≤ Phi m + 514 := by
 have w1 := wt_le c
 unfold mark
 rw [h]
 simp only
 have e : Phi { m with marks := m.marks ++ [(c, s)] } = Phi m := rfl
 split
 ·rename_i z
  have hm : m.mode = .text := by
   unfold spotOf at h
   cases hm : m.mode <;> rw [hm] at h <;> simp at h <;> simp_all
  have := ph_text { m with marks := m.marks ++ [(c, s)] } c hm
  rw [e] at this; omega
 ·split
  ·rename_i z
   have hm : m.mode = .eq := by
    unfold spotOf at h
    cases hm : m.mode <;> rw [hm] at h <;> simp at h <;> simp_all
   simp only [Phi, endAttr, AW_app, AW_one, W_nil, W_one, tw, hm]; omega
  ·simp only [Phi, Reader.add, W_app, W_one]; omega
end Mt
end
section
namespace Mt
open Vaesca
def NMt : Token → Prop
 | .closed _ n => ∀ c ∈ n, isMark c = false
 | .comment _ s => ∀ c ∈ s, isMark c = false
 | _ => True
def isCom : Mode → Bool
 | .comment _ => true
 | _ => false
structure NM (m : Reader) : Prop where
 tok : ∀ t ∈ m.tokens, NMt t
 tag : ∀ c ∈ m.tag, isMark c = false
 com : isCom m.mode = true → ∀ c ∈ m.run, isMark c = false
theorem NM.mk' {m m' : Reader} (h : NM m) (htk : ∀ t ∈ m'.tokens, t ∈ m.tokens ∨ NMt t) (htg : ∀ c ∈ m'.tag, c ∈ m.tag ∨ isMark c = false) (hc : isCom m'.mode = true → ∀ c ∈ m'.run, isMark c = false) : NM m' :=
 ⟨fun t ht => (htk t ht).elim (h.tok t) id, fun c z => (htg c z).elim (h.tag c) id, hc⟩
theorem NM.same {m m' : Reader} (h : NM m) (htk : m'.tokens = m.tokens) (htg : m'.tag = m.tag) (hc : isCom m'.mode = false) : NM m' :=
 h.mk' (fun t z => .inl (htk ▸ z)) (fun c z => .inl (htg ▸ z)) (fun z => by rw [hc] at z; cases z)
theorem NM.fail {m : Reader} (h : NM m) (k : Nat) : NM (m.fail k) := h.same rfl rfl rfl
theorem NM.one {m m' : Reader} {t : Token} (h : NM m) (htk : m'.tokens = m.tokens ++ [t]) (ht : NMt t) (htg : ∀ c ∈ m'.tag, c ∈ m.tag ∨ isMark c = false) (hc : isCom m'.mode = false) : NM m' :=
 h.mk' (fun u z => (List.mem_append.mp (htk ▸ z : u ∈ m.tokens ++ [t])).imp id (fun z => by rw [List.mem_singleton.mp z]; exact ht)) htg (fun z => by rw [hc] at z; cases z)
theorem NM.endTag {m : Reader} (h : NM m) : NM (endTag m) := by
 unfold Vaesca.endTag
 split
 ·exact h.one rfl trivial (fun c z => .inl z) rfl
 ·exact h.one rfl trivial (fun c z => by cases z) rfl
theorem NM.endAttr {m : Reader} (h : NM m) (hc : isCom m.mode = false) : NM (endAttr m) := h.same rfl rfl hc
theorem NM.tagEnds {m : Reader} {c : Nat} (h : NM m) : NM (tagEnds m c) := by
 unfold Vaesca.tagEnds
 split
 ·exact h.same rfl rfl rfl
 ·split
  ·exact h.endTag
  ·exact h.fail 1
theorem NM.gap {m : Reader} {c : Nat} (h : NM m) : NM (inGap m c) := by
 unfold Vaesca.inGap
 split
 ·exact h.same rfl rfl rfl
 ·split
  ·exact h.same rfl rfl rfl
  ·exact h.tagEnds
theorem NM.text {m : Reader} {c : Nat} (h : NM m) (hm : m.mode = .text) : NM (inText m c) := by
 unfold Vaesca.inText endText
 have hc : isCom m.mode = false := by rw [hm]; rfl
 split
 ·split
  ·exact h.same rfl rfl rfl
  ·exact h.one rfl trivial (fun c z => .inl z) rfl
 ·cases m.run.isEmpty <;> (simp only [if_true, Bool.false_eq_true, if_false]; split)
  ·exact h.same rfl rfl rfl
  ·exact h.same rfl rfl hc
  ·exact h.same rfl rfl rfl
  ·exact h.same rfl rfl hc
theorem NM.byte {m : Reader} {c : Nat} (g : Gd m) (hk : isMark c = false) (h : NM m) : NM (byte m c) := by
 unfold Vaesca.byte
 cases hm : m.mode with
 | text => exact h.text hm
 | ref e =>
  simp only [inRef]
  have hc : isCom m.mode = false := by rw [hm]; rfl
  split
  ·split
   ·cases e <;> exact h.same rfl rfl rfl
   ·exact h.fail 4
  ·split
   ·exact h.same rfl rfl hc
   ·exact h.fail 4
 | lt =>
  simp only [inLt]
  split
  ·exact h.mk' (fun t z => .inl z) (fun d z => .inr (by rw [List.mem_singleton.mp z]; exact hk)) (fun z => by cases z)
  ·repeat' split
   all_goals exact h.same rfl rfl rfl
 | openName =>
  have hc : isCom m.mode = false := by rw [hm]; rfl
  simp only [inOpenName]
  split
  ·split
   ·exact h.mk' (fun t z => .inl z) (fun d z => (List.mem_append.mp z).imp id (fun z => by rw [List.mem_singleton.mp z]; exact hk)) (fun z => by rw [show isCom m.mode = true from z] at hc; cases hc)
   ·exact h.fail 2
  ·split
   ·exact h.same rfl rfl rfl
   ·exact h.tagEnds
 | ltSlash =>
  simp only [inLtSlash]
  split
  ·exact h.mk' (fun t z => .inl z) (fun d z => .inr (by rw [List.mem_singleton.mp z]; exact hk)) (fun z => by cases z)
  ·exact h.fail 1
 | closeName =>
  have hc : isCom m.mode = false := by rw [hm]; rfl
  simp only [inCloseName, endClose]
  split
  ·split
   ·exact h.mk' (fun t z => .inl z) (fun d z => (List.mem_append.mp z).imp id (fun z => by rw [List.mem_singleton.mp z]; exact hk)) (fun z => by rw [show isCom m.mode = true from z] at hc; cases hc)
   ·exact h.fail 2
  ·split
   ·exact h.one rfl h.tag (fun d z => by cases z) rfl
   ·exact h.fail 1
 | gap => exact h.gap
 | attrName =>
  have hc : isCom m.mode = false := by rw [hm]; rfl
  simp only [inAttrName]
  split
  ·split
   ·exact h.same rfl rfl hc
   ·exact h.fail 2
  ·split
   ·exact h.fail 1
   ·split
    ·exact h.fail 3
    ·split
     ·exact h.same rfl rfl rfl
     ·exact (h.endAttr hc).gap
 | eq =>
  simp only [inEq]
  repeat' split
  all_goals exact h.same rfl rfl rfl
 | double =>
  have hc : isCom m.mode = false := by rw [hm]; rfl
  simp only [inQuotes]
  repeat' split
  all_goals first | exact h.same rfl rfl rfl | exact h.same rfl rfl hc
 | single =>
  have hc : isCom m.mode = false := by rw [hm]; rfl
  simp only [inQuotes]
  repeat' split
  all_goals first | exact h.same rfl rfl rfl | exact h.same rfl rfl hc
 | bare =>
  have hc : isCom m.mode = false := by rw [hm]; rfl
  simp only [inBare]
  repeat' split
  all_goals first | exact h.same rfl rfl rfl | exact h.same rfl rfl hc | exact (h.endAttr hc).endTag
 | behind =>
  simp only [inBehind]
  split
  ·exact h.same rfl rfl rfl
  ·exact h.tagEnds
 | slash =>
  simp only [inSlash, endEnded]
  split
  ·exact h.one rfl trivial (fun d z => by cases z) rfl
  ·exact h.fail 1
 | bang =>
  simp only [inBang]
  split
  ·exact h.same rfl rfl rfl
  ·exact h.fail 1
 | bangDash =>
  have hr : m.run = [] := g.run (by rw [hm]; rfl)
  simp only [inBangDash]
  split
  ·exact h.mk' (fun t z => .inl z) (fun d z => .inl z) (fun _ d z => by rw [show (m.go (.comment 0)).run = m.run from rfl, hr] at z; cases z)
  ·exact h.fail 1
 | comment d =>
  have hr : ∀ c ∈ m.run, isMark c = false := h.com (by rw [hm]; rfl)
  have hrep : ∀ x ∈ List.replicate d 45, isMark x = false := fun x z => by rw [(List.mem_replicate.mp z).2]; rfl
  simp only [inComment]
  split
  ·split
   ·exact h.mk' (fun t z => .inl z) (fun d z => .inl z) (fun _ => hr)
   ·exact h.mk' (fun t z => .inl z) (fun d z => .inl z) (fun _ x z => (List.mem_append.mp z).elim (hr x) (fun z => by rw [List.mem_singleton.mp z]; rfl))
  ·split
   ·exact h.one rfl hr (fun d z => .inl z) rfl
   ·exact h.mk' (fun t z => .inl z) (fun d z => .inl z) (fun _ x z => (List.mem_append.mp z).elim (hr x) (fun z => (List.mem_append.mp z).elim (hrep x) (fun z => by rw [List.mem_singleton.mp z]; exact hk)))
 | raw =>
  have hc : isCom m.mode = false := by rw [hm]; rfl
  simp only [inRaw]
  split
  ·exact h.same rfl rfl rfl
  ·exact h.same rfl rfl hc
 | rawLt =>
  have hc : isCom m.mode = false := by rw [hm]; rfl
  simp only [inRawLt]
  repeat' split
  all_goals first | exact h.same rfl rfl rfl | exact h.same rfl rfl hc
 | rawEnd =>
  have hc : isCom m.mode = false := by rw [hm]; rfl
  simp only [inRawEnd, endRaw]
  split
  ·split
   ·exact h.same rfl rfl hc
   ·exact h.fail 6
  ·split
   ·refine h.mk' (fun t z => ?_) (fun d z => by cases z) (fun z => by cases z)
    have z' : t ∈ m.tokens ++ ((if m.run.isEmpty = true then [] else [Token.raw m.from_ m.run]) ++ [Token.closed (m.count - (m.tag.length + 2)) m.tag]) := z
    rcases List.mem_append.mp z' with z | z
    ·exact .inl z
    ·right
     rcases List.mem_append.mp z with z | z
     ·split at z
      ·cases z
      ·rw [List.mem_singleton.mp z]; trivial
     ·rw [List.mem_singleton.mp z]; exact h.tag
   ·exact h.fail 6
 | ended => exact h
 | fault => exact h
theorem NM.mark {m : Reader} {c : Nat} (h : NM m) : NM (mark m c) := by
 unfold Vaesca.mark
 cases hs : spotOf m with
 | none => exact h.fail 5
 | some s =>
  have hc : isCom m.mode = false := by
   unfold spotOf at hs
   cases hm : m.mode <;> first | rfl | (rw [hm] at hs; cases hs)
  simp only
  have h1 : NM { m with marks := m.marks ++ [(c, s)] } := h.same rfl rfl hc
  split
  ·rename_i z
   have hm : m.mode = .text := by
    unfold spotOf at hs
    cases hm : m.mode <;> rw [hm] at hs <;> simp at hs <;> simp_all
   exact h1.text hm
  ·split
   ·exact h.same rfl rfl rfl
   ·exact h.same rfl rfl hc
theorem isDone_no {m : Reader} (h1 : m.mode ≠ .ended) (h2 : m.mode ≠ .fault) : isDone m = false := by
 unfold isDone
 cases hm : m.mode <;> first | rfl | (exact absurd hm h1) | (exact absurd hm h2)
theorem eat_eq {m : Reader} {c : Nat} (hd : isDone m = false) : ∃ n, eat m c = { (if isMark c then mark m c else byte m c) with count := n } := by
 unfold eat
 rw [hd]
 simp only [Bool.false_eq_true, if_false]
 generalize (if isMark c = true then mark m c else byte m c) = s
 split
 ·exact ⟨s.count, rfl⟩
 ·exact ⟨_, rfl⟩
theorem Phi_count (m : Reader) (n : Nat) : Phi { m with count := n } = Phi m := rfl
theorem run_more : ∀ (n : Nat) (l : Text), l.length = n → (run fresh l).mode ≠ .fault → NM (run fresh l) ∧ Phi (run fresh l) ≤ 8 * l.length + 506 * (l.filter isMark).length
 | 0, l, hl, _ => by
  have : l = [] := List.eq_nil_of_length_eq_zero hl
  subst this
  exact ⟨⟨(fun t z => nomatch z), (fun c z => nomatch z), (fun z => nomatch z)⟩, by decide⟩
 | n + 1, l, hl, hf => by
  rcases List.eq_nil_or_concat l with e | ⟨l0, c, e⟩
  ·subst e; simp at hl
  ·rw [List.concat_eq_append] at e
   subst e
   rw [run_snoc] at hf ⊢
   have hl0 : l0.length = n := by simpa using hl
   have hf0 : (run fresh l0).mode ≠ .fault := fun z => hf (by rw [eat_fault z]; exact z)
   obtain ⟨k, g, b, ne⟩ := run_inv n l0 hl0 hf0
   obtain ⟨h1, h2⟩ := run_more n l0 hl0 hf0
   have hd := isDone_no ne hf0
   obtain ⟨cn, e⟩ := eat_eq (m := run fresh l0) (c := c) hd
   rw [e] at hf ⊢
   rw [Phi_count, List.length_append, List.filter_append, List.length_append]
   cases hc : isMark c with
   | false =>
    rw [hc] at hf
    rw [if_neg Bool.false_ne_true]
    have := ph_byte (m := run fresh l0) g hc
    refine ⟨?_, ?_⟩
    ·have := h1.byte g hc
     exact ⟨this.tok, this.tag, this.com⟩
    ·have : ([c].filter isMark).length = 0 := by simp [hc]
     have : [c].length = 1 := rfl
     omega
   | true =>
    rw [hc] at hf
    rw [if_pos rfl] at hf
    rw [if_pos rfl]
    refine ⟨?_, ?_⟩
    ·have := h1.mark (c := c)
     exact ⟨this.tok, this.tag, this.com⟩
    ·cases hs : spotOf (run fresh l0) with
     | none => exfalso; apply hf; unfold mark; rw [hs]; rfl
     | some s =>
      have := ph_mark (m := run fresh l0) (c := c) hs
      have : ([c].filter isMark).length = 1 := by simp [hc]
      have : [c].length = 1 := rfl
      omega
theorem read_more {x : Text} (h : (read x).wrong = none) : (∀ t ∈ (read x).tokens, NMt t) ∧ TS (read x).tokens ≤ 8 * x.length + 506 * (x.filter isMark).length + 2 := by
 obtain ⟨k, e, hf⟩ := read_fine h
 obtain ⟨h1, h2⟩ := run_more x.length x rfl hf
 rw [e]
 unfold endText
 unfold Phi at h2
 split
 ·exact ⟨h1.tok, by omega⟩
 ·refine ⟨fun t z => ?_, ?_⟩
  ·rcases List.mem_append.mp z with z | z
   ·exact h1.tok t z
   ·rw [List.mem_singleton.mp z]; trivial
  ·show TS ((run fresh x).tokens ++ [_]) ≤ _
   rw [TS_app, TS_one]
   have : TW (.text (run fresh x).from_ (run fresh x).run) = 2 + W (run fresh x).run := rfl
   omega
end Mt
end
section
namespace ML
open PySem PySem.Spec PyProof.Rows L2
theorem ne_il {H : Hp} {r a C dx : Addr} {fs : List (Str × V)} {xs : List V} (h : H r = some (.ins C dx fs)) (h2 : H a = some (.lst xs)) : a ≠ r := by
 intro e; subst e; rw [h] at h2; cases h2
structure Ow (H0 Fr H : Hp) (own : List (Addr × HO)) : Prop where
 nd : (own.map (·.1)).Nodup
 at_ : ∀ p ∈ own, H p.1 = some p.2
 z : ∀ p ∈ own, H0 p.1 = none
 fz : ∀ p ∈ own, Fr p.1 = none
 sub : Same Fr H
 sam : Same H0 H
 f0 : ∀ b u, Fr b = some u → H0 b = none
section
variable {H0 Fr H : Hp} {own : List (Addr × HO)} {i : Nat} {a p : Addr} {o o' : HO}
theorem mem_set_of {α : Type} {l : List α} {i : Nat} {x y : α} (h : y ∈ l.set i x) : y = x ∨ ∃ j, j ≠ i ∧ l[j]? = some y := by
 obtain ⟨j, hj⟩ := List.getElem?_of_mem h
 rw [List.getElem?_set] at hj
 by_cases e : i = j
 ·subst e
  rw [if_pos rfl] at hj
  split at hj
  ·exact .inl (Option.some.inj hj).symm
  ·cases hj
 ·rw [if_neg e] at hj
  exact .inr ⟨j, fun z => e z.symm, hj⟩
theorem Ow.at' (h : Ow H0 Fr H own) (e : own[i]? = some (a, o)) : H a = some o := h.at_ (a, o) (List.mem_of_getElem? e)
theorem Ow.ne (h : Ow H0 Fr H own) {j : Nat} {q : Addr × HO} (e : own[i]? = some (a, o)) (hj : j ≠ i) (e2 : own[j]? = some q) : q.1 ≠ a := by
 intro z
 have h1 : (own.map (·.1))[i]? = some a := by rw [List.getElem?_map, e]; rfl
 have h2 : (own.map (·.1))[j]? = some a := by rw [List.getElem?_map, e2, ← z]; rfl
 obtain ⟨l1, g1⟩ := List.getElem?_eq_some_iff.mp h1
 obtain ⟨l2, g2⟩ := List.getElem?_eq_some_iff.mp h2
 have P := List.pairwise_iff_getElem.mp h.nd
 rcases Nat.lt_or_gt_of_ne hj with l | l
 ·exact P j i l2 l1 l (g2.trans g1.symm)
 ·exact P i j l1 l2 l (g1.trans g2.symm)
theorem set_map_fst : ∀ (own : List (Addr × HO)) (i : Nat) (a : Addr) (o o' : HO), own[i]? = some (a, o) → (own.set i (a, o')).map (·.1) = own.map (·.1)
 | [], i, a, o, o', h => by simp at h
 | q :: own, 0, a, o, o', h => by
  have : q = (a, o) := Option.some.inj h
  subst this; rfl
 | q :: own, i + 1, a, o, o', h => by
  show q.1 :: (own.set i (a, o')).map (·.1) = q.1 :: own.map (·.1)
  rw [set_map_fst own i a o o' h]
theorem Ow.write (h : Ow H0 Fr H own) (i : Nat) (e : own[i]? = some (a, o)) (o' : HO) : Ow H0 Fr (upd H a o') (own.set i (a, o')) := by
 have ma := List.mem_of_getElem? e
 refine ⟨by rw [set_map_fst own i a o o' e]; exact h.nd, fun q hq => ?_, fun q hq => ?_, fun q hq => ?_, ?_, ?_, h.f0⟩
 ·rcases mem_set_of hq with rfl | ⟨j, hj, e2⟩
  ·exact upd_same
  ·rw [upd_ne (h.ne e hj e2)]; exact h.at_ q (List.mem_of_getElem? e2)
 ·rcases mem_set_of hq with rfl | ⟨j, hj, e2⟩
  ·exact h.z (a, o) ma
  ·exact h.z q (List.mem_of_getElem? e2)
 ·rcases mem_set_of hq with rfl | ⟨j, hj, e2⟩
  ·exact h.fz (a, o) ma
  ·exact h.fz q (List.mem_of_getElem? e2)
 ·exact same_upd (h.fz _ ma) h.sub
 ·exact same_upd (h.z _ ma) h.sam
theorem Ow.swap (h : Ow H0 Fr H own) (i : Nat) (hp : H p = none) (o' : HO) : Ow H0 Fr (upd H p o') (own.set i (p, o')) := by
 refine ⟨?_, fun q hq => ?_, fun q hq => ?_, fun q hq => ?_, h.sub.trans (same_new hp), h.sam.trans (same_new hp), h.f0⟩
 ·have np : p ∉ own.map (·.1) := by
   intro hm
   obtain ⟨q, hq, e⟩ := List.mem_map.mp hm
   have := h.at_ q hq
   rw [e, hp] at this; cases this
  have key : ∀ (l : List (Addr × HO)) (i : Nat), (l.map (·.1)).Nodup → p ∉ l.map (·.1) → ((l.set i (p, o')).map (·.1)).Nodup := by
   intro l
   induction l with
   | nil => intro i h1 _; exact h1
   | cons q l ih =>
    intro i h1 h2
    rw [List.map_cons, List.nodup_cons] at h1
    rw [List.map_cons, List.mem_cons, not_or] at h2
    cases i with
    | zero =>
     show (p :: l.map (·.1)).Nodup
     exact List.nodup_cons.mpr ⟨h2.2, h1.2⟩
    | succ i =>
     show (q.1 :: (l.set i (p, o')).map (·.1)).Nodup
     refine List.nodup_cons.mpr ⟨fun hm => ?_, ih i h1.2 h2.2⟩
     obtain ⟨y, hy, e⟩ := List.mem_map.mp hm
     rcases mem_set_of hy with rfl | ⟨j, hj, e2⟩
     ·exact h2.1 e
     ·exact h1.1 (List.mem_map.mpr ⟨y, List.mem_of_getElem? e2, e⟩)
  exact key own i h.nd np
 ·rcases mem_set_of hq with rfl | ⟨j, hj, e2⟩
  ·exact upd_same
  ·exact upd_of hp (h.at_ q (List.mem_of_getElem? e2))
 ·rcases mem_set_of hq with rfl | ⟨j, hj, e2⟩
  ·exact h.sam.free hp
  ·exact h.z q (List.mem_of_getElem? e2)
 ·rcases mem_set_of hq with rfl | ⟨j, hj, e2⟩
  ·exact h.sub.free hp
  ·exact h.fz q (List.mem_of_getElem? e2)
theorem Ow.freeze (h : Ow H0 Fr H own) (i : Nat) (e : own[i]? = some (a, o)) (hp : H p = none) (o' : HO) : Ow H0 (upd Fr a o) (upd H p o') (own.set i (p, o')) := by
 have S := h.swap i hp o'
 have ma := List.mem_of_getElem? e
 refine ⟨S.nd, S.at_, S.z, fun q hq => ?_, fun b u hb => ?_, S.sam, fun b u hb => ?_⟩
 ·rcases mem_set_of hq with rfl | ⟨j, hj, e2⟩
  ·have : p ≠ a := by
    intro z; subst z; rw [h.at_ _ ma] at hp; cases hp
   rw [upd_ne this]; exact h.sub.free hp
  ·rw [upd_ne (h.ne e hj e2)]; exact h.fz q (List.mem_of_getElem? e2)
 ·by_cases z : b = a
  ·subst z
   rw [upd_same] at hb
   have := h.at_ _ ma
   exact upd_of hp (by rw [this]; exact hb)
  ·rw [upd_ne z] at hb
   exact upd_of hp (h.sub _ _ hb)
 ·by_cases z : b = a
  ·subst z; exact h.z _ ma
  ·rw [upd_ne z] at hb; exact h.f0 _ _ hb
theorem Ow.froze {l : List (Addr × HO)} (h : Ow H0 Fr H (l ++ [(a, o)])) : Ow H0 (upd Fr a o) H l := by
 have ma : (a, o) ∈ l ++ [(a, o)] := by simp
 refine ⟨?_, fun q hq => h.at_ q (by simp [hq]), fun q hq => h.z q (by simp [hq]), fun q hq => ?_, fun b u hb => ?_, h.sam, fun b u hb => ?_⟩
 ·have := h.nd
  rw [List.map_append] at this
  exact (List.nodup_append.mp this).1
 ·have : q.1 ≠ a := by
   intro z
   have n := h.nd
   rw [List.map_append] at n
   exact (List.nodup_append.mp n).2.2 q.1 (List.mem_map.mpr ⟨q, hq, rfl⟩) a (by simp) z
  rw [upd_ne this]; exact h.fz q (by simp [hq])
 ·by_cases z : b = a
  ·subst z
   rw [upd_same] at hb
   have := h.at_ _ ma
   rw [this]; exact hb
  ·rw [upd_ne z] at hb
   exact h.sub _ _ hb
 ·by_cases z : b = a
  ·subst z; exact h.z _ ma
  ·rw [upd_ne z] at hb; exact h.f0 _ _ hb
theorem Ow.laid (h : Ow H0 Fr H own) (hp : H p = none) (o' : HO) : Ow H0 (upd Fr p o') (upd H p o') own := by
 refine ⟨h.nd, fun q hq => upd_of hp (h.at_ q hq), h.z, fun q hq => ?_, fun b u hb => ?_, h.sam.trans (same_new hp), fun b u hb => ?_⟩
 ·rw [upd_ne (ne_of_none (h.at_ q hq) hp)]; exact h.fz q hq
 ·by_cases z : b = p
  ·subst z; rw [upd_same] at hb ⊢; exact hb
  ·rw [upd_ne z] at hb ⊢; exact h.sub _ _ hb
 ·by_cases z : b = p
  ·subst z; exact h.sam.free hp
  ·rw [upd_ne z] at hb; exact h.f0 _ _ hb
theorem Ow.more (h : Ow H0 Fr H own) (hp : H p = none) (o' : HO) : Ow H0 Fr (upd H p o') (own ++ [(p, o')]) := by
 refine ⟨?_, fun q hq => ?_, fun q hq => ?_, fun q hq => ?_, h.sub.trans (same_new hp), h.sam.trans (same_new hp), h.f0⟩
 ·rw [List.map_append]
  refine List.nodup_append.mpr ⟨h.nd, by simp, ?_⟩
  intro x hx y hy e
  obtain ⟨q, hq, rfl⟩ := List.mem_map.mp hx
  have : y = p := by simpa using hy
  subst this
  have := h.at_ q hq
  rw [e, hp] at this; cases this
 ·rcases List.mem_append.mp hq with hq | hq
  ·exact upd_of hp (h.at_ q hq)
  ·have : q = (p, o') := by simpa using hq
   subst this; exact upd_same
 ·rcases List.mem_append.mp hq with hq | hq
  ·exact h.z q hq
  ·have : q = (p, o') := by simpa using hq
   subst this; exact h.sam.free hp
 ·rcases List.mem_append.mp hq with hq | hq
  ·exact h.fz q hq
  ·have : q = (p, o') := by simpa using hq
   subst this; exact h.sub.free hp
theorem Ow.same (h : Ow H0 Fr H own) {H' : Hp} (s : Same H H') : Ow H0 Fr H' own := ⟨h.nd, fun q hq => s _ _ (h.at_ q hq), h.z, h.fz, h.sub.trans s, h.sam.trans s, h.f0⟩
theorem Ow.newIn (h : Ow H0 Fr H own) (hp : H p = none) : Same Fr (upd Fr p o') := same_new (h.sub.free hp)
theorem Ow.frIn (h : Ow H0 Fr H own) (e : own[i]? = some (a, o)) : Same Fr (upd Fr a o) := same_new (h.fz _ (List.mem_of_getElem? e))
end
end ML
end
section
namespace ML
open PySem PySem.Spec PyProof.Rows L2
open Vaesca (Reader Token Mode Home)
def AttV (Fr : Hp) (v : V) (t : List Nat × List Nat) : Prop := ∃ q a b, v = .ref q ∧ Fr q = some (.tup [.ref a, .ref b]) ∧ Fr a = some (.lst (vi t.1)) ∧ Fr b = some (.lst (vi t.2))
def MrkV (Fr : Hp) (v : V) (t : Nat × Nat) : Prop := ∃ q, v = .ref q ∧ Fr q = some (.tup [.int t.1, .int t.2])
def SgV (Fr : Hp) (v : V) (k : Int) (s : List Nat) : Prop := ∃ q a, v = .ref q ∧ Fr q = some (.tup [.int k, .ref a]) ∧ Fr a = some (.lst (vi s))
def TokV (Fr : Hp) (v : V) : Token → Prop
 | .text _ s => SgV Fr v 0 s
 | .opened _ n as e => ∃ q a b vs, v = .ref q ∧ Fr q = some (.tup [.int 1, .int (if e then 1 else 0), .ref a, .ref b]) ∧ Fr a = some (.lst (vi n)) ∧ Fr b = some (.lst vs) ∧ Paired (AttV Fr) vs as
 | .closed _ n => SgV Fr v 2 n
 | .comment _ s => SgV Fr v 3 s
 | .raw _ s => SgV Fr v 4 s
section
variable {Fr Fr' : Hp}
theorem AttV.mono (s : Same Fr Fr') {v : V} {t : List Nat × List Nat} (h : AttV Fr v t) : AttV Fr' v t := by
 obtain ⟨q, a, b, e, h1, h2, h3⟩ := h
 exact ⟨q, a, b, e, s _ _ h1, s _ _ h2, s _ _ h3⟩
theorem MrkV.mono (s : Same Fr Fr') {v : V} {t : Nat × Nat} (h : MrkV Fr v t) : MrkV Fr' v t := by
 obtain ⟨q, e, h1⟩ := h
 exact ⟨q, e, s _ _ h1⟩
theorem SgV.mono (s : Same Fr Fr') {v : V} {k : Int} {t : List Nat} (h : SgV Fr v k t) : SgV Fr' v k t := by
 obtain ⟨q, a, e, h1, h2⟩ := h
 exact ⟨q, a, e, s _ _ h1, s _ _ h2⟩
theorem Paired.mp {α β : Type} {R S : α → β → Prop} (h : ∀ a b, R a b → S a b) : ∀ {xs : List α} {ys : List β}, Paired R xs ys → Paired S xs ys
 | _, _, .nil => .nil
 | _, _, .cons r t => .cons (h _ _ r) (Paired.mp h t)
theorem TokV.mono (s : Same Fr Fr') {v : V} {t : Token} (h : TokV Fr v t) : TokV Fr' v t := by
 cases t with
 | text p t => exact SgV.mono s h
 | opened p n as e =>
  obtain ⟨q, a, b, vs, e1, h1, h2, h3, h4⟩ := h
  exact ⟨q, a, b, vs, e1, s _ _ h1, s _ _ h2, s _ _ h3, Paired.mp (fun _ _ z => AttV.mono s z) h4⟩
 | closed p n => exact SgV.mono s h
 | comment p t => exact SgV.mono s h
 | raw p t => exact SgV.mono s h
end
def rdF (mode count : Int) (tk tg ats an bd rn sp : Addr) (fault : Int) : List (Str × V) :=
 [("mode", .int mode), ("count", .int count), ("tokens", .ref tk), ("tag_name", .ref tg), ("attributes", .ref ats), ("attribute_name", .ref an), ("body", .ref bd), ("run", .ref rn), ("spots", .ref sp), ("fault", .int fault)]
theorem rd_len {mode count : Int} {tk tg ats an bd rn sp : Addr} {fault : Int} : (rdF mode count tk tg ats an bd rn sp fault).length < 1000 := by show 10 < 1000; decide
structure Ad where
 dx : Addr
 tk : Addr
 tg : Addr
 ats : Addr
 an : Addr
 bd : Addr
 rn : Addr
 sp : Addr
def fkr : Option (Nat × Nat) → Int
 | none => 0
 | some (k, _) => k
def rawish : Mode → Bool
 | .raw => true
 | .rawLt => true
 | .rawEnd => true
 | .fault => true
 | _ => false
abbrev flds (m : Reader) (A : Ad) : List (Str × V) := rdF m.mode.code m.count A.tk A.tg A.ats A.an A.bd A.rn A.sp (fkr m.wrong)
abbrev cells (C r : Addr) (m : Reader) (A : Ad) (vt va vs : List V) (tl : List (Addr × HO)) : List (Addr × HO) :=
 (r, .ins C A.dx (flds m A)) :: (A.tk, .lst vt) :: (A.ats, .lst va) :: (A.an, .lst (vi m.attr)) :: (A.bd, .lst (vi m.body)) :: (A.rn, .lst (vi m.run)) :: (A.sp, .lst vs) :: tl
structure RDA (C : Addr) (H0 Fr H : Hp) (r : Addr) (m : Reader) (A : Ad) (vt va vs : List V) (tl : List (Addr × HO)) : Prop where
 ow : Ow H0 Fr H (cells C r m A vt va vs tl)
 tl : tl = [(A.tg, .lst (vi m.tag))] ∨ (tl = [] ∧ Fr A.tg = some (.lst (vi m.tag)))
 tk : Paired (TokV Fr) vt m.tokens
 ats : Paired (AttV Fr) va m.attrs
 sp : Paired (MrkV Fr) vs m.marks
def RD (C : Addr) (H0 H : Hp) (r : Addr) (m : Reader) : Prop := ∃ Fr A vt va vs tl, RDA C H0 Fr H r m A vt va vs tl ∧ (tl = [] → rawish m.mode = true)
def RDX (C : Addr) (H0 H : Hp) (r : Addr) (m : Reader) : Prop := ∃ Fr A vt va vs tl, RDA C H0 Fr H r m A vt va vs tl
structure Sz (m : Reader) : Prop where
 run : m.run.length ≤ 100000
 tok : m.tokens.length ≤ 100000
 ats : m.attrs.length ≤ 100000
 mrk : m.marks.length ≤ 100000
 tag : m.tag.length ≤ 100
 attr : m.attr.length ≤ 100
 bod : m.body.length ≤ 100
section
variable {C : Addr} {H0 Fr H : Hp} {r p : Addr} {m : Reader} {A : Ad} {vt va vs : List V} {tl : List (Addr × HO)}
theorem RDA.ins (h : RDA C H0 Fr H r m A vt va vs tl) : H r = some (.ins C A.dx (flds m A)) := h.ow.at' (i := 0) rfl
theorem RDA.htk (h : RDA C H0 Fr H r m A vt va vs tl) : H A.tk = some (.lst vt) := h.ow.at' (i := 1) rfl
theorem RDA.hats (h : RDA C H0 Fr H r m A vt va vs tl) : H A.ats = some (.lst va) := h.ow.at' (i := 2) rfl
theorem RDA.han (h : RDA C H0 Fr H r m A vt va vs tl) : H A.an = some (.lst (vi m.attr)) := h.ow.at' (i := 3) rfl
theorem RDA.hbd (h : RDA C H0 Fr H r m A vt va vs tl) : H A.bd = some (.lst (vi m.body)) := h.ow.at' (i := 4) rfl
theorem RDA.hrn (h : RDA C H0 Fr H r m A vt va vs tl) : H A.rn = some (.lst (vi m.run)) := h.ow.at' (i := 5) rfl
theorem RDA.hsp (h : RDA C H0 Fr H r m A vt va vs tl) : H A.sp = some (.lst vs) := h.ow.at' (i := 6) rfl
theorem RDA.htg (h : RDA C H0 Fr H r m A vt va vs tl) : H A.tg = some (.lst (vi m.tag)) := by
 rcases h.tl with e | ⟨e, f⟩
 ·subst e; exact h.ow.at' (i := 7) rfl
 ·exact h.ow.sub _ _ f
theorem RDA.lt (h : RDA C H0 Fr H r m A vt va vs tl) : vt.length = m.tokens.length := Paired.length h.tk
theorem RDA.la (h : RDA C H0 Fr H r m A vt va vs tl) : va.length = m.attrs.length := Paired.length h.ats
theorem RDA.ls (h : RDA C H0 Fr H r m A vt va vs tl) : vs.length = m.marks.length := Paired.length h.sp
theorem RDA.rd (h : RDA C H0 Fr H r m A vt va vs tl) (hr : tl = [] → rawish m.mode = true) : RD C H0 H r m := ⟨Fr, A, vt, va, vs, tl, h, hr⟩
theorem RDA.rdx (h : RDA C H0 Fr H r m A vt va vs tl) : RDX C H0 H r m := ⟨Fr, A, vt, va, vs, tl, h⟩
theorem RD.rdx (h : RD C H0 H r m) : RDX C H0 H r m := by obtain ⟨_, _, _, _, _, _, h, _⟩ := h; exact h.rdx
theorem RDA.setI (h : RDA C H0 Fr H r m A vt va vs tl) (m' : Reader) (e1 : m'.tag = m.tag := by rfl) (e2 : m'.attrs = m.attrs := by rfl) (e3 : m'.attr = m.attr := by rfl) (e4 : m'.body = m.body := by rfl) (e5 : m'.run = m.run := by rfl) (e6 : m'.tokens = m.tokens := by rfl) (e7 : m'.marks = m.marks := by rfl)
  : RDA C H0 Fr (upd H r (.ins C A.dx (flds m' A))) r m' A vt va vs tl := by
 have o := h.ow.write 0 rfl (.ins C A.dx (flds m' A))
 refine ⟨?_, ?_, by rw [e6]; exact h.tk, by rw [e2]; exact h.ats, by rw [e7]; exact h.sp⟩
 ·unfold cells; rw [e3, e4, e5]; exact o
 ·rw [e1]; exact h.tl
theorem RDA.own (h : RDA C H0 Fr H r m A vt va vs tl) (hr : tl = [] → rawish m.mode = true) (hm : rawish m.mode = false) : tl = [(A.tg, .lst (vi m.tag))] := by
 rcases h.tl with e | ⟨g, _⟩
 ·exact e
 ·rw [hr g] at hm; cases hm
theorem RDA.setRn (h : RDA C H0 Fr H r m A vt va vs tl) (t : List Nat) : RDA C H0 Fr (upd H A.rn (.lst (vi t))) r { m with run := t } A vt va vs tl :=
 ⟨h.ow.write 5 rfl (.lst (vi t)), h.tl, h.tk, h.ats, h.sp⟩
theorem RDA.setBd (h : RDA C H0 Fr H r m A vt va vs tl) (t : List Nat) : RDA C H0 Fr (upd H A.bd (.lst (vi t))) r { m with body := t } A vt va vs tl :=
 ⟨h.ow.write 4 rfl (.lst (vi t)), h.tl, h.tk, h.ats, h.sp⟩
theorem RDA.setAn (h : RDA C H0 Fr H r m A vt va vs tl) (t : List Nat) : RDA C H0 Fr (upd H A.an (.lst (vi t))) r { m with attr := t } A vt va vs tl :=
 ⟨h.ow.write 3 rfl (.lst (vi t)), h.tl, h.tk, h.ats, h.sp⟩
theorem RDA.setTg (h : RDA C H0 Fr H r m A vt va vs [(A.tg, .lst (vi m.tag))]) (t : List Nat) : RDA C H0 Fr (upd H A.tg (.lst (vi t))) r { m with tag := t } A vt va vs [(A.tg, .lst (vi t))] :=
 ⟨h.ow.write 7 rfl (.lst (vi t)), .inl rfl, h.tk, h.ats, h.sp⟩
theorem RDA.newBd (h : RDA C H0 Fr H r m A vt va vs tl) (hp : H p = none) (t : List Nat) : RDA C H0 Fr (upd (upd H p (.lst (vi t))) r (.ins C A.dx (flds { m with body := t } { A with bd := p }))) r { m with body := t } { A with bd := p } vt va vs tl :=
 ⟨(h.ow.swap 4 hp (.lst (vi t))).write 0 rfl (.ins C A.dx (flds { m with body := t } { A with bd := p })), h.tl, h.tk, h.ats, h.sp⟩
theorem RDA.newAn (h : RDA C H0 Fr H r m A vt va vs tl) (hp : H p = none) (t : List Nat) : RDA C H0 Fr (upd (upd H p (.lst (vi t))) r (.ins C A.dx (flds { m with attr := t } { A with an := p }))) r { m with attr := t } { A with an := p } vt va vs tl :=
 ⟨(h.ow.swap 3 hp (.lst (vi t))).write 0 rfl (.ins C A.dx (flds { m with attr := t } { A with an := p })), h.tl, h.tk, h.ats, h.sp⟩
theorem RDA.newTg (h : RDA C H0 Fr H r m A vt va vs tl) (hp : H p = none) (t : List Nat) : RDA C H0 Fr (upd (upd H p (.lst (vi t))) r (.ins C A.dx (flds { m with tag := t } { A with tg := p }))) r { m with tag := t } { A with tg := p } vt va vs [(p, .lst (vi t))] := by
 refine ⟨?_, .inl rfl, h.tk, h.ats, h.sp⟩
 rcases h.tl with e | ⟨e, _⟩
 ·subst e
  exact (h.ow.swap 7 hp (.lst (vi t))).write 0 rfl (.ins C A.dx (flds { m with tag := t } { A with tg := p }))
 ·subst e
  exact (h.ow.more hp (.lst (vi t))).write 0 rfl (.ins C A.dx (flds { m with tag := t } { A with tg := p }))
theorem RDA.laid (h : RDA C H0 Fr H r m A vt va vs tl) {H' : Hp} (s : Same H H') : RDA C H0 Fr H' r m A vt va vs tl := ⟨h.ow.same s, h.tl, h.tk, h.ats, h.sp⟩
theorem RDA.tell (h : RDA C H0 Fr H r m A vt va vs tl) {q : Addr} {k : Int} (t : Token) (ht : ∀ Fr' v, SgV Fr' v k m.run → TokV Fr' v t) (hq : H q = none) (hp : upd (upd H q (.tup [.int k, .ref A.rn])) A.tk (.lst (vt ++ [.ref q])) p = none) :
  ∃ Fr', RDA C H0 Fr' (upd (upd (upd (upd H q (.tup [.int k, .ref A.rn])) A.tk (.lst (vt ++ [.ref q]))) p (.lst [])) r (.ins C A.dx (flds { m with run := [], tokens := m.tokens ++ [t] } { A with rn := p }))) r { m with run := [], tokens := m.tokens ++ [t] } { A with rn := p } (vt ++ [.ref q]) va vs tl := by
 have o1 := h.ow.laid hq (.tup [.int k, .ref A.rn])
 have s1 := h.ow.newIn (o' := .tup [.int k, .ref A.rn]) hq
 have o2 := o1.write 1 rfl (.lst (vt ++ [.ref q]))
 have s2 := o2.frIn (i := 5) rfl
 have o3 := o2.freeze 5 rfl hp (.lst [])
 have o4 := o3.write 0 rfl (.ins C A.dx (flds { m with run := [], tokens := m.tokens ++ [t] } { A with rn := p }))
 have s := s1.trans s2
 refine ⟨_, o4, h.tl.imp id (fun ⟨a, b⟩ => ⟨a, s _ _ b⟩), ?_, Paired.mp (fun _ _ => AttV.mono s) h.ats, Paired.mp (fun _ _ => MrkV.mono s) h.sp⟩
 exact Paired.snoc (Paired.mp (fun _ _ => TokV.mono s) h.tk) (ht _ _ ⟨q, A.rn, rfl, s2 _ _ upd_same, upd_same⟩)
theorem RDA.att (h : RDA C H0 Fr H r m A vt va vs tl) {q p2 : Addr} (hq : H q = none) (hp : upd (upd H q (.tup [.ref A.an, .ref A.rn])) A.ats (.lst (va ++ [.ref q])) p = none)
  (hp2 : upd (upd (upd (upd H q (.tup [.ref A.an, .ref A.rn])) A.ats (.lst (va ++ [.ref q]))) p (.lst [])) r (.ins C A.dx (flds m { A with an := p })) p2 = none) :
  ∃ Fr', RDA C H0 Fr' (upd (upd (upd (upd (upd (upd H q (.tup [.ref A.an, .ref A.rn])) A.ats (.lst (va ++ [.ref q]))) p (.lst [])) r (.ins C A.dx (flds m { A with an := p }))) p2 (.lst [])) r (.ins C A.dx (flds m { A with an := p, rn := p2 }))) r { m with attrs := m.attrs ++ [(m.attr, m.run)], attr := [], run := [] } { A with an := p, rn := p2 } vt (va ++ [.ref q]) vs tl := by
 have o1 := h.ow.laid hq (.tup [.ref A.an, .ref A.rn])
 have s1 := h.ow.newIn (o' := .tup [.ref A.an, .ref A.rn]) hq
 have o2 := o1.write 2 rfl (.lst (va ++ [.ref q]))
 have s2 := o2.frIn (i := 3) rfl
 have o3 := o2.freeze 3 rfl hp (.lst [])
 have o4 := o3.write 0 rfl (.ins C A.dx (flds m { A with an := p }))
 have s3 := o4.frIn (i := 5) rfl
 have o5 := o4.freeze 5 rfl hp2 (.lst [])
 have o6 := o5.write 0 rfl (.ins C A.dx (flds m { A with an := p, rn := p2 }))
 have s := (s1.trans s2).trans s3
 refine ⟨_, o6, h.tl.imp id (fun ⟨a, b⟩ => ⟨a, s _ _ b⟩), Paired.mp (fun _ _ => TokV.mono s) h.tk, ?_, Paired.mp (fun _ _ => MrkV.mono s) h.sp⟩
 exact Paired.snoc (Paired.mp (fun _ _ => AttV.mono s) h.ats) ⟨q, A.an, A.rn, rfl, s3 _ _ (s2 _ _ upd_same), s3 _ _ upd_same, upd_same⟩
theorem RDA.opn (h : RDA C H0 Fr H r m A vt va vs [(A.tg, .lst (vi m.tag))]) {q : Addr} (e : Bool) (pl : Nat) (hq : H q = none)
  (hp : upd (upd H q (.tup [.int 1, .int (if e then 1 else 0), .ref A.tg, .ref A.ats])) A.tk (.lst (vt ++ [.ref q])) p = none) :
  ∃ Fr', RDA C H0 Fr' (upd (upd (upd (upd H q (.tup [.int 1, .int (if e then 1 else 0), .ref A.tg, .ref A.ats])) A.tk (.lst (vt ++ [.ref q]))) p (.lst [])) r (.ins C A.dx (flds m { A with ats := p }))) r { m with tokens := m.tokens ++ [.opened pl m.tag m.attrs e], attrs := [] } { A with ats := p } (vt ++ [.ref q]) [] vs [] := by
 have o1 := h.ow.laid hq (.tup [.int 1, .int (if e then 1 else 0), .ref A.tg, .ref A.ats])
 have s1 := h.ow.newIn (o' := .tup [.int 1, .int (if e then 1 else 0), .ref A.tg, .ref A.ats]) hq
 have o2 := o1.write 1 rfl (.lst (vt ++ [.ref q]))
 have s2 := o2.frIn (i := 2) rfl
 have o3 := o2.freeze 2 rfl hp (.lst [])
 have o4 := o3.write 0 rfl (.ins C A.dx (flds m { A with ats := p }))
 have s3 := o4.frIn (i := 7) rfl
 have o5 := Ow.froze (l := cells C r m { A with ats := p } (vt ++ [.ref q]) [] vs []) o4
 have s := (s1.trans s2).trans s3
 refine ⟨_, o5, .inr ⟨rfl, upd_same⟩, ?_, .nil, Paired.mp (fun _ _ => MrkV.mono s) h.sp⟩
 exact Paired.snoc (Paired.mp (fun _ _ => TokV.mono s) h.tk) ⟨q, A.tg, A.ats, va, rfl, s3 _ _ (s2 _ _ upd_same), upd_same, s3 _ _ upd_same, Paired.mp (fun _ _ => AttV.mono s) h.ats⟩
theorem RDA.cls (h : RDA C H0 Fr H r m A vt va vs tl) {q : Addr} (pl : Nat) (hq : H q = none) :
  ∃ Fr', RDA C H0 Fr' (upd (upd H q (.tup [.int 2, .ref A.tg])) A.tk (.lst (vt ++ [.ref q]))) r { m with tokens := m.tokens ++ [.closed pl m.tag] } A (vt ++ [.ref q]) va vs [] := by
 have o1 := h.ow.laid hq (.tup [.int 2, .ref A.tg])
 have s1 := h.ow.newIn (o' := .tup [.int 2, .ref A.tg]) hq
 have o2 := o1.write 1 rfl (.lst (vt ++ [.ref q]))
 rcases h.tl with e | ⟨e, f⟩
 ·subst e
  have s3 := o2.frIn (i := 7) rfl
  have o5 := Ow.froze (l := cells C r m A (vt ++ [.ref q]) va vs []) o2
  have s := s1.trans s3
  refine ⟨_, o5, .inr ⟨rfl, upd_same⟩, ?_, Paired.mp (fun _ _ => AttV.mono s) h.ats, Paired.mp (fun _ _ => MrkV.mono s) h.sp⟩
  exact Paired.snoc (Paired.mp (fun _ _ => TokV.mono s) h.tk) ⟨q, A.tg, rfl, s3 _ _ upd_same, upd_same⟩
 ·subst e
  refine ⟨_, o2, .inr ⟨rfl, s1 _ _ f⟩, ?_, Paired.mp (fun _ _ => AttV.mono s1) h.ats, Paired.mp (fun _ _ => MrkV.mono s1) h.sp⟩
  exact Paired.snoc (Paired.mp (fun _ _ => TokV.mono s1) h.tk) ⟨q, A.tg, rfl, upd_same, s1 _ _ f⟩
theorem RDA.mrk (h : RDA C H0 Fr H r m A vt va vs tl) {q : Addr} (c s0 : Nat) (hq : H q = none) :
  ∃ Fr', RDA C H0 Fr' (upd (upd H q (.tup [.int c, .int s0])) A.sp (.lst (vs ++ [.ref q]))) r { m with marks := m.marks ++ [(c, s0)] } A vt va (vs ++ [.ref q]) tl := by
 have o1 := h.ow.laid hq (.tup [.int c, .int s0])
 have s1 := h.ow.newIn (o' := .tup [.int c, .int s0]) hq
 have o2 := o1.write 6 rfl (.lst (vs ++ [.ref q]))
 refine ⟨_, o2, h.tl.imp id (fun ⟨a, b⟩ => ⟨a, s1 _ _ b⟩), Paired.mp (fun _ _ => TokV.mono s1) h.tk, Paired.mp (fun _ _ => AttV.mono s1) h.ats, ?_⟩
 exact Paired.snoc (Paired.mp (fun _ _ => MrkV.mono s1) h.sp) ⟨q, rfl, upd_same⟩
end
end ML
end
local macro_rules | `(tactic| walk_at "s") => `(tactic| ((try dsimp only [L2.start, ML.cx_K, ML.cx_prog, ML.cx_w, ML.cx_mg, ML.cx_base, List.map_cons, List.map_nil, List.cons_append, List.nil_append, List.append_nil, List.length_cons, List.length_nil, Nat.reduceAdd, Nat.reduceSub, List.replicate, L2.tSeq, L2.tIfS, L2.tRet, L2.tDrop, L2.tNext, L2.tVar, L2.tC, L2.tOp, L2.rI0, L2.rI, L2.tTest, L2.tB, L2.tChain, L2.tAndV, L2.tOrV, L2.tNotV, L2.tIf, L2.tAnd, L2.tOr, L2.tNot, L2.tCall, L2.tCons, L2.tNil, ML.tGT, L2.tAsg, L2.tAug, L2.gName, L2.tLst, L2.tTup, L2.tCB, L2.tSl, L2.tPart, L2.tNoPart, L2.tBM, L2.tBM0, L2.tFld, L2.sFld, L2.sFldAug, L2.tMeth, L2.tMake, ML.tCallV, ML.tGDGet, ML.tGDGet2, ML.tGDGet2t, ML.tFstr, L2.rSlL, L2.rAppend, L2.rExtend, L2.rClear, L2.rPop, L2.rAdd, L2.rSub, L2.ipI, ML.tInC, ML.tInD, L2.tDNewT, L2.tDNotIn, L2.sDPut, L2.tDGet, List.getElem?_cons_zero, List.getElem?_cons_succ, L2.tYes, L2.wipe, List.set_cons_zero, List.set_cons_succ]); (try simp only [L2.start, ML.cx_K, ML.cx_prog, ML.cx_w, ML.cx_mg, ML.cx_base, List.map_cons, List.map_nil, List.cons_append, List.nil_append, List.append_nil, List.length_cons, List.length_nil, Nat.reduceAdd, Nat.reduceSub, List.replicate, L2.tSeq, L2.tIfS, L2.tRet, L2.tDrop, L2.tNext, L2.tVar, L2.tC, L2.tOp, L2.rI0, L2.rI, L2.tTest, L2.tB, L2.tChain, L2.tAndV, L2.tOrV, L2.tNotV, L2.tIf, L2.tAnd, L2.tOr, L2.tNot, L2.tCall, L2.tCons, L2.tNil, ML.tGT, L2.tAsg, L2.tAug, L2.gName, L2.tLst, L2.tTup, L2.tCB, L2.tSl, L2.tPart, L2.tNoPart, L2.tBM, L2.tBM0, L2.tFld, L2.sFld, L2.sFldAug, L2.tMeth, L2.tMake, ML.tCallV, ML.tGDGet, ML.tGDGet2, ML.tGDGet2t, ML.tFstr, L2.rSlL, L2.rAppend, L2.rExtend, L2.rClear, L2.rPop, L2.rAdd, L2.rSub, L2.ipI, ML.tInC, ML.tInD, L2.tDNewT, L2.tDNotIn, L2.sDPut, L2.tDGet, ML.rAddU_int, ML.rEqU_int, ML.rNeU_int, ML.tru_bl, ML.sp1_at, List.getElem?_cons_zero, List.getElem?_cons_succ, Option.some.injEq, L2.V.int.injEq, L2.V.bl.injEq, L2.V.ref.injEq, L2.V.str.injEq, L2.tYes, L2.wipe, exists_eq_left', exists_eq_left, exists_eq_right, exists_eq_right', exists_and_left, exists_and_right, exists_eq, List.set_cons_zero, List.set_cons_succ, List.cons.injEq, and_true, true_and, decide_eq_true_eq, Bool.false_eq_true, if_false, if_true, ite_true, ite_false, not_true_eq_false, not_false_eq_true])))
namespace ML
open PySem PySem.Spec PyProof.Rows L2
section
variable {P : Program} {w : World} {K : PySem.W.Frag} {mg : Str → Option Value} {base : Heap} {CR CP CB : Addr}
section
theorem mem_int (c : Nat) (l : List Nat) : decide ((c : Int) ∈ l.map fun n : Nat => (n : Int)) = l.contains c := by
 rw [List.contains_eq_mem]
 refine decide_eq_decide.mpr ⟨fun h => ?_, fun h => List.mem_map_of_mem h⟩
 obtain ⟨n, hn, e⟩ := List.mem_map.mp h
 exact Int.ofNat_inj.mp e ▸ hn
theorem bare_of {c : Nat} {b m k : Bool} (h1 : Vaesca.isMark c = m) (h2 : Vaesca.isBlank c = k) (e : b = [34, 38, 39, 60, 61, 62, 96].contains c) : (!(m || k || b)) = Vaesca.isBare c := by
 subst h1 h2 e
 unfold Vaesca.isBare
 rw [Bool.not_or, Bool.not_or]
theorem gf_is_mark (T : Txt P w K mg CR CP CB) : GF P w K mg base "is_mark" (0 + 1) ["sign"] (sp1 fun c => .bl (Vaesca.isMark c)) := by
 refine gf_mk T.f_is_mark sc_is_mark (fun _ _ _ _ _ _ => us1 fun _ => rfl) (fun vs H Q E h => ?_) (fun f cdv A outer s H vs Q E hr h => ?_)
 ·exact ln1 h fun _ => rfl
 ·obtain ⟨c, rfl, q⟩ := h
  refine ⟨_, (pss_one (ps_ret (pe_cmpR op_gt (pv 0) (pe_gc T.g_HIGHEST_BYTE rfl) (nomark _)))), ?_⟩
  walk_at "s"
  exact blq q (by simp only [Vaesca.isMark, decide_eq_decide]; omega)
theorem gf_is_blank (T : Txt P w K mg CR CP CB) : GF P w K mg base "is_blank" (0 + 1) ["sign"] (sp1 fun c => .bl (Vaesca.isBlank c)) := by
 refine gf_mk T.f_is_blank sc_is_blank (fun _ _ _ _ _ _ => us1 fun _ => rfl) (fun vs H Q E h => ?_) (fun f cdv A outer s H vs Q E hr h => ?_)
 ·exact ln1 h fun _ => rfl
 ·obtain ⟨c, rfl, q⟩ := h
  refine ⟨_, (pss_one (ps_ret (pe_cmp (pc_inC [9, 10, 13, 32] T.g_BLANKS rfl (pv 0))))), ?_⟩
  walk_at "s"
  refine blq q ?_
  refine (mem_int c [9, 10, 13, 32]).trans ?_
  unfold Vaesca.isBlank
  rw [Bool.or_assoc, Bool.or_assoc]
  simp only [List.contains_cons, List.contains_nil, Bool.or_false]
theorem gf_is_small_letter (T : Txt P w K mg CR CP CB) : GF P w K mg base "is_small_letter" (0 + 1) ["sign"] (sp1 fun c => .bl (Vaesca.isSmall c)) := by
 refine gf_mk T.f_is_small_letter sc_is_small_letter (fun _ _ _ _ _ _ => us1 fun _ => rfl) (fun vs H Q E h => ?_) (fun f cdv A outer s H vs Q E hr h => ?_)
 ·exact ln1 h fun _ => rfl
 ·obtain ⟨c, rfl, q⟩ := h
  refine ⟨_, (pss_one (ps_ret (pe_chain op_le op_le pe_int (pv 0) pe_int))), ?_⟩
  walk_at "s"
  split <;> refine blq q ?_ <;> rw [Bool.eq_iff_iff] <;> simp [Vaesca.isSmall] <;> omega
theorem gf_is_letter (T : Txt P w K mg CR CP CB) : GF P w K mg base "is_letter" (1 + 1) ["sign"] (sp1 fun c => .bl (Vaesca.isSmall c || Vaesca.isGreat c)) := by
 refine gf_mk T.f_is_letter sc_is_letter (fun _ _ _ _ _ _ => us1 fun _ => rfl) (fun vs H Q E h => ?_) (fun f cdv A outer s H vs Q E hr h => ?_)
 ·exact ln1 h fun _ => rfl
 ·obtain ⟨c, rfl, q⟩ := h
  refine ⟨_, (pss_one (ps_ret (pe_or (pe_gf (gf_is_small_letter T) (hr.mono (by decide)) rfl (pa_cons (pv 0) pa_nil)) (pe_one (pe_chain op_le op_le pe_int (pv 0) pe_int))))), ?_⟩
  walk_at "s"
  repeat' split
  all_goals refine blq q ?_ <;> rw [Bool.eq_iff_iff] <;> simp [Vaesca.isGreat, *] <;> omega
theorem gf_is_digit (T : Txt P w K mg CR CP CB) : GF P w K mg base "is_digit" (0 + 1) ["sign"] (sp1 fun c => .bl (Vaesca.isDigit c)) := by
 refine gf_mk T.f_is_digit sc_is_digit (fun _ _ _ _ _ _ => us1 fun _ => rfl) (fun vs H Q E h => ?_) (fun f cdv A outer s H vs Q E hr h => ?_)
 ·exact ln1 h fun _ => rfl
 ·obtain ⟨c, rfl, q⟩ := h
  refine ⟨_, (pss_one (ps_ret (pe_chain op_le op_le pe_int (pv 0) pe_int))), ?_⟩
  walk_at "s"
  split <;> refine blq q ?_ <;> rw [Bool.eq_iff_iff] <;> simp [Vaesca.isDigit] <;> omega
theorem gf_is_name_sign (T : Txt P w K mg CR CP CB) : GF P w K mg base "is_name_sign" (1 + 1) ["sign"] (sp1 fun c => .bl (Vaesca.isNameSign c)) := by
 refine gf_mk T.f_is_name_sign sc_is_name_sign (fun _ _ _ _ _ _ => us1 fun _ => rfl) (fun vs H Q E h => ?_) (fun f cdv A outer s H vs Q E hr h => ?_)
 ·exact ln1 h fun _ => rfl
 ·obtain ⟨c, rfl, q⟩ := h
  refine ⟨_, (pss_one (ps_ret (pe_or (pe_gf (gf_is_small_letter T) (hr.mono (by decide)) rfl (pa_cons (pv 0) pa_nil)) (pe_or (pe_gf (gf_is_digit T) (hr.mono (by decide)) rfl (pa_cons (pv 0) pa_nil)) (pe_one (pe_cmpR (op_eqW hr.units) (pv 0) (pe_gc T.g_DASH rfl) (nomark _))))))), ?_⟩
  walk_at "s"
  repeat' split
  all_goals refine blq q ?_ <;> rw [Bool.eq_iff_iff] <;> simp [Vaesca.isNameSign, *] <;> omega
theorem gf_is_bare_sign (T : Txt P w K mg CR CP CB) : GF P w K mg base "is_bare_sign" (1 + 1) ["sign"] (sp1 fun c => .bl (Vaesca.isBare c)) := by
 refine gf_mk T.f_is_bare_sign sc_is_bare_sign (fun _ _ _ _ _ _ => us1 fun _ => rfl) (fun vs H Q E h => ?_) (fun f cdv A outer s H vs Q E hr h => ?_)
 ·exact ln1 h fun _ => rfl
 ·obtain ⟨c, rfl, q⟩ := h
  refine ⟨_, (pss_one (ps_ret (pe_not (pe_or (pe_gf (gf_is_mark T) (hr.mono (by decide)) rfl (pa_cons (pv 0) pa_nil)) (pe_or (pe_gf (gf_is_blank T) (hr.mono (by decide)) rfl (pa_cons (pv 0) pa_nil)) (pe_one (pe_cmp (pc_inC [34, 38, 39, 60, 61, 62, 96] T.g_NEITHER_BLANK_NOR_BARE rfl (pv 0))))))))), ?_⟩
  walk_at "s"
  split
  ·rename_i h1
   refine blq q ?_
   exact bare_of h1 rfl rfl
  ·rename_i h1
   split
   ·rename_i h2
    refine blq q ?_
    exact bare_of (Bool.eq_false_iff.mpr h1) h2 rfl
   ·rename_i h2
    refine blq q ?_
    exact bare_of (Bool.eq_false_iff.mpr h1) (Bool.eq_false_iff.mpr h2) (mem_int c [34, 38, 39, 60, 61, 62, 96])
theorem gf_digit_value (T : Txt P w K mg CR CP CB) : GF P w K mg base "digit_value" (1 + 1) ["sign"] (sp1 fun c => .int (Mt.digitV c)) := by
 refine gf_mk T.f_digit_value sc_digit_value (fun _ _ _ _ _ _ => us1 fun _ => rfl) (fun vs H Q E h => ?_) (fun f cdv A outer s H vs Q E hr h => ?_)
 ·exact ln1 h fun _ => rfl
 ·obtain ⟨c, rfl, q⟩ := h
  refine ⟨_, (pss_cons (ps_if (pt_truth (pe_gf (gf_is_digit T) (hr.mono (by decide)) rfl (pa_cons (pv 0) pa_nil)) (fun _ => rfl)) (pss_one (ps_ret (pe_op op_sub (pv 0) pe_int))) pss_nil) (pss_cons (ps_if (pt_chain op_le op_le pe_int (pv 0) pe_int) (pss_one (ps_ret (pe_op op_sub (pv 0) pe_int))) pss_nil) (pss_cons (ps_if (pt_chain op_le op_le pe_int (pv 0) pe_int) (pss_one (ps_ret (pe_op op_sub (pv 0) pe_int))) pss_nil) (pss_one (ps_ret pe_int))))), ?_⟩
  walk_at "s"
  repeat' split
  all_goals refine intq q ?_ <;> simp [Mt.digitV, *]
  all_goals simp [Vaesca.isDigit] at *
  all_goals repeat' split
  all_goals omega
end
section
theorem gf_counted (T : Txt P w K mg CR CP CB) : GF P w K mg base "counted" (0 + 1) ["signs"] (fun vs H Q _ => ∃ a xs, vs = [.ref a] ∧ H a = some (.lst xs) ∧ xs.length + 1 ≤ sizeLine ∧ rNew (.int xs.length :: xs) H Q) := by
 refine gf_mk T.f_counted sc_counted (fun _ _ _ _ _ _ => us1 fun _ => rfl) (fun vs H Q E h => ?_) (fun f cdv A outer s H vs Q E hr h => ?_)
 ·exact ln2 h fun _ _ => rfl
 ·obtain ⟨a, xs, rfl, ha, hz, q⟩ := h
  refine ⟨_, (pss_one (ps_ret (pe_op op_addW (pe_lst (pa_cons (pe_callB call_len rfl T.b_len PySem.boot_len (pa_cons (pv 0) pa_nil)) pa_nil)) (pv 0)))), ?_⟩
  walk_at "s"
  refine ⟨_, lenv (SqL.of ha), szl, fun p hp => rAddU_lst upd_same (upd_of hp ha) (by simp; omega) fun p2 h2 => q p2 _ ((same_new hp).free h2) ((same_new hp).trans (same_new h2)) upd_same⟩
def NumI (H : Hp) (a : Addr) (b : Nat) (t : List Nat) (i : Nat) (σ : L2.St) (H' : Hp) : Prop := ∃ (n : Nat) (o3 o4 : Option V), σ = [some (.ref a), some (.int b), some (.int n), o3, o4] ∧ H' = H ∧ n < 16 ^ i ∧ Mt.numGo b t 0 = Mt.numGo b (t.drop i) n
theorem gf_number_of (T : Txt P w K mg CR CP CB) : GF P w K mg base "number_of" (2 + 1) ["digits", "base"] (fun vs H Q _ => ∃ a t b, vs = [.ref a, .int (b : Nat)] ∧ SqL K H a (vi t) ∧ t.length ≤ 4 ∧ b ≤ 16 ∧ Q (.int (Mt.numberOf b t)) H) := by
 refine gf_mk T.f_number_of sc_number_of (fun _ _ _ _ _ _ => us2 fun _ _ => rfl) (fun vs H Q E h => ?_) (fun f cdv A outer s H vs Q E hr h => ?_)
 ·exact ln3 h fun _ _ _ => rfl
 ·obtain ⟨a, t, b, rfl, ha, hz, hb, q⟩ := h
  refine ⟨_, (pss_cons (ps_set (i := 2) sc_number_of.nd rfl (Or.inl rfl) pe_int) (pss_cons (ps_for PassesOwn.never rfl (pi_list (pv 0)) (pg_name (i := 3) sc_number_of.nd rfl (Or.inl rfl)) (pss_cons (ps_set (i := 4) sc_number_of.nd rfl (Or.inl rfl) (pe_gf (gf_digit_value T) (hr.mono (by decide)) rfl (pa_cons (pv 3) pa_nil))) (pss_cons (ps_if (pt_cmpR op_ge (pv 4) (pv 1) (nomark _)) (pss_one (ps_ret (pe_gc T.g_WRONG rfl))) pss_nil) (pss_one (ps_set (i := 2) sc_number_of.nd rfl (Or.inl rfl) (pe_op op_addW (pe_op op_mulW (pv 2) (pv 1)) (pv 4))))))) (pss_cons (ps_if (pt_cmpR op_gt (pv 2) (pe_gc T.g_HIGHEST_BYTE rfl) (nomark _)) (pss_one (ps_ret (pe_gc T.g_WRONG rfl))) pss_nil) (pss_one (ps_ret (pv 2)))))), ?_⟩
  walk_at "s"
  refine ⟨_, rfl, a, rfl, ⟨_, ha⟩, for_list (K := K) (a := a) (xs := vi t) (NumI H a b t)
   ⟨0, none, none, rfl, rfl, by decide, rfl⟩ (fun i σ H' _ ⟨_, _, _, _, e, _⟩ => by rw [e]; exact ha) ?_ ?_⟩
  ·rintro i y σ H' hi ⟨n, o3, o4, rfl, rfl, hn, e⟩
   obtain ⟨c, hc, rfl⟩ := vi_get_of hi
   have hl := lt_of_get hc
   rw [drop_of hc] at e
   walk_at "s"
   rw [Mt.numGo] at e
   split
   ·rename_i h1
    rw [if_pos (by omega)] at e
    unfold Mt.numberOf at q
    rw [e] at q
    exact q
   ·rename_i h1
    rw [if_neg (by omega)] at e
    have d : Mt.digitV c < 16 := by omega
    refine rMulU_int (.inr ⟨by omega, by omega⟩) ?_
    rw [rAddU_int]
    refine ⟨n * b + Mt.digitV c, some (.int c), some (.int (Mt.digitV c)), by simp, rfl, ?_, e⟩
    have : n * b ≤ n * 16 := Nat.mul_le_mul_left n hb
    rw [Nat.pow_succ]; omega
  ·rintro σ H' ⟨n, o3, o4, rfl, rfl, hn, e⟩
   rw [vi_length, List.drop_length] at e
   unfold Mt.numberOf at q
   rw [e] at q
   simp only [Mt.numGo] at q
   walk_at "s"
   split
   ·rename_i h1
    rw [if_pos (by omega)] at q
    exact q
   ·rename_i h1
    rw [if_neg (by omega)] at q
    exact q
theorem gf_numbered_byte (T : Txt P w K mg CR CP CB) : GF P w K mg base "numbered_byte" (3 + 1) ["body"] (fun vs H Q _ => ∃ a t, vs = [.ref a] ∧ H a = some (.lst (vi (35 :: t))) ∧ t.length ≤ 3 ∧ ∀ H', Same H H' → Q (.int (Mt.refB (Vaesca.byteOf (35 :: t)))) H') := by
 refine gf_mk T.f_numbered_byte sc_numbered_byte (fun _ _ _ _ _ _ => us1 fun _ => rfl) (fun vs H Q E h => ?_) (fun f cdv A outer s H vs Q E hr h => ?_)
 ·exact ln2 h fun _ _ => rfl
 ·obtain ⟨a, t, rfl, ha, hz, q⟩ := h
  rw [← Mt.numbered_ok t hz] at q
  refine ⟨_, (pss_cons (ps_set (i := 1) sc_numbered_byte.nd rfl (Or.inl rfl) (pe_cmpR (op_eqW hr.units) (pe_slice sl_list (pv 0) (po_some pe_int) (po_some pe_int)) (pe_lst (pa_cons (pe_gc T.g_SMALL_X rfl) pa_nil)) (nomark _))) (pss_cons (ps_set (i := 2) sc_numbered_byte.nd rfl (Or.inl rfl) (pe_ifExp (pt_truth (pv 1) (fun _ => rfl)) (pe_slice sl_list (pv 0) (po_some pe_int) po_none) (pe_slice sl_list (pv 0) (po_some pe_int) po_none))) (pss_cons (ps_if (pt_not (pt_truth (pv 2) (fun _ => rfl))) (pss_one (ps_ret (pe_gc T.g_WRONG rfl))) pss_nil) (pss_one (ps_ret (pe_gf (gf_number_of T) (hr.mono (by decide)) rfl (pa_cons (pv 2) (pa_cons (pe_ifExp (pt_truth (pv 1) (fun _ => rfl)) pe_int pe_int) pa_nil)))))))), ?_⟩
  walk_at "s"
  refine ⟨_, SqL.of ha, fun p hp => ⟨szl, fun p2 hp2 => ?_⟩⟩
  have s1 := same_new (o := HO.lst (cutV (vi (35 :: t)) (some 1) (some 2))) hp
  have c1 : cutV (vi (35 :: t)) (some 1) (some 2) = vi (t.take 1) := by
   rw [show (some (1 : Int)) = some ((1 : Nat) : Int) from rfl, show (some (2 : Int)) = some ((2 : Nat) : Int) from rfl, cutV_nat, vi_drop, vi_take]; rfl
  have c2 : cutV (vi (35 :: t)) (some 2) none = vi (t.drop 1) := by
   rw [show (some (2 : Int)) = some ((2 : Nat) : Int) from rfl, cutV_from, vi_drop]; rfl
  have c3 : cutV (vi (35 :: t)) (some 1) none = vi t := by
   rw [show (some (1 : Int)) = some ((1 : Nat) : Int) from rfl, cutV_from, vi_drop]; rfl
  rw [c1] at hp2 s1 ⊢
  have s2 := s1.trans (same_new (o := HO.lst [V.int 120]) hp2)
  refine rEqU_lst (s := t.take 1) (t := [120]) (SqL.of (upd_of hp2 upd_same)) (SqL.of upd_same) ?_
  generalize upd (upd H p (HO.lst (vi (t.take 1)))) p2 (HO.lst [V.int 120]) = H1 at s2 ⊢
  rw [tru_bl]
  by_cases e : t.take 1 = [120]
  ·simp only [e, decide_true, if_true] at q ⊢
   refine ⟨_, SqL.of (s2 _ _ ha), fun p hp => ?_⟩
   rw [c2]
   have s3 := s2.trans (same_new (o := HO.lst (vi (t.drop 1))) hp)
   refine truL (SqL.of upd_same) ?_
   rw [vi_isEmpty]
   by_cases e2 : t.drop 1 = []
   ·rw [if_pos e2] at q
    rw [e2]
    rw [e2] at s3
    exact q _ s3
   ·rw [if_neg e2] at q
    have e3 : (t.drop 1).isEmpty = false := by cases h : t.drop 1 with
     | nil => exact absurd h e2
     | cons _ _ => rfl
    rw [e3, tru_bl]
    exact ⟨p, _, 16, ⟨rfl, rfl⟩, SqL.of upd_same, by simp; omega, by decide, q _ s3⟩
  ·have e' : decide (t.take 1 = [120]) = false := decide_eq_false e
   simp only [e', Bool.false_eq_true, if_false]
   simp only [e, if_false] at q
   refine ⟨_, SqL.of (s2 _ _ ha), fun p hp => ?_⟩
   rw [c3]
   have s3 := s2.trans (same_new (o := HO.lst (vi t)) hp)
   refine truL (SqL.of upd_same) ?_
   rw [vi_isEmpty]
   by_cases e2 : t = []
   ·rw [if_pos e2] at q
    subst e2
    exact q _ s3
   ·rw [if_neg e2] at q
    have e3 : t.isEmpty = false := by cases h : t with
     | nil => exact absurd h e2
     | cons _ _ => rfl
    rw [e3, tru_bl]
    exact ⟨p, _, 10, ⟨rfl, rfl⟩, SqL.of upd_same, by omega, by decide, q _ s3⟩
theorem kv_vi (t : List Nat) : vi t = (t.map fun (n : Nat) => (Sum.inl (n : Int) : Key)).map kV := by
 unfold vi; rw [List.map_map]; rfl
theorem key_eq : ∀ s t : List Nat, (s.map fun (n : Nat) => (Sum.inl (n : Int) : Key)) = (t.map fun (n : Nat) => (Sum.inl (n : Int) : Key)) ↔ s = t
 | [], [] => by simp
 | [], _ :: _ => by simp
 | _ :: _, [] => by simp
 | a :: s, b :: t => by
  rw [List.map_cons, List.map_cons, List.cons.injEq, List.cons.injEq, key_eq s t]
  constructor
  ·rintro ⟨h, h2⟩; injection h with h; exact ⟨by omega, h2⟩
  ·rintro ⟨h, h2⟩; exact ⟨by rw [h], h2⟩
theorem valV_named (t : List Nat) (r : List (List Key × V)) (s : List Nat) (v : V) : valV (((s.map fun (n : Nat) => (Sum.inl (n : Int) : Key)), v) :: r) (t.map fun (n : Nat) => (Sum.inl (n : Int) : Key)) = if t = s then some v else valV r (t.map fun (n : Nat) => (Sum.inl (n : Int) : Key)) := by
 by_cases h : t = s
 ·rw [if_pos h, h]; exact valV_pos rfl
 ·rw [if_neg h]; exact valV_neg (fun e => h ((key_eq s t).mp e).symm)
theorem gf_byte_of_body (T : Txt P w K mg CR CP CB) : GF P w K mg base "byte_of_body" (4 + 1) ["body"] (fun vs H Q _ => ∃ a t, vs = [.ref a] ∧ H a = some (.lst (vi t)) ∧ t.length ≤ 4 ∧ ∀ H', Same H H' → Q (.int (Mt.refB (Vaesca.byteOf t))) H') := by
 refine gf_mk T.f_byte_of_body sc_byte_of_body (fun _ _ _ _ _ _ => us1 fun _ => rfl) (fun vs H Q E h => ?_) (fun f cdv A outer s H vs Q E hr h => ?_)
 ·exact ln2 h fun _ _ => rfl
 ·obtain ⟨a, t, rfl, ha, hz, q⟩ := h
  refine ⟨_, (pss_cons (ps_if (pt_cmpR (op_eqW hr.units) (pe_slice sl_list (pv 0) po_none (po_some pe_int)) (pe_lst (pa_cons (pe_gc T.g_HASH rfl) pa_nil)) (nomark _)) (pss_one (ps_ret (pe_gf (gf_numbered_byte T) (hr.mono (by decide)) rfl (pa_cons (pv 0) pa_nil)))) pss_nil) (pss_one (ps_ret (pe_gdget2t (hu_of hr) T.g_NAMED_BODIES rfl (pe_callTy call_tuple_of rfl T.b_tuple boot_tuple (pa_cons (pv 0) pa_nil)) (pe_gc T.g_WRONG rfl) ⟨rfl, rfl, rfl, rfl⟩)))), ?_⟩
  walk_at "s"
  refine ⟨_, SqL.of ha, fun p hp => ⟨szl, fun p2 hp2 => ?_⟩⟩
  have c1 : cutV (vi t) none (some 1) = vi (t.take 1) := by
   rw [show (some (1 : Int)) = some ((1 : Nat) : Int) from rfl, cutV_to, vi_take]
  rw [c1] at hp2 ⊢
  have s2 := (same_new (o := HO.lst (vi (t.take 1))) hp).trans (same_new (o := HO.lst [V.int 35]) hp2)
  refine rEqU_lst (s := t.take 1) (t := [35]) (SqL.of (upd_of hp2 upd_same)) (SqL.of upd_same) ?_
  generalize upd (upd H p (HO.lst (vi (t.take 1)))) p2 (HO.lst [V.int 35]) = H1 at s2 ⊢
  refine ⟨_, rfl, ?_⟩
  by_cases e : t.take 1 = [35]
  ·simp only [e, decide_true, if_true]
   match t, e, ha, hz, q with
   | c :: r, e, ha, hz, q =>
    have e' : c = 35 := by simpa using e
    subst e'
    exact ⟨r, s2 _ _ ha, by simpa using hz, fun H' s3 => q H' (s2.trans s3)⟩
  ·have e' : decide (t.take 1 = [35]) = false := decide_eq_false e
   simp only [e', Bool.false_eq_true, if_false]
   refine ⟨_, .inl ⟨SqL.of (s2 _ _ ha), fun l hl => ⟨t.map fun (n : Nat) => (Sum.inl (n : Int) : Key), by rw [upd_same, kv_vi], ?_⟩⟩⟩
   have q2 := q _ (s2.trans (same_new (o := HO.tup (vi t)) hl))
   rw [← Mt.named_ok t e] at q2
   refine cast ?_ q2
   refine congrArg (fun v => Q v _) ?_
   unfold Mt.named
   have n0 : valV ([] : List (List Key × V)) (t.map fun (n : Nat) => (Sum.inl (n : Int) : Key)) = none := rfl
   have n1 := valV_named t [] [97, 112, 111, 115] (.int 39)
   have n2 := valV_named t [([97, 112, 111, 115].map fun (n : Nat) => (Sum.inl (n : Int) : Key), .int 39)] [113, 117, 111, 116] (.int 34)
   have n3 := valV_named t [([113, 117, 111, 116].map fun (n : Nat) => (Sum.inl (n : Int) : Key), .int 34), ([97, 112, 111, 115].map fun (n : Nat) => (Sum.inl (n : Int) : Key), .int 39)] [103, 116] (.int 62)
   have n4 := valV_named t [([103, 116].map fun (n : Nat) => (Sum.inl (n : Int) : Key), .int 62), ([113, 117, 111, 116].map fun (n : Nat) => (Sum.inl (n : Int) : Key), .int 34), ([97, 112, 111, 115].map fun (n : Nat) => (Sum.inl (n : Int) : Key), .int 39)] [108, 116] (.int 60)
   have n5 := valV_named t [([108, 116].map fun (n : Nat) => (Sum.inl (n : Int) : Key), .int 60), ([103, 116].map fun (n : Nat) => (Sum.inl (n : Int) : Key), .int 62), ([113, 117, 111, 116].map fun (n : Nat) => (Sum.inl (n : Int) : Key), .int 34), ([97, 112, 111, 115].map fun (n : Nat) => (Sum.inl (n : Int) : Key), .int 39)] [97, 109, 112] (.int 38)
   rw [n4, n3, n2, n1, n0] at n5
   refine Eq.trans ?_ (congrArg (fun o => Option.getD o (V.int (-2))) n5).symm
   repeat' split
   all_goals rfl
theorem gf_reference_step (T : Txt P w K mg CR CP CB) : GF P w K mg base "reference_step" (5 + 1) ["body", "sign"] (fun vs H Q _ => ∃ a t c, vs = [.ref a, .int (c : Nat)] ∧ H a = some (.lst (vi t)) ∧ t.length ≤ 4 ∧ (if c = 59 then ∀ H', Same H H' → Q (.int (Mt.refB (Vaesca.byteOf t))) H' else if ((Vaesca.isSmall c || Vaesca.isGreat c || Vaesca.isDigit c || c == 35) && decide (t.length < 4)) = true then Q (.int (-1)) (upd H a (.lst (vi (t ++ [c])))) else Q (.int (-2)) H)) := by
 refine gf_mk T.f_reference_step sc_reference_step (fun _ _ _ _ _ _ => us2 fun _ _ => rfl) (fun vs H Q E h => ?_) (fun f cdv A outer s H vs Q E hr h => ?_)
 ·exact ln3 h fun _ _ _ => rfl
 ·obtain ⟨a, t, c, rfl, ha, hz, q⟩ := h
  refine ⟨_, (pss_cons (ps_if (pt_cmpR (op_eqW hr.units) (pv 1) (pe_gc T.g_SEMICOLON rfl) (nomark _)) (pss_one (ps_ret (pe_gf (gf_byte_of_body T) (hr.mono (by decide)) rfl (pa_cons (pv 0) pa_nil)))) pss_nil) (pss_cons (ps_if (PW.pt (pw_and (pt_cmpR op_lt (pe_callB call_len rfl T.b_len PySem.boot_len (pa_cons (pv 0) pa_nil)) (pe_gc T.g_LONGEST_BODY rfl) (nomark _)) (pw_and1 (PW.pt (pw_or (pt_truth (pe_gf (gf_is_letter T) (hr.mono (by decide)) rfl (pa_cons (pv 1) pa_nil)) (fun _ => rfl)) (pw_or (pt_truth (pe_gf (gf_is_digit T) (hr.mono (by decide)) rfl (pa_cons (pv 1) pa_nil)) (fun _ => rfl)) (pw_or1 (pt_cmpR (op_eqW hr.units) (pv 1) (pe_gc T.g_HASH rfl) (nomark _))))))))) (pss_cons (ps_expr (pe_bm PySem.F.plainAttrs_list PySem.F.slot_list_append PySem.F.type_list_append mt_append (pv 0) (pa_cons (pv 1) pa_nil))) (pss_one (ps_ret (pe_gc T.g_GOES_ON rfl)))) pss_nil) (pss_one (ps_ret (pe_gc T.g_WRONG rfl))))), ?_⟩
  walk_at "s"
  by_cases h1 : c = 59
  ·rw [if_pos h1] at q
   rw [if_pos (by omega)]
   exact ⟨t, ha, hz, q⟩
  ·rw [if_neg h1] at q
   rw [if_neg (by omega)]
   refine ⟨_, lenv (SqL.of ha), ?_⟩
   rw [vi_length]
   have qa : ((Vaesca.isSmall c || Vaesca.isGreat c || Vaesca.isDigit c || c == 35) && decide (t.length < 4)) = true → tyV K "list" (V.ref a) H ∧ ∃ x, H a = some (HO.lst x) ∧ x.length < sizeLine ∧ Q (V.int (-1)) (upd H a (HO.lst (x ++ [V.int ↑c]))) := by
    intro e
    rw [if_pos e, vi_snoc] at q
    exact ⟨tyL ha, _, ha, by rw [vi_length]; exact szlt, q⟩
   have qb : ¬ ((Vaesca.isSmall c || Vaesca.isGreat c || Vaesca.isDigit c || c == 35) && decide (t.length < 4)) = true → Q (V.int (-2)) H := by
    intro e
    rw [if_neg e] at q
    exact q
   repeat' split
   all_goals first
    | (refine qa ?_; simp_all; done)
    | (refine qb ?_; simp_all; done)
    | (refine qa ?_; simp_all; omega)
    | (refine qb ?_; simp_all; omega)
end
section
def SgnI (H : Hp) (D : Addr) (z : Str) (i : Nat) (H' : Hp) : Prop := Same H H' ∧ H' D = some (.lst (vi (z.cps.toList.take i)))
theorem lc_str {x : Str} {g : TG} {tt : TT} {te : TE} {vs : List Nat} {σ : L2.St} {H1 : Hp} {D : Addr} {Qd : Hp → Prop} (Pv : Nat → Hp → Prop) (h0 : Pv 0 (upd H1 D (.lst [])))
  (hs : ∀ i (c : Nat) H, x.cps[i]? = some c → Pv i H → g (.str ⟨#[c]⟩) (wipe σ vs) H fun σ2 H2 => wipe σ2 vs = wipe σ vs ∧ tt σ2 H2 fun b H3 =>
   if b = true then te σ2 H3 fun y H4 => ∃ acc, H4 D = some (.lst acc) ∧ acc.length < sizeLine ∧ Pv (i + 1) (upd H4 D (.lst (acc ++ [y]))) else Pv (i + 1) H3) (hd : ∀ H, Pv x.cps.size H → Qd H) :
  ∃ W : Nat → Nat → Hp → Prop, (∃ m, W 0 m (upd H1 D (.lst []))) ∧ ∀ i m H, W i m H →
   ((Its x).stop i H ∧ Qd H) ∨ ((Its x).go i H ∧ ∃ Nx : Hp → Prop, (∀ H', Nx H' → ∃ m', m' < m ∧ W (i + 1) m' H') ∧ ∀ v H', (Its x).yld i H v H' → g v (wipe σ vs) H' fun σ2 H2 => wipe σ2 vs = wipe σ vs ∧ tt σ2 H2 fun b H3 =>
    if b = true then te σ2 H3 fun y H4 => ∃ acc, H4 D = some (.lst acc) ∧ acc.length < sizeLine ∧ Nx (upd H4 D (.lst (acc ++ [y]))) else Nx H3) := by
 refine ⟨fun i m H => m = x.cps.size - i ∧ i ≤ x.cps.size ∧ Pv i H, ⟨x.cps.size, by simp, Nat.zero_le _, h0⟩, ?_⟩
 rintro i m H ⟨rfl, hi, p⟩
 by_cases hlt : i < x.cps.size
 ·refine .inr ⟨hlt, Pv (i + 1), fun H' p' => ⟨x.cps.size - (i + 1), by omega, rfl, hlt, p'⟩, fun v H' y => ?_⟩
  obtain ⟨e, c, hc, rfl⟩ := y
  subst e
  exact hs i c _ hc p
 ·have e : i = x.cps.size := by omega
  subst e
  exact .inl ⟨Nat.le_refl _, hd H p⟩
theorem gf_signs_of (T : Txt P w K mg CR CP CB) : GF P w K mg base "signs_of" (0 + 1) ["written"] (fun vs H Q _ => ∃ z : Str, vs = [.str z] ∧ z.cps.size ≤ 1000 ∧ rNew (vi z.cps.toList) H Q) := by
 refine gf_mk T.f_signs_of sc_signs_of (fun _ _ _ _ _ _ => us1 fun _ => rfl) (fun vs H Q E h => ?_) (fun f cdv A outer s H vs Q E hr h => ?_)
 ·exact ln1 h fun _ => rfl
 ·obtain ⟨z, rfl, hz, q⟩ := h
  refine ⟨_, (pss_one (ps_ret (pe_lc (own := [("letter", 1)]) rfl sc_signs_of.nd (pi_str (pv 0)) (blkOk_by (N := ["written", "letter"]) (sc := defScope st_signs_of) (by decide +kernel)) (fun _ _ _ _ _ => (pg_name (i := 1) sc_signs_of.nd rfl (Or.inl rfl))) (fun _ _ _ _ _ => pts_nil) (fun _ _ _ _ _ => (pe_callB call_ord rfl T.b_ord boot_ord (pa_cons (pv 1) pa_nil)))))), ?_⟩
  walk_at "s"
  refine ⟨_, rfl, z, rfl, fun D hD => lc_str (SgnI H D z) ⟨same_new hD, by rw [upd_same]; rfl⟩ ?_ ?_⟩
  ·rintro i c H' hc ⟨s1, h1⟩
   walk_at "s"
   refine ⟨rfl, _, h1, ?_, ?_⟩
   ·rw [vi_length, List.length_take]; exact szlt (by simp; omega)
   ·refine ⟨fun b o e => ?_, ?_⟩
    ·rw [upd_ne (ne_of_none e hD)]; exact s1 _ _ e
    ·have hc' : z.cps.toList[i]? = some c := by rw [Array.getElem?_toList]; exact hc
     rw [upd_same, take_snoc hc', vi_snoc]
     rfl
  ·rintro H' ⟨s1, h1⟩
   rw [← Array.length_toList, List.take_length] at h1
   exact q D H' hD s1 h1
theorem gf_may_stand (T : Txt P w K mg CR CP CB) : GF P w K mg base "may_stand" (2 + 1) ["kind", "byte"] (fun vs H Q _ => ∃ k c : Nat, vs = [.int k, .int c] ∧ k ≤ 3 ∧ c < 256 ∧ Q (.bl (Vaescc.mayStand k c)) H) := by
 refine gf_mk T.f_may_stand sc_may_stand (fun _ _ _ _ _ _ => us2 fun _ _ => rfl) (fun vs H Q E h => ?_) (fun f cdv A outer s H vs Q E hr h => ?_)
 ·exact ln2 h fun _ _ => rfl
 ·obtain ⟨k, c, rfl, hk, hc, q⟩ := h
  refine ⟨_, (pss_cons (ps_if (pt_cmpR (op_eqW hr.units) (pv 0) (pe_gc T.g_BARE rfl) (nomark _)) (pss_one (ps_ret (pe_gf (gf_is_bare_sign T) (hr.mono (by decide)) rfl (pa_cons (pv 1) pa_nil)))) pss_nil) (pss_one (ps_ret (pe_and (pe_cmpR (op_neW hr.units) (pv 1) (pe_gc T.g_AND rfl) (nomark _)) (pe_one (pe_cmpR (op_neW hr.units) (pv 1) (pe_ix ix_seq (pe_gt T.g_ENDING_BYTES rfl) (pv 0) (fun _ _ => rfl)) (nomark _))))))), ?_⟩
  walk_at "s"
  match k, hk, q with
  | 3, _, q => rw [if_pos (by omega)]; exact q
  | 0, _, q =>
   rw [if_neg (by omega)]
   split
   ·exact fun a ha => rIx_tup (j := 0) (ha H) rfl rfl (rNeU_int.mpr (blq q (by rw [Bool.eq_iff_iff]; simp [Vaescc.mayStand] at *; omega)))
   ·exact blq q (by rw [Bool.eq_iff_iff]; simp [Vaescc.mayStand] at *; omega)
  | 1, _, q =>
   rw [if_neg (by omega)]
   split
   ·exact fun a ha => rIx_tup (j := 1) (ha H) rfl rfl (rNeU_int.mpr (blq q (by rw [Bool.eq_iff_iff]; simp [Vaescc.mayStand] at *; omega)))
   ·exact blq q (by rw [Bool.eq_iff_iff]; simp [Vaescc.mayStand] at *; omega)
  | 2, _, q =>
   rw [if_neg (by omega)]
   split
   ·exact fun a ha => rIx_tup (j := 2) (ha H) rfl rfl (rNeU_int.mpr (blq q (by rw [Bool.eq_iff_iff]; simp [Vaescc.mayStand] at *; omega)))
   ·exact blq q (by rw [Bool.eq_iff_iff]; simp [Vaescc.mayStand] at *; omega)
theorem fstr_num : ∀ n, n < 256 → (fstr "&#" ";" (n : Nat)).cps.toList = Vaescc.numbered n := by decide +kernel
theorem fstr_len : ∀ n, n < 256 → (fstr "&#" ";" (n : Nat)).cps.size ≤ 6 := by decide +kernel
theorem gf_decimal_reference (T : Txt P w K mg CR CP CB) : GF P w K mg base "decimal_reference" (0 + 1) ["byte"] (fun vs H Q _ => ∃ c : Nat, vs = [.int c] ∧ c < 256 ∧ Q (.str (fstr "&#" ";" c)) H) := by
 refine gf_mk T.f_decimal_reference sc_decimal_reference (fun _ _ _ _ _ _ => us1 fun _ => rfl) (fun vs H Q E h => ?_) (fun f cdv A outer s H vs Q E hr h => ?_)
 ·exact ln1 h fun _ => rfl
 ·obtain ⟨c, rfl, hc, q⟩ := h
  refine ⟨_, (pss_one (ps_ret (pe_fstr3 (pv 0)))), ?_⟩
  walk_at "s"
  refine ⟨?_, Nat.le_trans (fstr_len c hc) szl, q⟩
  have : (c : Int).natAbs = c := by omega
  rw [this]
  exact Nat.lt_of_le_of_lt (Nat.log2_le_self c) (by omega)
end
section
theorem new1 {Q : VK} {H : Hp} {c : Nat} {t : List Nat} (q : rNew (vi t) H Q) (e : t = [c]) : 1 ≤ sizeLine ∧ ∀ p, H p = none → Q (.ref p) (upd H p (.lst [.int c])) := by
 subst e
 exact ⟨szl, fun p hp => q p _ hp (same_new hp) upd_same⟩
theorem valV_int (i j : Int) (r : List (Key × V)) (v : V) : valV ((Sum.inl i, v) :: r) (Sum.inl j) = if j = i then some v else valV r (Sum.inl j) := by
 by_cases h : j = i
 ·rw [if_pos h, h]; exact valV_pos rfl
 ·rw [if_neg h]; exact valV_neg (fun e => h (by injection e with e; exact e.symm))
theorem valV_nil (k : Key) : valV ([] : List (Key × V)) k = none := rfl
theorem tx_amp : (Str.ofString "&amp;").cps.toList = Vaescc.AMP ∧ (Str.ofString "&amp;").cps.size ≤ 1000 := by decide +kernel
theorem tx_lt : (Str.ofString "&lt;").cps.toList = Vaescc.LT ∧ (Str.ofString "&lt;").cps.size ≤ 1000 := by decide +kernel
theorem tx_gt : (Str.ofString "&gt;").cps.toList = Vaescc.GT ∧ (Str.ofString "&gt;").cps.size ≤ 1000 := by decide +kernel
theorem tx_quot : (Str.ofString "&quot;").cps.toList = Vaescc.QUOT ∧ (Str.ofString "&quot;").cps.size ≤ 1000 := by decide +kernel
theorem tx_apos : (Str.ofString "&apos;").cps.toList = Vaescc.APOS ∧ (Str.ofString "&apos;").cps.size ≤ 1000 := by decide +kernel
theorem tx_num (c : Nat) (hc : c < 256) : (fstr (Str.ofString "&#") (Str.ofString ";") c).cps.toList = Vaescc.numbered c ∧ (fstr (Str.ofString "&#") (Str.ofString ";") c).cps.size ≤ 1000 := ⟨fstr_num c hc, Nat.le_trans (fstr_len c hc) (by decide)⟩
theorem tx_at {Q : VK} {H : Hp} {z : Str} {t u : List Nat} (q : rNew (vi t) H Q) (h : z.cps.toList = u ∧ z.cps.size ≤ 1000) (e : t = u) : z.cps.size ≤ 1000 ∧ rNew (vi z.cps.toList) H Q := ⟨h.2, by rw [h.1, ← e]; exact q⟩
theorem cannot {k c : Nat} (hk : k ≤ 3) (h3 : ¬ k = 3) (h : ¬ Vaescc.mayStand k c = true) : c = 38 ∨ (k = 0 ∧ c = 60) ∨ (k = 1 ∧ c = 34) ∨ (k = 2 ∧ c = 39) := by
 match k, hk, h3, h with
 | 0, _, _, h => simp [Vaescc.mayStand] at h; omega
 | 1, _, _, h => simp [Vaescc.mayStand] at h; omega
 | 2, _, _, h => simp [Vaescc.mayStand] at h; omega
 | 3, _, h3, _ => exact absurd rfl h3
theorem can {k c : Nat} (hk : k ≤ 3) (h3 : ¬ k = 3) (h : Vaescc.mayStand k c = true) : Vaescc.escapeByte k c = [c] := by
 match k, hk, h3, h with
 | 0, _, _, h => simp [Vaescc.mayStand] at h; simp [Vaescc.escapeByte, h]
 | 1, _, _, h => simp [Vaescc.mayStand] at h; simp [Vaescc.escapeByte, h]
 | 2, _, _, h => simp [Vaescc.mayStand] at h; simp [Vaescc.escapeByte, h]
 | 3, _, h3, _ => exact absurd rfl h3
theorem gf_escape_of_byte (T : Txt P w K mg CR CP CB) : GF P w K mg base "escape_of_byte" (3 + 1) ["kind", "byte"] (fun vs H Q _ => ∃ k c : Nat, vs = [.int k, .int c] ∧ k ≤ 3 ∧ c < 256 ∧ rNew (vi (Vaescc.escapeByte k c)) H Q) := by
 refine gf_mk T.f_escape_of_byte sc_escape_of_byte (fun _ _ _ _ _ _ => us2 fun _ _ => rfl) (fun vs H Q E h => ?_) (fun f cdv A outer s H vs Q E hr h => ?_)
 ·exact ln2 h fun _ _ => rfl
 ·obtain ⟨k, c, rfl, hk, hc, q⟩ := h
  refine ⟨_, (pss_cons (ps_if (pt_cmpR (op_neW hr.units) (pv 0) (pe_gc T.g_BARE rfl) (nomark _)) (pss_one (ps_ret (pe_ifExp (pt_truth (pe_gf (gf_may_stand T) (hr.mono (by decide)) rfl (pa_cons (pv 0) (pa_cons (pv 1) pa_nil))) (fun _ => rfl)) (pe_lst (pa_cons (pv 1) pa_nil)) (pe_gf (gf_signs_of T) (hr.mono (by decide)) rfl (pa_cons (pe_gdget (hu_of hr) T.g_ESCAPE_NAMES rfl (pv 1) (fun _ _ => rfl)) pa_nil))))) pss_nil) (pss_cons (ps_if (PW.pt (pw_or (pt_truth (pe_gf (gf_is_letter T) (hr.mono (by decide)) rfl (pa_cons (pv 1) pa_nil)) (fun _ => rfl)) (pw_or (pt_truth (pe_gf (gf_is_digit T) (hr.mono (by decide)) rfl (pa_cons (pv 1) pa_nil)) (fun _ => rfl)) (pw_or1 (pt_cmp (pc_inC [45, 46, 95] T.g_PLAIN_IN_BARE rfl (pv 1))))))) (pss_one (ps_ret (pe_lst (pa_cons (pv 1) pa_nil)))) pss_nil) (pss_one (ps_ret (pe_gf (gf_signs_of T) (hr.mono (by decide)) rfl (pa_cons (pe_gf (gf_decimal_reference T) (hr.mono (by decide)) rfl (pa_cons (pv 1) pa_nil)) pa_nil)))))), ?_⟩
  walk_at "s"
  by_cases h3 : k = 3
  ·rw [if_neg (by simp; omega)]
   have e : ∀ b, Vaescc.isPlain c = b → Vaescc.escapeByte k c = if b then [c] else Vaescc.numbered c := by
    intro b hb; subst h3; subst hb; rfl
   repeat' split
   ·rename_i z; exact new1 q (e true (by simp [Vaescc.isPlain]; simp at z; simp [z]))
   ·rename_i z; exact new1 q (e true (by simp [Vaescc.isPlain, z]))
   ·rename_i z; exact new1 q (e true (by simp at z; simp [Vaescc.isPlain]; omega))
   ·rename_i z1 z2 z3
    refine ⟨c, rfl, hc, tx_at q (tx_num c hc) (e false ?_)⟩
    simp at z1 z3
    simp [Vaescc.isPlain, z1, z2]; omega
  ·rw [if_pos (by simp; omega)]
   refine ⟨k, c, ⟨rfl, rfl⟩, hk, hc, ?_⟩
   split
   ·rename_i z; exact new1 q (can hk h3 z)
   ·rename_i z
    rcases cannot hk h3 z with h | ⟨h, h'⟩ | ⟨h, h'⟩ | ⟨h, h'⟩
    ·subst h
     exact ⟨Sum.inl 38, rfl, _, rfl, _, rfl, tx_at q tx_amp (by simp [Vaescc.escapeByte, h3])⟩
    ·subst h h'; exact ⟨Sum.inl 60, rfl, _, rfl, _, rfl, tx_at q tx_lt rfl⟩
    ·subst h h'; exact ⟨Sum.inl 34, rfl, _, rfl, _, rfl, tx_at q tx_quot rfl⟩
    ·subst h h'; exact ⟨Sum.inl 39, rfl, _, rfl, _, rfl, tx_at q tx_apos rfl⟩
theorem gf_shortest_of_byte (T : Txt P w K mg CR CP CB) : GF P w K mg base "shortest_of_byte" (3 + 1) ["kind", "byte"] (fun vs H Q _ => ∃ k c : Nat, vs = [.int k, .int c] ∧ k ≤ 3 ∧ c < 256 ∧ rNew (vi (Vaescc.shortByte k c)) H Q) := by
 refine gf_mk T.f_shortest_of_byte sc_shortest_of_byte (fun _ _ _ _ _ _ => us2 fun _ _ => rfl) (fun vs H Q E h => ?_) (fun f cdv A outer s H vs Q E hr h => ?_)
 ·exact ln2 h fun _ _ => rfl
 ·obtain ⟨k, c, rfl, hk, hc, q⟩ := h
  refine ⟨_, (pss_cons (ps_if (pt_truth (pe_gf (gf_may_stand T) (hr.mono (by decide)) rfl (pa_cons (pv 0) (pa_cons (pv 1) pa_nil))) (fun _ => rfl)) (pss_one (ps_ret (pe_lst (pa_cons (pv 1) pa_nil)))) pss_nil) (pss_one (ps_ret (pe_gf (gf_signs_of T) (hr.mono (by decide)) rfl (pa_cons (pe_gdget2 (hu_of hr) T.g_SHORT_NAMES rfl (pv 1) (pe_gf (gf_decimal_reference T) (hr.mono (by decide)) rfl (pa_cons (pv 1) pa_nil)) ⟨rfl, rfl, rfl, rfl⟩) pa_nil))))), ?_⟩
  walk_at "s"
  refine ⟨k, c, ⟨rfl, rfl⟩, hk, hc, ?_⟩
  split
  ·rename_i z; exact new1 q (by simp [Vaescc.shortByte, z])
  ·rename_i z
   refine ⟨c, rfl, hc, Sum.inl c, rfl, ?_⟩
   rw [valV_int, valV_int, valV_int, valV_nil]
   by_cases h1 : c = 38
   ·subst h1; exact ⟨_, rfl, tx_at q tx_amp (by simp [Vaescc.shortByte, z])⟩
   ·rw [if_neg (by omega)]
    by_cases h2 : c = 60
    ·subst h2; exact ⟨_, rfl, tx_at q tx_lt (by simp [Vaescc.shortByte, z])⟩
    ·rw [if_neg (by omega)]
     by_cases h4 : c = 62
     ·subst h4; exact ⟨_, rfl, tx_at q tx_gt (by simp [Vaescc.shortByte, z])⟩
     ·rw [if_neg (by omega)]
      exact ⟨_, rfl, tx_at q (tx_num c hc) (by simp [Vaescc.shortByte, z, h1, h2, h4])⟩
theorem esc_len (k c : Nat) : (Vaescc.escapeByte k c).length ≤ 6 := by
 unfold Vaescc.escapeByte Vaescc.numbered Vaescc.digits Vaescc.AMP Vaescc.LT Vaescc.QUOT Vaescc.APOS
 repeat' split
 all_goals simp
theorem sho_len (k c : Nat) : (Vaescc.shortByte k c).length ≤ 6 := by
 unfold Vaescc.shortByte Vaescc.numbered Vaescc.digits Vaescc.AMP Vaescc.LT Vaescc.GT
 repeat' split
 all_goals simp
theorem flat_len {f : Nat → List Nat} (h : ∀ c, (f c).length ≤ 6) : ∀ d : List Nat, (d.flatMap f).length ≤ 6 * d.length
 | [] => by simp
 | c :: d => by
  rw [List.flatMap_cons, List.length_append, List.length_cons]
  have := flat_len h d
  have := h c
  omega
def WrI (H : Hp) (k : Nat) (a p : Addr) (f : Nat → List Nat) (d : List Nat) (i : Nat) (σ : L2.St) (H' : Hp) : Prop := Same H H' ∧ (∃ o, σ = [some (.int k), some (.ref a), some (.ref p), o]) ∧ H' p = some (.lst (vi ((d.take i).flatMap f)))
theorem gf_escape_of (T : Txt P w K mg CR CP CB) : GF P w K mg base "escape_of" (4 + 1) ["kind", "content"] (fun vs H Q _ => ∃ k a d, vs = [.int (k : Nat), .ref a] ∧ SqL K H a (vi d) ∧ k ≤ 3 ∧ (∀ c ∈ d, c < 256) ∧ d.length ≤ 5000 ∧ rNew (vi (Vaescc.escape k d)) H Q) := by
 refine gf_mk T.f_escape_of sc_escape_of (fun _ _ _ _ _ _ => us2 fun _ _ => rfl) (fun vs H Q E h => ?_) (fun f cdv A outer s H vs Q E hr h => ?_)
 ·exact ln3 h fun _ _ _ => rfl
 ·obtain ⟨k, a, d, rfl, ha, hk, hc, hz, q⟩ := h
  refine ⟨_, (pss_cons (ps_set (i := 2) sc_escape_of.nd rfl (Or.inl rfl) (pe_lst pa_nil)) (pss_cons (ps_for PassesOwn.never rfl (pi_list (pv 1)) (pg_name (i := 3) sc_escape_of.nd rfl (Or.inl rfl)) (pss_one (ps_expr (pe_bm PySem.F.plainAttrs_list PySem.F.slot_list_extend PySem.F.type_list_extend mt_extend (pv 2) (pa_cons (pe_gf (gf_escape_of_byte T) (hr.mono (by decide)) rfl (pa_cons (pv 0) (pa_cons (pv 3) pa_nil))) pa_nil))))) (pss_one (ps_ret (pv 2))))), ?_⟩
  walk_at "s"
  refine ⟨szl, fun p hp => ⟨_, rfl, a, rfl, ⟨_, (same_new hp).seq ha⟩, for_list (K := K) (a := a) (xs := vi d) (WrI H k a p (Vaescc.escapeByte k) d) ⟨same_new hp, ⟨none, rfl⟩, upd_same⟩ (fun i σ H' _ ⟨s1, _⟩ => s1.seq ha) ?_ ?_⟩⟩
  ·rintro i y σ H' hi ⟨s1, ⟨o, rfl⟩, h1⟩
   obtain ⟨c, hn, rfl⟩ := vi_get_of hi
   walk_at "s"
   refine ⟨tyL h1, k, c, ⟨rfl, rfl⟩, hk, hc c (List.mem_of_getElem? hn), fun p2 H2 hp2 s2 h2 => ?_⟩
   have l1 := flat_len (esc_len k) (d.take i)
   have l2 := esc_len k c
   have l3 : (d.take i).length ≤ 5000 := by rw [List.length_take]; omega
   walk_at "s"
   refine ⟨_, s2 _ _ h1, _, h2, szl (by rw [vi_length, vi_length]; omega), same_upd hp (s1.trans s2), ⟨_, rfl⟩, ?_⟩
   rw [upd_same, take_snoc hn, List.flatMap_append, vi_append]
   simp
  ·rintro σ H' ⟨s1, ⟨o, rfl⟩, h1⟩
   rw [vi_length, List.take_length] at h1
   walk_at "s"
   exact q p H' hp s1 h1
theorem gf_shortest_form (T : Txt P w K mg CR CP CB) : GF P w K mg base "shortest_form" (4 + 1) ["kind", "content"] (fun vs H Q _ => ∃ k a d, vs = [.int (k : Nat), .ref a] ∧ SqL K H a (vi d) ∧ k ≤ 3 ∧ (∀ c ∈ d, c < 256) ∧ d.length ≤ 5000 ∧ rNew (vi (d.flatMap (Vaescc.shortByte k))) H Q) := by
 refine gf_mk T.f_shortest_form sc_shortest_form (fun _ _ _ _ _ _ => us2 fun _ _ => rfl) (fun vs H Q E h => ?_) (fun f cdv A outer s H vs Q E hr h => ?_)
 ·exact ln3 h fun _ _ _ => rfl
 ·obtain ⟨k, a, d, rfl, ha, hk, hc, hz, q⟩ := h
  refine ⟨_, (pss_cons (ps_set (i := 2) sc_shortest_form.nd rfl (Or.inl rfl) (pe_lst pa_nil)) (pss_cons (ps_for PassesOwn.never rfl (pi_list (pv 1)) (pg_name (i := 3) sc_shortest_form.nd rfl (Or.inl rfl)) (pss_one (ps_expr (pe_bm PySem.F.plainAttrs_list PySem.F.slot_list_extend PySem.F.type_list_extend mt_extend (pv 2) (pa_cons (pe_gf (gf_shortest_of_byte T) (hr.mono (by decide)) rfl (pa_cons (pv 0) (pa_cons (pv 3) pa_nil))) pa_nil))))) (pss_one (ps_ret (pv 2))))), ?_⟩
  walk_at "s"
  refine ⟨szl, fun p hp => ⟨_, rfl, a, rfl, ⟨_, (same_new hp).seq ha⟩, for_list (K := K) (a := a) (xs := vi d) (WrI H k a p (Vaescc.shortByte k) d) ⟨same_new hp, ⟨none, rfl⟩, upd_same⟩ (fun i σ H' _ ⟨s1, _⟩ => s1.seq ha) ?_ ?_⟩⟩
  ·rintro i y σ H' hi ⟨s1, ⟨o, rfl⟩, h1⟩
   obtain ⟨c, hn, rfl⟩ := vi_get_of hi
   walk_at "s"
   refine ⟨tyL h1, k, c, ⟨rfl, rfl⟩, hk, hc c (List.mem_of_getElem? hn), fun p2 H2 hp2 s2 h2 => ?_⟩
   have l1 := flat_len (sho_len k) (d.take i)
   have l2 := sho_len k c
   have l3 : (d.take i).length ≤ 5000 := by rw [List.length_take]; omega
   walk_at "s"
   refine ⟨_, s2 _ _ h1, _, h2, szl (by rw [vi_length, vi_length]; omega), same_upd hp (s1.trans s2), ⟨_, rfl⟩, ?_⟩
   rw [upd_same, take_snoc hn, List.flatMap_append, vi_append]
   simp
  ·rintro σ H' ⟨s1, ⟨o, rfl⟩, h1⟩
   rw [vi_length, List.take_length] at h1
   walk_at "s"
   exact q p H' hp s1 h1
theorem gf_value_length (T : Txt P w K mg CR CP CB) : GF P w K mg base "value_length" (5 + 1) ["kind", "content"] (fun vs H Q _ => ∃ k a d, vs = [.int (k : Nat), .ref a] ∧ SqL K H a (vi d) ∧ k ≤ 3 ∧ (∀ c ∈ d, c < 256) ∧ d.length ≤ 5000 ∧ ∀ H', Same H H' → Q (.int ((d.flatMap (Vaescc.shortByte k)).length + (if k = 3 then 0 else 2) : Nat)) H') := by
 refine gf_mk T.f_value_length sc_value_length (fun _ _ _ _ _ _ => us2 fun _ _ => rfl) (fun vs H Q E h => ?_) (fun f cdv A outer s H vs Q E hr h => ?_)
 ·exact ln3 h fun _ _ _ => rfl
 ·obtain ⟨k, a, d, rfl, ha, hk, hc, hz, q⟩ := h
  refine ⟨_, (pss_cons (ps_set (i := 2) sc_value_length.nd rfl (Or.inl rfl) (pe_ifExp (pt_cmpR (op_eqW hr.units) (pv 0) (pe_gc T.g_BARE rfl) (nomark _)) pe_int pe_int)) (pss_one (ps_ret (pe_op op_addW (pe_callB call_len rfl T.b_len PySem.boot_len (pa_cons (pe_gf (gf_shortest_form T) (hr.mono (by decide)) rfl (pa_cons (pv 0) (pa_cons (pv 1) pa_nil))) pa_nil)) (pv 2))))), ?_⟩
  walk_at "s"
  split
  ·rename_i h3
   have h3' : k = 3 := by omega
   refine ⟨k, a, ⟨rfl, rfl⟩, d, ha, hk, hc, hz, fun p H' hp s1 h1 => ⟨_, lenv (SqL.of h1), ?_⟩⟩
   refine intq (q H' s1) ?_
   rw [vi_length, if_pos h3']; omega
  ·rename_i h3
   refine ⟨k, a, ⟨rfl, rfl⟩, d, ha, hk, hc, hz, fun p H' hp s1 h1 => ⟨_, lenv (SqL.of h1), ?_⟩⟩
   refine intq (q H' s1) ?_
   rw [vi_length, if_neg (by omega)]; omega
def vlen (d : List Nat) (k : Nat) : Nat := (d.flatMap (Vaescc.shortByte k)).length + (if k = 3 then 0 else 2)
def LenI (H : Hp) (d ks : List Nat) (D : Addr) (i : Nat) (H' : Hp) : Prop := Same H H' ∧ H' D = some (.lst (vi ((ks.take i).map (vlen d))))
theorem eqV_int (i j : Int) : eqV (.int i) (.int j) = decide (i = j) := by simp only [eqV]; exact Bool.beq_eq_decide_eq i j
theorem q3 (d : List Nat) (h : ¬ d = []) : Vaescc.quotes d = if vlen d 3 ≤ vlen d 1 ∧ vlen d 3 ≤ vlen d 2 then (3, vlen d 3) else if vlen d 1 ≤ vlen d 2 then (1, vlen d 1) else (2, vlen d 2) := by
 have e : d.isEmpty = false := by cases d with | nil => exact absurd rfl h | cons _ _ => rfl
 have e1 : Vaescc.quoted 1 d = some (vlen d 1) := rfl
 have e2 : Vaescc.quoted 2 d = some (vlen d 2) := rfl
 have e3 : Vaescc.quoted 3 d = some (vlen d 3) := by
  unfold Vaescc.quoted Vaescc.shortest
  rw [e]; rfl
 unfold Vaescc.quotes
 rw [e1, e2, e3]
 simp only [Option.getD_some]
 repeat' split
 all_goals first | rfl | (exfalso; simp at *; omega)
theorem gf_shortest_value (T : Txt P w K mg CR CP CB) : GF P w K mg base "shortest_value" (6 + 1) ["content"] (fun vs H Q _ => ∃ a d, vs = [.ref a] ∧ SqL K H a (vi d) ∧ (∀ c ∈ d, c < 256) ∧ d.length ≤ 5000 ∧ rNew [.int (Vaescc.quotes d).1, .int (Vaescc.quotes d).2] H Q) := by
 refine gf_mk T.f_shortest_value sc_shortest_value (fun _ _ _ _ _ _ => us1 fun _ => rfl) (fun vs H Q E h => ?_) (fun f cdv A outer s H vs Q E hr h => ?_)
 ·exact ln2 h fun _ _ => rfl
 ·obtain ⟨a, d, rfl, ha, hc, hz, q⟩ := h
  refine ⟨_, (pss_cons (ps_set (i := 1) sc_shortest_value.nd rfl (Or.inl rfl) (pe_ifExp (pt_truth (pv 0) (fun _ => rfl)) (pe_lst (pa_cons (pe_gc T.g_BARE rfl) (pa_cons (pe_gc T.g_BETWEEN_QUOTES rfl) (pa_cons (pe_gc T.g_BETWEEN_APOSTROPHES rfl) pa_nil)))) (pe_lst (pa_cons (pe_gc T.g_BETWEEN_QUOTES rfl) (pa_cons (pe_gc T.g_BETWEEN_APOSTROPHES rfl) pa_nil))))) (pss_cons (ps_setLc (i := 2) (own := [("kind", 4)]) rfl sc_shortest_value.nd rfl rfl (sw_true rfl rfl rfl (by decide +kernel)) (pi_list (pv 1)) (blkOk_by (N := ["content", "kinds", "lengths", "least", "kind"]) (sc := defScope st_shortest_value) (by decide +kernel)) (fun _ _ _ _ _ => (pg_name (i := 4) sc_shortest_value.nd rfl (Or.inl rfl))) (fun _ _ _ _ _ => pts_nil) (fun _ _ _ _ _ => (pe_gf (gf_value_length T) (hr.mono (by decide)) rfl (pa_cons (pv 4) (pa_cons (pv 0) pa_nil))))) (pss_cons (ps_set (i := 3) sc_shortest_value.nd rfl (Or.inl rfl) (pe_callB (cr_min rfl) rfl T.b_min boot_min (pa_cons (pv 2) pa_nil))) (pss_one (ps_ret (pe_lst (pa_cons (pe_ix ix_seq (pv 1) (pe_bm PySem.F.plainAttrs_list PySem.F.slot_list_index PySem.F.type_list_index mt_index (pv 2) (pa_cons (pv 3) pa_nil)) (fun _ _ => rfl)) (pa_cons (pv 3) pa_nil)))))))), ?_⟩
  walk_at "s"
  refine truL ha ?_
  rw [vi_isEmpty]
  by_cases hd : d = []
  ·subst hd
   refine ⟨szl, fun p hp => ?_⟩
   have s0 := same_new (o := HO.lst [V.int 1, V.int 2]) hp
   refine lcL (a := p) (xs := vi [1, 2]) (gvar rfl) (SqL.of upd_same) (LenI (upd H p (.lst (vi [1, 2]))) [] [1, 2]) (fun D hD => ⟨same_new hD, upd_same⟩) (fun D i H' hD ⟨s1, _⟩ => s1.seq (SqL.of upd_same)) ?_ ?_
   ·rintro D i y H' hD hi ⟨s1, h1⟩
    obtain ⟨k, hn, rfl⟩ := vi_get_of hi
    have hk : k ≤ 3 := by have := List.mem_of_getElem? hn; simp at this; omega
    walk_at "s"
    refine ⟨k, a, ⟨rfl, rfl⟩, [], (s0.trans s1).seq ha, hk, hc, hz, fun H2 s2 => ⟨_, s2 _ _ h1, ?_, same_upd hD (s1.trans s2), ?_⟩⟩
    ·rw [vi_length, List.length_map, List.length_take]; exact szlt (by simp; omega)
    ·rw [upd_same, take_snoc hn, List.map_append, vi_append]; rfl
   ·rintro D H' hD ⟨s1, h1⟩
    have s2 := s0.trans s1
    refine ⟨D, [2, 2], rfl, SqL.of h1, by decide, fun m hm hy => ⟨tyL h1, D, [.int 2, .int 2], .int m, 0, .int 2, rfl, rfl, SqL.of h1, rfl, rfl, rfl, ?_, ?_, ?_⟩⟩
    ·have : m = 2 := by simpa using hm
     subst this; rfl
    ·intro j z' hj; exact absurd hj (by omega)
    ·have : m = 2 := by simpa using hm
     subst this
     refine rIx_lst (j := 0) (v := .int 1) (SqL.of (s1 _ _ upd_same)) rfl rfl ⟨szl, fun p2 hp2 => q p2 _ (s2.free hp2) (s2.trans (same_new hp2)) upd_same⟩
  ·have e : d.isEmpty = false := by cases d with | nil => exact absurd rfl hd | cons _ _ => rfl
   rw [e]
   refine ⟨szl, fun p hp => ?_⟩
   have s0 := same_new (o := HO.lst [V.int 3, V.int 1, V.int 2]) hp
   refine lcL (a := p) (xs := vi [3, 1, 2]) (gvar rfl) (SqL.of upd_same) (LenI (upd H p (.lst (vi [3, 1, 2]))) d [3, 1, 2]) (fun D hD => ⟨same_new hD, upd_same⟩) (fun D i H' hD ⟨s1, _⟩ => s1.seq (SqL.of upd_same)) ?_ ?_
   ·rintro D i y H' hD hi ⟨s1, h1⟩
    obtain ⟨k, hn, rfl⟩ := vi_get_of hi
    have hk : k ≤ 3 := by have := List.mem_of_getElem? hn; simp at this; omega
    walk_at "s"
    refine ⟨k, a, ⟨rfl, rfl⟩, d, (s0.trans s1).seq ha, hk, hc, hz, fun H2 s2 => ⟨_, s2 _ _ h1, ?_, same_upd hD (s1.trans s2), ?_⟩⟩
    ·rw [vi_length, List.length_map, List.length_take]; exact szlt (by simp; omega)
    ·rw [upd_same, take_snoc hn, List.map_append, vi_append]; rfl
   ·rintro D H' hD ⟨s1, h1⟩
    have s2 := s0.trans s1
    rw [q3 d hd] at q
    have fin : ∀ (j k : Nat) (m : Nat), ([3, 1, 2] : List Nat)[j]? = some k → rNew [.int k, .int m] H Q → rIx K (V.ref p) (V.int j) H' fun x H1 => 2 ≤ sizeLine ∧ ∀ (p : Addr), H1 p = none → Q (V.ref p) (upd H1 p (HO.lst [x, .int m])) := by
     intro j k m hj q
     refine rIx_lst (j := j) (v := .int k) (SqL.of (xs := vi [3, 1, 2]) (s1 _ _ upd_same)) rfl (by rw [vi_get, hj]; rfl) ⟨szl, fun p2 hp2 => q p2 _ (s2.free hp2) (s2.trans (same_new hp2)) upd_same⟩
    refine ⟨D, [vlen d 3, vlen d 1, vlen d 2], rfl, SqL.of h1, by simp, fun m hm hy => ⟨tyL h1, ?_⟩⟩
    have hy3 := hy (vlen d 3) (by simp)
    have hy1 := hy (vlen d 1) (by simp)
    have hy2 := hy (vlen d 2) (by simp)
    have hm' : m = vlen d 3 ∨ m = vlen d 1 ∨ m = vlen d 2 := by simpa using hm
    by_cases c1 : vlen d 3 ≤ vlen d 1 ∧ vlen d 3 ≤ vlen d 2
    ·rw [if_pos c1] at q
     have em : m = vlen d 3 := by omega
     subst em
     refine ⟨D, _, .int (vlen d 3), 0, .int (vlen d 3), rfl, rfl, SqL.of h1, rfl, rfl, rfl, by simp [eqV_int], fun j z' hj => absurd hj (by omega), fin 0 3 _ rfl q⟩
    ·rw [if_neg c1] at q
     by_cases c2 : vlen d 1 ≤ vlen d 2
     ·rw [if_pos c2] at q
      have em : m = vlen d 1 := by omega
      subst em
      refine ⟨D, _, .int (vlen d 1), 1, .int (vlen d 1), rfl, rfl, SqL.of h1, rfl, rfl, rfl, by simp [eqV_int], fun j z' hj hz' => ?_, fin 1 1 _ rfl q⟩
      match j, hj with
      | 0, _ => obtain rfl : V.int (vlen d 3 : Nat) = z' := Option.some.inj hz'; rw [eqV_int]; simp; omega
     ·rw [if_neg c2] at q
      have em : m = vlen d 2 := by omega
      subst em
      refine ⟨D, _, .int (vlen d 2), 2, .int (vlen d 2), rfl, rfl, SqL.of h1, rfl, rfl, rfl, by simp [eqV_int], fun j z' hj hz' => ?_, fin 2 2 _ rfl q⟩
      match j, hj with
      | 0, _ => obtain rfl : V.int (vlen d 3 : Nat) = z' := Option.some.inj hz'; rw [eqV_int]; simp; omega
      | 1, _ => obtain rfl : V.int (vlen d 1 : Nat) = z' := Option.some.inj hz'; rw [eqV_int]; simp; omega
end
section
def rowR (l : List Int) (hi lo : Int) : Int := if l.all (fun n => decide (0 ≤ n) && decide (n ≤ hi)) then (if lo < (l.length : Int) then -2 else 0) else -1
def RowI (H : Hp) (a : Addr) (l : List Int) (hi lo : Int) (i : Nat) (σ : L2.St) (H' : Hp) : Prop := H' = H ∧ (∃ o, σ = [some (.ref a), some (.int hi), some (.int lo), o]) ∧ (l.take i).all (fun n => decide (0 ≤ n) && decide (n ≤ hi)) = true
theorem ints_get {l : List Int} {i : Nat} {x : V} (h : (l.map V.int)[i]? = some x) : ∃ n : Int, l[i]? = some n ∧ x = .int n := by
 rw [List.getElem?_map] at h
 cases e : l[i]? with
 | none => rw [e] at h; cases h
 | some n => rw [e] at h; exact ⟨n, rfl, (Option.some.inj h).symm⟩
theorem gf_refusal_of_row (T : Txt P w K mg CR CP CB) : GF P w K mg base "refusal_of_row" (0 + 1) ["row", "highest", "longest"] (fun vs H Q _ => ∃ a l hi lo, vs = [.ref a, .int hi, .int lo] ∧ SqL K H a (l.map V.int) ∧ Q (.int (rowR l hi lo)) H) := by
 refine gf_mk T.f_refusal_of_row sc_refusal_of_row (fun _ _ _ _ _ _ => us3 fun _ _ _ => rfl) (fun vs H Q E h => ?_) (fun f cdv A outer s H vs Q E hr h => ?_)
 ·exact ln4 h fun _ _ _ _ => rfl
 ·obtain ⟨a, l, hi, lo, rfl, ha, q⟩ := h
  refine ⟨_, (pss_cons (ps_for PassesOwn.never rfl (pi_list (pv 0)) (pg_name (i := 3) sc_refusal_of_row.nd rfl (Or.inl rfl)) (pss_one (ps_if (PW.pt (pw_or (pt_cmpR op_lt (pv 3) pe_int (nomark _)) (pw_or1 (pt_cmpR op_gt (pv 3) (pv 1) (nomark _))))) (pss_one (ps_ret (pe_gc T.g_OUT_OF_RANGE rfl))) pss_nil))) (pss_one (ps_ret (pe_ifExp (pt_cmpR op_gt (pe_callB call_len rfl T.b_len PySem.boot_len (pa_cons (pv 0) pa_nil)) (pv 2) (nomark _)) (pe_gc T.g_TOO_MANY_NUMBERS rfl) (pe_gc T.g_NOT_REFUSED rfl))))), ?_⟩
  walk_at "s"
  refine ⟨_, rfl, a, rfl, ⟨_, ha⟩, for_list (K := K) (a := a) (xs := l.map V.int) (RowI H a l hi lo) ⟨rfl, ⟨none, rfl⟩, rfl⟩ (fun i σ H' _ ⟨e, _⟩ => by rw [e]; exact ha) ?_ ?_⟩
  ·rintro i y σ H' hi' ⟨rfl, ⟨o, rfl⟩, h2⟩
   obtain ⟨n, hn, rfl⟩ := ints_get hi'
   have e : ¬ (0 ≤ n ∧ n ≤ hi) → Q (.int (-1)) H' := by
    intro hb
    unfold rowR at q
    have hf : ¬ l.all (fun n => decide (0 ≤ n) && decide (n ≤ hi)) = true := by
     intro hall
     have := List.all_eq_true.mp hall n (List.mem_of_getElem? hn)
     simp at this
     exact hb this
    rw [if_neg hf] at q
    exact q
   walk_at "s"
   have g : 0 ≤ n → n ≤ hi → RowI H' a l hi lo (i + 1) [some (.ref a), some (.int hi), some (.int lo), some (.int n)] H' := by
    intro h3 h4
    refine ⟨rfl, ⟨_, rfl⟩, ?_⟩
    rw [take_snoc hn, List.all_append, h2]
    simp [h3, h4]
   repeat' split
   all_goals first | (exact e (by omega)) | (exact g (by omega) (by omega))
  ·rintro σ H' ⟨rfl, ⟨o, rfl⟩, h2⟩
   rw [List.length_map, List.take_length] at h2
   unfold rowR at q
   rw [if_pos h2] at q
   walk_at "s"
   refine ⟨_, lenv ha, ?_⟩
   rw [List.length_map]
   split
   ·rw [if_pos (by assumption)] at q; exact q
   ·rw [if_neg (by assumption)] at q; exact q
theorem gf_refusal_of_bytes (T : Txt P w K mg CR CP CB) : GF P w K mg base "refusal_of_bytes" (1 + 1) ["row"] (fun vs H Q _ => ∃ a l, vs = [.ref a] ∧ SqL K H a (l.map V.int) ∧ Q (.int (rowR l 255 4096)) H) := by
 refine gf_mk T.f_refusal_of_bytes sc_refusal_of_bytes (fun _ _ _ _ _ _ => us1 fun _ => rfl) (fun vs H Q E h => ?_) (fun f cdv A outer s H vs Q E hr h => ?_)
 ·exact ln2 h fun _ _ => rfl
 ·obtain ⟨a, l, rfl, ha, q⟩ := h
  refine ⟨_, (pss_one (ps_ret (pe_gf (gf_refusal_of_row T) (hr.mono (by decide)) rfl (pa_cons (pv 0) (pa_cons (pe_gc T.g_HIGHEST_BYTE rfl) (pa_cons (pe_gc T.g_LONGEST_TEXT rfl) pa_nil)))))), ?_⟩
  walk_at "s"
  exact ⟨a, l, 255, 4096, ⟨rfl, rfl, rfl⟩, ha, q⟩
theorem gf_refusal_of_writing (T : Txt P w K mg CR CP CB) : GF P w K mg base "refusal_of_writing" (2 + 1) ["kind", "row"] (fun vs H Q _ => ∃ a l k, vs = [.int k, .ref a] ∧ SqL K H a (l.map V.int) ∧ Q (.int (if 0 ≤ k ∧ k ≤ 3 then rowR l 255 4096 else -5)) H) := by
 refine gf_mk T.f_refusal_of_writing sc_refusal_of_writing (fun _ _ _ _ _ _ => us2 fun _ _ => rfl) (fun vs H Q E h => ?_) (fun f cdv A outer s H vs Q E hr h => ?_)
 ·exact ln3 h fun _ _ _ => rfl
 ·obtain ⟨a, l, k, rfl, ha, q⟩ := h
  refine ⟨_, (pss_one (ps_ret (pe_ifExp (pt_cmp (pc_inC [0, 1, 2, 3] T.g_KINDS rfl (pv 0))) (pe_gf (gf_refusal_of_bytes T) (hr.mono (by decide)) rfl (pa_cons (pv 1) pa_nil)) (pe_gc T.g_NO_SUCH_KIND rfl)))), ?_⟩
  walk_at "s"
  have e : k ∈ [0, 1, 2, 3] ↔ (0 ≤ k ∧ k ≤ 3) := by simp; omega
  simp only [e]
  split
  ·rw [if_pos (by assumption)] at q; exact ⟨l, ha, q⟩
  ·rw [if_neg (by assumption)] at q; exact q
theorem rowR_zero {l : List Int} {hi lo : Int} (h : rowR l hi lo = 0) : (∀ n ∈ l, 0 ≤ n ∧ n ≤ hi) ∧ (l.length : Int) ≤ lo := by
 unfold rowR at h
 split at h
 ·rename_i h1
  split at h
  ·omega
  ·refine ⟨fun n hn => ?_, by omega⟩
   have := List.all_eq_true.mp h1 n hn
   simpa using this
 ·omega
def MrkI (H : Hp) (D : Addr) (l : List Int) (i : Nat) (H' : Hp) : Prop := Same H H' ∧ ∃ m : List V, H' D = some (.lst m) ∧ m.length = (((l.take i).map Int.toNat).filter Vaesca.isMark).length
theorem gf_refusal_of_marked (T : Txt P w K mg CR CP CB) : GF P w K mg base "refusal_of_marked" (1 + 1) ["row"] (fun vs H Q _ => ∃ a l, vs = [.ref a] ∧ SqL K H a (l.map V.int) ∧ l.length ≤ 5000 ∧ ∀ H', Same H H' → Q (.int (if rowR l 65535 4096 = 0 ∧ 256 < ((l.map Int.toNat).filter Vaesca.isMark).length then -9 else rowR l 65535 4096)) H') := by
 refine gf_mk T.f_refusal_of_marked sc_refusal_of_marked (fun _ _ _ _ _ _ => us1 fun _ => rfl) (fun vs H Q E h => ?_) (fun f cdv A outer s H vs Q E hr h => ?_)
 ·exact ln2 h fun _ _ => rfl
 ·obtain ⟨a, l, rfl, ha, hz, q⟩ := h
  refine ⟨_, (pss_cons (ps_set (i := 1) sc_refusal_of_marked.nd rfl (Or.inl rfl) (pe_gf (gf_refusal_of_row T) (hr.mono (by decide)) rfl (pa_cons (pv 0) (pa_cons (pe_gc T.g_HIGHEST_SIGN rfl) (pa_cons (pe_gc T.g_LONGEST_TEXT rfl) pa_nil))))) (pss_cons (ps_if (PW.pt (pw_and (pt_cmpR (op_eqW hr.units) (pv 1) (pe_gc T.g_NOT_REFUSED rfl) (nomark _)) (pw_and1 (pt_cmpR op_gt (pe_callB call_len rfl T.b_len PySem.boot_len (pa_cons (pe_lc (own := [("sign", 2)]) rfl sc_refusal_of_marked.nd (pi_list (pv 0)) (blkOk_by (N := ["row", "refusal", "sign"]) (sc := defScope st_refusal_of_marked) (by decide +kernel)) (fun _ _ _ _ _ => (pg_name (i := 2) sc_refusal_of_marked.nd rfl (Or.inl rfl))) (fun _ _ _ _ _ => (pts_one (pt_truthK K rfl (pe_gf (gf_is_mark T) (hr.mono (by decide)) rfl (pa_cons (pv 2) pa_nil)) (fun _ => rfl)))) (fun _ _ _ _ _ => (pv 2))) pa_nil)) (pe_gc T.g_MOST_MARKS rfl) (nomark _))))) (pss_one (ps_ret (pe_gc T.g_TOO_MANY_MARKS rfl))) pss_nil) (pss_one (ps_ret (pv 1))))), ?_⟩
  walk_at "s"
  refine ⟨a, l, 65535, 4096, ⟨rfl, rfl, rfl⟩, ha, ?_⟩
  by_cases e : rowR l 65535 4096 = 0
  ·rw [if_pos e]
   simp only [e, true_and] at q ⊢
   refine lcL (gvar rfl) ha (fun D i H' => MrkI H D l i H') (fun D hD => ⟨same_new hD, [], upd_same, rfl⟩) (fun D i H' hD ⟨s1, _⟩ => s1.seq ha) ?_ ?_
   ·rintro D i y H' hD hi ⟨s1, m, h1, h2⟩
    obtain ⟨n, hn, rfl⟩ := ints_get hi
    have hn0 := (rowR_zero e).1 n (List.mem_of_getElem? hn)
    obtain ⟨c, rfl⟩ : ∃ c : Nat, n = (c : Int) := ⟨n.toNat, by omega⟩
    walk_at "s"
    have h3 : (((l.take (i + 1)).map Int.toNat).filter Vaesca.isMark).length = m.length + (if Vaesca.isMark c = true then 1 else 0) := by
     rw [take_snoc hn, List.map_append, List.filter_append, List.length_append, h2]
     congr 1
     simp only [List.map_cons, List.map_nil, Int.toNat_natCast]
     split
     ·rename_i z; simp [List.filter_cons, z]
     ·rename_i z; simp [List.filter_cons, z]
    have hm : m.length ≤ 5000 := by
     rw [h2]
     refine Nat.le_trans (List.length_filter_le _ _) ?_
     rw [List.length_map, List.length_take]; omega
    split
    ·rename_i z
     rw [if_pos z] at h3
     refine ⟨m, h1, szlt, fun b o e => ?_, _, upd_same, by rw [h3]; simp⟩
     rw [upd_ne (ne_of_none e hD)]; exact s1 _ _ e
    ·rename_i z
     rw [if_neg z] at h3
     exact ⟨s1, m, h1, by rw [h3]; rfl⟩
   ·rintro D H' hD ⟨s1, m, h1, h2⟩
    rw [List.length_map, List.take_length] at h2
    refine ⟨_, lenv (SqL.of h1), ?_⟩
    have q2 := q H' s1
    rw [h2]
    by_cases z : 256 < ((l.map Int.toNat).filter Vaesca.isMark).length
    ·rw [if_pos z] at q2
     rw [if_pos (by omega)]; exact q2
    ·rw [if_neg z] at q2
     rw [if_neg (by omega)]; exact q2
  ·rw [if_neg e]
   have q2 := q H (Same.refl H)
   rw [if_neg (fun z => e z.1)] at q2
   exact q2
end
section
def bkF (kind count : Int) (content : Addr) (within : Bool) (body bounds : Addr) (fault : Int) : List (Str × V) :=
 [("kind", .int kind), ("count", .int count), ("content", .ref content), ("within", .bl within), ("body", .ref body), ("bounds", .ref bounds), ("fault", .int fault)]
section
variable {k c : Int} {C b o : Addr} {w : Bool} {f : Int}
theorem bk_len : (bkF k c C w b o f).length < 1000 := by show 7 < 1000; decide
end
def fk : Option (Nat × Nat) → Int
 | none => 0
 | some (k, _) => k
structure BkA (C : Addr) (H0 H : Hp) (r dx aC aB aO : Addr) (k : Nat) (s : Vaescc.Back) (bs : List Nat) : Prop where
 ins : H r = some (.ins C dx (bkF k s.place aC s.body.isSome aB aO (fk s.wrong)))
 con : H aC = some (.lst (vi s.content))
 bod : H aB = some (.lst (vi (s.body.getD [])))
 bnd : H aO = some (.lst (vi bs))
 n1 : aC ≠ aB
 n2 : aC ≠ aO
 n3 : aB ≠ aO
 z0 : H0 r = none
 z1 : H0 aC = none
 z2 : H0 aB = none
 z3 : H0 aO = none
 sam : Same H0 H
section
variable {C : Addr} {H0 H : Hp} {r dx aC aB aO : Addr} {k : Nat} {s : Vaescc.Back} {bs : List Nat}
theorem BkA.upIns (h : BkA C H0 H r dx aC aB aO k s bs) (s' : Vaescc.Back) (e1 : s'.content = s.content) (e2 : s'.body.getD [] = s.body.getD []) :
  BkA C H0 (upd H r (.ins C dx (bkF k s'.place aC s'.body.isSome aB aO (fk s'.wrong)))) r dx aC aB aO k s' bs :=
 ⟨upd_same, by rw [upd_ne (ne_il h.ins h.con), e1]; exact h.con, by rw [upd_ne (ne_il h.ins h.bod), e2]; exact h.bod, by rw [upd_ne (ne_il h.ins h.bnd)]; exact h.bnd, h.n1, h.n2, h.n3, h.z0, h.z1, h.z2, h.z3, same_upd h.z0 h.sam⟩
theorem BkA.upCon (h : BkA C H0 H r dx aC aB aO k s bs) (t : List Nat) : BkA C H0 (upd H aC (.lst (vi t))) r dx aC aB aO k { s with content := t } bs :=
 ⟨by rw [upd_ne (ne_il h.ins h.con).symm]; exact h.ins, upd_same, by rw [upd_ne h.n1.symm]; exact h.bod, by rw [upd_ne h.n2.symm]; exact h.bnd, h.n1, h.n2, h.n3, h.z0, h.z1, h.z2, h.z3, same_upd h.z1 h.sam⟩
theorem BkA.upBnd (h : BkA C H0 H r dx aC aB aO k s bs) (t : List Nat) : BkA C H0 (upd H aO (.lst (vi t))) r dx aC aB aO k s t :=
 ⟨by rw [upd_ne (ne_il h.ins h.bnd).symm]; exact h.ins, by rw [upd_ne h.n2]; exact h.con, by rw [upd_ne h.n3]; exact h.bod, upd_same, h.n1, h.n2, h.n3, h.z0, h.z1, h.z2, h.z3, same_upd h.z3 h.sam⟩
theorem BkA.upBod (h : BkA C H0 H r dx aC aB aO k s bs) {b : List Nat} (hb : s.body = some b) (t : List Nat) : BkA C H0 (upd H aB (.lst (vi t))) r dx aC aB aO k { s with body := some t } bs :=
 ⟨by rw [upd_ne (ne_il h.ins h.bod).symm]; have := h.ins; rw [hb] at this; exact this, by rw [upd_ne h.n1]; exact h.con, upd_same, by rw [upd_ne h.n3.symm]; exact h.bnd, h.n1, h.n2, h.n3, h.z0, h.z1, h.z2, h.z3, same_upd h.z2 h.sam⟩
theorem BkA.newBod (h : BkA C H0 H r dx aC aB aO k s bs) {p : Addr} (hp : H p = none) (s' : Vaescc.Back) (e1 : s'.content = s.content) (e2 : s'.body.getD [] = []) :
  BkA C H0 (upd (upd H p (.lst [])) r (.ins C dx (bkF k s'.place aC s'.body.isSome p aO (fk s'.wrong)))) r dx aC p aO k s' bs := by
 have n : ∀ {a u}, H a = some u → a ≠ p := fun e => ne_of_none e hp
 refine ⟨upd_same, ?_, ?_, ?_, n h.con, h.n2, (n h.bnd).symm, h.z0, h.z1, h.sam.free hp, h.z3, same_upd h.z0 (same_upd (h.sam.free hp) h.sam)⟩
 ·rw [upd_ne (ne_il h.ins h.con), upd_ne (n h.con), e1]; exact h.con
 ·rw [upd_ne (n h.ins).symm, upd_same, e2]; rfl
 ·rw [upd_ne (ne_il h.ins h.bnd), upd_ne (n h.bnd)]; exact h.bnd
theorem BkA.same (h : BkA C H0 H r dx aC aB aO k s bs) {H' : Hp} (e : Same H H') : BkA C H0 H' r dx aC aB aO k s bs :=
 ⟨e _ _ h.ins, e _ _ h.con, e _ _ h.bod, e _ _ h.bnd, h.n1, h.n2, h.n3, h.z0, h.z1, h.z2, h.z3, h.sam.trans e⟩
end
def BK (C : Addr) (H0 H : Hp) (r : Addr) (k : Nat) (s : Vaescc.Back) (bs : List Nat) : Prop := ∃ dx aC aB aO, BkA C H0 H r dx aC aB aO k s bs
def inB1 (s : Vaescc.Back) (b : List Nat) (c : Nat) : Vaescc.Back :=
 if c = 59 then match Vaesca.byteOf b with
  | some x => { s with content := s.content ++ [x], body := none }
  | none => { s with wrong := some (4, s.place) }
 else if ((Vaesca.isSmall c || Vaesca.isGreat c || Vaesca.isDigit c || c == 35) && decide (b.length < 4)) = true then { s with body := some (b ++ [c]) }
 else { s with wrong := some (4, s.place) }
theorem gm_Back_take_in_reference (T : Txt P w K mg CR CP CB) : GM P w K mg base CB "take_in_reference" (6 + 1) ["self", "byte"] (fun vs H Q _ => ∃ r c k s b bs H0, vs = [.ref r, .int (c : Nat)] ∧ BK CB H0 H r k s bs ∧ s.body = some b ∧ b.length ≤ 4 ∧ s.wrong = none ∧ s.content.length ≤ 10000 ∧ ∀ H', BK CB H0 H' r k (inB1 s b c) bs → Q .non H') := by
 refine gm_mk T.k_Back T.mf_Back_take_in_reference sc_Back_take_in_reference (fun _ _ _ _ _ _ => us2 fun _ _ => rfl) (fun vs H Q E h => ?_) (fun f cdv A outer s H vs Q E hr h => ?_)
 ·exact ln7 h fun _ _ _ _ _ _ _ => rfl
 ·obtain ⟨r, c, k, s, b, bs, H0, rfl, ⟨dx, aC, aB, aO, B⟩, hb, hl, hw, hz, q⟩ := h
  have hI := B.ins
  have hB := B.bod
  rw [hb] at hB
  refine ⟨_, (pss_cons (ps_set (i := 2) sc_Back_take_in_reference.nd rfl (Or.inl rfl) (pe_gf (gf_reference_step T) (hr.mono (by decide)) rfl (pa_cons (pe_fld (pv 0) rfl) (pa_cons (pv 1) pa_nil)))) (pss_one (ps_if (pt_cmpR (op_eqW hr.units) (pv 2) (pe_gc T.g_WRONG rfl) (nomark _)) (pss_one (ps_fld (pv 0) (pe_gc T.g_WRONG_REFERENCE rfl) rfl)) (pss_one (ps_if (pt_cmpR (op_neW hr.units) (pv 2) (pe_gc T.g_GOES_ON rfl) (nomark _)) (pss_cons (ps_expr (pe_bm PySem.F.plainAttrs_list PySem.F.slot_list_append PySem.F.type_list_append mt_append (pe_fld (pv 0) rfl) (pa_cons (pv 2) pa_nil))) (pss_cons (ps_fld (pv 0) (pe_lst pa_nil) rfl) (pss_one (ps_fld (pv 0) pe_bl rfl)))) pss_nil))))), ?_⟩
  walk_at "s"
  refine ⟨_, _, _, hI, T.k_Back, T.n_Back_body, _, rfl, aB, b, c, ⟨rfl, rfl⟩, hB, hl, ?_⟩
  by_cases h59 : c = 59
  ·rw [if_pos h59]
   intro H1 s1
   have B1 := B.same s1
   cases hx : Vaesca.byteOf b with
   | none =>
    have e : inB1 s b c = { s with wrong := some (4, s.place) } := by simp [inB1, h59, hx]
    rw [if_pos (by rfl)]
    refine ⟨_, _, _, B1.ins, T.k_Back, T.n_Back_fault, bk_len, q _ ⟨dx, aC, aB, aO, ?_⟩⟩
    rw [e]
    exact B1.upIns { s with wrong := some (4, s.place) } rfl rfl
   | some x =>
    have e : inB1 s b c = { s with content := s.content ++ [x], body := none } := by simp [inB1, h59, hx]
    rw [if_neg (by show ¬ ((x : Int) = -2); omega), if_pos (by show (!decide ((x : Int) = -1)) = true; simp)]
    refine ⟨_, _, _, B1.ins, T.k_Back, T.n_Back_content, _, rfl, tyL B1.con, _, rfl, _, B1.con, (by rw [vi_length]; exact szlt), szl, fun p hp => ?_⟩
    have e2 : vi s.content ++ [V.int (Mt.refB (some x))] = vi (s.content ++ [x]) := (vi_snoc s.content x).symm
    rw [e2] at hp ⊢
    have B2 := B1.upCon (s.content ++ [x])
    have B3 := B2.newBod hp { s with content := s.content ++ [x], body := some [] } rfl rfl
    have B4 := B3.upIns { s with content := s.content ++ [x], body := none } rfl rfl
    refine ⟨_, _, _, upd_of hp B2.ins, T.k_Back, T.n_Back_body, bk_len, ?_⟩
    have hs : s.body.isSome = true := by rw [hb]; rfl
    have eH : (upd (upd (upd H1 aC (HO.lst (vi (s.content ++ [x])))) p (HO.lst [])) r (HO.ins CB dx (putF "body" (V.ref p) (bkF ↑k ↑s.place aC s.body.isSome aB aO (fk s.wrong))))) = (upd (upd (upd H1 aC (HO.lst (vi (s.content ++ [x])))) p (HO.lst [])) r (HO.ins CB dx (bkF ↑k ↑s.place aC true p aO (fk s.wrong)))) := by rw [hs]; rfl
    rw [eH]
    exact ⟨_, _, _, B3.ins, T.k_Back, T.n_Back_within, bk_len, q _ ⟨dx, aC, p, aO, by rw [e]; exact B4⟩⟩
  ·rw [if_neg h59]
   by_cases h2 : ((Vaesca.isSmall c || Vaesca.isGreat c || Vaesca.isDigit c || c == 35) && decide (b.length < 4)) = true
   ·rw [if_pos h2, if_neg (by decide), if_neg (by decide)]
    have e : inB1 s b c = { s with body := some (b ++ [c]) } := by unfold inB1; rw [if_neg h59, if_pos h2]
    refine q _ ⟨dx, aC, aB, aO, ?_⟩
    rw [e]
    exact B.upBod hb (b ++ [c])
   ·rw [if_neg h2]
    have e : inB1 s b c = { s with wrong := some (4, s.place) } := by unfold inB1; rw [if_neg h59, if_neg h2]
    refine ⟨_, _, _, hI, T.k_Back, T.n_Back_fault, bk_len, q _ ⟨dx, aC, aB, aO, ?_⟩⟩
    rw [e]
    exact B.upIns { s with wrong := some (4, s.place) } rfl rfl
theorem gm_Back_take (T : Txt P w K mg CR CP CB) : GM P w K mg base CB "take" (7 + 1) ["self", "byte"] (fun vs H Q _ => ∃ r c k s bs H0, vs = [.ref r, .int (c : Nat)] ∧ BK CB H0 H r k s bs ∧ k ≤ 3 ∧ c < 256 ∧ (∀ b, s.body = some b → b.length ≤ 4) ∧ s.wrong = none ∧ s.content.length ≤ 10000 ∧ bs.length ≤ 10000 ∧ ∀ H', BK CB H0 H' r k (Vaescc.eatBack k s c) (if (Vaescc.eatBack k s c).wrong.isSome || (Vaescc.eatBack k s c).body.isSome then bs else bs ++ [s.place + 1]) → Q .non H') := by
 refine gm_mk T.k_Back T.mf_Back_take sc_Back_take (fun _ _ _ _ _ _ => us2 fun _ _ => rfl) (fun vs H Q E h => ?_) (fun f cdv A outer s H vs Q E hr h => ?_)
 ·exact ln6 h fun _ _ _ _ _ _ => rfl
 ·obtain ⟨r, c, k, s, bs, H0, rfl, ⟨dx, aC, aB, aO, B⟩, hk, hc, hb, hw, hz, hz2, q⟩ := h
  have hI := B.ins
  refine ⟨_, (pss_cut (ps_if (pt_truth (pe_fld (pv 0) rfl) (fun _ => rfl)) (pss_one (ps_expr (pe_gm (pv 0) (gm_Back_take_in_reference T) (hr.mono (by decide)) (pa_cons (pv 1) pa_nil)))) (pss_one (ps_if (pt_cmpR (op_eqW hr.units) (pv 1) (pe_gc T.g_AND rfl) (nomark _)) (pss_one (ps_fld (pv 0) pe_bl rfl)) (pss_one (ps_if (pt_truth (pe_gf (gf_may_stand T) (hr.mono (by decide)) rfl (pa_cons (pe_fld (pv 0) rfl) (pa_cons (pv 1) pa_nil))) (fun _ => rfl)) (pss_one (ps_expr (pe_bm PySem.F.plainAttrs_list PySem.F.slot_list_append PySem.F.type_list_append mt_append (pe_fld (pv 0) rfl) (pa_cons (pv 1) pa_nil)))) (pss_one (ps_fld (pv 0) (pe_gc T.g_UNEXPECTED rfl) rfl))))))) (pss_one (ps_if (pt_cmpR (op_eqW hr.units) (pe_fld (pv 0) rfl) pe_int (nomark _)) (pss_cons (ps_fldaug (pv 0) pe_int in_add) (pss_one (ps_if (pt_not (pt_truth (pe_fld (pv 0) rfl) (fun _ => rfl))) (pss_one (ps_expr (pe_bm PySem.F.plainAttrs_list PySem.F.slot_list_append PySem.F.type_list_append mt_append (pe_fld (pv 0) rfl) (pa_cons (pe_fld (pv 0) rfl) pa_nil)))) pss_nil))) pss_nil))), ?_⟩
  refine ⟨fun σ' H' => σ' = [some (.ref r), some (.int c)] ∧ ∃ s1, BK CB H0 H' r k s1 bs ∧ (∀ w, s1.wrong = some w → w.1 = 1 ∨ w.1 = 4) ∧ s1.place = s.place ∧ Vaescc.eatBack k s c = (if s1.wrong.isSome then s1 else { s1 with place := s1.place + 1 }), ?_, ?_⟩
  ·walk_at "s"
   refine ⟨_, _, _, hI, T.k_Back, T.n_Back_within, _, rfl, ?_⟩
   rw [tru_bl]
   cases hbo : s.body with
   | some b =>
    rw [if_pos (show (some b).isSome = true from rfl)]
    refine ⟨_, _, hI, rfl, r, c, ⟨rfl, rfl⟩, k, s, b, bs, H0, ⟨dx, aC, aB, aO, B⟩, hbo, hb b hbo, hw, hz, fun H1 B1 => ⟨_, B1, ?_, ?_, ?_⟩⟩
    ·unfold inB1
     repeat' split
     all_goals simp [hw]
    ·unfold inB1
     repeat' split
     all_goals rfl
    ·unfold Vaescc.eatBack
     rw [hw, hbo]
     show Vaescc.inBody s b c = _
     unfold Vaescc.inBody inB1
     by_cases h59 : c = 59
     ·simp only [h59, beq_self_eq_true, if_true]
      cases Vaesca.byteOf b with
      | none => simp
      | some x => simp [hw]
     ·have h59' : (c == 59) = false := by simp [h59]
      simp only [h59', Bool.false_eq_true, if_false, h59]
      have key : ((Vaesca.isSmall c || Vaesca.isGreat c || Vaesca.isDigit c || c == 35) && decide (List.length b < Vaesca.BODY)) = ((Vaesca.isSmall c || Vaesca.isGreat c || Vaesca.isDigit c || c == 35) && decide (List.length b < 4)) := rfl
      rw [key]
      generalize ((Vaesca.isSmall c || Vaesca.isGreat c || Vaesca.isDigit c || c == 35) && decide (List.length b < 4)) = z
      cases z <;> simp [hw]
   | none =>
    rw [if_neg (by decide)]
    have hbo' : s.body.isSome = false := by rw [hbo]; rfl
    split
    ·rename_i h38
     have h38' : c = 38 := by omega
     refine ⟨_, _, _, hI, T.k_Back, T.n_Back_within, bk_len, { s with body := some [] }, ⟨dx, aC, aB, aO, ?_⟩, by simp [hw], rfl, ?_⟩
     ·have := B.upIns { s with body := some [] } rfl (by rw [hbo]; rfl)
      exact this
     ·unfold Vaescc.eatBack
      simp [hw, hbo, h38']
    ·rename_i h38
     have h38' : ¬ c = 38 := by omega
     refine ⟨_, _, _, hI, T.k_Back, T.n_Back_kind, _, rfl, k, c, ⟨rfl, rfl⟩, hk, hc, ?_⟩
     split
     ·rename_i hm
      refine ⟨_, _, _, hI, T.k_Back, T.n_Back_content, _, rfl, tyL B.con, _, rfl, _, B.con, (by rw [vi_length]; exact szlt), { s with content := s.content ++ [c] }, ⟨dx, aC, aB, aO, ?_⟩, by simp [hw], rfl, ?_⟩
      ·rw [← vi_snoc]; exact B.upCon (s.content ++ [c])
      ·unfold Vaescc.eatBack
       simp [hw, hbo, h38', hm]
     ·rename_i hm
      refine ⟨_, _, _, hI, T.k_Back, T.n_Back_fault, bk_len, { s with wrong := some (1, s.place) }, ⟨dx, aC, aB, aO, ?_⟩, by simp, rfl, ?_⟩
      ·exact B.upIns { s with wrong := some (1, s.place) } rfl rfl
      ·unfold Vaescc.eatBack
       simp [hw, hbo, h38', hm]
  ·rintro σ' H' ⟨rfl, s1, ⟨dx, aC, aB, aO, B⟩, hk1, hp, e⟩
   have hI := B.ins
   walk_at "s"
   rw [e] at q
   refine ⟨_, _, _, hI, T.k_Back, T.n_Back_fault, _, rfl, ?_⟩
   rw [rEqU_int]
   refine ⟨_, rfl, ?_⟩
   cases hw1 : s1.wrong with
   | some w1 =>
    have hne : ¬ (fk (some w1) = 0) := by
     have := hk1 w1 hw1
     show ¬ ((w1.1 : Int) = 0)
     omega
    rw [if_neg (by simp [hne])]
    simp only [hw1, Option.isSome_some, if_true, Bool.true_or] at q
    exact q H' ⟨dx, aC, aB, aO, B⟩
   | none =>
    rw [if_pos (by rfl)]
    simp only [hw1, Option.isSome_none, Bool.false_eq_true, if_false, Bool.false_or] at q
    have B2 := B.upIns { s1 with place := s1.place + 1 } rfl rfl
    simp only [hw1] at B2
    rw [hw1] at hI
    refine ⟨_, _, _, hI, T.k_Back, T.n_Back_count, _, rfl, _, rfl, _, _, hI, bk_len, ?_⟩
    have hI2 := B2.ins
    refine ⟨_, _, _, hI2, T.k_Back, T.n_Back_within, _, rfl, ?_⟩
    rw [tru_bl]
    cases hbo : s1.body with
    | some b =>
     rw [if_neg (by show ¬ ((!true) = true); decide)]
     rw [hbo] at q B2
     exact q _ ⟨dx, aC, aB, aO, B2⟩
    | none =>
     rw [if_pos (by rfl)]
     rw [hbo] at q B2 hI2
     simp only [Option.isSome_none, Bool.false_eq_true, if_false] at q
     refine ⟨_, _, _, hI2, T.k_Back, T.n_Back_bounds, _, rfl, tyL B2.bnd, _, _, _, hI2, T.k_Back, T.n_Back_count, _, rfl, ?_⟩
     refine ⟨_, rfl, _, B2.bnd, (by rw [vi_length]; exact szlt), q _ ⟨dx, aC, aB, aO, ?_⟩⟩
     have B3 := B2.upBnd (bs ++ [s.place + 1])
     rw [vi_snoc, ← hp] at B3
     rw [← hp]
     exact B3
theorem gm_Back_finish (T : Txt P w K mg CR CP CB) : GM P w K mg base CB "finish" (0 + 1) ["self"] (fun vs H Q _ => ∃ r k s bs H0, vs = [.ref r] ∧ BK CB H0 H r k s bs ∧ s.wrong = none ∧ (s.body.isSome = true ∨ (k = 3 ∧ s.place = 0) → ∀ H', BK CB H0 H' r k { s with wrong := some (7, s.place) } bs → Q .non H') ∧ (¬ (s.body.isSome = true ∨ (k = 3 ∧ s.place = 0)) → ∀ H', BK CB H0 H' r k s bs → Q .non H')) := by
 refine gm_mk T.k_Back T.mf_Back_finish sc_Back_finish (fun _ _ _ _ _ _ => us1 fun _ => rfl) (fun vs H Q E h => ?_) (fun f cdv A outer s H vs Q E hr h => ?_)
 ·exact ln5 h fun _ _ _ _ _ => rfl
 ·obtain ⟨r, k, s, bs, H0, rfl, ⟨dx, aC, aB, aO, B⟩, hw, q1, q2⟩ := h
  have hI := B.ins
  have g1 : s.body.isSome = true ∨ (k = 3 ∧ s.place = 0) → ∃ x x_1 x_2, H r = some (HO.ins x x_1 x_2) ∧ Cls K x ∧ NoAttr K x "fault" ∧ x_2.length < 1000 ∧ Q V.non (upd H r (HO.ins x x_1 (putF "fault" (V.int 7) x_2))) := fun z =>
   ⟨_, _, _, hI, T.k_Back, T.n_Back_fault, bk_len, q1 z _ ⟨dx, aC, aB, aO, B.upIns { s with wrong := some (7, s.place) } rfl rfl⟩⟩
  refine ⟨_, (pss_one (ps_if (PW.pt (pw_or (pt_truth (pe_fld (pv 0) rfl) (fun _ => rfl)) (pw_or1 (PW.pt (pw_and (pt_cmpR (op_eqW hr.units) (pe_fld (pv 0) rfl) (pe_gc T.g_BARE rfl) (nomark _)) (pw_and1 (pt_cmpR (op_eqW hr.units) (pe_fld (pv 0) rfl) pe_int (nomark _)))))))) (pss_one (ps_fld (pv 0) (pe_gc T.g_UNFINISHED rfl) rfl)) pss_nil)), ?_⟩
  walk_at "s"
  refine ⟨_, _, _, hI, T.k_Back, T.n_Back_within, _, rfl, ?_⟩
  rw [tru_bl]
  split
  ·rename_i z; exact g1 (.inl z)
  ·rename_i z
   refine ⟨_, _, _, hI, T.k_Back, T.n_Back_kind, _, rfl, ?_⟩
   rw [rEqU_int]
   refine ⟨_, rfl, ?_⟩
   split
   ·rename_i z2
    refine ⟨_, _, _, hI, T.k_Back, T.n_Back_count, _, rfl, ?_⟩
    rw [rEqU_int]
    refine ⟨_, rfl, ?_⟩
    split
    ·rename_i z3; simp at z2 z3; exact g1 (.inr ⟨by omega, by omega⟩)
    ·rename_i z3; simp at z2 z3; exact q2 (by simp [z]; omega) H ⟨dx, aC, aB, aO, B⟩
   ·rename_i z2; simp at z2; exact q2 (by simp [z]; omega) H ⟨dx, aC, aB, aO, B⟩
theorem ow_c {K : PySem.W.Frag} {H0 Fr H : Hp} {r C dx : Addr} {fs : List (Str × V)} {tl : List (Addr × HO)} {D : Ends} {σ : L2.St} {f : Str} {v : V} {n : Nat} (o : Ow H0 Fr H ((r, .ins C dx fs) :: tl)) (hl : fs.length ≤ n) (hn : n < 1000) (hσ : σ[0]? = some (some (.ref r))) (c : Cls K C) (na : NoAttr K C f)
  (k : ∀ H', Ow H0 Fr H' ((r, .ins C dx (putF f v fs)) :: tl) → (putF f v fs).length ≤ n + 1 → D.nx σ H') : sFld K (tVar 0) (tC v) f D σ H :=
 ⟨_, hσ, r, C, dx, fs, rfl, o.at' (i := 0) rfl, c, na, Nat.lt_of_le_of_lt hl hn, k _ (o.write 0 rfl _) (Nat.le_trans (length_putF f v fs) (Nat.succ_le_succ hl))⟩
theorem ow_l {K : PySem.W.Frag} {H0 Fr H : Hp} {r C dx : Addr} {fs : List (Str × V)} {tl : List (Addr × HO)} {D : Ends} {σ : L2.St} {f : Str} {n : Nat} (o : Ow H0 Fr H ((r, .ins C dx fs) :: tl)) (hl : fs.length ≤ n) (hn : n < 1000) (hσ : σ[0]? = some (some (.ref r))) (c : Cls K C) (na : NoAttr K C f)
  (k : ∀ p H', Ow H0 Fr H' ((r, .ins C dx (putF f (.ref p) fs)) :: (tl ++ [(p, .lst [])])) → (putF f (.ref p) fs).length ≤ n + 1 → D.nx σ H') : sFld K (tVar 0) (tLst tNil) f D σ H :=
 ⟨szl, fun p hp => ⟨_, hσ, r, C, dx, fs, rfl, (o.more hp (.lst [])).at' (i := 0) rfl, c, na, Nat.lt_of_le_of_lt hl hn, k p _ ((o.more hp (.lst [])).write 0 rfl _) (Nat.le_trans (length_putF f _ fs) (Nat.succ_le_succ hl))⟩⟩
theorem ow_v {K : PySem.W.Frag} {H0 Fr H : Hp} {r C dx : Addr} {fs : List (Str × V)} {tl : List (Addr × HO)} {D : Ends} {σ : L2.St} {f : Str} {v : V} {n : Nat} (o : Ow H0 Fr H ((r, .ins C dx fs) :: tl)) (hl : fs.length ≤ n) (hn : n < 1000) (hσ : σ[0]? = some (some (.ref r))) (hv : σ[1]? = some (some v)) (c : Cls K C) (na : NoAttr K C f)
  (k : ∀ H', Ow H0 Fr H' ((r, .ins C dx (putF f v fs)) :: tl) → (putF f v fs).length ≤ n + 1 → D.nx σ H') : sFld K (tVar 0) (tVar 1) f D σ H :=
 ⟨_, hv, ow_c o hl hn hσ c na k⟩
theorem ow_t {K : PySem.W.Frag} {H0 Fr H : Hp} {r C dx : Addr} {fs : List (Str × V)} {tl : List (Addr × HO)} {D : Ends} {σ : L2.St} {f : Str} {v : V} {n : Nat} (o : Ow H0 Fr H ((r, .ins C dx fs) :: tl)) (hl : fs.length ≤ n) (hn : n < 1000) (hσ : σ[0]? = some (some (.ref r))) (c : Cls K C) (na : NoAttr K C f)
  (k : ∀ p H', Ow H0 Fr H' ((r, .ins C dx (putF f (.ref p) fs)) :: (tl ++ [(p, .lst [v])])) → (putF f (.ref p) fs).length ≤ n + 1 → D.nx σ H') : sFld K (tVar 0) (tLst (tCons (tC v) tNil)) f D σ H :=
 ⟨szl, fun p hp => ⟨_, hσ, r, C, dx, fs, rfl, (o.more hp (.lst [v])).at' (i := 0) rfl, c, na, Nat.lt_of_le_of_lt hl hn, k p _ ((o.more hp (.lst [v])).write 0 rfl _) (Nat.le_trans (length_putF f _ fs) (Nat.succ_le_succ hl))⟩⟩
theorem ow_0 {H0 H : Hp} {r C dx : Addr} (hI : H r = some (.ins C dx [])) (hn : H0 r = none) (hs : Same H0 H) : Ow H0 (fun _ => none) H [(r, .ins C dx [])] := by
 refine ⟨by simp, fun p hp => ?_, fun p hp => ?_, fun _ _ => rfl, fun _ _ h => (by cases h), hs, fun _ _ h => (by cases h)⟩
 ·rw [List.mem_singleton.mp hp]; exact hI
 ·rw [List.mem_singleton.mp hp]; exact hn
theorem gm_Back___init__ (T : Txt P w K mg CR CP CB) : GM P w K mg base CB "__init__" (0 + 1) ["self", "kind"] (fun vs H Q _ => ∃ r k dx H0, vs = [.ref r, .int (k : Nat)] ∧ H r = some (.ins CB dx []) ∧ H0 r = none ∧ Same H0 H ∧ ∀ H', BK CB H0 H' r k {} [0] → Q .non H') := by
 refine gm_mk T.k_Back T.mf_Back___init__ sc_Back___init__ (fun _ _ _ _ _ _ => us2 fun _ _ => rfl) (fun vs H Q E h => ?_) (fun f cdv A outer s H vs Q E hr h => ?_)
 ·exact ln4 h fun _ _ _ _ => rfl
 ·obtain ⟨r, k, dx, H0, rfl, hI, hn, hs, q⟩ := h
  refine ⟨_, (pss_cons (ps_fld (pv 0) (pv 1) rfl) (pss_cons (ps_fld (pv 0) pe_int rfl) (pss_cons (ps_fld (pv 0) (pe_lst pa_nil) rfl) (pss_cons (ps_fld (pv 0) pe_bl rfl) (pss_cons (ps_fld (pv 0) (pe_lst pa_nil) rfl) (pss_cons (ps_fld (pv 0) (pe_lst (pa_cons pe_int pa_nil)) rfl) (pss_one (ps_fld (pv 0) pe_int rfl)))))))), ?_⟩
  have o0 := ow_0 hI hn hs
  refine ow_v o0 (Nat.le_refl 0) (by decide) rfl rfl T.k_Back T.n_Back_kind fun H1 o1 z1 => ?_
  refine ow_c o1 z1 (by decide) rfl T.k_Back T.n_Back_count fun H2 o2 z2 => ?_
  refine ow_l o2 z2 (by decide) rfl T.k_Back T.n_Back_content fun p3 H3 o3 z3 => ?_
  refine ow_c o3 z3 (by decide) rfl T.k_Back T.n_Back_within fun H4 o4 z4 => ?_
  refine ow_l o4 z4 (by decide) rfl T.k_Back T.n_Back_body fun p5 H5 o5 z5 => ?_
  refine ow_t o5 z5 (by decide) rfl T.k_Back T.n_Back_bounds fun p6 H6 o6 z6 => ?_
  refine ow_c o6 z6 (by decide) rfl T.k_Back T.n_Back_fault fun H7 o7 z7 => ?_
  replace o7 : Ow H0 (fun _ => none) H7 [(r, .ins CB dx (bkF k 0 p3 false p5 p6 0)), (p3, .lst []), (p5, .lst []), (p6, .lst [.int 0])] := o7
  have nd := o7.nd
  simp only [List.map_cons, List.map_nil, List.nodup_cons, List.mem_cons, List.not_mem_nil, or_false, not_or] at nd
  exact q H7 ⟨dx, p3, p5, p6, ⟨o7.at' (i := 0) rfl, o7.at' (i := 1) rfl, o7.at' (i := 2) rfl, o7.at' (i := 3) rfl, nd.2.1.1, nd.2.1.2, nd.2.2.1, hn, o7.z _ (List.mem_of_getElem? (i := 1) rfl), o7.z _ (List.mem_of_getElem? (i := 2) rfl), o7.z _ (List.mem_of_getElem? (i := 3) rfl), o7.sam⟩⟩
end
section
theorem mk_of {x : Str} {C : Addr} {k : Nat} {ps : List Str} {sp : Sp} (h : GM P w K mg base C "__init__" k ps sp) (c : mg x = some (.ref C)) (m : PySem.W.makesIn K C = true) (e : PySem.W.keepIn K (.ref C) = true) : GMk P w K mg base x C k ps sp := by
 obtain ⟨f, fd, cls, M, F, b⟩ := h
 exact ⟨f, fd, c, ⟨m, M.at_, M.fn, e⟩, F, b⟩
theorem made_same {H : Hp} {x dx C : Addr} (hx : H x = none) (hd : H dx = none) (ne : dx ≠ x) : Same H (upd (upd H dx (.own x)) x (.ins C dx [])) := fun b o e => by
 rw [upd_ne (ne_of_none e hx), upd_ne (ne_of_none e hd)]; exact e
theorem bounds_len (k : Nat) (e : List Nat) (i : Nat) : (Mt.boundsTo k e i).length ≤ i + 1 := by
 unfold Mt.boundsTo
 exact Nat.le_trans (List.length_filter_le _ _) (by simp)
def RbI (C : Addr) (H : Hp) (k : Nat) (a r : Addr) (e : List Nat) (i : Nat) (σ : L2.St) (H' : Hp) : Prop := (∃ o, σ = [some (.int k), some (.ref a), some (.ref r), o]) ∧ BK C H H' r k (Vaescc.backRun k (e.take i)) (Mt.boundsTo k e i) ∧ (Vaescc.backRun k (e.take i)).wrong = none
theorem gf_read_back (T : Txt P w K mg CR CP CB) : GF P w K mg base "read_back" (9 + 1) ["kind", "text"] (fun vs H Q _ => ∃ k a e, vs = [.int (k : Nat), .ref a] ∧ SqL K H a (vi e) ∧ k ≤ 3 ∧ (∀ c ∈ e, c < 256) ∧ e.length ≤ 5000 ∧ ∀ r H' bs, BK CB H H' r k (Mt.finB k e) bs → ((Mt.finB k e).wrong = none → bs = Mt.boundsTo k e e.length) → Q (.ref r) H') := by
 refine gf_mk T.f_read_back sc_read_back (fun _ _ _ _ _ _ => us2 fun _ _ => rfl) (fun vs H Q E h => ?_) (fun f cdv A outer s H vs Q E hr h => ?_)
 ·exact ln3 h fun _ _ _ => rfl
 ·obtain ⟨k, a, e, rfl, ha, hk, hc, hz, q⟩ := h
  refine ⟨_, (pss_cons (ps_set (i := 2) sc_read_back.nd rfl (Or.inl rfl) (pe_mk (mk_of (gm_Back___init__ T) T.c_Back T.m_Back T.e_Back) (hr.mono (by decide)) rfl (pa_cons (pv 0) pa_nil))) (pss_cons (ps_for PassesOwn.never rfl (pi_list (pv 1)) (pg_name (i := 3) sc_read_back.nd rfl (Or.inl rfl)) (pss_cons (ps_expr (pe_gm (pv 2) (gm_Back_take T) (hr.mono (by decide)) (pa_cons (pv 3) pa_nil))) (pss_one (ps_if (pt_cmpR (op_neW hr.units) (pe_fld (pv 2) rfl) pe_int (nomark _)) (pss_one (ps_ret (pv 2))) pss_nil)))) (pss_cons (ps_expr (pe_gm0 (pv 2) (gm_Back_finish T) (hr.mono (by decide)))) (pss_one (ps_ret (pv 2)))))), ?_⟩
  walk_at "s"
  intro x dx hx hd hne
  refine ⟨x, k, ⟨rfl, rfl⟩, ⟨dx, upd_same⟩, H, hx, made_same hx hd hne, fun H1 B1 => ⟨_, rfl, a, rfl, ⟨vi e, ?_⟩, for_list (K := K) (a := a) (xs := vi e) (RbI CB H k a x e) ⟨⟨none, rfl⟩, ?_, rfl⟩ ?_ ?_ ?_⟩⟩
  ·obtain ⟨_, _, _, _, B⟩ := B1; exact B.sam.seq ha
  ·rw [Mt.bounds_zero]; exact B1
  ·rintro i σ H' _ ⟨_, ⟨_, _, _, _, B⟩, _⟩; exact B.sam.seq ha
  ·rintro i y σ H' hi ⟨⟨o, rfl⟩, B, hw⟩
   obtain ⟨c, hn, rfl⟩ := vi_get_of hi
   have hl := lt_of_get hn
   have I := Mt.BInv.run k e i (by omega)
   have I2 := Mt.BInv.run k e (i + 1) (by omega)
   have es := Mt.backRun_snoc k e hn
   have hp := I.pl hw
   have B' := B
   obtain ⟨dx, aC, aB, aO, B'⟩ := B'
   walk_at "s"
   refine ⟨_, _, B'.ins, rfl, x, c, ⟨rfl, rfl⟩, k, _, _, H, B, hk, hc c (List.mem_of_getElem? hn), I.bod, hw, by have := I.con; omega, by have := bounds_len k e i; omega, fun H2 B2 => ?_⟩
   rw [← es, hp] at B2
   have B3 := B2
   obtain ⟨dx, aC, aB, aO, B3⟩ := B3
   refine ⟨_, _, _, B3.ins, T.k_Back, T.n_Back_fault, _, rfl, ?_⟩
   rw [rNeU_int]
   refine ⟨_, rfl, ?_⟩
   cases hw2 : (Vaescc.backRun k (e.take (i + 1))).wrong with
   | some w1 =>
    have hk1 := (I2.wr w1 hw2).1
    have hne : ¬ (fk (some w1) = 0) := by
     show ¬ ((w1.1 : Int) = 0)
     omega
    rw [if_pos (by simp [hne])]
    have ha2 := Mt.backRun_wrong_all (e := e) (i := i + 1) (kind := k) (by rw [hw2]; rfl)
    have ef : Mt.finB k e = Vaescc.backRun k (e.take (i + 1)) := by
     unfold Mt.finB
     rw [ha2, hw2]; rfl
    rw [← ef] at B2 hw2
    exact q x H2 _ B2 (by rw [hw2]; intro z; cases z)
   | none =>
    rw [if_neg (by decide)]
    refine ⟨⟨_, rfl⟩, ?_, hw2⟩
    rw [hw2] at B2
    rw [Mt.bounds_succ]
    refine cast ?_ B2
    congr 1
    unfold Mt.outside
    cases hb : (Vaescc.backRun k (e.take (i + 1))).body with
    | some b => simp
    | none => simp
  ·rintro σ H' ⟨⟨o, rfl⟩, B, hw⟩
   have I := Mt.BInv.run k e e.length (Nat.le_refl _)
   rw [vi_length, List.take_length] at B hw
   rw [List.take_length] at I
   have hp := I.pl hw
   have B' := B
   obtain ⟨dx, aC, aB, aO, B'⟩ := B'
   walk_at "s"
   refine ⟨_, _, B'.ins, rfl, k, _, _, H, B, hw, fun z H2 B2 => ?_, fun z H2 B2 => ?_⟩
   ·have ef : Mt.finB k e = { Vaescc.backRun k e with wrong := some (7, e.length) } := by
     unfold Mt.finB
     rw [hw, if_neg (by decide), if_pos]
     rcases z with z | ⟨z1, z2⟩
     ·exact .inl z
     ·exact .inr ⟨z1, List.eq_nil_of_length_eq_zero (by omega)⟩
    have e7 : ((7 : Nat), (Vaescc.backRun k e).place) = (7, e.length) := by rw [hp]
    rw [e7] at B2
    exact q x H2 (Mt.boundsTo k e e.length) (by rw [ef]; exact B2) (by rw [ef]; intro z; cases z)
   ·have ef : Mt.finB k e = Vaescc.backRun k e := by
     unfold Mt.finB
     rw [hw, if_neg (by decide), if_neg]
     rintro (y | ⟨y1, y2⟩)
     ·exact z (.inl y)
     ·exact z (.inr ⟨y1, by rw [hp, y2]; rfl⟩)
    exact q x H2 (Mt.boundsTo k e e.length) (by rw [ef]; exact B2) (fun _ => rfl)
def CutI (H : Hp) (k : Nat) (e : List Nat) (n : Int) (D : Addr) (i : Nat) (H' : Hp) : Prop := Same H H' ∧ H' D = some (.lst (vi (((Mt.boundsTo k e e.length).take i).filter fun (j : Nat) => decide ((j : Int) ≤ n))))
theorem gf_cut_of (T : Txt P w K mg CR CP CB) : GF P w K mg base "cut_of" (0 + 1) ["text", "back", "n"] (fun vs H Q _ => ∃ a e r n k s H0, vs = [.ref a, .ref r, .int n] ∧ H a = some (.lst (vi e)) ∧ BK CB H0 H r k s (Mt.boundsTo k e e.length) ∧ 0 ≤ n ∧ e.length ≤ 5000 ∧ rNew (vi (Vaescc.cut k n.toNat e)) H Q) := by
 refine gf_mk T.f_cut_of sc_cut_of (fun _ _ _ _ _ _ => us3 fun _ _ _ => rfl) (fun vs H Q E h => ?_) (fun f cdv A outer s H vs Q E hr h => ?_)
 ·exact ln7 h fun _ _ _ _ _ _ _ => rfl
 ·obtain ⟨a, e, r, n, k, s, H0, rfl, ha, ⟨dx, aC, aB, aO, B⟩, hn, hz, q⟩ := h
  refine ⟨_, (pss_one (ps_ret (pe_slice sl_list (pv 0) po_none (po_some (pe_callB (cr_max rfl) rfl T.b_max boot_max (pa_cons (pe_lc (own := [("bound", 3)]) rfl sc_cut_of.nd (pi_list (pe_fld (pv 1) rfl)) (blkOk_by (N := ["text", "back", "n", "bound"]) (sc := defScope st_cut_of) (by decide +kernel)) (fun _ _ _ _ _ => (pg_name (i := 3) sc_cut_of.nd rfl (Or.inl rfl))) (fun _ _ _ _ _ => (pts_one (pt_cmpR op_le (pv 3) (pv 2) (nomark _)))) (fun _ _ _ _ _ => (pv 3))) pa_nil)))))), ?_⟩
  walk_at "s"
  have bl := bounds_len k e e.length
  refine lcL (a := aO) (xs := vi (Mt.boundsTo k e e.length)) (fun R hR => ⟨_, rfl, _, _, _, _, _, rfl, B.ins, T.k_Back, T.n_Back_bounds, rfl, hR⟩) (SqL.of B.bnd) (CutI H k e n) (fun D hD => ⟨same_new hD, upd_same⟩) (fun D i H' hD ⟨s1, _⟩ => SqL.of (s1 _ _ B.bnd)) ?_ ?_
  ·rintro D i y H' hD hi ⟨s1, h1⟩
   obtain ⟨j, hj, rfl⟩ := vi_get_of hi
   walk_at "s"
   have e1 : (((Mt.boundsTo k e e.length).take (i + 1)).filter fun (j : Nat) => decide ((j : Int) ≤ n)) = (((Mt.boundsTo k e e.length).take i).filter fun (j : Nat) => decide ((j : Int) ≤ n)) ++ (if (j : Int) ≤ n then [j] else []) := by
    rw [take_snoc hj, List.filter_append]
    congr 1
    split
    ·rename_i z; simp [List.filter_cons, z]
    ·rename_i z; simp [List.filter_cons, z]
   have l1 : (((Mt.boundsTo k e e.length).take i).filter fun (j : Nat) => decide ((j : Int) ≤ n)).length ≤ 5001 := by
    refine Nat.le_trans (List.length_filter_le _ _) ?_
    rw [List.length_take]; omega
   split
   ·rename_i z
    rw [if_pos z] at e1
    refine ⟨_, h1, by rw [vi_length]; exact szlt, same_upd hD s1, ?_⟩
    rw [upd_same, e1, vi_snoc]
   ·rename_i z
    rw [if_neg z, List.append_nil] at e1
    exact ⟨s1, by rw [e1]; exact h1⟩
  ·rintro D H' hD ⟨s1, h1⟩
   rw [vi_length, List.take_length] at h1
   have z0 : (0 : Nat) ∈ Mt.boundsTo k e e.length := Mt.mem_bounds.mpr ⟨Nat.zero_le _, by simp [Mt.outside, Vaescc.backRun]⟩
   have ev : vi ((Mt.boundsTo k e e.length).filter fun (j : Nat) => decide ((j : Int) ≤ n)) = (((Mt.boundsTo k e e.length).filter fun (j : Nat) => decide ((j : Int) ≤ n)).map Int.ofNat).map V.int := by
    unfold vi; rw [List.map_map]; rfl
   rw [ev] at h1
   refine ⟨D, _, rfl, SqL.of h1, ?_, fun m hm hy => ⟨m, rfl, _, SqL.of (s1 _ _ ha), fun p hp => ?_⟩⟩
   ·rw [List.length_map]
    refine List.length_pos_of_mem (a := 0) (List.mem_filter.mpr ⟨z0, ?_⟩)
    simpa using hn
   ·have em := Mt.max_bound hn hm hy
    rw [em, cutV_to, vi_take]
    exact q p _ (s1.free hp) (s1.trans (same_new hp)) upd_same
end
section
open Vaesca (Reader Token Mode Home)
theorem Paired.get {α β : Type} {R : α → β → Prop} : ∀ {xs : List α} {ys : List β} {i : Nat} {x : α}, Paired R xs ys → xs[i]? = some x → ∃ y, ys[i]? = some y ∧ R x y
 | _, _, i, x, .nil, h => by simp at h
 | _, _, 0, x, .cons r t, h => by
  have := Option.some.inj h
  subst this
  exact ⟨_, rfl, r⟩
 | _, _, i + 1, x, .cons r t, h => Paired.get (i := i) t (by simpa using h)
theorem spot_code (m : Reader) : (Vaesca.spotOf m).isSome = (decide (m.mode.code = 0 ∨ m.mode.code = 11 ∨ m.mode.code = 12 ∨ m.mode.code = 13 ∨ m.mode.code = 14) || (decide (m.mode.code = 22) && decide (m.tag = Vaesca.CALC))) := by
 unfold Vaesca.spotOf
 cases m.mode with
 | ref h => cases h <;> rfl
 | comment d =>
  simp only [Mode.code]
  split
  ·rfl
  ·split <;> rfl
 | raw =>
  simp only [Mode.code]
  by_cases e : m.tag = Vaesca.CALC
  ·simp [e]
  ·simp [e]
 | _ => rfl
theorem gm_Reader_fail (T : Txt P w K mg CR CP CB) : GM P w K mg base CR "fail" (0 + 1) ["self", "kind"] (fun vs H Q _ => ∃ r k m H0, vs = [.ref r, .int (k : Nat)] ∧ RD CR H0 H r m ∧ ∀ H', RD CR H0 H' r (m.fail k) → Q .non H') := by
 refine gm_mk T.k_Reader T.mf_Reader_fail sc_Reader_fail (fun _ _ _ _ _ _ => us2 fun _ _ => rfl) (fun vs H Q E h => ?_) (fun f cdv A outer s H vs Q E hr h => ?_)
 ·exact ln4 h fun _ _ _ _ => rfl
 ·obtain ⟨r, k, m, H0, rfl, ⟨Fr, A, vt, va, vs, tl, B, hr'⟩, q⟩ := h
  refine ⟨_, (pss_cons (ps_fld (pv 0) (pv 1) rfl) (pss_one (ps_fld (pv 0) (pe_gc T.g_FAULT rfl) rfl))), ?_⟩
  walk_at "s"
  have B1 := B.setI { m with wrong := some (k, m.count) }
  refine ⟨_, _, _, B.ins, T.k_Reader, T.n_Reader_fault, rd_len, _, _, _, B1.ins, T.k_Reader, T.n_Reader_mode, rd_len, ?_⟩
  exact q _ ((B1.setI (m.fail k)).rd (fun _ => rfl))
theorem gm_Reader_tell_run (T : Txt P w K mg CR CP CB) : GM P w K mg base CR "tell_run" (0 + 1) ["self", "kind"] (fun vs H Q _ => ∃ r k t m H0, vs = [.ref r, .int k] ∧ RD CR H0 H r m ∧ m.tokens.length ≤ 100000 ∧ (∀ Fr' v, SgV Fr' v k m.run → TokV Fr' v t) ∧ ∀ H', RD CR H0 H' r { m with run := [], tokens := m.tokens ++ [t] } → Q .non H') := by
 refine gm_mk T.k_Reader T.mf_Reader_tell_run sc_Reader_tell_run (fun _ _ _ _ _ _ => us2 fun _ _ => rfl) (fun vs H Q E h => ?_) (fun f cdv A outer s H vs Q E hr h => ?_)
 ·exact ln5 h fun _ _ _ _ _ => rfl
 ·obtain ⟨r, k, t, m, H0, rfl, ⟨Fr, A, vt, va, vs, tl, B, hr'⟩, hz, ht, q⟩ := h
  refine ⟨_, (pss_cons (ps_expr (pe_bm PySem.F.plainAttrs_list PySem.F.slot_list_append PySem.F.type_list_append mt_append (pe_fld (pv 0) rfl) (pa_cons (pe_tup (pa_cons (pv 1) (pa_cons (pe_fld (pv 0) rfl) pa_nil))) pa_nil))) (pss_one (ps_fld (pv 0) (pe_lst pa_nil) rfl))), ?_⟩
  walk_at "s"
  refine ⟨_, _, _, B.ins, T.k_Reader, T.n_Reader_tokens, _, rfl, tyL B.htk, _, _, _, B.ins, T.k_Reader, T.n_Reader_run, _, rfl, szl, fun p hp => ?_⟩
  refine ⟨_, rfl, _, upd_of hp B.htk, (by rw [B.lt]; exact szlt), szl, fun p2 hp2 => ?_⟩
  obtain ⟨Fr', B'⟩ := B.tell (k := k) t ht hp hp2
  exact ⟨_, _, _, upd_of hp2 (by rw [upd_ne (ne_il B.ins B.htk).symm]; exact upd_of hp B.ins), T.k_Reader, T.n_Reader_run, rd_len, q _ (B'.rd hr')⟩
def endRun (t : Token) (m : Reader) : Reader := if m.run.isEmpty then m else { m with run := [], tokens := m.tokens ++ [t] }
theorem gm_Reader_end_run (T : Txt P w K mg CR CP CB) : GM P w K mg base CR "end_run" (1 + 1) ["self", "kind"] (fun vs H Q _ => ∃ r k t m H0, vs = [.ref r, .int k] ∧ RD CR H0 H r m ∧ m.tokens.length ≤ 100000 ∧ (∀ Fr' v, SgV Fr' v k m.run → TokV Fr' v t) ∧ ∀ H', RD CR H0 H' r (endRun t m) → Q .non H') := by
 refine gm_mk T.k_Reader T.mf_Reader_end_run sc_Reader_end_run (fun _ _ _ _ _ _ => us2 fun _ _ => rfl) (fun vs H Q E h => ?_) (fun f cdv A outer s H vs Q E hr h => ?_)
 ·exact ln5 h fun _ _ _ _ _ => rfl
 ·obtain ⟨r, k, t, m, H0, rfl, ⟨Fr, A, vt, va, vs, tl, B, hr'⟩, hz, ht, q⟩ := h
  refine ⟨_, (pss_one (ps_if (pt_truth (pe_fld (pv 0) rfl) (fun _ => rfl)) (pss_one (ps_expr (pe_gm (pv 0) (gm_Reader_tell_run T) (hr.mono (by decide)) (pa_cons (pv 1) pa_nil)))) pss_nil)), ?_⟩
  walk_at "s"
  refine ⟨_, _, _, B.ins, T.k_Reader, T.n_Reader_run, _, rfl, truL (SqL.of B.hrn) ?_⟩
  rw [vi_isEmpty]
  unfold endRun at q
  cases he : m.run.isEmpty with
  | true =>
   rw [he] at q
   exact q H (B.rd hr')
  | false =>
   rw [he] at q
   rw [if_pos (by rfl)]
   exact ⟨_, _, B.ins, rfl, r, k, ⟨rfl, rfl⟩, t, m, H0, B.rd hr', hz, ht, q⟩
def HasI (H : Hp) (m : Reader) (D : Addr) (i : Nat) (H' : Hp) : Prop := Same H H' ∧ H' D = some (.lst (((m.attrs.take i).map fun a => a.1 == m.attr).map V.bl))
theorem gm_Reader_has_attribute (T : Txt P w K mg CR CP CB) : GM P w K mg base CR "has_attribute" (0 + 1) ["self"] (fun vs H Q _ => ∃ r m H0, vs = [.ref r] ∧ RD CR H0 H r m ∧ m.attrs.length ≤ 100000 ∧ ∀ H', Same H H' → Q (.bl (Vaesca.isTwice m)) H') := by
 refine gm_mk T.k_Reader T.mf_Reader_has_attribute sc_Reader_has_attribute (fun _ _ _ _ _ _ => us1 fun _ => rfl) (fun vs H Q E h => ?_) (fun f cdv A outer s H vs Q E hr h => ?_)
 ·exact ln3 h fun _ _ _ => rfl
 ·obtain ⟨r, m, H0, rfl, ⟨Fr, A, vt, va, vs, tl, B, hr'⟩, hz, q⟩ := h
  refine ⟨_, (pss_one (ps_ret (pe_callB (cr_any rfl) rfl T.b_any boot_any (pa_cons (pe_lc (own := [("attribute", 1)]) rfl sc_Reader_has_attribute.nd (pi_list (pe_fld (pv 0) rfl)) (blkOk_by (N := ["self", "attribute"]) (sc := defScope st_Reader_has_attribute) (by decide +kernel)) (fun _ _ _ _ _ => (pg_name (i := 1) sc_Reader_has_attribute.nd rfl (Or.inl rfl))) (fun _ _ _ _ _ => pts_nil) (fun _ _ _ _ _ => (pe_cmpR (op_eqK K rfl hr.units) (pe_ix (ix_seqK K rfl) (pv 1) pe_int (fun _ _ => rfl)) (pe_fldK K rfl (pv 0) rfl) (nomark _)))) pa_nil)))), ?_⟩
  walk_at "s"
  refine lcL (a := A.ats) (xs := va) (fun R hR => ⟨_, rfl, _, _, _, _, _, rfl, B.ins, T.k_Reader, T.n_Reader_attributes, rfl, hR⟩) (SqL.of B.hats) (HasI H m) (fun D hD => ⟨same_new hD, upd_same⟩) (fun D i H' hD ⟨s1, _⟩ => SqL.of (s1 _ _ B.hats)) ?_ ?_
  ·rintro D i y H' hD hi ⟨s1, h1⟩
   obtain ⟨at_, hat, qa, a, b, rfl, f1, f2, f3⟩ := Paired.get B.ats hi
   have sF := B.ow.sub.trans s1
   walk_at "s"
   refine rIx_tup (j := 0) (SqT.of (sF _ _ f1)) rfl rfl ?_
   refine ⟨_, _, _, s1 _ _ B.ins, T.k_Reader, T.n_Reader_attribute_name, _, rfl, rEqU_lst (SqL.of (sF _ _ f2)) (SqL.of (s1 _ _ B.han)) ⟨_, h1, ?_, same_upd hD s1, ?_⟩⟩
   ·rw [List.length_map, List.length_map, List.length_take]; exact szlt (by omega)
   ·rw [upd_same, take_snoc hat, List.map_append, List.map_append]
    have e : (at_.1 == m.attr) = decide (at_.1 = m.attr) := by by_cases z : at_.1 = m.attr <;> simp [z]
    simp only [List.map_cons, List.map_nil, e]
  ·rintro D H' hD ⟨s1, h1⟩
   rw [B.la, List.take_length] at h1
   refine ⟨D, _, rfl, SqL.of h1, ?_⟩
   refine blq (q H' s1) ?_
   unfold Vaesca.isTwice
   rw [List.any_map]; rfl
theorem gm_Reader_end_attribute (T : Txt P w K mg CR CP CB) : GM P w K mg base CR "end_attribute" (0 + 1) ["self"] (fun vs H Q _ => ∃ r m H0, vs = [.ref r] ∧ RD CR H0 H r m ∧ m.attrs.length ≤ 100000 ∧ ∀ H', RD CR H0 H' r (Vaesca.endAttr m) → Q .non H') := by
 refine gm_mk T.k_Reader T.mf_Reader_end_attribute sc_Reader_end_attribute (fun _ _ _ _ _ _ => us1 fun _ => rfl) (fun vs H Q E h => ?_) (fun f cdv A outer s H vs Q E hr h => ?_)
 ·exact ln3 h fun _ _ _ => rfl
 ·obtain ⟨r, m, H0, rfl, ⟨Fr, A, vt, va, vs, tl, B, hr'⟩, hz, q⟩ := h
  refine ⟨_, (pss_cons (ps_expr (pe_bm PySem.F.plainAttrs_list PySem.F.slot_list_append PySem.F.type_list_append mt_append (pe_fld (pv 0) rfl) (pa_cons (pe_tup (pa_cons (pe_fld (pv 0) rfl) (pa_cons (pe_fld (pv 0) rfl) pa_nil))) pa_nil))) (pss_cons (ps_fld (pv 0) (pe_lst pa_nil) rfl) (pss_one (ps_fld (pv 0) (pe_lst pa_nil) rfl)))), ?_⟩
  walk_at "s"
  refine ⟨_, _, _, B.ins, T.k_Reader, T.n_Reader_attributes, _, rfl, tyL B.hats, _, _, _, B.ins, T.k_Reader, T.n_Reader_attribute_name, _, rfl, _, _, _, B.ins, T.k_Reader, T.n_Reader_run, _, rfl, szl, fun p hp => ?_⟩
  refine ⟨_, rfl, _, upd_of hp B.hats, (by rw [B.la]; exact szlt), szl, fun p2 hp2 => ?_⟩
  have i2 := upd_of (o := HO.lst []) hp2 (a := r) (by rw [upd_ne (ne_il B.ins B.hats).symm]; exact upd_of hp B.ins)
  refine ⟨_, _, _, i2, T.k_Reader, T.n_Reader_attribute_name, rd_len, szl, fun p3 hp3 => ?_⟩
  obtain ⟨Fr', B'⟩ := B.att hp hp2 hp3
  exact ⟨_, _, _, upd_of hp3 upd_same, T.k_Reader, T.n_Reader_run, rd_len, q _ (B'.rd hr')⟩
theorem tx_calc : (Str.ofString "calc").cps.toList = Vaesca.CALC ∧ (Str.ofString "calc").cps.size ≤ 1000 := by decide +kernel
theorem tx_verb : (Str.ofString "verb").cps.toList = Vaesca.VERB ∧ (Str.ofString "verb").cps.size ≤ 1000 := by decide +kernel
theorem code_lt (m : Mode) : m.code < 27 := by
 cases m with
 | ref h => cases h <;> decide
 | comment d =>
  simp only [Mode.code]
  split
  ·decide
  ·split <;> decide
 | _ => decide
theorem tk1 : ∀ n : Fin 27, (valV [(Sum.inl 0, V.int 0), (Sum.inl 12, V.int 1), (Sum.inl 13, V.int 2), (Sum.inl 14, V.int 3), (Sum.inl 11, V.int 4), (Sum.inl 22, V.int 5)] (Sum.inl ((n.val : Nat) : Int) : Key)).isSome = decide (n.val = 0 ∨ n.val = 11 ∨ n.val = 12 ∨ n.val = 13 ∨ n.val = 14 ∨ n.val = 22) := by decide
theorem tk2 : ∀ (n : Fin 27) (b : Bool), decide (n.val = 0 ∨ n.val = 11 ∨ n.val = 12 ∨ n.val = 13 ∨ n.val = 14 ∨ n.val = 22) = true → (!decide (((n.val : Nat) : Int) = 22)) = true → true = (decide (n.val = 0 ∨ n.val = 11 ∨ n.val = 12 ∨ n.val = 13 ∨ n.val = 14) || decide (n.val = 22) && b) := by decide
theorem tk3 : ∀ (n : Fin 27) (b : Bool), ¬ decide (n.val = 0 ∨ n.val = 11 ∨ n.val = 12 ∨ n.val = 13 ∨ n.val = 14 ∨ n.val = 22) = true → false = (decide (n.val = 0 ∨ n.val = 11 ∨ n.val = 12 ∨ n.val = 13 ∨ n.val = 14) || decide (n.val = 22) && b) := by decide
theorem tk4 : ∀ n : Fin 27, decide (n.val = 0 ∨ n.val = 11 ∨ n.val = 12 ∨ n.val = 13 ∨ n.val = 14 ∨ n.val = 22) = true → ¬ (!decide (((n.val : Nat) : Int) = 22)) = true → n.val = 22 := by decide
theorem gm_Reader_takes_mark (T : Txt P w K mg CR CP CB) : GM P w K mg base CR "takes_mark" (1 + 1) ["self"] (fun vs H Q _ => ∃ r m H0, vs = [.ref r] ∧ RD CR H0 H r m ∧ ∀ H', Same H H' → Q (.bl (Vaesca.spotOf m).isSome) H') := by
 refine gm_mk T.k_Reader T.mf_Reader_takes_mark sc_Reader_takes_mark (fun _ _ _ _ _ _ => us1 fun _ => rfl) (fun vs H Q E h => ?_) (fun f cdv A outer s H vs Q E hr h => ?_)
 ·exact ln3 h fun _ _ _ => rfl
 ·obtain ⟨r, m, H0, rfl, ⟨Fr, A, vt, va, vs, tl, B, hr'⟩, q⟩ := h
  rw [spot_code m] at q
  refine ⟨_, (pss_one (ps_ret (pe_and (pe_cmp (pc_inD (hu_of hr) T.g_SPOTS rfl (pe_fld (pv 0) rfl))) (pe_one (pe_or (pe_cmpR (op_neW hr.units) (pe_fld (pv 0) rfl) (pe_gc T.g_RAW rfl) (nomark _)) (pe_one (pe_cmpR (op_eqW hr.units) (pe_fld (pv 0) rfl) (pe_gf (gf_signs_of T) (hr.mono (by decide)) rfl (pa_cons pe_str pa_nil)) (nomark _)))))))), ?_⟩
  walk_at "s"
  refine ⟨_, _, _, B.ins, T.k_Reader, T.n_Reader_mode, _, rfl, Sum.inl m.mode.code, rfl, ?_⟩
  rw [tk1 ⟨m.mode.code, code_lt _⟩]
  split
  ·rename_i z
   refine ⟨_, _, _, B.ins, T.k_Reader, T.n_Reader_mode, _, rfl, rNeU_int.mpr ⟨_, rfl, ?_⟩⟩
   split
   ·rename_i z2
    exact blq (q H (Same.refl H)) (tk2 ⟨m.mode.code, code_lt _⟩ _ z z2)
   ·rename_i z2
    refine ⟨_, _, _, B.ins, T.k_Reader, T.n_Reader_tag_name, _, rfl, tx_calc.2, ?_⟩
    rw [tx_calc.1]
    intro p H1 hp s1 h1
    refine rEqU_lst (SqL.of (s1 _ _ B.htg)) (SqL.of h1) (blq (q H1 s1) ?_)
    have : m.mode.code = 22 := tk4 ⟨m.mode.code, code_lt _⟩ z z2
    rw [this]; simp
  ·rename_i z
   exact blq (q H (Same.refl H)) (tk3 ⟨m.mode.code, code_lt _⟩ _ z)
theorem gm_Reader_leave_tag (T : Txt P w K mg CR CP CB) : GM P w K mg base CR "leave_tag" (0 + 1) ["self"] (fun vs H Q _ => ∃ r m H0, vs = [.ref r] ∧ RDX CR H0 H r m ∧ ∀ H', RD CR H0 H' r { m with tag := [], mode := .text } → Q .non H') := by
 refine gm_mk T.k_Reader T.mf_Reader_leave_tag sc_Reader_leave_tag (fun _ _ _ _ _ _ => us1 fun _ => rfl) (fun vs H Q E h => ?_) (fun f cdv A outer s H vs Q E hr h => ?_)
 ·exact ln3 h fun _ _ _ => rfl
 ·obtain ⟨r, m, H0, rfl, ⟨Fr, A, vt, va, vs, tl, B⟩, q⟩ := h
  refine ⟨_, (pss_cons (ps_fld (pv 0) (pe_lst pa_nil) rfl) (pss_one (ps_fld (pv 0) (pe_gc T.g_TEXT rfl) rfl))), ?_⟩
  walk_at "s"
  refine ⟨szl, fun p hp => ?_⟩
  have B1 := B.newTg hp []
  have B2 := B1.setI { m with tag := [], mode := .text }
  exact ⟨_, _, _, upd_of hp B.ins, T.k_Reader, T.n_Reader_tag_name, rd_len, _, _, _, B1.ins, T.k_Reader, T.n_Reader_mode, rd_len, q _ (B2.rd (fun z => by cases z))⟩
theorem gm_Reader_tell_open_tag (T : Txt P w K mg CR CP CB) : GM P w K mg base CR "tell_open_tag" (0 + 1) ["self", "ended"] (fun vs H Q _ => ∃ r e pl m H0, vs = [.ref r, .int (if e then 1 else 0)] ∧ RD CR H0 H r m ∧ m.tokens.length ≤ 100000 ∧ rawish m.mode = false ∧ ∀ H', RDX CR H0 H' r { m with tokens := m.tokens ++ [.opened pl m.tag m.attrs e], attrs := [] } → Q .non H') := by
 refine gm_mk T.k_Reader T.mf_Reader_tell_open_tag sc_Reader_tell_open_tag (fun _ _ _ _ _ _ => us2 fun _ _ => rfl) (fun vs H Q E h => ?_) (fun f cdv A outer s H vs Q E hr h => ?_)
 ·exact ln5 h fun _ _ _ _ _ => rfl
 ·obtain ⟨r, e, pl, m, H0, rfl, ⟨Fr, A, vt, va, vs, tl, B, hr'⟩, hz, hm, q⟩ := h
  have ho := B.own hr' hm
  subst ho
  refine ⟨_, (pss_cons (ps_expr (pe_bm PySem.F.plainAttrs_list PySem.F.slot_list_append PySem.F.type_list_append mt_append (pe_fld (pv 0) rfl) (pa_cons (pe_tup (pa_cons (pe_gc T.g_OPEN_TOKEN rfl) (pa_cons (pv 1) (pa_cons (pe_fld (pv 0) rfl) (pa_cons (pe_fld (pv 0) rfl) pa_nil))))) pa_nil))) (pss_one (ps_fld (pv 0) (pe_lst pa_nil) rfl))), ?_⟩
  walk_at "s"
  refine ⟨_, _, _, B.ins, T.k_Reader, T.n_Reader_tokens, _, rfl, tyL B.htk, _, _, _, B.ins, T.k_Reader, T.n_Reader_tag_name, _, rfl, _, _, _, B.ins, T.k_Reader, T.n_Reader_attributes, _, rfl, szl, fun p hp => ?_⟩
  refine ⟨_, rfl, _, upd_of hp B.htk, (by rw [B.lt]; exact szlt), szl, fun p2 hp2 => ?_⟩
  obtain ⟨Fr', B'⟩ := B.opn e pl hp hp2
  exact ⟨_, _, _, upd_of hp2 (by rw [upd_ne (ne_il B.ins B.htk).symm]; exact upd_of hp B.ins), T.k_Reader, T.n_Reader_attributes, rd_len, q _ B'.rdx⟩
theorem gm_Reader_end_close_tag (T : Txt P w K mg CR CP CB) : GM P w K mg base CR "end_close_tag" (1 + 1) ["self"] (fun vs H Q _ => ∃ r pl m H0, vs = [.ref r] ∧ RD CR H0 H r m ∧ m.tokens.length ≤ 100000 ∧ ∀ H', RD CR H0 H' r { m with tokens := m.tokens ++ [.closed pl m.tag], tag := [], mode := .text } → Q .non H') := by
 refine gm_mk T.k_Reader T.mf_Reader_end_close_tag sc_Reader_end_close_tag (fun _ _ _ _ _ _ => us1 fun _ => rfl) (fun vs H Q E h => ?_) (fun f cdv A outer s H vs Q E hr h => ?_)
 ·exact ln4 h fun _ _ _ _ => rfl
 ·obtain ⟨r, pl, m, H0, rfl, ⟨Fr, A, vt, va, vs, tl, B, hr'⟩, hz, q⟩ := h
  refine ⟨_, (pss_cons (ps_expr (pe_bm PySem.F.plainAttrs_list PySem.F.slot_list_append PySem.F.type_list_append mt_append (pe_fld (pv 0) rfl) (pa_cons (pe_tup (pa_cons (pe_gc T.g_CLOSE_TOKEN rfl) (pa_cons (pe_fld (pv 0) rfl) pa_nil))) pa_nil))) (pss_one (ps_expr (pe_gm0 (pv 0) (gm_Reader_leave_tag T) (hr.mono (by decide)))))), ?_⟩
  walk_at "s"
  refine ⟨_, _, _, B.ins, T.k_Reader, T.n_Reader_tokens, _, rfl, tyL B.htk, _, _, _, B.ins, T.k_Reader, T.n_Reader_tag_name, _, rfl, szl, fun p hp => ?_⟩
  refine ⟨_, rfl, _, upd_of hp B.htk, (by rw [B.lt]; exact szlt), ?_⟩
  obtain ⟨Fr', B'⟩ := B.cls pl hp
  exact ⟨_, _, B'.ins, rfl, _, _, B'.rdx, q⟩
theorem gm_Reader_end_ended_tag (T : Txt P w K mg CR CP CB) : GM P w K mg base CR "end_ended_tag" (1 + 1) ["self"] (fun vs H Q _ => ∃ r m H0, vs = [.ref r] ∧ RD CR H0 H r m ∧ m.tokens.length ≤ 100000 ∧ rawish m.mode = false ∧ ∀ H', RD CR H0 H' r (Vaesca.endEnded m) → Q .non H') := by
 refine gm_mk T.k_Reader T.mf_Reader_end_ended_tag sc_Reader_end_ended_tag (fun _ _ _ _ _ _ => us1 fun _ => rfl) (fun vs H Q E h => ?_) (fun f cdv A outer s H vs Q E hr h => ?_)
 ·exact ln3 h fun _ _ _ => rfl
 ·obtain ⟨r, m, H0, rfl, ⟨Fr, A, vt, va, vs, tl, B, hr'⟩, hz, hm, q⟩ := h
  refine ⟨_, (pss_cons (ps_expr (pe_gm (pv 0) (gm_Reader_tell_open_tag T) (hr.mono (by decide)) (pa_cons pe_int pa_nil))) (pss_one (ps_expr (pe_gm0 (pv 0) (gm_Reader_leave_tag T) (hr.mono (by decide)))))), ?_⟩
  walk_at "s"
  refine ⟨_, _, B.ins, rfl, r, true, ⟨rfl, rfl⟩, m.from_, m, H0, B.rd hr', hz, hm, fun H1 X1 => ?_⟩
  have X2 := X1
  obtain ⟨_, _, _, _, _, _, B2⟩ := X2
  exact ⟨_, _, B2.ins, rfl, _, _, X1, q⟩
theorem gm_Reader_end_tag (T : Txt P w K mg CR CP CB) : GM P w K mg base CR "end_tag" (1 + 1) ["self"] (fun vs H Q _ => ∃ r m H0, vs = [.ref r] ∧ RD CR H0 H r m ∧ m.tokens.length ≤ 100000 ∧ rawish m.mode = false ∧ ∀ H', RD CR H0 H' r (Vaesca.endTag m) → Q .non H') := by
 refine gm_mk T.k_Reader T.mf_Reader_end_tag sc_Reader_end_tag (fun _ _ _ _ _ _ => us1 fun _ => rfl) (fun vs H Q E h => ?_) (fun f cdv A outer s H vs Q E hr h => ?_)
 ·exact ln3 h fun _ _ _ => rfl
 ·obtain ⟨r, m, H0, rfl, ⟨Fr, A, vt, va, vs, tl, B, hr'⟩, hz, hm, q⟩ := h
  refine ⟨_, (pss_cons (ps_expr (pe_gm (pv 0) (gm_Reader_tell_open_tag T) (hr.mono (by decide)) (pa_cons pe_int pa_nil))) (pss_one (ps_if (pt_cmpR (op_inL hr.units) (pe_fld (pv 0) rfl) (pe_tup (pa_cons (pe_gf (gf_signs_of T) (hr.mono (by decide)) rfl (pa_cons pe_str pa_nil)) (pa_cons (pe_gf (gf_signs_of T) (hr.mono (by decide)) rfl (pa_cons pe_str pa_nil)) pa_nil))) (by with_unfolding_all rfl)) (pss_one (ps_fld (pv 0) (pe_gc T.g_RAW rfl) rfl)) (pss_one (ps_expr (pe_gm0 (pv 0) (gm_Reader_leave_tag T) (hr.mono (by decide)))))))), ?_⟩
  walk_at "s"
  refine ⟨_, _, B.ins, rfl, r, false, ⟨rfl, rfl⟩, m.from_, m, H0, B.rd hr', hz, hm, fun H1 X1 => ?_⟩
  have X2 := X1
  obtain ⟨Fr2, A2, vt2, va2, vs2, tl2, B2⟩ := X2
  refine ⟨_, _, _, B2.ins, T.k_Reader, T.n_Reader_tag_name, _, rfl, tx_calc.2, ?_⟩
  rw [tx_calc.1]
  intro p1 H2 hp1 s1 h1
  refine ⟨tx_verb.2, ?_⟩
  rw [tx_verb.1]
  intro p2 H3 hp2 s2 h2
  refine ⟨szl, fun p3 hp3 => ?_⟩
  have s3 := same_new (o := HO.tup [V.ref p1, V.ref p2]) hp3
  have B3 := B2.laid (s1.trans (s2.trans s3))
  refine ⟨A2.tg, p3, [p1, p2], m.tag, [Vaesca.CALC, Vaesca.VERB], rfl, rfl, SqL.of B3.htg, SqT.of upd_same, .cons (SqL.of (s3 _ _ (s2 _ _ h1))) (.cons (SqL.of (s3 _ _ h2)) .nil), ⟨_, rfl, ?_⟩⟩
  have er : Vaesca.isRaw m.tag = decide (m.tag ∈ [Vaesca.CALC, Vaesca.VERB]) := by
   unfold Vaesca.isRaw
   rw [Bool.eq_iff_iff]; simp
  unfold Vaesca.endTag at q
  rw [er] at q
  cases hd : decide (m.tag ∈ [Vaesca.CALC, Vaesca.VERB]) with
  | true =>
   rw [hd] at q
   rw [if_pos rfl]
   exact ⟨_, _, _, B3.ins, T.k_Reader, T.n_Reader_mode, rd_len, q _ ((B3.setI { m with tokens := m.tokens ++ [.opened m.from_ m.tag m.attrs false], attrs := [], mode := .raw, from_ := m.count + 1 }).rd (fun _ => rfl))⟩
  | false =>
   rw [hd] at q
   rw [if_neg (by decide)]
   exact ⟨_, _, B3.ins, rfl, _, _, B3.rdx, q⟩
end
section
open Vaesca (Reader Token Mode Home)
section
variable {C : Addr} {H0 H : Hp} {r : Addr} {m : Reader} {Pr : Hp → Prop}
theorem st_mode (kc : Cls K C) (na : NoAttr K C "mode") (h : RD C H0 H r m) (md : Mode) (hmd : rawish m.mode = true → rawish md = true) {k : Int} (hk : k = md.code) (q : ∀ H', RD C H0 H' r { m with mode := md } → Pr H') :
  ∃ x x_1 x_2, H r = some (.ins x x_1 x_2) ∧ Cls K x ∧ NoAttr K x "mode" ∧ x_2.length < 1000 ∧ Pr (upd H r (.ins x x_1 (putF "mode" (.int k) x_2))) := by
 obtain ⟨Fr, A, vt, va, vs, tl, B, hr'⟩ := h
 subst hk
 exact ⟨_, _, _, B.ins, kc, na, rd_len, q _ ((B.setI { m with mode := md }).rd (fun z => hmd (hr' z)))⟩
theorem st_run (kc : Cls K C) (na : NoAttr K C "run") (h : RD C H0 H r m) (hz : m.run.length ≤ 100000) (c : Nat) (q : ∀ H', RD C H0 H' r { m with run := m.run ++ [c] } → Pr H') :
  ∃ x x_1 x_2, H r = some (.ins x x_1 x_2) ∧ Cls K x ∧ NoAttr K x "run" ∧ ∃ x, x_2.lookup ("run" : Str) = some x ∧ tyV K "list" x H ∧ ∃ l, x = .ref l ∧ ∃ xs, H l = some (.lst xs) ∧ xs.length < sizeLine ∧ Pr (upd H l (.lst (xs ++ [.int c]))) := by
 obtain ⟨Fr, A, vt, va, vs, tl, B, hr'⟩ := h
 refine ⟨_, _, _, B.ins, kc, na, _, rfl, tyL B.hrn, _, rfl, _, B.hrn, (by rw [vi_length]; exact szlt), q _ ?_⟩
 rw [← vi_snoc]
 exact (B.setRn (m.run ++ [c])).rd hr'
end
theorem RD.ins' {C : Addr} {H0 H : Hp} {r : Addr} {m : Reader} (h : RD C H0 H r m) : ∃ dx A, H r = some (.ins C dx (flds m A)) := by
 obtain ⟨Fr, A, vt, va, vs, tl, B, hr'⟩ := h
 exact ⟨_, A, B.ins⟩
theorem RD.upto {C : Addr} {H0 H : Hp} {r : Addr} {m : Reader} (h : RD C H0 H r m) (m' : Reader) (e0 : m'.mode = m.mode := by rfl) (e8 : m'.count = m.count := by rfl) (e9 : m'.wrong = m.wrong := by rfl) (e1 : m'.tag = m.tag := by rfl) (e2 : m'.attrs = m.attrs := by rfl) (e3 : m'.attr = m.attr := by rfl) (e4 : m'.body = m.body := by rfl) (e5 : m'.run = m.run := by rfl) (e6 : m'.tokens = m.tokens := by rfl) (e7 : m'.marks = m.marks := by rfl) : RD C H0 H r m' := by
 obtain ⟨Fr, A, vt, va, vs, tl, B, hr'⟩ := h
 refine ⟨Fr, A, vt, va, vs, tl, ⟨?_, ?_, by rw [e6]; exact B.tk, by rw [e2]; exact B.ats, by rw [e7]; exact B.sp⟩, by rw [e0]; exact hr'⟩
 ·unfold cells flds; rw [e3, e4, e5, e0, e8, e9]; exact B.ow
 ·rw [e1]; exact B.tl
theorem RD.laid {C : Addr} {H0 H : Hp} {r : Addr} {m : Reader} (h : RD C H0 H r m) {H' : Hp} (s : Same H H') : RD C H0 H' r m := by
 obtain ⟨Fr, A, vt, va, vs, tl, B, hr'⟩ := h
 exact (B.laid s).rd hr'
theorem code_home (h : Home) : (valV [(Sum.inl 1, V.int 0), (Sum.inl 2, V.int 12), (Sum.inl 3, V.int 13), (Sum.inl 4, V.int 14)] (Sum.inl ((Mode.ref h).code : Int) : Key)) = some (.int h.mode.code) := by
 rw [valV_int, valV_int, valV_int, valV_int]
 cases h <;> rfl
theorem gf_in_text (T : Txt P w K mg CR CP CB) : GF P w K mg base "in_text" (2 + 1) ["reader", "sign"] (fun vs H Q _ => ∃ r c m H0, vs = [.ref r, .int (c : Nat)] ∧ RD CR H0 H r m ∧ m.tokens.length ≤ 100000 ∧ m.run.length ≤ 100000 ∧ m.mode = .text ∧ ∀ H', RD CR H0 H' r (Vaesca.inText m c) → Q .non H') := by
 refine gf_mk T.f_in_text sc_in_text (fun _ _ _ _ _ _ => us2 fun _ _ => rfl) (fun vs H Q E h => ?_) (fun f cdv A outer s H vs Q E hr h => ?_)
 ·exact ln4 h fun _ _ _ _ => rfl
 ·obtain ⟨r, c, m, H0, rfl, hR, hz, hz2, hm, q⟩ := h
  have hraw : rawish m.mode = true → ∀ md, rawish md = true := by rw [hm]; intro z; cases z
  refine ⟨_, (pss_one (ps_if (pt_cmpR (op_eqW hr.units) (pv 1) (pe_gc T.g_LESS rfl) (nomark _)) (pss_cons (ps_expr (pe_gm (pv 0) (gm_Reader_end_run T) (hr.mono (by decide)) (pa_cons (pe_gc T.g_RUN_TOKEN rfl) pa_nil))) (pss_one (ps_fld (pv 0) (pe_gc T.g_BEHIND_LESS rfl) rfl))) (pss_one (ps_if (pt_cmpR (op_eqW hr.units) (pv 1) (pe_gc T.g_AND rfl) (nomark _)) (pss_one (ps_fld (pv 0) (pe_gc T.g_REFERENCE_IN_TEXT rfl) rfl)) (pss_one (ps_expr (pe_bm PySem.F.plainAttrs_list PySem.F.slot_list_append PySem.F.type_list_append mt_append (pe_fld (pv 0) rfl) (pa_cons (pv 1) pa_nil)))))))), ?_⟩
  walk_at "s"
  split
  ·rename_i h1
   have h1' : c = 60 := by omega
   subst h1'
   obtain ⟨dx, A, hI⟩ := hR.ins'
   refine ⟨_, _, hI, rfl, r, 0, ⟨rfl, rfl⟩, .text m.from_ m.run, m, H0, hR, hz, fun _ _ z => z, fun H1 R1 => ?_⟩
   refine st_mode T.k_Reader T.n_Reader_mode R1 .lt ?_ rfl fun H2 R2 => q H2 (R2.upto _)
   intro z; refine hraw ?_ .lt
   unfold endRun at z; split at z <;> exact z
  ·rename_i h1
   split
   ·rename_i h2
    have h2' : c = 38 := by omega
    subst h2'
    refine st_mode T.k_Reader T.n_Reader_mode hR (.ref .text) (fun z => hraw z _) rfl fun H2 R2 => q H2 ?_
    unfold Vaesca.inText
    cases m.run.isEmpty <;> exact R2.upto _
   ·rename_i h2
    refine st_run T.k_Reader T.n_Reader_run hR hz2 c fun H2 R2 => q H2 ?_
    unfold Vaesca.inText
    have e1 : (c == 60) = false := by simp; omega
    have e2 : (c == 38) = false := by simp; omega
    rw [e1, e2]
    cases m.run.isEmpty <;> exact R2.upto _
theorem gf_in_reference (T : Txt P w K mg CR CP CB) : GF P w K mg base "in_reference" (6 + 1) ["reader", "sign"] (fun vs H Q _ => ∃ r c m H0, vs = [.ref r, .int (c : Nat)] ∧ RD CR H0 H r m ∧ m.body.length ≤ 4 ∧ m.run.length ≤ 100000 ∧ (∃ h, m.mode = .ref h ∧ ∀ H', RD CR H0 H' r (Vaesca.inRef h m c) → Q .non H')) := by
 refine gf_mk T.f_in_reference sc_in_reference (fun _ _ _ _ _ _ => us2 fun _ _ => rfl) (fun vs H Q E h => ?_) (fun f cdv A outer s H vs Q E hr h => ?_)
 ·exact ln4 h fun _ _ _ _ => rfl
 ·obtain ⟨r, c, m, H0, rfl, hR, hz, hz2, h, hm, q⟩ := h
  have hraw : rawish m.mode = true → ∀ md, rawish md = true := by rw [hm]; intro z; cases z
  obtain ⟨Fr, A, vt, va, vs, tl, B, hr'⟩ := hR
  refine ⟨_, (pss_cons (ps_set (i := 2) sc_in_reference.nd rfl (Or.inl rfl) (pe_gf (gf_reference_step T) (hr.mono (by decide)) rfl (pa_cons (pe_fld (pv 0) rfl) (pa_cons (pv 1) pa_nil)))) (pss_one (ps_if (pt_cmpR (op_eqW hr.units) (pv 2) (pe_gc T.g_WRONG rfl) (nomark _)) (pss_one (ps_expr (pe_gm (pv 0) (gm_Reader_fail T) (hr.mono (by decide)) (pa_cons (pe_gc T.g_WRONG_REFERENCE rfl) pa_nil)))) (pss_one (ps_if (pt_cmpR (op_neW hr.units) (pv 2) (pe_gc T.g_GOES_ON rfl) (nomark _)) (pss_cons (ps_expr (pe_bm PySem.F.plainAttrs_list PySem.F.slot_list_append PySem.F.type_list_append mt_append (pe_fld (pv 0) rfl) (pa_cons (pv 2) pa_nil))) (pss_cons (ps_fld (pv 0) (pe_lst pa_nil) rfl) (pss_one (ps_fld (pv 0) (pe_gdget (hu_of hr) T.g_BEHIND_REFERENCE rfl (pe_fld (pv 0) rfl) (fun _ _ => rfl)) rfl)))) pss_nil))))), ?_⟩
  walk_at "s"
  refine ⟨_, _, _, B.ins, T.k_Reader, T.n_Reader_body, _, rfl, A.bd, m.body, c, ⟨rfl, rfl⟩, B.hbd, hz, ?_⟩
  by_cases h59 : c = 59
  ·rw [if_pos h59]
   intro H1 s1
   have B1 := B.laid s1
   cases hx : Vaesca.byteOf m.body with
   | none =>
    rw [if_pos (by rfl)]
    refine ⟨_, _, B1.ins, rfl, r, 4, ⟨rfl, rfl⟩, m, H0, B1.rd hr', fun H2 R2 => q H2 ?_⟩
    unfold Vaesca.inRef
    rw [hx, h59]; exact R2
   | some x =>
    rw [if_neg (by show ¬ ((x : Int) = -2); omega), if_pos (by show (!decide ((x : Int) = -1)) = true; simp)]
    refine ⟨_, _, _, B1.ins, T.k_Reader, T.n_Reader_run, _, rfl, tyL B1.hrn, _, rfl, _, B1.hrn, (by rw [vi_length]; exact szlt), szl, fun p hp => ?_⟩
    have e2 : vi m.run ++ [V.int (Mt.refB (some x))] = vi (m.run ++ [x]) := (vi_snoc m.run x).symm
    rw [e2] at hp ⊢
    have B2 := B1.setRn (m.run ++ [x])
    have B3 := B2.newBd hp []
    refine ⟨_, _, _, upd_of hp B2.ins, T.k_Reader, T.n_Reader_body, rd_len, _, _, _, B3.ins, T.k_Reader, T.n_Reader_mode, _, rfl, Sum.inl m.mode.code, rfl, _, (by rw [hm]; exact code_home h), ?_⟩
    refine st_mode T.k_Reader T.n_Reader_mode (B3.rd hr') h.mode (fun z => hraw z _) rfl fun H2 R2 => q H2 ?_
    unfold Vaesca.inRef
    rw [hx, h59]; exact R2.upto _
  ·rw [if_neg h59]
   have h59' : (c == 59) = false := by simp [h59]
   unfold Vaesca.inRef at q
   rw [h59'] at q
   by_cases h2 : ((Vaesca.isSmall c || Vaesca.isGreat c || Vaesca.isDigit c || c == 35) && decide (m.body.length < 4)) = true
   ·rw [if_pos h2, if_neg (by decide), if_neg (by decide)]
    have q' : ∀ H', RD CR H0 H' r { m with body := m.body ++ [c] } → Q V.non H' := by
     intro H' R'
     refine q H' ?_
     rw [if_neg (by decide)]
     exact (if_pos (c := ((Vaesca.isSmall c || Vaesca.isGreat c || Vaesca.isDigit c || c == 35) && decide (m.body.length < Vaesca.BODY)) = true) h2).symm ▸ R'
    exact q' _ ((B.setBd (m.body ++ [c])).rd hr')
   ·rw [if_neg h2]
    have q' : ∀ H', RD CR H0 H' r (m.fail 4) → Q V.non H' := by
     intro H' R'
     refine q H' ?_
     rw [if_neg (by decide)]
     exact (if_neg (c := ((Vaesca.isSmall c || Vaesca.isGreat c || Vaesca.isDigit c || c == 35) && decide (m.body.length < Vaesca.BODY)) = true) h2).symm ▸ R'
    exact ⟨_, _, B.ins, rfl, r, 4, ⟨rfl, rfl⟩, m, H0, B.rd hr', q'⟩
theorem gf_behind_less (T : Txt P w K mg CR CP CB) : GF P w K mg base "behind_less" (1 + 1) ["reader", "sign"] (fun vs H Q _ => ∃ r c m H0, vs = [.ref r, .int (c : Nat)] ∧ RD CR H0 H r m ∧ rawish m.mode = false ∧ ∀ H', RD CR H0 H' r (Vaesca.inLt m c) → Q .non H') := by
 refine gf_mk T.f_behind_less sc_behind_less (fun _ _ _ _ _ _ => us2 fun _ _ => rfl) (fun vs H Q E h => ?_) (fun f cdv A outer s H vs Q E hr h => ?_)
 ·exact ln4 h fun _ _ _ _ => rfl
 ·obtain ⟨r, c, m, H0, rfl, hR, hm, q⟩ := h
  have hraw : rawish m.mode = true → ∀ md, rawish md = true := by rw [hm]; intro z; cases z
  have hR' := hR
  obtain ⟨Fr, A, vt, va, vs, tl, B, hr'⟩ := hR'
  refine ⟨_, (pss_one (ps_if (pt_truth (pe_gf (gf_is_small_letter T) (hr.mono (by decide)) rfl (pa_cons (pv 1) pa_nil)) (fun _ => rfl)) (pss_cons (ps_fld (pv 0) (pe_lst (pa_cons (pv 1) pa_nil)) rfl) (pss_one (ps_fld (pv 0) (pe_gc T.g_OPEN_NAME rfl) rfl))) (pss_one (ps_if (pt_cmpR (op_eqW hr.units) (pv 1) (pe_gc T.g_SLASH rfl) (nomark _)) (pss_one (ps_fld (pv 0) (pe_gc T.g_BEHIND_CLOSE rfl) rfl)) (pss_one (ps_if (pt_cmpR (op_eqW hr.units) (pv 1) (pe_gc T.g_BANG rfl) (nomark _)) (pss_one (ps_fld (pv 0) (pe_gc T.g_BEHIND_BANG rfl) rfl)) (pss_one (ps_expr (pe_gm (pv 0) (gm_Reader_fail T) (hr.mono (by decide)) (pa_cons (pe_gc T.g_UNEXPECTED rfl) pa_nil)))))))))), ?_⟩
  walk_at "s"
  unfold Vaesca.inLt at q
  split
  ·rename_i z
   rw [if_pos z] at q
   refine ⟨szl, fun p hp => ?_⟩
   have B1 := B.newTg hp [c]
   exact ⟨_, _, _, upd_of hp B.ins, T.k_Reader, T.n_Reader_tag_name, rd_len, st_mode T.k_Reader T.n_Reader_mode (B1.rd (fun z => by cases z)) .openName (fun z => hraw z _) rfl q⟩
  ·rename_i z
   rw [if_neg z] at q
   split
   ·rw [if_pos (by simp; omega)] at q
    exact st_mode T.k_Reader T.n_Reader_mode hR .ltSlash (fun z => hraw z _) rfl q
   ·rw [if_neg (by simp; omega)] at q
    split
    ·rw [if_pos (by simp; omega)] at q
     exact st_mode T.k_Reader T.n_Reader_mode hR .bang (fun z => hraw z _) rfl q
    ·rw [if_neg (by simp; omega)] at q
     exact ⟨_, _, B.ins, rfl, r, 1, ⟨rfl, rfl⟩, m, H0, hR, q⟩
theorem gf_lengthen (T : Txt P w K mg CR CP CB) : GF P w K mg base "lengthen" (1 + 1) ["reader", "name", "sign"] (fun vs H Q _ => ∃ r a c m t H0, vs = [.ref r, .ref a, .int (c : Nat)] ∧ RD CR H0 H r m ∧ H a = some (.lst (vi t)) ∧ t.length ≤ 100 ∧ (t.length = 32 → ∀ H', RD CR H0 H' r (m.fail 2) → Q .non H') ∧ (¬ t.length = 32 → Q .non (upd H a (.lst (vi (t ++ [c])))))) := by
 refine gf_mk T.f_lengthen sc_lengthen (fun _ _ _ _ _ _ => us3 fun _ _ _ => rfl) (fun vs H Q E h => ?_) (fun f cdv A outer s H vs Q E hr h => ?_)
 ·exact ln6 h fun _ _ _ _ _ _ => rfl
 ·obtain ⟨r, a, c, m, t, H0, rfl, hR, ha, hz, q1, q2⟩ := h
  obtain ⟨dx, A, hI⟩ := hR.ins'
  refine ⟨_, (pss_one (ps_if (pt_cmpR (op_eqW hr.units) (pe_callB call_len rfl T.b_len PySem.boot_len (pa_cons (pv 1) pa_nil)) (pe_gc T.g_LONGEST_NAME rfl) (nomark _)) (pss_one (ps_expr (pe_gm (pv 0) (gm_Reader_fail T) (hr.mono (by decide)) (pa_cons (pe_gc T.g_NAME_TOO_LONG rfl) pa_nil)))) (pss_one (ps_expr (pe_bm PySem.F.plainAttrs_list PySem.F.slot_list_append PySem.F.type_list_append mt_append (pv 1) (pa_cons (pv 2) pa_nil)))))), ?_⟩
  walk_at "s"
  refine ⟨_, lenv (SqL.of ha), ?_⟩
  rw [vi_length]
  split
  ·exact ⟨_, _, hI, rfl, r, 2, ⟨rfl, rfl⟩, m, H0, hR, q1 (by omega)⟩
  ·refine ⟨tyL ha, _, ha, by rw [vi_length]; exact szlt, ?_⟩
   rw [← vi_snoc]; exact q2 (by omega)
theorem gf_go_on_in_tag (T : Txt P w K mg CR CP CB) : GF P w K mg base "go_on_in_tag" (2 + 1) ["reader", "sign"] (fun vs H Q _ => ∃ r c m H0, vs = [.ref r, .int (c : Nat)] ∧ RD CR H0 H r m ∧ m.tokens.length ≤ 100000 ∧ rawish m.mode = false ∧ ∀ H', RD CR H0 H' r (Vaesca.inBehind m c) → Q .non H') := by
 refine gf_mk T.f_go_on_in_tag sc_go_on_in_tag (fun _ _ _ _ _ _ => us2 fun _ _ => rfl) (fun vs H Q E h => ?_) (fun f cdv A outer s H vs Q E hr h => ?_)
 ·exact ln4 h fun _ _ _ _ => rfl
 ·obtain ⟨r, c, m, H0, rfl, hR, hz, hm, q⟩ := h
  have hraw : rawish m.mode = true → ∀ md, rawish md = true := by rw [hm]; intro z; cases z
  obtain ⟨dx, A, hI⟩ := hR.ins'
  refine ⟨_, (pss_one (ps_if (pt_truth (pe_gf (gf_is_blank T) (hr.mono (by decide)) rfl (pa_cons (pv 1) pa_nil)) (fun _ => rfl)) (pss_one (ps_fld (pv 0) (pe_gc T.g_GAP rfl) rfl)) (pss_one (ps_if (pt_cmpR (op_eqW hr.units) (pv 1) (pe_gc T.g_SLASH rfl) (nomark _)) (pss_one (ps_fld (pv 0) (pe_gc T.g_BEHIND_SLASH rfl) rfl)) (pss_one (ps_if (pt_cmpR (op_eqW hr.units) (pv 1) (pe_gc T.g_GREATER rfl) (nomark _)) (pss_one (ps_expr (pe_gm0 (pv 0) (gm_Reader_end_tag T) (hr.mono (by decide))))) (pss_one (ps_expr (pe_gm (pv 0) (gm_Reader_fail T) (hr.mono (by decide)) (pa_cons (pe_gc T.g_UNEXPECTED rfl) pa_nil)))))))))), ?_⟩
  walk_at "s"
  unfold Vaesca.inBehind Vaesca.tagEnds at q
  split
  ·rename_i z
   rw [if_pos z] at q
   exact st_mode T.k_Reader T.n_Reader_mode hR .gap (fun z => hraw z _) rfl q
  ·rename_i z
   rw [if_neg z] at q
   split
   ·rename_i z2
    rw [if_pos (by simp; omega)] at q
    exact st_mode T.k_Reader T.n_Reader_mode hR .slash (fun z => hraw z _) rfl q
   ·rename_i z2
    rw [if_neg (by simp; omega)] at q
    split
    ·rename_i z3
     rw [if_pos (by simp; omega)] at q
     exact ⟨_, _, hI, rfl, m, H0, hR, hz, hm, q⟩
    ·rename_i z3
     rw [if_neg (by simp; omega)] at q
     exact ⟨_, _, hI, rfl, r, 1, ⟨rfl, rfl⟩, m, H0, hR, q⟩
theorem gf_in_open_name (T : Txt P w K mg CR CP CB) : GF P w K mg base "in_open_name" (3 + 1) ["reader", "sign"] (fun vs H Q _ => ∃ r c m H0, vs = [.ref r, .int (c : Nat)] ∧ RD CR H0 H r m ∧ m.tokens.length ≤ 100000 ∧ m.tag.length ≤ 32 ∧ rawish m.mode = false ∧ ∀ H', RD CR H0 H' r (Vaesca.inOpenName m c) → Q .non H') := by
 refine gf_mk T.f_in_open_name sc_in_open_name (fun _ _ _ _ _ _ => us2 fun _ _ => rfl) (fun vs H Q E h => ?_) (fun f cdv A outer s H vs Q E hr h => ?_)
 ·exact ln4 h fun _ _ _ _ => rfl
 ·obtain ⟨r, c, m, H0, rfl, hR, hz, ht, hm, q⟩ := h
  have hR' := hR
  obtain ⟨Fr, A, vt, va, vs, tl, B, hr'⟩ := hR'
  have ho := B.own hr' hm
  subst ho
  refine ⟨_, (pss_one (ps_if (pt_truth (pe_gf (gf_is_name_sign T) (hr.mono (by decide)) rfl (pa_cons (pv 1) pa_nil)) (fun _ => rfl)) (pss_one (ps_expr (pe_gf (gf_lengthen T) (hr.mono (by decide)) rfl (pa_cons (pv 0) (pa_cons (pe_fld (pv 0) rfl) (pa_cons (pv 1) pa_nil)))))) (pss_one (ps_expr (pe_gf (gf_go_on_in_tag T) (hr.mono (by decide)) rfl (pa_cons (pv 0) (pa_cons (pv 1) pa_nil))))))), ?_⟩
  walk_at "s"
  unfold Vaesca.inOpenName at q
  split
  ·rename_i z
   rw [if_pos z] at q
   refine ⟨_, _, _, B.ins, T.k_Reader, T.n_Reader_tag_name, _, rfl, r, A.tg, c, ⟨rfl, rfl, rfl⟩, m, m.tag, H0, hR, B.htg, by omega, fun z2 => ?_, fun z2 => ?_⟩
   ·rw [if_neg (show ¬ m.tag.length < Vaesca.NAME by rw [z2]; decide)] at q
    exact q
   ·rw [if_pos (show m.tag.length < Vaesca.NAME by show m.tag.length < 32; omega)] at q
    exact q _ ((B.setTg (m.tag ++ [c])).rd (fun z => by cases z))
  ·rename_i z
   rw [if_neg z] at q
   exact ⟨r, c, ⟨rfl, rfl⟩, m, H0, hR, hz, hm, q⟩
theorem gf_behind_close (T : Txt P w K mg CR CP CB) : GF P w K mg base "behind_close" (1 + 1) ["reader", "sign"] (fun vs H Q _ => ∃ r c m H0, vs = [.ref r, .int (c : Nat)] ∧ RD CR H0 H r m ∧ rawish m.mode = false ∧ ∀ H', RD CR H0 H' r (Vaesca.inLtSlash m c) → Q .non H') := by
 refine gf_mk T.f_behind_close sc_behind_close (fun _ _ _ _ _ _ => us2 fun _ _ => rfl) (fun vs H Q E h => ?_) (fun f cdv A outer s H vs Q E hr h => ?_)
 ·exact ln4 h fun _ _ _ _ => rfl
 ·obtain ⟨r, c, m, H0, rfl, hR, hm, q⟩ := h
  have hraw : rawish m.mode = true → ∀ md, rawish md = true := by rw [hm]; intro z; cases z
  have hR' := hR
  obtain ⟨Fr, A, vt, va, vs, tl, B, hr'⟩ := hR'
  refine ⟨_, (pss_one (ps_if (pt_truth (pe_gf (gf_is_small_letter T) (hr.mono (by decide)) rfl (pa_cons (pv 1) pa_nil)) (fun _ => rfl)) (pss_cons (ps_fld (pv 0) (pe_lst (pa_cons (pv 1) pa_nil)) rfl) (pss_one (ps_fld (pv 0) (pe_gc T.g_CLOSE_NAME rfl) rfl))) (pss_one (ps_expr (pe_gm (pv 0) (gm_Reader_fail T) (hr.mono (by decide)) (pa_cons (pe_gc T.g_UNEXPECTED rfl) pa_nil)))))), ?_⟩
  walk_at "s"
  unfold Vaesca.inLtSlash at q
  split
  ·rename_i z
   rw [if_pos z] at q
   refine ⟨szl, fun p hp => ?_⟩
   have B1 := B.newTg hp [c]
   exact ⟨_, _, _, upd_of hp B.ins, T.k_Reader, T.n_Reader_tag_name, rd_len, st_mode T.k_Reader T.n_Reader_mode (B1.rd (fun z => by cases z)) .closeName (fun z => hraw z _) rfl q⟩
  ·rename_i z
   rw [if_neg z] at q
   exact ⟨_, _, B.ins, rfl, r, 1, ⟨rfl, rfl⟩, m, H0, hR, q⟩
theorem gf_in_close_name (T : Txt P w K mg CR CP CB) : GF P w K mg base "in_close_name" (2 + 1) ["reader", "sign"] (fun vs H Q _ => ∃ r c m H0, vs = [.ref r, .int (c : Nat)] ∧ RD CR H0 H r m ∧ m.tokens.length ≤ 100000 ∧ m.tag.length ≤ 32 ∧ rawish m.mode = false ∧ ∀ H', RD CR H0 H' r (Vaesca.inCloseName m c) → Q .non H') := by
 refine gf_mk T.f_in_close_name sc_in_close_name (fun _ _ _ _ _ _ => us2 fun _ _ => rfl) (fun vs H Q E h => ?_) (fun f cdv A outer s H vs Q E hr h => ?_)
 ·exact ln4 h fun _ _ _ _ => rfl
 ·obtain ⟨r, c, m, H0, rfl, hR, hz, ht, hm, q⟩ := h
  have hR' := hR
  obtain ⟨Fr, A, vt, va, vs, tl, B, hr'⟩ := hR'
  have ho := B.own hr' hm
  subst ho
  refine ⟨_, (pss_one (ps_if (pt_truth (pe_gf (gf_is_name_sign T) (hr.mono (by decide)) rfl (pa_cons (pv 1) pa_nil)) (fun _ => rfl)) (pss_one (ps_expr (pe_gf (gf_lengthen T) (hr.mono (by decide)) rfl (pa_cons (pv 0) (pa_cons (pe_fld (pv 0) rfl) (pa_cons (pv 1) pa_nil)))))) (pss_one (ps_if (pt_cmpR (op_eqW hr.units) (pv 1) (pe_gc T.g_GREATER rfl) (nomark _)) (pss_one (ps_expr (pe_gm0 (pv 0) (gm_Reader_end_close_tag T) (hr.mono (by decide))))) (pss_one (ps_expr (pe_gm (pv 0) (gm_Reader_fail T) (hr.mono (by decide)) (pa_cons (pe_gc T.g_UNEXPECTED rfl) pa_nil)))))))), ?_⟩
  walk_at "s"
  unfold Vaesca.inCloseName at q
  split
  ·rename_i z
   rw [if_pos z] at q
   refine ⟨_, _, _, B.ins, T.k_Reader, T.n_Reader_tag_name, _, rfl, r, A.tg, c, ⟨rfl, rfl, rfl⟩, m, m.tag, H0, hR, B.htg, by omega, fun z2 => ?_, fun z2 => ?_⟩
   ·rw [if_neg (show ¬ m.tag.length < Vaesca.NAME by rw [z2]; decide)] at q
    exact q
   ·rw [if_pos (show m.tag.length < Vaesca.NAME by show m.tag.length < 32; omega)] at q
    exact q _ ((B.setTg (m.tag ++ [c])).rd (fun z => by cases z))
  ·rename_i z
   rw [if_neg z] at q
   split
   ·rw [if_pos (by simp; omega)] at q
    exact ⟨_, _, B.ins, rfl, m.from_, m, H0, hR, hz, q⟩
   ·rw [if_neg (by simp; omega)] at q
    exact ⟨_, _, B.ins, rfl, r, 1, ⟨rfl, rfl⟩, m, H0, hR, q⟩
theorem gf_in_gap (T : Txt P w K mg CR CP CB) : GF P w K mg base "in_gap" (3 + 1) ["reader", "sign"] (fun vs H Q _ => ∃ r c m H0, vs = [.ref r, .int (c : Nat)] ∧ RD CR H0 H r m ∧ m.tokens.length ≤ 100000 ∧ rawish m.mode = false ∧ ∀ H', RD CR H0 H' r (Vaesca.inGap m c) → Q .non H') := by
 refine gf_mk T.f_in_gap sc_in_gap (fun _ _ _ _ _ _ => us2 fun _ _ => rfl) (fun vs H Q E h => ?_) (fun f cdv A outer s H vs Q E hr h => ?_)
 ·exact ln4 h fun _ _ _ _ => rfl
 ·obtain ⟨r, c, m, H0, rfl, hR, hz, hm, q⟩ := h
  have hraw : rawish m.mode = true → ∀ md, rawish md = true := by rw [hm]; intro z; cases z
  have hR' := hR
  obtain ⟨Fr, A, vt, va, vs, tl, B, hr'⟩ := hR'
  refine ⟨_, (pss_one (ps_if (pt_truth (pe_gf (gf_is_small_letter T) (hr.mono (by decide)) rfl (pa_cons (pv 1) pa_nil)) (fun _ => rfl)) (pss_cons (ps_fld (pv 0) (pe_lst (pa_cons (pv 1) pa_nil)) rfl) (pss_one (ps_fld (pv 0) (pe_gc T.g_ATTRIBUTE_NAME rfl) rfl))) (pss_one (ps_expr (pe_gf (gf_go_on_in_tag T) (hr.mono (by decide)) rfl (pa_cons (pv 0) (pa_cons (pv 1) pa_nil))))))), ?_⟩
  walk_at "s"
  unfold Vaesca.inGap at q
  split
  ·rename_i z
   have zb : Vaesca.isBlank c = false := by simp [Vaesca.isSmall] at z; simp [Vaesca.isBlank]; omega
   rw [zb, if_neg (by decide), if_pos z] at q
   refine ⟨szl, fun p hp => ?_⟩
   have B1 := B.newAn hp [c]
   exact ⟨_, _, _, upd_of hp B.ins, T.k_Reader, T.n_Reader_attribute_name, rd_len, st_mode T.k_Reader T.n_Reader_mode (B1.rd hr') .attrName (fun z => hraw z _) rfl q⟩
  ·rename_i z
   rw [if_neg z] at q
   exact ⟨r, c, ⟨rfl, rfl⟩, m, H0, hR, hz, hm, q⟩
theorem beh_gap (m : Reader) (c : Nat) (h : (Vaesca.isBlank c || c == 47 || c == 62 || c == 61) = true) : Vaesca.inBehind m c = Vaesca.inGap m c := by
 unfold Vaesca.inBehind Vaesca.inGap
 have hs : Vaesca.isSmall c = false := by
  simp [Vaesca.isBlank] at h
  simp [Vaesca.isSmall]; omega
 rw [hs]; rfl
theorem gf_in_attribute_name (T : Txt P w K mg CR CP CB) : GF P w K mg base "in_attribute_name" (3 + 1) ["reader", "sign"] (fun vs H Q _ => ∃ r c m H0, vs = [.ref r, .int (c : Nat)] ∧ RD CR H0 H r m ∧ m.tokens.length ≤ 100000 ∧ m.attrs.length ≤ 100000 ∧ m.attr.length ≤ 32 ∧ rawish m.mode = false ∧ ∀ H', RD CR H0 H' r (Vaesca.inAttrName m c) → Q .non H') := by
 refine gf_mk T.f_in_attribute_name sc_in_attribute_name (fun _ _ _ _ _ _ => us2 fun _ _ => rfl) (fun vs H Q E h => ?_) (fun f cdv A outer s H vs Q E hr h => ?_)
 ·exact ln4 h fun _ _ _ _ => rfl
 ·obtain ⟨r, c, m, H0, rfl, hR, hz, hz2, ht, hm, q⟩ := h
  have hraw : rawish m.mode = true → ∀ md, rawish md = true := by rw [hm]; intro z; cases z
  have hR' := hR
  obtain ⟨Fr, A, vt, va, vs, tl, B, hr'⟩ := hR'
  refine ⟨_, (pss_one (ps_if (pt_truth (pe_gf (gf_is_name_sign T) (hr.mono (by decide)) rfl (pa_cons (pv 1) pa_nil)) (fun _ => rfl)) (pss_one (ps_expr (pe_gf (gf_lengthen T) (hr.mono (by decide)) rfl (pa_cons (pv 0) (pa_cons (pe_fld (pv 0) rfl) (pa_cons (pv 1) pa_nil)))))) (pss_one (ps_if (pt_not (PW.pt (pw_or (pt_truth (pe_gf (gf_is_blank T) (hr.mono (by decide)) rfl (pa_cons (pv 1) pa_nil)) (fun _ => rfl)) (pw_or1 (pt_cmpR op_in_seq (pv 1) (pe_tup (pa_cons (pe_gc T.g_SLASH rfl) (pa_cons (pe_gc T.g_EQUALS rfl) (pa_cons (pe_gc T.g_GREATER rfl) pa_nil)))) (by with_unfolding_all rfl)))))) (pss_one (ps_expr (pe_gm (pv 0) (gm_Reader_fail T) (hr.mono (by decide)) (pa_cons (pe_gc T.g_UNEXPECTED rfl) pa_nil)))) (pss_one (ps_if (pt_truth (pe_gm0 (pv 0) (gm_Reader_has_attribute T) (hr.mono (by decide))) (fun _ => rfl)) (pss_one (ps_expr (pe_gm (pv 0) (gm_Reader_fail T) (hr.mono (by decide)) (pa_cons (pe_gc T.g_NAME_TWICE rfl) pa_nil)))) (pss_one (ps_if (pt_cmpR (op_eqW hr.units) (pv 1) (pe_gc T.g_EQUALS rfl) (nomark _)) (pss_one (ps_fld (pv 0) (pe_gc T.g_BEHIND_EQUALS rfl) rfl)) (pss_cons (ps_expr (pe_gm0 (pv 0) (gm_Reader_end_attribute T) (hr.mono (by decide)))) (pss_one (ps_expr (pe_gf (gf_go_on_in_tag T) (hr.mono (by decide)) rfl (pa_cons (pv 0) (pa_cons (pv 1) pa_nil)))))))))))))), ?_⟩
  walk_at "s"
  unfold Vaesca.inAttrName at q
  split
  ·rename_i z
   rw [if_pos z] at q
   refine ⟨_, _, _, B.ins, T.k_Reader, T.n_Reader_attribute_name, _, rfl, r, A.an, c, ⟨rfl, rfl, rfl⟩, m, m.attr, H0, hR, B.han, by omega, fun z2 => ?_, fun z2 => ?_⟩
   ·rw [if_neg (show ¬ m.attr.length < Vaesca.NAME by rw [z2]; decide)] at q
    exact q
   ·rw [if_pos (show m.attr.length < Vaesca.NAME by show m.attr.length < 32; omega)] at q
    exact q _ ((B.setAn (m.attr ++ [c])).rd hr')
  ·rename_i z
   rw [if_neg z] at q
   split
   ·rename_i z1
    have hb : (Vaesca.isBlank c || c == 47 || c == 62 || c == 61) = true := by rw [z1]; rfl
    rw [hb, if_neg (by decide)] at q
    rw [if_neg (by decide)]
    have R1 := hR
    have hI1 := B.ins
    refine ⟨_, _, hI1, rfl, m, ⟨H0, R1⟩, hz2, fun H2 s2 => ?_⟩
    have R2 := R1.laid s2
    obtain ⟨dx2, A2, hI2⟩ := R2.ins'
    split
    ·rename_i y; rw [if_pos y] at q; exact ⟨_, _, hI2, rfl, r, 3, ⟨rfl, rfl⟩, m, H0, R2, q⟩
    ·rename_i y
     rw [if_neg y] at q
     split
     ·rename_i y2; rw [if_pos (by simp; omega)] at q; exact st_mode T.k_Reader T.n_Reader_mode R2 .eq (fun z => hraw z _) rfl q
     ·rename_i y2
      rw [if_neg (by simp; omega)] at q
      refine ⟨_, _, hI2, rfl, m, H0, R2, hz2, fun H3 R3 => ⟨r, c, ⟨rfl, rfl⟩, Vaesca.endAttr m, H0, R3, hz, hm, fun H4 R4 => q H4 ?_⟩⟩
      rw [beh_gap _ _ hb] at R4; exact R4
   ·rename_i z1
    refine ⟨szl, fun p hp => ?_⟩
    have R1 := hR.laid (same_new (o := HO.tup [V.int 47, V.int 61, V.int 62]) hp)
    have hI1 := upd_of (o := HO.tup [V.int 47, V.int 61, V.int 62]) hp B.ins
    refine ⟨p, _, rfl, .inr (SqT.of upd_same), rfl, flat_ints [47, 61, 62], ?_⟩
    refine ⟨_, rfl, ?_⟩
    have ei : (if false = true then !inV (V.int c) [V.int 47, V.int 61, V.int 62] else inV (V.int c) [V.int 47, V.int 61, V.int 62]) = decide ((c : Int) ∈ [47, 61, 62]) := inV_ints c [47, 61, 62]
    rw [ei]
    split
    ·rename_i z2
     have hb : (Vaesca.isBlank c || c == 47 || c == 62 || c == 61) = false := by
      simp at z2
      rw [bool_ne z1]; simp; omega
     rw [hb, if_pos (by decide)] at q
     exact ⟨_, _, hI1, rfl, r, 1, ⟨rfl, rfl⟩, m, H0, R1, q⟩
    ·rename_i z2
     have hb : (Vaesca.isBlank c || c == 47 || c == 62 || c == 61) = true := by
      simp at z2
      simp; omega
     rw [hb, if_neg (by decide)] at q
     refine ⟨_, _, hI1, rfl, m, ⟨H0, R1⟩, hz2, fun H2 s2 => ?_⟩
     have R2 := R1.laid s2
     obtain ⟨dx2, A2, hI2⟩ := R2.ins'
     split
     ·rename_i y; rw [if_pos y] at q; exact ⟨_, _, hI2, rfl, r, 3, ⟨rfl, rfl⟩, m, H0, R2, q⟩
     ·rename_i y
      rw [if_neg y] at q
      split
      ·rename_i y2; rw [if_pos (by simp; omega)] at q; exact st_mode T.k_Reader T.n_Reader_mode R2 .eq (fun z => hraw z _) rfl q
      ·rename_i y2
       rw [if_neg (by simp; omega)] at q
       refine ⟨_, _, hI2, rfl, m, H0, R2, hz2, fun H3 R3 => ⟨r, c, ⟨rfl, rfl⟩, Vaesca.endAttr m, H0, R3, hz, hm, fun H4 R4 => q H4 ?_⟩⟩
       rw [beh_gap _ _ hb] at R4; exact R4
end
section
open Vaesca (Reader Token Mode Home)
theorem gf_behind_equals (T : Txt P w K mg CR CP CB) : GF P w K mg base "behind_equals" (2 + 1) ["reader", "sign"] (fun vs H Q _ => ∃ r c m H0, vs = [.ref r, .int (c : Nat)] ∧ RD CR H0 H r m ∧ m.attrs.length ≤ 100000 ∧ m.run = [] ∧ rawish m.mode = false ∧ (Vaesca.isMark c = false → ∀ H', RD CR H0 H' r (Vaesca.inEq m c) → Q .non H') ∧ (Vaesca.isMark c = true → ∀ H', RD CR H0 H' r { (Vaesca.endAttr { m with run := [c] }) with mode := .behind } → Q .non H')) := by
 refine gf_mk T.f_behind_equals sc_behind_equals (fun _ _ _ _ _ _ => us2 fun _ _ => rfl) (fun vs H Q E h => ?_) (fun f cdv A outer s H vs Q E hr h => ?_)
 ·exact ln4 h fun _ _ _ _ => rfl
 ·obtain ⟨r, c, m, H0, rfl, hR, hz, hrun, hm, q1, q2⟩ := h
  have hraw : rawish m.mode = true → ∀ md, rawish md = true := by rw [hm]; intro z; cases z
  have hR' := hR
  obtain ⟨Fr, A, vt, va, vs, tl, B, hr'⟩ := hR'
  have B1 := B.setRn (m.run ++ [c])
  have R1 := B1.rd hr'
  rw [show m.run ++ [c] = [c] by rw [hrun]; rfl] at R1
  have er : vi m.run ++ [V.int c] = vi [c] := by rw [hrun]; rfl
  refine ⟨_, (pss_one (ps_if (pt_cmpR (op_eqW hr.units) (pv 1) (pe_gc T.g_QUOTE rfl) (nomark _)) (pss_one (ps_fld (pv 0) (pe_gc T.g_IN_QUOTES rfl) rfl)) (pss_one (ps_if (pt_cmpR (op_eqW hr.units) (pv 1) (pe_gc T.g_APOSTROPHE rfl) (nomark _)) (pss_one (ps_fld (pv 0) (pe_gc T.g_IN_APOSTROPHES rfl) rfl)) (pss_one (ps_if (pt_cmpR (op_eqW hr.units) (pv 1) (pe_gc T.g_AND rfl) (nomark _)) (pss_one (ps_fld (pv 0) (pe_gc T.g_REFERENCE_IN_BARE rfl) rfl)) (pss_one (ps_if (pt_truth (pe_gf (gf_is_mark T) (hr.mono (by decide)) rfl (pa_cons (pv 1) pa_nil)) (fun _ => rfl)) (pss_cons (ps_expr (pe_bm PySem.F.plainAttrs_list PySem.F.slot_list_append PySem.F.type_list_append mt_append (pe_fld (pv 0) rfl) (pa_cons (pv 1) pa_nil))) (pss_cons (ps_expr (pe_gm0 (pv 0) (gm_Reader_end_attribute T) (hr.mono (by decide)))) (pss_one (ps_fld (pv 0) (pe_gc T.g_BEHIND_VALUE rfl) rfl)))) (pss_one (ps_if (pt_truth (pe_gf (gf_is_bare_sign T) (hr.mono (by decide)) rfl (pa_cons (pv 1) pa_nil)) (fun _ => rfl)) (pss_cons (ps_expr (pe_bm PySem.F.plainAttrs_list PySem.F.slot_list_append PySem.F.type_list_append mt_append (pe_fld (pv 0) rfl) (pa_cons (pv 1) pa_nil))) (pss_one (ps_fld (pv 0) (pe_gc T.g_IN_BARE rfl) rfl))) (pss_one (ps_expr (pe_gm (pv 0) (gm_Reader_fail T) (hr.mono (by decide)) (pa_cons (pe_gc T.g_UNEXPECTED rfl) pa_nil)))))))))))))), ?_⟩
  walk_at "s"
  have nm : ∀ d : Nat, c = d → d < 256 → Vaesca.isMark c = false := by intro d e hd; subst e; simp [Vaesca.isMark]; omega
  split
  ·rename_i z
   have zc : c = 34 := by omega
   refine st_mode T.k_Reader T.n_Reader_mode hR .double (fun z => hraw z _) rfl fun H2 R2 => q1 (nm 34 zc (by decide)) H2 ?_
   subst zc; exact R2
  ·rename_i z
   split
   ·rename_i z2
    have zc : c = 39 := by omega
    refine st_mode T.k_Reader T.n_Reader_mode hR .single (fun z => hraw z _) rfl fun H2 R2 => q1 (nm 39 zc (by decide)) H2 ?_
    subst zc; exact R2
   ·rename_i z2
    split
    ·rename_i z3
     have zc : c = 38 := by omega
     refine st_mode T.k_Reader T.n_Reader_mode hR (.ref .bare) (fun z => hraw z _) rfl fun H2 R2 => q1 (nm 38 zc (by decide)) H2 ?_
     subst zc; exact R2
    ·rename_i z3
     have e1 : (c == 34) = false := by simp; omega
     have e2 : (c == 39) = false := by simp; omega
     have e3 : (c == 38) = false := by simp; omega
     unfold Vaesca.inEq at q1
     rw [e1, e2, e3] at q1
     split
     ·rename_i z4
      refine ⟨_, _, _, B.ins, T.k_Reader, T.n_Reader_run, _, rfl, tyL B.hrn, _, rfl, _, B.hrn, (by rw [vi_length, hrun]; exact szlt), ?_⟩
      rw [er, ← show m.run ++ [c] = [c] by rw [hrun]; rfl]
      refine ⟨_, _, B1.ins, rfl, _, _, B1.rd hr', hz, fun H2 R2 => ?_⟩
      refine st_mode T.k_Reader T.n_Reader_mode R2 .behind (fun z => hraw z _) rfl fun H3 R3 => q2 z4 H3 ?_
      rw [show m.run ++ [c] = [c] by rw [hrun]; rfl] at R3
      exact R3
     ·rename_i z4
      have q1' := q1 (bool_ne z4)
      split
      ·rename_i z5
       refine ⟨_, _, _, B.ins, T.k_Reader, T.n_Reader_run, _, rfl, tyL B.hrn, _, rfl, _, B.hrn, (by rw [vi_length, hrun]; exact szlt), ?_⟩
       rw [er]
       rw [show m.run ++ [c] = [c] by rw [hrun]; rfl] at B1
       refine st_mode T.k_Reader T.n_Reader_mode R1 .bare (fun z => hraw z _) rfl fun H3 R3 => q1' H3 ?_
       rw [if_pos z5]; exact R3
      ·rename_i z5
       refine ⟨_, _, B.ins, rfl, r, 1, ⟨rfl, rfl⟩, m, H0, hR, fun H3 R3 => q1' H3 ?_⟩
       rw [if_neg z5]; exact R3
theorem gf_in_quoted (T : Txt P w K mg CR CP CB) : GF P w K mg base "in_quoted" (1 + 1) ["reader", "sign", "quote", "reference_mode"] (fun vs H Q _ => ∃ r c u g h m H0, vs = [.ref r, .int (c : Nat), .int (u : Nat), .int g] ∧ g = ((Mode.ref h).code : Int) ∧ RD CR H0 H r m ∧ m.attrs.length ≤ 100000 ∧ m.run.length ≤ 100000 ∧ rawish m.mode = false ∧ ∀ H', RD CR H0 H' r (Vaesca.inQuotes u h m c) → Q .non H') := by
 refine gf_mk T.f_in_quoted sc_in_quoted (fun _ _ _ _ _ _ => us4 fun _ _ _ _ => rfl) (fun vs H Q E h => ?_) (fun f cdv A outer s H vs Q E hr h => ?_)
 ·exact ln7 h fun _ _ _ _ _ _ _ => rfl
 ·obtain ⟨r, c, u, g, h, m, H0, rfl, hg, hR, hz, hz2, hm, q⟩ := h
  have hraw : rawish m.mode = true → ∀ md, rawish md = true := by rw [hm]; intro z; cases z
  obtain ⟨dx, A, hI⟩ := hR.ins'
  refine ⟨_, (pss_one (ps_if (pt_cmpR (op_eqW hr.units) (pv 1) (pv 2) (nomark _)) (pss_cons (ps_expr (pe_gm0 (pv 0) (gm_Reader_end_attribute T) (hr.mono (by decide)))) (pss_one (ps_fld (pv 0) (pe_gc T.g_BEHIND_VALUE rfl) rfl))) (pss_one (ps_if (pt_cmpR (op_eqW hr.units) (pv 1) (pe_gc T.g_AND rfl) (nomark _)) (pss_one (ps_fld (pv 0) (pv 3) rfl)) (pss_one (ps_expr (pe_bm PySem.F.plainAttrs_list PySem.F.slot_list_append PySem.F.type_list_append mt_append (pe_fld (pv 0) rfl) (pa_cons (pv 1) pa_nil)))))))), ?_⟩
  walk_at "s"
  unfold Vaesca.inQuotes at q
  split
  ·rename_i z
   rw [if_pos (by simp; omega)] at q
   refine ⟨_, _, hI, rfl, _, _, hR, hz, fun H2 R2 => ?_⟩
   exact st_mode T.k_Reader T.n_Reader_mode R2 .behind (fun z => hraw z _) rfl q
  ·rename_i z
   rw [if_neg (by simp; omega)] at q
   split
   ·rename_i z2
    rw [if_pos (by simp; omega)] at q
    exact st_mode T.k_Reader T.n_Reader_mode hR (.ref h) (fun z => hraw z _) hg q
   ·rename_i z2
    rw [if_neg (by simp; omega)] at q
    exact st_run T.k_Reader T.n_Reader_run hR hz2 c q
theorem gf_in_quotes (T : Txt P w K mg CR CP CB) : GF P w K mg base "in_quotes" (2 + 1) ["reader", "sign"] (fun vs H Q _ => ∃ r c m H0, vs = [.ref r, .int (c : Nat)] ∧ RD CR H0 H r m ∧ m.attrs.length ≤ 100000 ∧ m.run.length ≤ 100000 ∧ rawish m.mode = false ∧ ∀ H', RD CR H0 H' r (Vaesca.inQuotes 34 .double m c) → Q .non H') := by
 refine gf_mk T.f_in_quotes sc_in_quotes (fun _ _ _ _ _ _ => us2 fun _ _ => rfl) (fun vs H Q E h => ?_) (fun f cdv A outer s H vs Q E hr h => ?_)
 ·exact ln4 h fun _ _ _ _ => rfl
 ·obtain ⟨r, c, m, H0, rfl, hR, hz, hz2, hm, q⟩ := h
  refine ⟨_, (pss_one (ps_expr (pe_gf (gf_in_quoted T) (hr.mono (by decide)) rfl (pa_cons (pv 0) (pa_cons (pv 1) (pa_cons (pe_gc T.g_QUOTE rfl) (pa_cons (pe_gc T.g_REFERENCE_IN_QUOTES rfl) pa_nil))))))), ?_⟩
  walk_at "s"
  exact ⟨r, c, 34, 2, ⟨rfl, rfl, rfl, rfl⟩, .double, rfl, m, H0, hR, hz, hz2, hm, q⟩
theorem gf_in_apostrophes (T : Txt P w K mg CR CP CB) : GF P w K mg base "in_apostrophes" (2 + 1) ["reader", "sign"] (fun vs H Q _ => ∃ r c m H0, vs = [.ref r, .int (c : Nat)] ∧ RD CR H0 H r m ∧ m.attrs.length ≤ 100000 ∧ m.run.length ≤ 100000 ∧ rawish m.mode = false ∧ ∀ H', RD CR H0 H' r (Vaesca.inQuotes 39 .single m c) → Q .non H') := by
 refine gf_mk T.f_in_apostrophes sc_in_apostrophes (fun _ _ _ _ _ _ => us2 fun _ _ => rfl) (fun vs H Q E h => ?_) (fun f cdv A outer s H vs Q E hr h => ?_)
 ·exact ln4 h fun _ _ _ _ => rfl
 ·obtain ⟨r, c, m, H0, rfl, hR, hz, hz2, hm, q⟩ := h
  refine ⟨_, (pss_one (ps_expr (pe_gf (gf_in_quoted T) (hr.mono (by decide)) rfl (pa_cons (pv 0) (pa_cons (pv 1) (pa_cons (pe_gc T.g_APOSTROPHE rfl) (pa_cons (pe_gc T.g_REFERENCE_IN_APOSTROPHES rfl) pa_nil))))))), ?_⟩
  walk_at "s"
  exact ⟨r, c, 39, 3, ⟨rfl, rfl, rfl, rfl⟩, .single, rfl, m, H0, hR, hz, hz2, hm, q⟩
theorem gf_in_bare (T : Txt P w K mg CR CP CB) : GF P w K mg base "in_bare" (3 + 1) ["reader", "sign"] (fun vs H Q _ => ∃ r c m H0, vs = [.ref r, .int (c : Nat)] ∧ RD CR H0 H r m ∧ m.tokens.length ≤ 100000 ∧ m.attrs.length ≤ 100000 ∧ m.run.length ≤ 100000 ∧ m.mode = .bare ∧ (Vaesca.isMark c = false → ∀ H', RD CR H0 H' r (Vaesca.inBare m c) → Q .non H') ∧ (Vaesca.isMark c = true → ∀ H', RD CR H0 H' r (m.add [c]) → Q .non H')) := by
 refine gf_mk T.f_in_bare sc_in_bare (fun _ _ _ _ _ _ => us2 fun _ _ => rfl) (fun vs H Q E h => ?_) (fun f cdv A outer s H vs Q E hr h => ?_)
 ·exact ln4 h fun _ _ _ _ => rfl
 ·obtain ⟨r, c, m, H0, rfl, hR, hz, hz2, hz3, hm, q1, q2⟩ := h
  have hraw : rawish m.mode = true → ∀ md, rawish md = true := by rw [hm]; intro z; cases z
  obtain ⟨dx, A, hI⟩ := hR.ins'
  refine ⟨_, (pss_one (ps_if (PW.pt (pw_or (pt_truth (pe_gf (gf_is_mark T) (hr.mono (by decide)) rfl (pa_cons (pv 1) pa_nil)) (fun _ => rfl)) (pw_or1 (pt_truth (pe_gf (gf_is_bare_sign T) (hr.mono (by decide)) rfl (pa_cons (pv 1) pa_nil)) (fun _ => rfl))))) (pss_one (ps_expr (pe_bm PySem.F.plainAttrs_list PySem.F.slot_list_append PySem.F.type_list_append mt_append (pe_fld (pv 0) rfl) (pa_cons (pv 1) pa_nil)))) (pss_one (ps_if (pt_cmpR (op_eqW hr.units) (pv 1) (pe_gc T.g_AND rfl) (nomark _)) (pss_one (ps_fld (pv 0) (pe_gc T.g_REFERENCE_IN_BARE rfl) rfl)) (pss_one (ps_if (PW.pt (pw_or (pt_truth (pe_gf (gf_is_blank T) (hr.mono (by decide)) rfl (pa_cons (pv 1) pa_nil)) (fun _ => rfl)) (pw_or1 (pt_cmpR (op_eqW hr.units) (pv 1) (pe_gc T.g_GREATER rfl) (nomark _))))) (pss_cons (ps_expr (pe_gm0 (pv 0) (gm_Reader_end_attribute T) (hr.mono (by decide)))) (pss_one (ps_expr (pe_gf (gf_go_on_in_tag T) (hr.mono (by decide)) rfl (pa_cons (pv 0) (pa_cons (pv 1) pa_nil)))))) (pss_one (ps_expr (pe_gm (pv 0) (gm_Reader_fail T) (hr.mono (by decide)) (pa_cons (pe_gc T.g_UNEXPECTED rfl) pa_nil)))))))))), ?_⟩
  walk_at "s"
  split
  ·rename_i z
   exact st_run T.k_Reader T.n_Reader_run hR hz3 c (q2 z)
  ·rename_i z
   have q1' := q1 (bool_ne z)
   unfold Vaesca.inBare at q1'
   split
   ·rename_i z2
    rw [if_pos z2] at q1'
    exact st_run T.k_Reader T.n_Reader_run hR hz3 c q1'
   ·rename_i z2
    rw [if_neg z2] at q1'
    split
    ·rename_i z3
     rw [if_pos (by simp; omega)] at q1'
     exact st_mode T.k_Reader T.n_Reader_mode hR (.ref .bare) (fun z => hraw z _) rfl q1'
    ·rename_i z3
     rw [if_neg (by simp; omega)] at q1'
     split
     ·rename_i z4
      rw [if_pos z4] at q1'
      refine ⟨_, _, hI, rfl, m, H0, hR, hz2, fun H2 R2 => ⟨r, c, ⟨rfl, rfl⟩, Vaesca.endAttr m, H0, R2, hz, by show rawish m.mode = false; rw [hm]; rfl, fun H3 R3 => q1' H3 ?_⟩⟩
      unfold Vaesca.inBehind at R3
      rw [if_pos z4] at R3
      exact R3
     ·rename_i z4
      rw [if_neg z4] at q1'
      split
      ·rename_i z5
       have zc : c = 62 := by omega
       rw [if_pos (by simp; omega)] at q1'
       refine ⟨_, _, hI, rfl, m, H0, hR, hz2, fun H2 R2 => ⟨r, c, ⟨rfl, rfl⟩, Vaesca.endAttr m, H0, R2, hz, by show rawish m.mode = false; rw [hm]; rfl, fun H3 R3 => q1' H3 ?_⟩⟩
       unfold Vaesca.inBehind Vaesca.tagEnds at R3
       rw [if_neg z4, zc] at R3
       exact R3
      ·rename_i z5
       rw [if_neg (by simp; omega)] at q1'
       exact ⟨_, _, hI, rfl, r, 1, ⟨rfl, rfl⟩, m, H0, hR, q1'⟩
theorem gf_behind_slash (T : Txt P w K mg CR CP CB) : GF P w K mg base "behind_slash" (2 + 1) ["reader", "sign"] (fun vs H Q _ => ∃ r c m H0, vs = [.ref r, .int (c : Nat)] ∧ RD CR H0 H r m ∧ m.tokens.length ≤ 100000 ∧ rawish m.mode = false ∧ ∀ H', RD CR H0 H' r (Vaesca.inSlash m c) → Q .non H') := by
 refine gf_mk T.f_behind_slash sc_behind_slash (fun _ _ _ _ _ _ => us2 fun _ _ => rfl) (fun vs H Q E h => ?_) (fun f cdv A outer s H vs Q E hr h => ?_)
 ·exact ln4 h fun _ _ _ _ => rfl
 ·obtain ⟨r, c, m, H0, rfl, hR, hz, hm, q⟩ := h
  obtain ⟨dx, A, hI⟩ := hR.ins'
  refine ⟨_, (pss_one (ps_if (pt_cmpR (op_eqW hr.units) (pv 1) (pe_gc T.g_GREATER rfl) (nomark _)) (pss_one (ps_expr (pe_gm0 (pv 0) (gm_Reader_end_ended_tag T) (hr.mono (by decide))))) (pss_one (ps_expr (pe_gm (pv 0) (gm_Reader_fail T) (hr.mono (by decide)) (pa_cons (pe_gc T.g_UNEXPECTED rfl) pa_nil)))))), ?_⟩
  walk_at "s"
  unfold Vaesca.inSlash at q
  split
  ·rw [if_pos (by simp; omega)] at q
   exact ⟨_, _, hI, rfl, m, H0, hR, hz, hm, q⟩
  ·rw [if_neg (by simp; omega)] at q
   exact ⟨_, _, hI, rfl, r, 1, ⟨rfl, rfl⟩, m, H0, hR, q⟩
theorem gf_behind_bang (T : Txt P w K mg CR CP CB) : GF P w K mg base "behind_bang" (1 + 1) ["reader", "sign"] (fun vs H Q _ => ∃ r c m H0 md, vs = [.ref r, .int (c : Nat)] ∧ RD CR H0 H r m ∧ rawish m.mode = false ∧ (m.mode.code : Int) + 1 = (md : Mode).code ∧ ∀ H', RD CR H0 H' r (if c == 45 then m.go md else m.fail 1) → Q .non H') := by
 refine gf_mk T.f_behind_bang sc_behind_bang (fun _ _ _ _ _ _ => us2 fun _ _ => rfl) (fun vs H Q E h => ?_) (fun f cdv A outer s H vs Q E hr h => ?_)
 ·exact ln5 h fun _ _ _ _ _ => rfl
 ·obtain ⟨r, c, m, H0, md, rfl, hR, hm, hc, q⟩ := h
  have hraw : rawish m.mode = true → ∀ md, rawish md = true := by rw [hm]; intro z; cases z
  obtain ⟨dx, A, hI⟩ := hR.ins'
  refine ⟨_, (pss_one (ps_if (pt_cmpR (op_eqW hr.units) (pv 1) (pe_gc T.g_DASH rfl) (nomark _)) (pss_one (ps_fld (pv 0) (pe_op op_addW (pe_fld (pv 0) rfl) pe_int) rfl)) (pss_one (ps_expr (pe_gm (pv 0) (gm_Reader_fail T) (hr.mono (by decide)) (pa_cons (pe_gc T.g_UNEXPECTED rfl) pa_nil)))))), ?_⟩
  walk_at "s"
  split
  ·rw [if_pos (by simp; omega)] at q
   refine ⟨_, _, _, hI, T.k_Reader, T.n_Reader_mode, _, rfl, rAddU_int.mpr ?_⟩
   exact st_mode T.k_Reader T.n_Reader_mode hR md (fun z => hraw z _) hc q
  ·rw [if_neg (by simp; omega)] at q
   exact ⟨_, _, hI, rfl, r, 1, ⟨rfl, rfl⟩, m, H0, hR, q⟩
theorem rep45 : ∀ d : Nat, (List.replicate (d : Int).toNat [V.int 45]).flatten = vi (List.replicate d 45)
 | 0 => rfl
 | d + 1 => by
  have ih := rep45 d
  rw [Int.toNat_natCast] at ih ⊢
  rw [List.replicate_succ, List.flatten_cons, ih, List.replicate_succ]; rfl
theorem gf_in_comment (T : Txt P w K mg CR CP CB) : GF P w K mg base "in_comment" (1 + 1) ["reader", "sign"] (fun vs H Q _ => ∃ r c m H0 d, vs = [.ref r, .int (c : Nat)] ∧ RD CR H0 H r m ∧ m.tokens.length ≤ 100000 ∧ m.run.length ≤ 100000 ∧ m.mode = .comment d ∧ d ≤ 2 ∧ ∀ H', RD CR H0 H' r (Vaesca.inComment d m c) → Q .non H') := by
 refine gf_mk T.f_in_comment sc_in_comment (fun _ _ _ _ _ _ => us2 fun _ _ => rfl) (fun vs H Q E h => ?_) (fun f cdv A outer s H vs Q E hr h => ?_)
 ·exact ln5 h fun _ _ _ _ _ => rfl
 ·obtain ⟨r, c, m, H0, d, rfl, hR, hz, hz2, hm, hd, q⟩ := h
  have hraw : rawish m.mode = true → ∀ md, rawish md = true := by rw [hm]; intro z; cases z
  have hc : m.mode.code = 19 + d := by rw [hm]; show (if d = 0 then 19 else if d = 1 then 20 else 21) = 19 + d; split; (· omega); (· split <;> omega)
  obtain ⟨dx, A, hI⟩ := hR.ins'
  refine ⟨_, (pss_one (ps_if (PW.pt (pw_and (pt_cmpR (op_eqW hr.units) (pv 1) (pe_gc T.g_GREATER rfl) (nomark _)) (pw_and1 (pt_cmpR (op_eqW hr.units) (pe_fld (pv 0) rfl) (pe_gc T.g_COMMENT_TWO_DASHES rfl) (nomark _))))) (pss_cons (ps_expr (pe_gm (pv 0) (gm_Reader_tell_run T) (hr.mono (by decide)) (pa_cons (pe_gc T.g_COMMENT_TOKEN rfl) pa_nil))) (pss_one (ps_fld (pv 0) (pe_gc T.g_TEXT rfl) rfl))) (pss_one (ps_if (PW.pt (pw_and (pt_cmpR (op_eqW hr.units) (pv 1) (pe_gc T.g_DASH rfl) (nomark _)) (pw_and1 (pt_cmpR (op_eqW hr.units) (pe_fld (pv 0) rfl) (pe_gc T.g_COMMENT_TWO_DASHES rfl) (nomark _))))) (pss_one (ps_expr (pe_bm PySem.F.plainAttrs_list PySem.F.slot_list_append PySem.F.type_list_append mt_append (pe_fld (pv 0) rfl) (pa_cons (pe_gc T.g_DASH rfl) pa_nil)))) (pss_one (ps_if (pt_cmpR (op_eqW hr.units) (pv 1) (pe_gc T.g_DASH rfl) (nomark _)) (pss_one (ps_fld (pv 0) (pe_op op_addW (pe_fld (pv 0) rfl) pe_int) rfl)) (pss_cons (ps_expr (pe_bm PySem.F.plainAttrs_list PySem.F.slot_list_extend PySem.F.type_list_extend mt_extend (pe_fld (pv 0) rfl) (pa_cons (pe_op op_addW (pe_op op_mulW (pe_lst (pa_cons (pe_gc T.g_DASH rfl) pa_nil)) (pe_op op_sub (pe_fld (pv 0) rfl) (pe_gc T.g_COMMENT rfl))) (pe_lst (pa_cons (pv 1) pa_nil))) pa_nil))) (pss_one (ps_fld (pv 0) (pe_gc T.g_COMMENT rfl) rfl))))))))), ?_⟩
  walk_at "s"
  unfold Vaesca.inComment at q
  by_cases h62 : c = 62
  ·rw [if_pos (by omega)]
   refine ⟨_, _, _, hI, T.k_Reader, T.n_Reader_mode, _, rfl, rEqU_int.mpr ⟨_, rfl, ?_⟩⟩
   have e45 : (c == 45) = false := by simp; omega
   have e62 : (c == 62) = true := by simp; omega
   rw [e45, e62] at q
   by_cases hd2 : d = 2
   ·have e2 : (d == 2) = true := by simp [hd2]
    rw [e2] at q
    rw [if_pos (by simp; omega)]
    refine ⟨_, _, hI, rfl, r, 3, ⟨rfl, rfl⟩, .comment m.from_ m.run, m, H0, hR, hz, fun _ _ z => z, fun H2 R2 => ?_⟩
    exact st_mode T.k_Reader T.n_Reader_mode R2 .text (fun z => hraw z _) rfl q
   ·have e2 : (d == 2) = false := by simp [hd2]
    rw [e2] at q
    rw [if_neg (by simp; omega), if_neg (by omega), if_neg (by omega)]
    obtain ⟨Fr, A1, vt, va, vs, tl, B, hr'⟩ := hR
    refine ⟨_, _, _, B.ins, T.k_Reader, T.n_Reader_run, _, rfl, tyL B.hrn, szl, fun p hp => ?_⟩
    have B1 := B.laid (same_new (o := HO.lst [V.int 45]) hp)
    refine ⟨_, _, _, B1.ins, T.k_Reader, T.n_Reader_mode, _, rfl, _, rfl, ?_⟩
    have hk : (m.mode.code : Int) - 19 = (d : Int) := by omega
    rw [hk]
    refine .inr ⟨p, d, [V.int 45], rfl, rfl, upd_same, by omega, by omega, szl (by simp; omega), fun p2 hp2 => ⟨szl, fun p3 hp3 => ?_⟩⟩
    have e1 := rep45 d
    rw [e1] at hp3 ⊢
    have l1 : (vi (List.replicate d 45)).length = d := by rw [vi_length, List.length_replicate]
    refine rAddU_lst (upd_of hp3 upd_same) upd_same (by rw [l1]; exact szl (by simp; omega)) fun p4 hp4 => ?_
    have B2 := ((B1.laid (same_new (o := HO.lst (vi (List.replicate d 45))) hp2)).laid (same_new (o := HO.lst [V.int c]) hp3)).laid (same_new (o := HO.lst (vi (List.replicate d 45) ++ [V.int c])) hp4)
    refine ⟨_, rfl, _, rfl, _, B2.hrn, _, upd_same, (by rw [vi_length, List.length_append, l1]; exact szl (by simp; omega)), ?_⟩
    have e3 : vi m.run ++ (vi (List.replicate d 45) ++ [V.int c]) = vi (m.run ++ (List.replicate d 45 ++ [c])) := by rw [vi_append, vi_append]; rfl
    rw [e3]
    have R2 := (B2.setRn (m.run ++ (List.replicate d 45 ++ [c]))).rd hr'
    exact st_mode T.k_Reader T.n_Reader_mode R2 (.comment 0) (fun z => hraw z _) rfl q
  ·rw [if_neg (by omega)]
   have e62 : (c == 62) = false := by simp; omega
   rw [e62] at q
   by_cases h45 : c = 45
   ·rw [if_pos (by omega)]
    have e45 : (c == 45) = true := by simp; omega
    rw [e45] at q
    refine ⟨_, _, _, hI, T.k_Reader, T.n_Reader_mode, _, rfl, rEqU_int.mpr ⟨_, rfl, ?_⟩⟩
    by_cases hd2 : d = 2
    ·rw [if_pos (by simp; omega)]
     have q' : ∀ H', RD CR H0 H' r (m.add [45]) → Q V.non H' := by
      intro H' R'; refine q H' ?_
      rw [if_pos rfl, if_neg (by omega)]; exact R'
     exact st_run T.k_Reader T.n_Reader_run hR hz2 45 q'
    ·rw [if_neg (by simp; omega), if_pos (by omega)]
     have q' : ∀ H', RD CR H0 H' r (m.go (.comment (d + 1))) → Q V.non H' := by
      intro H' R'; refine q H' ?_
      rw [if_pos rfl, if_pos (by omega)]; exact R'
     refine ⟨_, _, _, hI, T.k_Reader, T.n_Reader_mode, _, rfl, rAddU_int.mpr ?_⟩
     refine st_mode T.k_Reader T.n_Reader_mode hR (.comment (d + 1)) (fun z => hraw z _) ?_ q'
     rw [hc]
     show ((19 + d : Nat) : Int) + 1 = ((if d + 1 = 0 then 19 else if d + 1 = 1 then 20 else 21 : Nat) : Int)
     split
     ·omega
     ·split <;> omega
   ·rw [if_neg (by omega), if_neg (by omega)]
    have e45 : (c == 45) = false := by simp; omega
    rw [e45] at q
    obtain ⟨Fr, A1, vt, va, vs, tl, B, hr'⟩ := hR
    refine ⟨_, _, _, B.ins, T.k_Reader, T.n_Reader_run, _, rfl, tyL B.hrn, szl, fun p hp => ?_⟩
    have B1 := B.laid (same_new (o := HO.lst [V.int 45]) hp)
    refine ⟨_, _, _, B1.ins, T.k_Reader, T.n_Reader_mode, _, rfl, _, rfl, ?_⟩
    have hk : (m.mode.code : Int) - 19 = (d : Int) := by omega
    rw [hk]
    refine .inr ⟨p, d, [V.int 45], rfl, rfl, upd_same, by omega, by omega, szl (by simp; omega), fun p2 hp2 => ⟨szl, fun p3 hp3 => ?_⟩⟩
    have e1 := rep45 d
    rw [e1] at hp3 ⊢
    have l1 : (vi (List.replicate d 45)).length = d := by rw [vi_length, List.length_replicate]
    refine rAddU_lst (upd_of hp3 upd_same) upd_same (by rw [l1]; exact szl (by simp; omega)) fun p4 hp4 => ?_
    have B2 := ((B1.laid (same_new (o := HO.lst (vi (List.replicate d 45))) hp2)).laid (same_new (o := HO.lst [V.int c]) hp3)).laid (same_new (o := HO.lst (vi (List.replicate d 45) ++ [V.int c])) hp4)
    refine ⟨_, rfl, _, rfl, _, B2.hrn, _, upd_same, (by rw [vi_length, List.length_append, l1]; exact szl (by simp; omega)), ?_⟩
    have e3 : vi m.run ++ (vi (List.replicate d 45) ++ [V.int c]) = vi (m.run ++ (List.replicate d 45 ++ [c])) := by rw [vi_append, vi_append]; rfl
    rw [e3]
    have R2 := (B2.setRn (m.run ++ (List.replicate d 45 ++ [c]))).rd hr'
    exact st_mode T.k_Reader T.n_Reader_mode R2 (.comment 0) (fun z => hraw z _) rfl q
theorem gf_in_raw (T : Txt P w K mg CR CP CB) : GF P w K mg base "in_raw" (0 + 1) ["reader", "sign"] (fun vs H Q _ => ∃ r c m H0, vs = [.ref r, .int (c : Nat)] ∧ RD CR H0 H r m ∧ m.run.length ≤ 100000 ∧ m.mode = .raw ∧ ∀ H', RD CR H0 H' r (Vaesca.inRaw m c) → Q .non H') := by
 refine gf_mk T.f_in_raw sc_in_raw (fun _ _ _ _ _ _ => us2 fun _ _ => rfl) (fun vs H Q E h => ?_) (fun f cdv A outer s H vs Q E hr h => ?_)
 ·exact ln4 h fun _ _ _ _ => rfl
 ·obtain ⟨r, c, m, H0, rfl, hR, hz, hm, q⟩ := h
  refine ⟨_, (pss_one (ps_if (pt_cmpR (op_eqW hr.units) (pv 1) (pe_gc T.g_LESS rfl) (nomark _)) (pss_one (ps_fld (pv 0) (pe_gc T.g_RAW_BEHIND_LESS rfl) rfl)) (pss_one (ps_expr (pe_bm PySem.F.plainAttrs_list PySem.F.slot_list_append PySem.F.type_list_append mt_append (pe_fld (pv 0) rfl) (pa_cons (pv 1) pa_nil)))))), ?_⟩
  walk_at "s"
  unfold Vaesca.inRaw at q
  split
  ·rw [if_pos (by simp; omega)] at q
   exact st_mode T.k_Reader T.n_Reader_mode hR .rawLt (fun z => rfl) rfl q
  ·rw [if_neg (by simp; omega)] at q
   exact st_run T.k_Reader T.n_Reader_run hR hz c q
theorem gf_in_raw_behind_less (T : Txt P w K mg CR CP CB) : GF P w K mg base "in_raw_behind_less" (0 + 1) ["reader", "sign"] (fun vs H Q _ => ∃ r c m H0, vs = [.ref r, .int (c : Nat)] ∧ RD CR H0 H r m ∧ m.run.length ≤ 100000 ∧ m.mode = .rawLt ∧ ∀ H', RD CR H0 H' r (Vaesca.inRawLt m c) → Q .non H') := by
 refine gf_mk T.f_in_raw_behind_less sc_in_raw_behind_less (fun _ _ _ _ _ _ => us2 fun _ _ => rfl) (fun vs H Q E h => ?_) (fun f cdv A outer s H vs Q E hr h => ?_)
 ·exact ln4 h fun _ _ _ _ => rfl
 ·obtain ⟨r, c, m, H0, rfl, hR, hz, hm, q⟩ := h
  refine ⟨_, (pss_one (ps_if (pt_cmpR (op_eqW hr.units) (pv 1) (pe_gc T.g_SLASH rfl) (nomark _)) (pss_one (ps_fld (pv 0) (pe_gc T.g_RAW_CLOSE rfl) rfl)) (pss_one (ps_if (pt_cmpR (op_eqW hr.units) (pv 1) (pe_gc T.g_LESS rfl) (nomark _)) (pss_one (ps_expr (pe_bm PySem.F.plainAttrs_list PySem.F.slot_list_append PySem.F.type_list_append mt_append (pe_fld (pv 0) rfl) (pa_cons (pe_gc T.g_LESS rfl) pa_nil)))) (pss_cons (ps_expr (pe_bm PySem.F.plainAttrs_list PySem.F.slot_list_extend PySem.F.type_list_extend mt_extend (pe_fld (pv 0) rfl) (pa_cons (pe_lst (pa_cons (pe_gc T.g_LESS rfl) (pa_cons (pv 1) pa_nil))) pa_nil))) (pss_one (ps_fld (pv 0) (pe_gc T.g_RAW rfl) rfl))))))), ?_⟩
  walk_at "s"
  unfold Vaesca.inRawLt at q
  split
  ·rw [if_pos (by simp; omega)] at q
   exact st_mode T.k_Reader T.n_Reader_mode hR .rawEnd (fun z => rfl) rfl q
  ·rw [if_neg (by simp; omega)] at q
   split
   ·rw [if_pos (by simp; omega)] at q
    exact st_run T.k_Reader T.n_Reader_run hR hz 60 q
   ·rw [if_neg (by simp; omega)] at q
    obtain ⟨Fr, A, vt, va, vs, tl, B, hr'⟩ := hR
    refine ⟨_, _, _, B.ins, T.k_Reader, T.n_Reader_run, _, rfl, tyL B.hrn, szl, fun p hp => ?_⟩
    have B1 := B.laid (same_new (o := HO.lst [V.int 60, V.int c]) hp)
    refine ⟨_, rfl, _, B1.hrn, _, upd_same, (by rw [vi_length]; exact szl (by simp; omega)), ?_⟩
    have e : vi m.run ++ [V.int 60, V.int c] = vi (m.run ++ [60, c]) := by rw [vi_append]; rfl
    rw [e]
    have R2 := (B1.setRn (m.run ++ [60, c])).rd hr'
    exact st_mode T.k_Reader T.n_Reader_mode R2 .raw (fun z => rfl) rfl q
theorem gf_in_raw_close (T : Txt P w K mg CR CP CB) : GF P w K mg base "in_raw_close" (2 + 1) ["reader", "sign"] (fun vs H Q _ => ∃ r c m H0, vs = [.ref r, .int (c : Nat)] ∧ RD CR H0 H r m ∧ m.tokens.length ≤ 99999 ∧ m.mode = .rawEnd ∧ m.body.length ≤ m.tag.length ∧ m.tag.length ≤ 32 ∧ 62 ∉ m.tag ∧ ∀ H', RD CR H0 H' r (Vaesca.inRawEnd m c) → Q .non H') := by
 refine gf_mk T.f_in_raw_close sc_in_raw_close (fun _ _ _ _ _ _ => us2 fun _ _ => rfl) (fun vs H Q E h => ?_) (fun f cdv A outer s H vs Q E hr h => ?_)
 ·exact ln4 h fun _ _ _ _ => rfl
 ·obtain ⟨r, c, m, H0, rfl, hR, hz, hm, hb, ht, h62, q⟩ := h
  obtain ⟨Fr, A, vt, va, vs, tl, B, hr'⟩ := hR
  refine ⟨_, (pss_cons (ps_set (i := 2) sc_in_raw_close.nd rfl (Or.inl rfl) (pe_ix ix_seq (pe_op op_addW (pe_fld (pv 0) rfl) (pe_lst (pa_cons (pe_gc T.g_GREATER rfl) pa_nil))) (pe_callB call_len rfl T.b_len PySem.boot_len (pa_cons (pe_fld (pv 0) rfl) pa_nil)) (fun _ _ => rfl))) (pss_one (ps_if (pt_cmpR (op_neW hr.units) (pv 1) (pv 2) (nomark _)) (pss_one (ps_expr (pe_gm (pv 0) (gm_Reader_fail T) (hr.mono (by decide)) (pa_cons (pe_gc T.g_WRONG_RAW_END rfl) pa_nil)))) (pss_one (ps_if (pt_cmpR (op_eqW hr.units) (pv 1) (pe_gc T.g_GREATER rfl) (nomark _)) (pss_cons (ps_expr (pe_gm (pv 0) (gm_Reader_end_run T) (hr.mono (by decide)) (pa_cons (pe_gc T.g_RAW_TOKEN rfl) pa_nil))) (pss_cons (ps_fld (pv 0) (pe_lst pa_nil) rfl) (pss_one (ps_expr (pe_gm0 (pv 0) (gm_Reader_end_close_tag T) (hr.mono (by decide))))))) (pss_one (ps_expr (pe_bm PySem.F.plainAttrs_list PySem.F.slot_list_append PySem.F.type_list_append mt_append (pe_fld (pv 0) rfl) (pa_cons (pv 1) pa_nil))))))))), ?_⟩
  walk_at "s"
  refine ⟨_, _, _, B.ins, T.k_Reader, T.n_Reader_tag_name, _, rfl, szl, fun p hp => ?_⟩
  have s1 := same_new (o := HO.lst [V.int 62]) hp
  have B1 := B.laid s1
  refine rAddU_lst B1.htg upd_same (by rw [vi_length]; exact szl (by simp; omega)) fun p2 hp2 => ?_
  have B2 := B1.laid (same_new (o := HO.lst (vi m.tag ++ [V.int 62])) hp2)
  have hl2 : upd (upd H p (HO.lst [V.int 62])) p2 (HO.lst (vi m.tag ++ [V.int 62])) p2 = some (HO.lst (vi (m.tag ++ [62]))) := by rw [upd_same, vi_append]; rfl
  generalize upd (upd H p (HO.lst [V.int 62])) p2 (HO.lst (vi m.tag ++ [V.int 62])) = H2 at B2 hl2 ⊢
  refine ⟨_, _, _, B2.ins, T.k_Reader, T.n_Reader_body, _, rfl, _, lenv (SqL.of B2.hbd), ?_⟩
  rw [vi_length]
  have hlt : m.body.length < (m.tag ++ [62]).length := by rw [List.length_append]; simp; omega
  obtain ⟨w0, hw0⟩ : ∃ w0, (m.tag ++ [62])[m.body.length]? = some w0 := ⟨_, List.getElem?_eq_getElem hlt⟩
  refine rIx_lst (v := .int w0) (SqL.of hl2) rfl (by rw [vi_get, hw0]; rfl) (rNeU_int.mpr ⟨_, rfl, ?_⟩)
  have R2 := B2.rd hr'
  unfold Vaesca.inRawEnd at q
  by_cases hin : m.body.length < m.tag.length
  ·rw [if_pos hin] at q
   have hw1 : m.tag[m.body.length]? = some w0 := by rw [← hw0, List.getElem?_append_left hin]
   rw [hw1] at q
   have hw62 : w0 ≠ 62 := fun e => h62 (e ▸ List.mem_of_getElem? hw1)
   split
   ·rename_i z
    simp at z
    rw [if_neg (by simp; omega)] at q
    exact ⟨_, _, B2.ins, rfl, r, 6, ⟨rfl, rfl⟩, m, H0, R2, q⟩
   ·rename_i z
    simp at z
    rw [if_pos (by simp; omega)] at q
    rw [if_neg (by omega)]
    refine ⟨_, _, _, B2.ins, T.k_Reader, T.n_Reader_body, _, rfl, tyL B2.hbd, _, rfl, _, B2.hbd, (by rw [vi_length]; exact szlt), q _ ?_⟩
    rw [← vi_snoc]
    exact (B2.setBd (m.body ++ [c])).rd hr'
  ·rw [if_neg hin] at q
   have hbl : m.body.length = m.tag.length := by omega
   have hw2 : w0 = 62 := by
    rw [hbl] at hw0
    simpa using hw0.symm
   subst hw2
   split
   ·rename_i z
    simp at z
    rw [if_neg (by simp; omega)] at q
    exact ⟨_, _, B2.ins, rfl, r, 6, ⟨rfl, rfl⟩, m, H0, R2, q⟩
   ·rename_i z
    simp at z
    rw [if_pos (by simp; omega)] at q
    rw [if_pos (by omega)]
    refine ⟨_, _, B2.ins, rfl, r, 4, ⟨rfl, rfl⟩, .raw m.from_ m.run, m, H0, R2, by omega, fun _ _ z => z, fun H3 R3 => ?_⟩
    obtain ⟨Fr3, A3, vt3, va3, vs3, tl3, B3, hr3⟩ := R3
    refine ⟨szl, fun p4 hp4 => ?_⟩
    have B4 := B3.newBd hp4 []
    refine ⟨_, _, _, upd_of hp4 B3.ins, T.k_Reader, T.n_Reader_body, rd_len, _, _, B4.ins, rfl, m.count - (m.tag.length + 2), _, H0, B4.rd hr3, ?_, fun H5 R5 => q H5 ?_⟩
    ·unfold endRun
     split
     ·show m.tokens.length ≤ 100000; omega
     ·show (m.tokens ++ [Token.raw m.from_ m.run]).length ≤ 100000
      rw [List.length_append]; simp; omega
    ·unfold endRun at R5
     unfold Vaesca.endRaw
     cases he : m.run.isEmpty with
     | true =>
      rw [he] at R5
      have hrun : m.run = [] := by simpa using he
      exact R5.upto _ (e5 := hrun.symm)
     | false =>
      rw [he] at R5
      exact R5.upto _ (e6 := (List.append_assoc m.tokens [Token.raw m.from_ m.run] [Token.closed (m.count - (m.tag.length + 2)) m.tag]).symm)
end
section
open Vaesca (Reader Token Mode Home)
theorem callee_of {x : Str} {a : Addr} {j k : Nat} {ps : List Str} {sp : Sp} (G : GF P w K mg base x j ps sp) (hm : mg x = some (.ref a)) (h : j ≤ k) : Callee P w K mg base (.ref a) k ps sp := by
 obtain ⟨f, fd, h1, hk, F, hb⟩ := G
 cases (h1.symm.trans hm)
 exact ⟨_, fd, rfl, hk, F.mono h, hb⟩
theorem gf_step (T : Txt P w K mg CR CP CB) : GF P w K mg base "step" (7 + 1) ["reader", "sign"] (fun vs H Q _ => ∃ r c m H0, vs = [.ref r, .int (c : Nat)] ∧ RD CR H0 H r m ∧ Mt.Bs 20000 m ∧ Mt.Gd m ∧ m.mode ≠ .ended ∧ m.mode ≠ .fault ∧ (Vaesca.isMark c = true → m.mode ∈ [Mode.text, .eq, .double, .single, .bare, .raw]) ∧ (Vaesca.isMark c = false → ∀ H', RD CR H0 H' r (Vaesca.byte m c) → Q .non H') ∧ (Vaesca.isMark c = true → ∀ H', RD CR H0 H' r (if m.mode = .text then Vaesca.inText m c else if m.mode = .eq then { (Vaesca.endAttr { m with run := [c] }) with mode := .behind } else m.add [c]) → Q .non H')) := by
 refine gf_mk T.f_step sc_step (fun _ _ _ _ _ _ => us2 fun _ _ => rfl) (fun vs H Q E h => ?_) (fun f cdv A outer s H vs Q E hr h => ?_)
 ·exact ln4 h fun _ _ _ _ => rfl
 ·obtain ⟨r, c, m, H0, rfl, hR, bs, gd, he, hf, hmk, q1, q2⟩ := h
  obtain ⟨dx, A, hI⟩ := hR.ins'
  have S := T.g_STEPS
  obtain ⟨a_in_text, a_in_reference, a_behind_less, a_in_open_name, a_behind_close, a_in_close_name, a_in_gap, a_in_attribute_name, a_behind_equals, a_in_quotes, a_in_apostrophes, a_in_bare, a_go_on_in_tag, a_behind_slash, a_behind_bang, a_in_comment, a_in_raw, a_in_raw_behind_less, a_in_raw_close, h1, h2, h3, h4, h5, h6, h7, h8, h9, h10, h11, h12, h13, h14, h15, h16, h17, h18, h19, S⟩ := S
  refine ⟨_, (pss_cons (ps_set (i := 2) sc_step.nd rfl (Or.inl rfl) (pe_gdget (hu_of hr) S rfl (pe_fld (pv 0) rfl) (fun _ _ => rfl))) (pss_one (ps_expr (pe_callV (pv 2) hr (pa_cons (pv 0) (pa_cons (pv 1) pa_nil)))))), ?_⟩
  walk_at "s"
  have hz : m.tokens.length ≤ 99999 := by have := bs.tok; omega
  have hz' : m.tokens.length ≤ 100000 := by omega
  have hzr : m.run.length ≤ 100000 := by have := bs.run; omega
  have hza : m.attrs.length ≤ 100000 := by have := bs.ats; omega
  refine ⟨_, _, _, hI, T.k_Reader, T.n_Reader_mode, _, rfl, Sum.inl m.mode.code, rfl, ?_⟩
  have nm : m.mode ∉ [Mode.text, .eq, .double, .single, .bare, .raw] → Vaesca.isMark c = false := fun h => by
   cases e : Vaesca.isMark c with
   | false => rfl
   | true => exact absurd (hmk e) h
  have qb : ∀ g, Vaesca.byte m c = g → m.mode ∉ [Mode.text, .eq, .double, .single, .bare, .raw] → ∀ H', RD CR H0 H' r g → Q V.non H' := fun g e h H' R' => q1 (nm h) H' (e ▸ R')
  have big : Vaesca.isMark c = true → 256 ≤ c := fun h => by simpa [Vaesca.isMark] using h
  cases hm : m.mode with
  | text =>
   refine ⟨.ref a_in_text, rfl, _, _, callee_of (gf_in_text T) h1 (by decide), r, c, m, H0, rfl, hR, hz', hzr, hm, fun H' R' => ?_⟩
   cases e : Vaesca.isMark c with
   | false => exact q1 e H' (by unfold Vaesca.byte; rw [hm]; exact R')
   | true => exact q2 e H' (by rw [if_pos hm]; exact R')
  | ref h =>
   have hcode : ∃ x, valV (κ := Key) [(Sum.inl 0, V.ref a_in_text), (Sum.inl 1, V.ref a_in_reference), (Sum.inl 2, V.ref a_in_reference), (Sum.inl 3, V.ref a_in_reference), (Sum.inl 4, V.ref a_in_reference), (Sum.inl 5, V.ref a_behind_less), (Sum.inl 6, V.ref a_in_open_name), (Sum.inl 7, V.ref a_behind_close), (Sum.inl 8, V.ref a_in_close_name), (Sum.inl 9, V.ref a_in_gap), (Sum.inl 10, V.ref a_in_attribute_name), (Sum.inl 11, V.ref a_behind_equals), (Sum.inl 12, V.ref a_in_quotes), (Sum.inl 13, V.ref a_in_apostrophes), (Sum.inl 14, V.ref a_in_bare), (Sum.inl 15, V.ref a_go_on_in_tag), (Sum.inl 16, V.ref a_behind_slash), (Sum.inl 17, V.ref a_behind_bang), (Sum.inl 18, V.ref a_behind_bang), (Sum.inl 19, V.ref a_in_comment), (Sum.inl 20, V.ref a_in_comment), (Sum.inl 21, V.ref a_in_comment), (Sum.inl 22, V.ref a_in_raw), (Sum.inl 23, V.ref a_in_raw_behind_less), (Sum.inl 24, V.ref a_in_raw_close)] (Sum.inl ((Mode.ref h).code : Int)) = some x ∧ x = .ref a_in_reference := by
    cases h <;> exact ⟨_, rfl, rfl⟩
   obtain ⟨x, hx, rfl⟩ := hcode
   exact ⟨_, hx, _, _, callee_of (gf_in_reference T) h2 (by decide), r, c, m, H0, rfl, hR, gd.ref (by rw [hm]; rfl), hzr, h, hm, qb _ (by unfold Vaesca.byte; rw [hm]) (by rw [hm]; simp)⟩
  | lt =>
   have hr0 : rawish m.mode = false := by rw [hm]; rfl
   refine ⟨.ref a_behind_less, rfl, _, _, callee_of (gf_behind_less T) h3 (by decide), r, c, m, H0, rfl, hR, hr0, qb _ (by unfold Vaesca.byte; rw [hm]) (by rw [hm]; simp)⟩
  | openName =>
   have hr0 : rawish m.mode = false := by rw [hm]; rfl
   refine ⟨.ref a_in_open_name, rfl, _, _, callee_of (gf_in_open_name T) h4 (by decide), r, c, m, H0, rfl, hR, hz', gd.tag, hr0, qb _ (by unfold Vaesca.byte; rw [hm]) (by rw [hm]; simp)⟩
  | ltSlash =>
   have hr0 : rawish m.mode = false := by rw [hm]; rfl
   refine ⟨.ref a_behind_close, rfl, _, _, callee_of (gf_behind_close T) h5 (by decide), r, c, m, H0, rfl, hR, hr0, qb _ (by unfold Vaesca.byte; rw [hm]) (by rw [hm]; simp)⟩
  | closeName =>
   have hr0 : rawish m.mode = false := by rw [hm]; rfl
   refine ⟨.ref a_in_close_name, rfl, _, _, callee_of (gf_in_close_name T) h6 (by decide), r, c, m, H0, rfl, hR, hz', gd.tag, hr0, qb _ (by unfold Vaesca.byte; rw [hm]) (by rw [hm]; simp)⟩
  | gap =>
   have hr0 : rawish m.mode = false := by rw [hm]; rfl
   refine ⟨.ref a_in_gap, rfl, _, _, callee_of (gf_in_gap T) h7 (by decide), r, c, m, H0, rfl, hR, hz', hr0, qb _ (by unfold Vaesca.byte; rw [hm]) (by rw [hm]; simp)⟩
  | attrName =>
   have hr0 : rawish m.mode = false := by rw [hm]; rfl
   refine ⟨.ref a_in_attribute_name, rfl, _, _, callee_of (gf_in_attribute_name T) h8 (by decide), r, c, m, H0, rfl, hR, hz', hza, gd.attr, hr0, qb _ (by unfold Vaesca.byte; rw [hm]) (by rw [hm]; simp)⟩
  | eq =>
   have hr0 : rawish m.mode = false := by rw [hm]; rfl
   refine ⟨.ref a_behind_equals, rfl, _, _, callee_of (gf_behind_equals T) h9 (by decide), r, c, m, H0, rfl, hR, hza, gd.run (by rw [hm]; rfl), hr0, fun e H' R' => ?_, fun e H' R' => ?_⟩
   ·exact q1 e H' (by unfold Vaesca.byte; rw [hm]; exact R')
   ·exact q2 e H' (by rw [if_neg (by rw [hm]; decide), if_pos hm]; exact R')
  | double =>
   have hr0 : rawish m.mode = false := by rw [hm]; rfl
   refine ⟨.ref a_in_quotes, rfl, _, _, callee_of (gf_in_quotes T) h10 (by decide), r, c, m, H0, rfl, hR, hza, hzr, hr0, fun H' R' => ?_⟩
   cases e : Vaesca.isMark c with
   | false => exact q1 e H' (by unfold Vaesca.byte; rw [hm]; exact R')
   | true =>
    have := big e
    refine q2 e H' ?_
    rw [if_neg (by rw [hm]; decide), if_neg (by rw [hm]; decide)]
    unfold Vaesca.inQuotes at R'
    rw [if_neg (by simp; omega), if_neg (by simp; omega)] at R'
    exact R'
  | single =>
   have hr0 : rawish m.mode = false := by rw [hm]; rfl
   refine ⟨.ref a_in_apostrophes, rfl, _, _, callee_of (gf_in_apostrophes T) h11 (by decide), r, c, m, H0, rfl, hR, hza, hzr, hr0, fun H' R' => ?_⟩
   cases e : Vaesca.isMark c with
   | false => exact q1 e H' (by unfold Vaesca.byte; rw [hm]; exact R')
   | true =>
    have := big e
    refine q2 e H' ?_
    rw [if_neg (by rw [hm]; decide), if_neg (by rw [hm]; decide)]
    unfold Vaesca.inQuotes at R'
    rw [if_neg (by simp; omega), if_neg (by simp; omega)] at R'
    exact R'
  | bare =>
   refine ⟨.ref a_in_bare, rfl, _, _, callee_of (gf_in_bare T) h12 (by decide), r, c, m, H0, rfl, hR, hz', hza, hzr, hm, fun e H' R' => ?_, fun e H' R' => ?_⟩
   ·exact q1 e H' (by unfold Vaesca.byte; rw [hm]; exact R')
   ·exact q2 e H' (by rw [if_neg (by rw [hm]; decide), if_neg (by rw [hm]; decide)]; exact R')
  | behind =>
   have hr0 : rawish m.mode = false := by rw [hm]; rfl
   refine ⟨.ref a_go_on_in_tag, rfl, _, _, callee_of (gf_go_on_in_tag T) h13 (by decide), r, c, m, H0, rfl, hR, hz', hr0, qb _ (by unfold Vaesca.byte; rw [hm]) (by rw [hm]; simp)⟩
  | slash =>
   have hr0 : rawish m.mode = false := by rw [hm]; rfl
   refine ⟨.ref a_behind_slash, rfl, _, _, callee_of (gf_behind_slash T) h14 (by decide), r, c, m, H0, rfl, hR, hz', hr0, qb _ (by unfold Vaesca.byte; rw [hm]) (by rw [hm]; simp)⟩
  | bang =>
   have hr0 : rawish m.mode = false := by rw [hm]; rfl
   refine ⟨.ref a_behind_bang, rfl, _, _, callee_of (gf_behind_bang T) h15 (by decide), r, c, m, H0, .bangDash, rfl, hR, hr0, by rw [hm]; rfl, qb _ (by unfold Vaesca.byte; rw [hm]; rfl) (by rw [hm]; simp)⟩
  | bangDash =>
   have hr0 : rawish m.mode = false := by rw [hm]; rfl
   refine ⟨.ref a_behind_bang, rfl, _, _, callee_of (gf_behind_bang T) h15 (by decide), r, c, m, H0, .comment 0, rfl, hR, hr0, by rw [hm]; rfl, qb _ (by unfold Vaesca.byte; rw [hm]; rfl) (by rw [hm]; simp)⟩
  | comment d =>
   have hd := gd.com d hm
   have hx : ∃ x, valV (κ := Key) [(Sum.inl 0, V.ref a_in_text), (Sum.inl 1, V.ref a_in_reference), (Sum.inl 2, V.ref a_in_reference), (Sum.inl 3, V.ref a_in_reference), (Sum.inl 4, V.ref a_in_reference), (Sum.inl 5, V.ref a_behind_less), (Sum.inl 6, V.ref a_in_open_name), (Sum.inl 7, V.ref a_behind_close), (Sum.inl 8, V.ref a_in_close_name), (Sum.inl 9, V.ref a_in_gap), (Sum.inl 10, V.ref a_in_attribute_name), (Sum.inl 11, V.ref a_behind_equals), (Sum.inl 12, V.ref a_in_quotes), (Sum.inl 13, V.ref a_in_apostrophes), (Sum.inl 14, V.ref a_in_bare), (Sum.inl 15, V.ref a_go_on_in_tag), (Sum.inl 16, V.ref a_behind_slash), (Sum.inl 17, V.ref a_behind_bang), (Sum.inl 18, V.ref a_behind_bang), (Sum.inl 19, V.ref a_in_comment), (Sum.inl 20, V.ref a_in_comment), (Sum.inl 21, V.ref a_in_comment), (Sum.inl 22, V.ref a_in_raw), (Sum.inl 23, V.ref a_in_raw_behind_less), (Sum.inl 24, V.ref a_in_raw_close)] (Sum.inl ((Mode.comment d).code : Int)) = some x ∧ x = .ref a_in_comment := by
    match d, hd with
    | 0, _ => exact ⟨_, rfl, rfl⟩
    | 1, _ => exact ⟨_, rfl, rfl⟩
    | 2, _ => exact ⟨_, rfl, rfl⟩
   obtain ⟨x, hx, rfl⟩ := hx
   exact ⟨_, hx, _, _, callee_of (gf_in_comment T) h16 (by decide), r, c, m, H0, d, rfl, hR, hz', hzr, hm, hd, qb _ (by unfold Vaesca.byte; rw [hm]) (by rw [hm]; simp)⟩
  | raw =>
   refine ⟨.ref a_in_raw, rfl, _, _, callee_of (gf_in_raw T) h17 (by decide), r, c, m, H0, rfl, hR, hzr, hm, fun H' R' => ?_⟩
   cases e : Vaesca.isMark c with
   | false => exact q1 e H' (by unfold Vaesca.byte; rw [hm]; exact R')
   | true =>
    have := big e
    refine q2 e H' ?_
    rw [if_neg (by rw [hm]; decide), if_neg (by rw [hm]; decide)]
    unfold Vaesca.inRaw at R'
    rw [if_neg (by simp; omega)] at R'
    exact R'
  | rawLt =>
   exact ⟨.ref a_in_raw_behind_less, rfl, _, _, callee_of (gf_in_raw_behind_less T) h18 (by decide), r, c, m, H0, rfl, hR, hzr, hm, qb _ (by unfold Vaesca.byte; rw [hm]) (by rw [hm]; simp)⟩
  | rawEnd =>
   exact ⟨.ref a_in_raw_close, rfl, _, _, callee_of (gf_in_raw_close T) h19 (by decide), r, c, m, H0, rfl, hR, hz, hm, gd.rend hm, gd.tag, (Mt.raw_tag (gd.raw (.inr (.inr hm)))).2, qb _ (by unfold Vaesca.byte; rw [hm]) (by rw [hm]; simp)⟩
  | ended => exact absurd hm he
  | fault => exact absurd hm hf
end
section
open Vaesca (Reader Token Mode Home)
theorem Bs.mono {a b : Nat} {m : Reader} (h : Mt.Bs a m) (hab : a ≤ b) : Mt.Bs b m := ⟨by have := h.run; omega, by have := h.tok; omega, by have := h.ats; omega, by have := h.mrk; omega⟩
theorem spot_val {m : Reader} {s : Nat} (h : Vaesca.spotOf m = some s) : valV (κ := Key) [(Sum.inl 0, V.int 0), (Sum.inl 12, V.int 1), (Sum.inl 13, V.int 2), (Sum.inl 14, V.int 3), (Sum.inl 11, V.int 4), (Sum.inl 22, V.int 5)] (Sum.inl (m.mode.code : Int)) = some (.int s) ∧ m.mode ∈ [Mode.text, .eq, .double, .single, .bare, .raw] ∧ (s = 0 ↔ m.mode = .text) ∧ (s = 4 ↔ m.mode = .eq) := by
 unfold Vaesca.spotOf at h
 cases hm : m.mode with
 | text => rw [hm] at h; cases h; exact ⟨rfl, by simp, by simp, by simp⟩
 | double => rw [hm] at h; cases h; exact ⟨rfl, by simp, by simp, by simp⟩
 | single => rw [hm] at h; cases h; exact ⟨rfl, by simp, by simp, by simp⟩
 | bare => rw [hm] at h; cases h; exact ⟨rfl, by simp, by simp, by simp⟩
 | eq => rw [hm] at h; cases h; exact ⟨rfl, by simp, by simp, by simp⟩
 | raw =>
  rw [hm] at h
  simp only at h
  split at h
  ·cases h; exact ⟨rfl, by simp, by simp, by simp⟩
  ·cases h
 | _ => rw [hm] at h; cases h
theorem code_com (d : Nat) : 19 ≤ (Mode.comment d).code ∧ (Mode.comment d).code ≤ 21 := by
 show 19 ≤ (if d = 0 then 19 else if d = 1 then 20 else 21) ∧ (if d = 0 then 19 else if d = 1 then 20 else 21) ≤ 21
 split
 ·decide
 ·split <;> decide
theorem beq_fault (md : Mode) : (md == Mode.fault) = decide (md.code = 26) := by
 cases md with
 | ref h => cases h <;> rfl
 | comment d =>
  have : ¬ (Mode.comment d).code = 26 := by have := code_com d; omega
  rw [decide_eq_false this]; rfl
 | _ => rfl
theorem beq_ended (md : Mode) : (md == Mode.ended) = decide (md.code = 25) := by
 cases md with
 | ref h => cases h <;> rfl
 | comment d =>
  have : ¬ (Mode.comment d).code = 25 := by have := code_com d; omega
  rw [decide_eq_false this]; rfl
 | _ => rfl
theorem beq_text (md : Mode) : (md == Mode.text) = decide (md.code = 0) := by
 cases md with
 | ref h => cases h <;> rfl
 | comment d =>
  have : ¬ (Mode.comment d).code = 0 := by have := code_com d; omega
  rw [decide_eq_false this]; rfl
 | _ => rfl
theorem code_fault {md : Mode} (h : md.code = 26) : md = .fault := by
 cases md with
 | ref h' => cases h' <;> cases h
 | comment d => exfalso; have := code_com d; omega
 | fault => rfl
 | _ => cases h
theorem code_ended {md : Mode} (h : md.code = 25) : md = .ended := by
 cases md with
 | ref h' => cases h' <;> cases h
 | comment d => exfalso; have := code_com d; omega
 | ended => rfl
 | _ => cases h
theorem done_no {m : Reader} (he : m.mode ≠ .ended) (hf : m.mode ≠ .fault) : Vaesca.isDone m = false := by
 unfold Vaesca.isDone
 rw [beq_ended, beq_fault, decide_eq_false (fun h => he (code_ended h)), decide_eq_false (fun h => hf (code_fault h))]; rfl
theorem gm_Reader_take (T : Txt P w K mg CR CP CB) : GM P w K mg base CR "take" (8 + 1) ["self", "sign"] (fun vs H Q _ => ∃ r c m H0, vs = [.ref r, .int (c : Nat)] ∧ RD CR H0 H r m ∧ Mt.Bs 19000 m ∧ Mt.Gd m ∧ m.mode ≠ .ended ∧ m.mode ≠ .fault ∧ ∀ H', RD CR H0 H' r (Vaesca.eat m c) → Q .non H') := by
 refine gm_mk T.k_Reader T.mf_Reader_take sc_Reader_take (fun _ _ _ _ _ _ => us2 fun _ _ => rfl) (fun vs H Q E h => ?_) (fun f cdv A outer s H vs Q E hr h => ?_)
 ·exact ln4 h fun _ _ _ _ => rfl
 ·obtain ⟨r, c, m, H0, rfl, hR, bs, gd, he, hf, q⟩ := h
  obtain ⟨dx, A, hI⟩ := hR.ins'
  have hdone : Vaesca.isDone m = false := by
   exact done_no he hf
  refine ⟨_, (pss_cut (ps_if (pt_not (pt_truth (pe_gf (gf_is_mark T) (hr.mono (by decide)) rfl (pa_cons (pv 1) pa_nil)) (fun _ => rfl))) (pss_one (ps_expr (pe_gf (gf_step T) (hr.mono (by decide)) rfl (pa_cons (pv 0) (pa_cons (pv 1) pa_nil))))) (pss_one (ps_if (pt_truth (pe_gm0 (pv 0) (gm_Reader_takes_mark T) (hr.mono (by decide))) (fun _ => rfl)) (pss_cons (ps_expr (pe_bm PySem.F.plainAttrs_list PySem.F.slot_list_append PySem.F.type_list_append mt_append (pe_fld (pv 0) rfl) (pa_cons (pe_tup (pa_cons (pv 1) (pa_cons (pe_gdget (hu_of hr) T.g_SPOTS rfl (pe_fld (pv 0) rfl) (fun _ _ => rfl)) pa_nil))) pa_nil))) (pss_one (ps_expr (pe_gf (gf_step T) (hr.mono (by decide)) rfl (pa_cons (pv 0) (pa_cons (pv 1) pa_nil)))))) (pss_one (ps_expr (pe_gm (pv 0) (gm_Reader_fail T) (hr.mono (by decide)) (pa_cons (pe_gc T.g_WRONG_MARK rfl) pa_nil))))))) (pss_one (ps_if (pt_cmpR (op_neW hr.units) (pe_fld (pv 0) rfl) (pe_gc T.g_FAULT rfl) (nomark _)) (pss_one (ps_fldaug (pv 0) pe_int in_add)) pss_nil))), ?_⟩
  refine ⟨fun σ' H' => σ' = [some (.ref r), some (.int c)] ∧ RD CR H0 H' r (if Vaesca.isMark c then Vaesca.mark m c else Vaesca.byte m c), ?_, ?_⟩
  ·walk_at "s"
   cases hmk : Vaesca.isMark c with
   | false =>
    rw [if_pos (by rfl)]
    exact ⟨r, c, ⟨rfl, rfl⟩, m, H0, hR, Bs.mono bs (by omega), gd, he, hf, fun z => (by rw [hmk] at z; cases z), fun _ H' R' => R', fun z => (by rw [hmk] at z; cases z)⟩
   | true =>
    rw [if_neg (by decide)]
    refine ⟨_, _, hI, rfl, m, ⟨H0, hR⟩, fun H1 s1 => ?_⟩
    have R1 := hR.laid s1
    have R1' := R1
    obtain ⟨Fr, A1, vt, va, vs, tl, B1, hr'⟩ := R1'
    cases hs : Vaesca.spotOf m with
    | none =>
     rw [if_neg (by decide)]
     refine ⟨_, _, B1.ins, rfl, r, 5, ⟨rfl, rfl⟩, m, H0, R1, fun H2 R2 => ?_⟩
     unfold Vaesca.mark
     rw [hs]; exact R2
    | some sp =>
     obtain ⟨v1, v2, v3, v4⟩ := spot_val hs
     rw [if_pos (by rfl)]
     refine ⟨_, _, _, B1.ins, T.k_Reader, T.n_Reader_spots, _, rfl, tyL B1.hsp, _, _, _, B1.ins, T.k_Reader, T.n_Reader_mode, _, rfl, Sum.inl m.mode.code, rfl, _, v1, szl, fun p hp => ?_⟩
     have hml := bs.mrk
     obtain ⟨Fr2, B2⟩ := B1.mrk c sp hp
     refine ⟨_, rfl, _, upd_of hp B1.hsp, (by rw [B1.ls]; exact szlt), ?_⟩
     have g2 := gd.marks (m.marks ++ [(c, sp)])
     refine ⟨r, c, ⟨rfl, rfl⟩, _, H0, B2.rd hr', ⟨by have := bs.run; show m.run.length ≤ _; omega, by have := bs.tok; show m.tokens.length ≤ _; omega, by have := bs.ats; show m.attrs.length ≤ _; omega, by show (m.marks ++ [(c, sp)]).length ≤ _; rw [List.length_append]; simp; omega⟩, g2, he, hf, fun _ => v2, fun z => (by rw [hmk] at z; cases z), fun _ H' R' => ?_⟩
     unfold Vaesca.mark
     rw [hs]
     by_cases c0 : m.mode = .text
     ·rw [if_pos c0] at R'
      have e0 : sp = 0 := v3.mpr c0
      subst e0; exact R'
     ·rw [if_neg c0] at R'
      have n0 : (sp == 0) = false := by simp; exact fun z => c0 (v3.mp z)
      by_cases c4 : m.mode = .eq
      ·rw [if_pos c4] at R'
       have y4 : (sp == 4) = true := by simp; exact v4.mpr c4
       simp only [n0, y4]
       exact R'
      ·rw [if_neg c4] at R'
       have n4 : (sp == 4) = false := by simp; exact fun z => c4 (v4.mp z)
       simp only [n0, n4]
       exact R'
  ·rintro σ' H' ⟨rfl, R1⟩
   have R1' := R1
   obtain ⟨Fr, A, vt, va, vs, tl, B, hr'⟩ := R1'
   walk_at "s"
   unfold Vaesca.eat at q
   rw [hdone, if_neg (by decide)] at q
   simp only at q
   have hcnt : (if Vaesca.isMark c then Vaesca.mark m c else Vaesca.byte m c).count = m.count := by
    split
    ·exact (gd.mark hf he).2.cnt
    ·exact (Mt.up_byte gd).cnt
   rw [beq_fault] at q
   generalize (if Vaesca.isMark c then Vaesca.mark m c else Vaesca.byte m c) = m1 at q R1 B hr' hcnt
   refine ⟨_, _, _, B.ins, T.k_Reader, T.n_Reader_mode, _, rfl, rNeU_int.mpr ⟨_, rfl, ?_⟩⟩
   split
   ·rename_i z
    simp at z
    rw [if_neg (by simp; omega)] at q
    refine ⟨_, _, _, B.ins, T.k_Reader, T.n_Reader_count, _, rfl, _, rfl, _, _, B.ins, rd_len, q _ ?_⟩
    rw [← hcnt]
    exact (B.setI { m1 with count := m1.count + 1 }).rd hr'
   ·rename_i z
    simp at z
    rw [if_pos (by simp; omega)] at q
    exact q _ R1
theorem gm_Reader_finish (T : Txt P w K mg CR CP CB) : GM P w K mg base CR "finish" (2 + 1) ["self"] (fun vs H Q _ => ∃ r m H0, vs = [.ref r] ∧ RD CR H0 H r m ∧ Mt.Bs 20000 m ∧ m.mode ≠ .ended ∧ m.mode ≠ .fault ∧ ∀ H', RD CR H0 H' r (Vaesca.finish m) → Q .non H') := by
 refine gm_mk T.k_Reader T.mf_Reader_finish sc_Reader_finish (fun _ _ _ _ _ _ => us1 fun _ => rfl) (fun vs H Q E h => ?_) (fun f cdv A outer s H vs Q E hr h => ?_)
 ·exact ln3 h fun _ _ _ => rfl
 ·obtain ⟨r, m, H0, rfl, hR, bs, he, hf, q⟩ := h
  obtain ⟨dx, A, hI⟩ := hR.ins'
  have hdone : Vaesca.isDone m = false := by
   exact done_no he hf
  refine ⟨_, (pss_one (ps_if (pt_cmpR (op_eqW hr.units) (pe_fld (pv 0) rfl) (pe_gc T.g_TEXT rfl) (nomark _)) (pss_cons (ps_expr (pe_gm (pv 0) (gm_Reader_end_run T) (hr.mono (by decide)) (pa_cons (pe_gc T.g_RUN_TOKEN rfl) pa_nil))) (pss_one (ps_fld (pv 0) (pe_gc T.g_ENDED rfl) rfl))) (pss_one (ps_expr (pe_gm (pv 0) (gm_Reader_fail T) (hr.mono (by decide)) (pa_cons (pe_gc T.g_UNFINISHED rfl) pa_nil)))))), ?_⟩
  walk_at "s"
  unfold Vaesca.finish at q
  rw [hdone, if_neg (by decide), beq_text] at q
  refine ⟨_, _, _, hI, T.k_Reader, T.n_Reader_mode, _, rfl, rEqU_int.mpr ⟨_, rfl, ?_⟩⟩
  split
  ·rename_i z
   simp at z
   rw [if_pos (by simp; omega)] at q
   refine ⟨_, _, hI, rfl, r, 0, ⟨rfl, rfl⟩, .text m.from_ m.run, m, H0, hR, (by have := bs.tok; omega), fun _ _ z => z, fun H1 R1 => ?_⟩
   refine st_mode T.k_Reader T.n_Reader_mode R1 .ended (fun z2 => ?_) rfl q
   have hm : m.mode = .text := by
    have hb := beq_text m.mode
    rw [decide_eq_true (show m.mode.code = 0 by omega)] at hb
    cases hmm : m.mode <;> rw [hmm] at hb <;> first | rfl | cases hb
   unfold endRun at z2
   split at z2 <;> (rw [show _ = Mode.text from hm] at z2; cases z2)
  ·rename_i z
   simp at z
   rw [if_neg (by simp; omega)] at q
   exact ⟨_, _, hI, rfl, r, 7, ⟨rfl, rfl⟩, m, H0, hR, q⟩
theorem Ow.perm {H0 Fr H : Hp} {l l' : List (Addr × HO)} (e : l.Perm l') (h : Ow H0 Fr H l) : Ow H0 Fr H l' :=
 ⟨(e.map _).nodup_iff.mp h.nd, fun p hp => h.at_ p (e.mem_iff.mpr hp), fun p hp => h.z p (e.mem_iff.mpr hp), fun p hp => h.fz p (e.mem_iff.mpr hp), h.sub, h.sam, h.f0⟩
theorem gm_Reader___init__ (T : Txt P w K mg CR CP CB) : GM P w K mg base CR "__init__" (0 + 1) ["self"] (fun vs H Q _ => ∃ r dx H0, vs = [.ref r] ∧ H r = some (.ins CR dx []) ∧ H0 r = none ∧ Same H0 H ∧ ∀ H', RD CR H0 H' r Vaesca.fresh → Q .non H') := by
 refine gm_mk T.k_Reader T.mf_Reader___init__ sc_Reader___init__ (fun _ _ _ _ _ _ => us1 fun _ => rfl) (fun vs H Q E h => ?_) (fun f cdv A outer s H vs Q E hr h => ?_)
 ·exact ln3 h fun _ _ _ => rfl
 ·obtain ⟨r, dx, H0, rfl, hI, hn, hs, q⟩ := h
  refine ⟨_, (pss_cons (ps_fld (pv 0) (pe_gc T.g_TEXT rfl) rfl) (pss_cons (ps_fld (pv 0) pe_int rfl) (pss_cons (ps_fld (pv 0) (pe_lst pa_nil) rfl) (pss_cons (ps_fld (pv 0) (pe_lst pa_nil) rfl) (pss_cons (ps_fld (pv 0) (pe_lst pa_nil) rfl) (pss_cons (ps_fld (pv 0) (pe_lst pa_nil) rfl) (pss_cons (ps_fld (pv 0) (pe_lst pa_nil) rfl) (pss_cons (ps_fld (pv 0) (pe_lst pa_nil) rfl) (pss_cons (ps_fld (pv 0) (pe_lst pa_nil) rfl) (pss_one (ps_fld (pv 0) pe_int rfl))))))))))), ?_⟩
  have o0 := ow_0 hI hn hs
  refine ow_c o0 (Nat.le_refl 0) (by decide) rfl T.k_Reader T.n_Reader_mode fun H1 o1 z1 => ?_
  refine ow_c o1 z1 (by decide) rfl T.k_Reader T.n_Reader_count fun H2 o2 z2 => ?_
  refine ow_l o2 z2 (by decide) rfl T.k_Reader T.n_Reader_tokens fun p3 H3 o3 z3 => ?_
  refine ow_l o3 z3 (by decide) rfl T.k_Reader T.n_Reader_tag_name fun p4 H4 o4 z4 => ?_
  refine ow_l o4 z4 (by decide) rfl T.k_Reader T.n_Reader_attributes fun p5 H5 o5 z5 => ?_
  refine ow_l o5 z5 (by decide) rfl T.k_Reader T.n_Reader_attribute_name fun p6 H6 o6 z6 => ?_
  refine ow_l o6 z6 (by decide) rfl T.k_Reader T.n_Reader_body fun p7 H7 o7 z7 => ?_
  refine ow_l o7 z7 (by decide) rfl T.k_Reader T.n_Reader_run fun p8 H8 o8 z8 => ?_
  refine ow_l o8 z8 (by decide) rfl T.k_Reader T.n_Reader_spots fun p9 H9 o9 z9 => ?_
  refine ow_c o9 z9 (by decide) rfl T.k_Reader T.n_Reader_fault fun H10 o10 z10 => ?_
  replace o10 : Ow H0 (fun _ => none) H10 [(r, .ins CR dx [("mode", .int 0), ("count", .int 0), ("tokens", .ref p3), ("tag_name", .ref p4), ("attributes", .ref p5), ("attribute_name", .ref p6), ("body", .ref p7), ("run", .ref p8), ("spots", .ref p9), ("fault", .int 0)]), (p3, .lst []), (p4, .lst []), (p5, .lst []), (p6, .lst []), (p7, .lst []), (p8, .lst []), (p9, .lst [])] := o10
  refine q _ ⟨fun _ => none, ⟨dx, p3, p4, p5, p6, p7, p8, p9⟩, [], [], [], [(p4, .lst [])], ⟨Ow.perm ?_ o10, .inl rfl, .nil, .nil, .nil⟩, (by intro z; cases z)⟩
  exact .cons _ (.cons _ (List.perm_append_comm (l₁ := [(p4, HO.lst [])]) (l₂ := [(p5, HO.lst []), (p6, HO.lst []), (p7, HO.lst []), (p8, HO.lst []), (p9, HO.lst [])])))
end
section
open Vaesca (Reader Token Mode Home)
def RtI (C : Addr) (H : Hp) (a r : Addr) (x : List Nat) (i : Nat) (σ : L2.St) (H' : Hp) : Prop := (∃ o, σ = [some (.ref a), some (.ref r), o]) ∧ RD C H H' r (Vaesca.run Vaesca.fresh (x.take i)) ∧ (Vaesca.run Vaesca.fresh (x.take i)).mode ≠ .fault ∧ (Vaesca.run Vaesca.fresh (x.take i)).mode ≠ .ended ∧ Mt.Gd (Vaesca.run Vaesca.fresh (x.take i)) ∧ Mt.Bs i (Vaesca.run Vaesca.fresh (x.take i))
theorem RD.sam {C : Addr} {H0 H : Hp} {r : Addr} {m : Reader} (h : RD C H0 H r m) : Same H0 H := by
 obtain ⟨Fr, A, vt, va, vs, tl, B, hr'⟩ := h
 exact B.ow.sam
theorem gf_read_text (T : Txt P w K mg CR CP CB) : GF P w K mg base "read_text" (9 + 1) ["text"] (fun vs H Q _ => ∃ a x, vs = [.ref a] ∧ SqL K H a (vi x) ∧ x.length ≤ 5000 ∧ ∀ r H', RD CR H H' r (Vaesca.read x) → Q (.ref r) H') := by
 refine gf_mk T.f_read_text sc_read_text (fun _ _ _ _ _ _ => us1 fun _ => rfl) (fun vs H Q E h => ?_) (fun f cdv A outer s H vs Q E hr h => ?_)
 ·exact ln2 h fun _ _ => rfl
 ·obtain ⟨a, x, rfl, ha, hz, q⟩ := h
  refine ⟨_, (pss_cons (ps_set (i := 1) sc_read_text.nd rfl (Or.inl rfl) (pe_mk0 (mk_of (gm_Reader___init__ T) T.c_Reader T.m_Reader T.e_Reader) (hr.mono (by decide)) rfl)) (pss_cons (ps_for PassesOwn.never rfl (pi_list (pv 0)) (pg_name (i := 2) sc_read_text.nd rfl (Or.inl rfl)) (pss_cons (ps_expr (pe_gm (pv 1) (gm_Reader_take T) (hr.mono (by decide)) (pa_cons (pv 2) pa_nil))) (pss_one (ps_if (pt_cmpR (op_eqW hr.units) (pe_fld (pv 1) rfl) (pe_gc T.g_FAULT rfl) (nomark _)) (pss_one (ps_ret (pv 1))) pss_nil)))) (pss_cons (ps_expr (pe_gm0 (pv 1) (gm_Reader_finish T) (hr.mono (by decide)))) (pss_one (ps_ret (pv 1)))))), ?_⟩
  walk_at "s"
  intro r0 dx hx hd hne
  refine ⟨⟨dx, upd_same⟩, H, hx, made_same hx hd hne, fun H1 R1 => ⟨_, rfl, a, rfl, ⟨vi x, R1.sam.seq ha⟩, for_list (K := K) (a := a) (xs := vi x) (RtI CR H a r0 x) ⟨⟨none, rfl⟩, R1, (by intro z; cases z), (by intro z; cases z), Mt.gd_fresh, Mt.bs_fresh⟩ ?_ ?_ ?_⟩⟩
  ·rintro i σ H' _ ⟨_, R, _⟩; exact R.sam.seq ha
  ·rintro i y σ H' hi ⟨⟨o, rfl⟩, R, hf, he, g, b⟩
   obtain ⟨c, hn, rfl⟩ := vi_get_of hi
   have hl := lt_of_get hn
   have es : Vaesca.run Vaesca.fresh (x.take (i + 1)) = Vaesca.eat (Vaesca.run Vaesca.fresh (x.take i)) c := by rw [take_snoc hn, Mt.run_snoc]
   obtain ⟨g2, b2, e2⟩ := Mt.eat_ok (c := c) g b he hf
   obtain ⟨dx1, A1, hI⟩ := R.ins'
   walk_at "s"
   refine ⟨_, _, hI, rfl, r0, c, ⟨rfl, rfl⟩, _, H, R, Bs.mono b (by omega), g, he, hf, fun H2 R2 => ?_⟩
   obtain ⟨dx2, A2, hI2⟩ := R2.ins'
   rw [← es] at R2 g2 b2 e2
   rw [← es] at hI2
   refine ⟨_, _, _, hI2, T.k_Reader, T.n_Reader_mode, _, rfl, rEqU_int.mpr ⟨_, rfl, ?_⟩⟩
   split
   ·rename_i z
    simp at z
    have hm : (Vaesca.run Vaesca.fresh (x.take (i + 1))).mode = .fault := code_fault (by omega)
    refine q r0 H2 ?_
    have e3 : Vaesca.run Vaesca.fresh x = Vaesca.run Vaesca.fresh (x.take (i + 1)) := by
     have h0 := (List.take_append_drop (i + 1) x).symm
     have h1 := Mt.run_append Vaesca.fresh (x.take (i + 1)) (x.drop (i + 1))
     rw [← h0, Mt.run_fault _ hm] at h1
     exact h1
    unfold Vaesca.read Vaesca.finish
    rw [e3]
    have hd1 : Vaesca.isDone (Vaesca.run Vaesca.fresh (x.take (i + 1))) = true := by unfold Vaesca.isDone; rw [hm]; rfl
    rw [hd1]; exact R2
   ·rename_i z
    simp at z
    refine ⟨⟨_, rfl⟩, R2, fun hm => ?_, e2, g2, b2⟩
    rw [hm] at z; exact z rfl
  ·rintro σ H' ⟨⟨o, rfl⟩, R, hf, he, g, b⟩
   rw [vi_length, List.take_length] at R hf he g b
   obtain ⟨dx1, A1, hI⟩ := R.ins'
   walk_at "s"
   exact ⟨_, _, hI, rfl, _, H, R, Bs.mono b (by omega), he, hf, fun H2 R2 => q r0 H2 R2⟩
theorem rAddU_new {H H1 : Hp} {Q : VK} {a b : Addr} {xs ys : List V} (s : Same H H1) (h1 : H1 a = some (.lst xs)) (h2 : H1 b = some (.lst ys)) (hz : xs.length + ys.length ≤ 1000000) (k : ∀ p H2, H p = none → Same H H2 → Same H1 H2 → H2 p = some (.lst (xs ++ ys)) → Q (.ref p) H2) : rAddU (.ref a) (.ref b) H1 Q :=
 rAddU_lst h1 h2 (szl hz) fun p hp => k p _ (s.free hp) (s.trans (same_new hp)) (same_new hp) upd_same
def attF (a : Vaesca.Text × Vaesca.Text) : List Nat := Vaescc.counted a.1 ++ Vaescc.counted a.2
def OtI (H : Hp) (qt b p : Addr) (hd : List Nat) (as : List (Vaesca.Text × Vaesca.Text)) (i : Nat) (σ : L2.St) (H' : Hp) : Prop := (∃ o, σ = [some (.ref qt), some (.ref b), some (.ref p), o]) ∧ Same H H' ∧ H' p = some (.lst (vi (hd ++ (as.take i).flatMap attF)))
theorem flat_take {α β : Type} (f : α → List β) : ∀ (l : List α) (i : Nat), ((l.take i).flatMap f).length ≤ (l.flatMap f).length
 | [], i => by simp
 | x :: l, 0 => by simp
 | x :: l, i + 1 => by
  rw [List.take_succ_cons, List.flatMap_cons, List.flatMap_cons, List.length_append, List.length_append]
  have := flat_take f l i
  omega
theorem vi_counted (t : List Nat) : V.int (vi t).length :: vi t = vi (Vaescc.counted t) := by
 unfold Vaescc.counted
 rw [vi_cons, vi_length]
theorem gf_told_open_tag (T : Txt P w K mg CR CP CB) : GF P w K mg base "told_open_tag" (1 + 1) ["token"] (fun vs H Q _ => ∃ v p n as e Fr, vs = [v] ∧ TokV Fr v (.opened p n as e) ∧ Same Fr H ∧ (Vaescc.shownToken (.opened p n as e)).length ≤ 1000000 ∧ rNew (vi (Vaescc.shownToken (.opened p n as e))) H Q) := by
 refine gf_mk T.f_told_open_tag sc_told_open_tag (fun _ _ _ _ _ _ => us1 fun _ => rfl) (fun vs H Q E h => ?_) (fun f cdv A outer s H vs Q E hr h => ?_)
 ·exact ln6 h fun _ _ _ _ _ _ => rfl
 ·obtain ⟨v, p, n, as, e, Fr, rfl, ⟨qt, a, b, vs, rfl, f1, f2, f3, f4⟩, sF, hz, q⟩ := h
  refine ⟨_, (pss_cons (ps_set (i := 1) sc_told_open_tag.nd rfl (Or.inl rfl) (pe_ix ix_seq (pv 0) pe_int (fun _ _ => rfl))) (pss_cons (ps_set (i := 2) sc_told_open_tag.nd rfl (Or.inl rfl) (pe_op op_addW (pe_op op_addW (pe_lst (pa_cons (pe_gc T.g_OPEN_TOKEN rfl) (pa_cons (pe_ix ix_seq (pv 0) pe_int (fun _ _ => rfl)) pa_nil))) (pe_gf (gf_counted T) (hr.mono (by decide)) rfl (pa_cons (pe_ix ix_seq (pv 0) pe_int (fun _ _ => rfl)) pa_nil))) (pe_lst (pa_cons (pe_callB call_len rfl T.b_len PySem.boot_len (pa_cons (pv 1) pa_nil)) pa_nil)))) (pss_cons (ps_for PassesOwn.never rfl (pi_list (pv 1)) (pg_name (i := 3) sc_told_open_tag.nd rfl (Or.inl rfl)) (pss_one (ps_expr (pe_bm PySem.F.plainAttrs_list PySem.F.slot_list_extend PySem.F.type_list_extend mt_extend (pv 2) (pa_cons (pe_op op_addW (pe_gf (gf_counted T) (hr.mono (by decide)) rfl (pa_cons (pe_ix ix_seq (pv 3) pe_int (fun _ _ => rfl)) pa_nil)) (pe_gf (gf_counted T) (hr.mono (by decide)) rfl (pa_cons (pe_ix ix_seq (pv 3) pe_int (fun _ _ => rfl)) pa_nil))) pa_nil))))) (pss_one (ps_ret (pv 2)))))), ?_⟩
  have e0 : Vaescc.shownToken (.opened p n as e) = 1 :: (if e = true then 1 else 0) :: (Vaescc.counted n ++ (as.length :: as.flatMap attF)) := rfl
  have cn : (Vaescc.counted n).length = n.length + 1 := rfl
  have l0 : (Vaescc.shownToken (.opened p n as e)).length = 2 + ((n.length + 1) + (1 + (as.flatMap attF).length)) := by
   rw [e0, List.length_cons, List.length_cons, List.length_append, cn, List.length_cons]; omega
  walk_at "s"
  refine rIx_tup (j := 3) (SqT.of (sF _ _ f1)) rfl rfl (rIx_tup (j := 1) (SqT.of (sF _ _ f1)) rfl rfl ⟨szl, fun p1 hp1 => ?_⟩)
  have s1 := same_new (o := HO.lst [V.int 1, V.int (if e = true then 1 else 0)]) hp1
  have h1 : upd H p1 (HO.lst [V.int 1, V.int (if e = true then 1 else 0)]) p1 = some (HO.lst (vi [1, if e = true then 1 else 0])) := by rw [upd_same]; cases e <;> rfl
  generalize upd H p1 (HO.lst [V.int 1, V.int (if e = true then 1 else 0)]) = H1 at s1 h1 ⊢
  refine rIx_tup (j := 2) (SqT.of (s1 _ _ (sF _ _ f1))) rfl rfl ⟨a, rfl, _, s1 _ _ (sF _ _ f2), szl (by rw [vi_length]; omega), fun p2 H2 hp2 s2 h2 => ?_⟩
  rw [vi_counted] at h2
  refine rAddU_new (s1.trans s2) (s2 _ _ h1) h2 (by rw [vi_length, vi_length]; simp [Vaescc.counted]; omega) fun p3 H3 hp3 s3 s23 h3 => ?_
  refine ⟨_, lenv (SqL.of (s3 _ _ (sF _ _ f3))), szl, fun p4 hp4 => ?_⟩
  have lv : vs.length = as.length := Paired.length f4
  have s4 := same_new (o := HO.lst [V.int vs.length]) hp4
  refine rAddU_new (s3.trans s4) (s4 _ _ h3) upd_same (by rw [List.length_append, vi_length, vi_length]; simp [Vaescc.counted]; omega) fun p5 H5 hp5 s5 s45 h5 => ?_
  have e5 : (vi [1, if e = true then 1 else 0] ++ vi (Vaescc.counted n)) ++ [V.int vs.length] = vi ((1 :: (if e = true then 1 else 0) :: (Vaescc.counted n ++ [as.length])) ++ (as.take 0).flatMap attF) := by
   rw [lv, ← vi_append, ← vi_snoc]; simp
  rw [e5] at h5
  refine ⟨_, rfl, b, rfl, ⟨_, SqL.of (s5 _ _ (sF _ _ f3))⟩, for_list (K := K) (a := b) (xs := vs) (OtI H qt b p5 (1 :: (if e = true then 1 else 0) :: (Vaescc.counted n ++ [as.length])) as) ⟨⟨none, rfl⟩, s5, h5⟩ (fun i σ H' _ ⟨_, s6, _⟩ => SqL.of (s6 _ _ (sF _ _ f3))) ?_ ?_⟩
  ·rintro i y σ H' hi ⟨⟨o, rfl⟩, s6, h6⟩
   obtain ⟨at_, hat, qa, a1, a2, rfl, g1, g2, g3⟩ := Paired.get f4 hi
   have sT := sF.trans s6
   have ft := flat_take attF as (i + 1)
   rw [take_snoc hat, List.flatMap_append, List.length_append] at ft
   have fi : ([at_].flatMap attF) = Vaescc.counted at_.1 ++ Vaescc.counted at_.2 := by simp [attF]
   have c1 : (Vaescc.counted at_.1).length = at_.1.length + 1 := rfl
   have c2 : (Vaescc.counted at_.2).length = at_.2.length + 1 := rfl
   rw [fi, List.length_append, c1, c2] at ft
   walk_at "s"
   refine ⟨tyL h6, rIx_tup (j := 0) (SqT.of (sT _ _ g1)) rfl rfl ⟨a1, rfl, _, sT _ _ g2, szl (by rw [vi_length]; omega), fun p7 H7 hp7 s7 h7 => ?_⟩⟩
   refine rIx_tup (j := 1) (SqT.of (s7 _ _ (sT _ _ g1))) rfl rfl ⟨a2, rfl, _, s7 _ _ (sT _ _ g3), szl (by rw [vi_length]; omega), fun p8 H8 hp8 s8 h8 => ?_⟩
   rw [vi_counted] at h7 h8
   refine rAddU_new (H := H') (s7.trans s8) (s8 _ _ h7) h8 (by rw [vi_length, vi_length, c1, c2]; omega) fun p9 H9 hp9 s9 s89 h9 => ⟨p9, rfl, _, s9 _ _ h6, _, h9, ?_, ⟨_, rfl⟩, same_upd hp5 (s6.trans s9), ?_⟩
   ·refine szl ?_
    rw [vi_length, List.length_append, List.length_append, vi_length, vi_length, c1, c2, List.length_cons, List.length_cons, List.length_append, cn]
    simp only [List.length_cons, List.length_nil]
    omega
   ·rw [upd_same, take_snoc hat, List.flatMap_append, fi, ← vi_append, ← vi_append, List.append_assoc]
  ·rintro σ H' ⟨⟨o, rfl⟩, s6, h6⟩
   rw [lv, List.take_length] at h6
   walk_at "s"
   refine q p5 H' hp5 s6 ?_
   rw [h6, e0]
   simp
def TtI (H : Hp) (a p : Addr) (ts : List Token) (i : Nat) (σ : L2.St) (H' : Hp) : Prop := (∃ o, σ = [some (.ref a), some (.ref p), o]) ∧ Same H H' ∧ H' p = some (.lst (vi ([ts.length] ++ (ts.take i).flatMap Vaescc.shownToken)))
theorem tok_cases {Fr : Hp} {v : V} {t : Token} (h : TokV Fr v t) : (∃ (k : Nat) (s : List Nat), k ≠ 1 ∧ SgV Fr v k s ∧ Vaescc.shownToken t = k :: Vaescc.counted s) ∨ ∃ p n as e, t = .opened p n as e := by
 cases t with
 | text p s => exact .inl ⟨0, s, by decide, h, rfl⟩
 | opened p n as e => exact .inr ⟨p, n, as, e, rfl⟩
 | closed p n => exact .inl ⟨2, n, by decide, h, rfl⟩
 | comment p s => exact .inl ⟨3, s, by decide, h, rfl⟩
 | raw p s => exact .inl ⟨4, s, by decide, h, rfl⟩
theorem gf_told_tokens (T : Txt P w K mg CR CP CB) : GF P w K mg base "told_tokens" (2 + 1) ["tokens"] (fun vs H Q _ => ∃ a vts ts Fr, vs = [.ref a] ∧ H a = some (.lst vts) ∧ Paired (TokV Fr) vts ts ∧ Same Fr H ∧ (Vaescc.shownTokens ts).length ≤ 1000000 ∧ rNew (vi (Vaescc.shownTokens ts)) H Q) := by
 refine gf_mk T.f_told_tokens sc_told_tokens (fun _ _ _ _ _ _ => us1 fun _ => rfl) (fun vs H Q E h => ?_) (fun f cdv A outer s H vs Q E hr h => ?_)
 ·exact ln4 h fun _ _ _ _ => rfl
 ·obtain ⟨a, vts, ts, Fr, rfl, ha, hT, sF, hz, q⟩ := h
  refine ⟨_, (pss_cons (ps_set (i := 1) sc_told_tokens.nd rfl (Or.inl rfl) (pe_lst (pa_cons (pe_callB call_len rfl T.b_len PySem.boot_len (pa_cons (pv 0) pa_nil)) pa_nil))) (pss_cons (ps_for PassesOwn.never rfl (pi_list (pv 0)) (pg_name (i := 2) sc_told_tokens.nd rfl (Or.inl rfl)) (pss_one (ps_expr (pe_bm PySem.F.plainAttrs_list PySem.F.slot_list_extend PySem.F.type_list_extend mt_extend (pv 1) (pa_cons (pe_ifExp (pt_cmpR (op_eqW hr.units) (pe_ix ix_seq (pv 2) pe_int (fun _ _ => rfl)) (pe_gc T.g_OPEN_TOKEN rfl) (nomark _)) (pe_gf (gf_told_open_tag T) (hr.mono (by decide)) rfl (pa_cons (pv 2) pa_nil)) (pe_op op_addW (pe_lst (pa_cons (pe_ix ix_seq (pv 2) pe_int (fun _ _ => rfl)) pa_nil)) (pe_gf (gf_counted T) (hr.mono (by decide)) rfl (pa_cons (pe_ix ix_seq (pv 2) pe_int (fun _ _ => rfl)) pa_nil)))) pa_nil))))) (pss_one (ps_ret (pv 1))))), ?_⟩
  have l0 : (Vaescc.shownTokens ts).length = 1 + (ts.flatMap Vaescc.shownToken).length := by
   simp only [Vaescc.shownTokens, List.length_cons]; omega
  walk_at "s"
  have lv : vts.length = ts.length := Paired.length hT
  refine ⟨_, lenv (SqL.of ha), szl, fun p hp => ?_⟩
  have s0 := same_new (o := HO.lst [V.int vts.length]) hp
  have h0 : upd H p (HO.lst [V.int vts.length]) p = some (HO.lst (vi ([ts.length] ++ (ts.take 0).flatMap Vaescc.shownToken))) := by rw [upd_same, lv]; rfl
  refine ⟨_, rfl, a, rfl, ⟨_, SqL.of (s0 _ _ ha)⟩, for_list (K := K) (a := a) (xs := vts) (TtI H a p ts) ⟨⟨none, rfl⟩, s0, h0⟩ (fun i σ H' _ ⟨_, s6, _⟩ => SqL.of (s6 _ _ ha)) ?_ ?_⟩
  ·rintro i y σ H' hi ⟨⟨o, rfl⟩, s6, h6⟩
   obtain ⟨t, ht, hv⟩ := Paired.get hT hi
   have ft := flat_take Vaescc.shownToken ts (i + 1)
   rw [take_snoc ht, List.flatMap_append, List.length_append] at ft
   have fi : ([t].flatMap Vaescc.shownToken) = Vaescc.shownToken t := by simp
   rw [fi] at ft
   have fin : ∀ p9 H9, Same H' H9 → H9 p9 = some (HO.lst (vi (Vaescc.shownToken t))) → ∃ x_3, V.ref p9 = V.ref x_3 ∧ ∃ x, H9 p = some (HO.lst x) ∧ ∃ x_4, H9 x_3 = some (HO.lst x_4) ∧ x.length + x_4.length ≤ sizeLine ∧ TtI H a p ts (i + 1) [some (V.ref a), some (V.ref p), some y] (upd H9 p (HO.lst (x ++ x_4))) := by
    intro p9 H9 s9 h9
    refine ⟨p9, rfl, _, s9 _ _ h6, _, h9, ?_, ⟨_, rfl⟩, same_upd hp (s6.trans s9), ?_⟩
    ·refine szl ?_
     rw [vi_length, vi_length, List.length_append]
     simp only [List.length_cons, List.length_nil]
     omega
    ·rw [upd_same, take_snoc ht, List.flatMap_append, fi, ← vi_append, List.append_assoc]
   have sT := sF.trans s6
   rcases tok_cases hv with ⟨k, sg, hk, ⟨qt, a1, rfl, g1, g2⟩, es⟩ | ⟨p0, n, as, e, rfl⟩
   ·have c1 : (Vaescc.counted sg).length = sg.length + 1 := rfl
    rw [es] at ft
    rw [List.length_cons, c1] at ft
    walk_at "s"
    refine ⟨tyL h6, rIx_tup (j := 0) (SqT.of (sT _ _ g1)) rfl rfl (rEqU_int.mpr ⟨_, rfl, ?_⟩)⟩
    rw [if_neg (by simp; omega)]
    refine rIx_tup (j := 0) (SqT.of (sT _ _ g1)) rfl rfl ⟨szl, fun p1 hp1 => ?_⟩
    have s1 := same_new (o := HO.lst [V.int (k : Int)]) hp1
    refine rIx_tup (j := 1) (SqT.of (s1 _ _ (sT _ _ g1))) rfl rfl ⟨a1, rfl, _, s1 _ _ (sT _ _ g2), szl (by rw [vi_length]; omega), fun p2 H2 hp2 s2 h2 => ?_⟩
    rw [vi_counted] at h2
    refine rAddU_new (H := H') (s1.trans s2) (s2 _ _ upd_same) h2 (by rw [vi_length, c1]; simp; omega) fun p3 H3 hp3 s3 _ h3 => fin p3 H3 s3 ?_
    rw [h3, es]; rfl
   ·walk_at "s"
    have hv2 := hv
    obtain ⟨qt, a1, b1, vs1, rfl, g1, g2, g3, g4⟩ := hv2
    refine ⟨tyL h6, rIx_tup (j := 0) (SqT.of (sT _ _ g1)) rfl rfl (rEqU_int.mpr ⟨_, rfl, ?_⟩)⟩
    rw [if_pos (by decide)]
    exact ⟨p0, n, as, e, Fr, hv, sT, by omega, fun p1 H1 hp1 s1 h1 => fin p1 H1 s1 h1⟩
  ·rintro σ H' ⟨⟨o, rfl⟩, s6, h6⟩
   rw [lv, List.take_length] at h6
   walk_at "s"
   exact q p H' hp s6 h6
end
section
open Vaesca (Reader Token Mode Home)
def Dt (H : Hp) (d : Addr) (data : List (List Nat)) : Prop := ∃ as : List Addr, H d = some (.lst (as.map V.ref)) ∧ Paired (fun a t => H a = some (.lst (vi t))) as data
structure DOk (data : List (List Nat)) : Prop where
 len : data.length ≤ 64
 each : ∀ t ∈ data, t.length ≤ 512 ∧ ∀ c ∈ t, c < 256
theorem Dt.same {H H' : Hp} {d : Addr} {data : List (List Nat)} (h : Dt H d data) (s : Same H H') : Dt H' d data := by
 obtain ⟨as, h1, h2⟩ := h
 exact ⟨as, s _ _ h1, Paired.mp (fun _ _ z => s _ _ z) h2⟩
theorem DOk.at {data : List (List Nat)} (h : DOk data) (c : Nat) : (Vaescc.datumOf data c).length ≤ 512 ∧ ∀ x ∈ Vaescc.datumOf data c, x < 256 := by
 unfold Vaescc.datumOf
 cases e : data[c - 256]? with
 | none => simp
 | some t => exact h.each t (List.mem_of_getElem? e)
theorem Paired.get' {α β : Type} {R : α → β → Prop} : ∀ {xs : List α} {ys : List β} {i : Nat} {y : β}, Paired R xs ys → ys[i]? = some y → ∃ x, xs[i]? = some x ∧ R x y
 | _, _, i, x, .nil, h => by simp at h
 | _, _, 0, x, .cons r t, h => by
  have := Option.some.inj h
  subst this
  exact ⟨_, rfl, r⟩
 | _, _, i + 1, x, .cons r t, h => Paired.get' (i := i) t (by simpa using h)
theorem gf_datum_of (T : Txt P w K mg CR CP CB) : GF P w K mg base "datum_of" (0 + 1) ["data", "mark"] (fun vs H Q _ => ∃ d c data, vs = [.ref d, .int (c : Nat)] ∧ Dt H d data ∧ 256 ≤ c ∧ ∀ a H', Same H H' → H' a = some (.lst (vi (Vaescc.datumOf data c))) → Q (.ref a) H') := by
 refine gf_mk T.f_datum_of sc_datum_of (fun _ _ _ _ _ _ => us2 fun _ _ => rfl) (fun vs H Q E h => ?_) (fun f cdv A outer s H vs Q E hr h => ?_)
 ·exact ln3 h fun _ _ _ => rfl
 ·obtain ⟨d, c, data, rfl, ⟨as, h1, h2⟩, hc, q⟩ := h
  refine ⟨_, (pss_cons (ps_set (i := 2) sc_datum_of.nd rfl (Or.inl rfl) (pe_op op_sub (pe_op op_sub (pv 1) (pe_gc T.g_HIGHEST_BYTE rfl)) pe_int)) (pss_one (ps_ret (pe_ifExp (pt_cmpR op_lt (pv 2) (pe_callB call_len rfl T.b_len PySem.boot_len (pa_cons (pv 0) pa_nil)) (nomark _)) (pe_ix ix_seq (pv 0) (pv 2) (fun _ _ => rfl)) (pe_lst pa_nil))))), ?_⟩
  walk_at "s"
  refine ⟨_, lenv (SqL.of h1), ?_⟩
  have la : as.length = data.length := Paired.length h2
  rw [List.length_map, la]
  split
  ·rename_i z
   obtain ⟨j, hj⟩ : ∃ j : Nat, j = c - 256 := ⟨_, rfl⟩
   have hd : data[j]? = some data[j] := List.getElem?_eq_getElem (by omega)
   obtain ⟨a, ha, ha2⟩ := Paired.get' h2 hd
   refine rIx_lst (j := j) (v := .ref a) (SqL.of h1) (by omega) (by rw [List.getElem?_map, ha]; rfl) (q a H (Same.refl H) ?_)
   unfold Vaescc.datumOf
   rw [← hj, hd]; exact ha2
  ·rename_i z
   refine ⟨szl, fun p hp => q p _ (same_new hp) ?_⟩
   unfold Vaescc.datumOf
   rw [List.getElem?_eq_none (by omega), upd_same]; rfl
theorem gf_written_form (T : Txt P w K mg CR CP CB) : GF P w K mg base "written_form" (5 + 1) ["content", "spot"] (fun vs H Q _ => ∃ a t s, vs = [.ref a, .int (s : Nat)] ∧ SqL K H a (vi t) ∧ (∀ c ∈ t, c < 256) ∧ t.length ≤ 5000 ∧ s ≤ 4 ∧ rNew (vi (Vaescc.formAt s t)) H Q) := by
 refine gf_mk T.f_written_form sc_written_form (fun _ _ _ _ _ _ => us2 fun _ _ => rfl) (fun vs H Q E h => ?_) (fun f cdv A outer s H vs Q E hr h => ?_)
 ·exact ln3 h fun _ _ _ => rfl
 ·obtain ⟨a, t, s, rfl, ha, hc, hz, hs, q⟩ := h
  refine ⟨_, (pss_cons (ps_if (pt_cmpR (op_eqW hr.units) (pv 1) (pe_gc T.g_SPOT_BEHIND_EQUALS rfl) (nomark _)) (pss_one (ps_ret (pe_op op_addW (pe_op op_addW (pe_lst (pa_cons (pe_gc T.g_QUOTE rfl) pa_nil)) (pe_gf (gf_escape_of T) (hr.mono (by decide)) rfl (pa_cons (pe_gc T.g_BETWEEN_QUOTES rfl) (pa_cons (pv 0) pa_nil)))) (pe_lst (pa_cons (pe_gc T.g_QUOTE rfl) pa_nil))))) pss_nil) (pss_one (ps_ret (pe_gf (gf_escape_of T) (hr.mono (by decide)) rfl (pa_cons (pv 1) (pa_cons (pv 0) pa_nil)))))), ?_⟩
  walk_at "s"
  unfold Vaescc.formAt at q
  split
  ·rename_i z
   have hs4 : s = 4 := by omega
   subst hs4
   refine ⟨szl, fun p hp => ?_⟩
   have s1 := same_new (o := HO.lst [V.int 34]) hp
   refine ⟨1, a, ⟨rfl, rfl⟩, t, s1.seq ha, by decide, hc, hz, fun p2 H2 hp2 s2 h2 => ?_⟩
   have le := flat_len (esc_len 1) t
   have le' : (Vaescc.escape 1 t).length ≤ 6 * t.length := le
   refine rAddU_new (s1.trans s2) (s2 _ _ upd_same) h2 (by rw [vi_length]; simp; omega) fun p3 H3 hp3 s3 _ h3 => ⟨szl, fun p4 hp4 => ?_⟩
   have s4 := same_new (o := HO.lst [V.int 34]) hp4
   refine rAddU_new (s3.trans s4) (s4 _ _ h3) upd_same (by rw [List.length_append, vi_length]; simp; omega) fun p5 H5 hp5 s5 _ h5 => q p5 H5 hp5 s5 ?_
   rw [h5]
   congr 2
   show _ = vi ([34] ++ Vaescc.escape 1 t ++ [34])
   rw [vi_append, vi_append]; rfl
  ·rename_i z
   have h4 : (s == 4) = false := by simp; omega
   have h5 : (s == 5) = false := by simp; omega
   rw [h4, h5] at q
   exact ⟨s, a, ⟨rfl, rfl⟩, t, ha, by omega, hc, hz, q⟩
def LnI (H : Hp) (forms : List (List Nat)) (D : Addr) (i : Nat) (H' : Hp) : Prop := Same H H' ∧ H' D = some (.lst (((forms.take i).map fun t => (t.length : Int)).map V.int))
theorem gf_put_length (T : Txt P w K mg CR CP CB) : GF P w K mg base "put_length" (0 + 1) ["text", "forms"] (fun vs H Q _ => ∃ a f x forms, vs = [.ref a, .ref f] ∧ SqL K H a (vi x) ∧ Dt H f forms ∧ forms.length ≤ 5000 ∧ ∀ H', Same H H' → Q (.int ((x.length : Int) - forms.length + ((forms.map fun t => (t.length : Int))).sum)) H') := by
 refine gf_mk T.f_put_length sc_put_length (fun _ _ _ _ _ _ => us2 fun _ _ => rfl) (fun vs H Q E h => ?_) (fun f cdv A outer s H vs Q E hr h => ?_)
 ·exact ln4 h fun _ _ _ _ => rfl
 ·obtain ⟨a, f, x, forms, rfl, ha, ⟨as, h1, h2⟩, hz, q⟩ := h
  refine ⟨_, (pss_one (ps_ret (pe_op op_addW (pe_op op_sub (pe_callB call_len rfl T.b_len PySem.boot_len (pa_cons (pv 0) pa_nil)) (pe_callB call_len rfl T.b_len PySem.boot_len (pa_cons (pv 1) pa_nil))) (pe_callB (cr_sum rfl) rfl T.b_sum boot_sum (pa_cons (pe_lc (own := [("form", 2)]) rfl sc_put_length.nd (pi_list (pv 1)) (blkOk_by (N := ["text", "forms", "form"]) (sc := defScope st_put_length) (by decide +kernel)) (fun _ _ _ _ _ => (pg_name (i := 2) sc_put_length.nd rfl (Or.inl rfl))) (fun _ _ _ _ _ => pts_nil) (fun _ _ _ _ _ => (pe_callB (call_lenK K rfl) rfl T.b_len PySem.boot_len (pa_cons (pv 2) pa_nil)))) pa_nil))))), ?_⟩
  walk_at "s"
  refine ⟨_, lenv ha, _, lenv (SqL.of h1), ?_⟩
  have la : as.length = forms.length := Paired.length h2
  refine lcL (a := f) (xs := as.map V.ref) (gvar rfl) (SqL.of h1) (LnI H forms) (fun D hD => ⟨same_new hD, upd_same⟩) (fun D i H' hD ⟨s1, _⟩ => SqL.of (s1 _ _ h1)) ?_ ?_
  ·rintro D i y H' hD hi ⟨s1, h3⟩
   rw [List.getElem?_map] at hi
   cases ea : as[i]? with
   | none => rw [ea] at hi; cases hi
   | some a0 =>
    rw [ea] at hi
    obtain rfl : V.ref a0 = y := Option.some.inj hi
    obtain ⟨t, ht, hat⟩ := Paired.get h2 ea
    walk_at "s"
    refine ⟨_, lenv (SqL.of (s1 _ _ hat)), _, h3, ?_, same_upd hD s1, ?_⟩
    ·rw [List.length_map, List.length_map, List.length_take]; exact szlt (by omega)
    ·rw [upd_same, take_snoc ht, List.map_append, List.map_append, vi_length]; rfl
  ·rintro D H' hD ⟨s1, h3⟩
   rw [List.length_map, la, List.take_length] at h3
   refine ⟨D, _, rfl, SqL.of h3, rAddU_int.mpr ?_⟩
   rw [List.length_map, la, vi_length]
   exact q H' s1
theorem keyT (m : Nat × Nat) : [V.int (m.1 : Nat), V.int (m.2 : Nat)] = ([Sum.inl (m.1 : Int), Sum.inl (m.2 : Int)] : List Key).map kV := rfl
def MdI (H' : Hp) (mk fm : Addr) (data : List (List Nat)) (n : Nat) (kvs : List (List Key × V)) : Prop := H' mk = some (.dT kvs) ∧ kvs.length ≤ n ∧ ∀ s t : Nat, ∀ v, valV kvs [Sum.inl (s : Int), Sum.inl (t : Int)] = some v → ∃ a, v = .ref a ∧ a ≠ fm ∧ H' a = some (.lst (vi (Vaescc.formAt t (Vaescc.datumOf data s))))
def FmI (H' : Hp) (fm : Addr) (data : List (List Nat)) (ms : List (Nat × Nat)) : Prop := ∃ as : List Addr, H' fm = some (.lst (as.map V.ref)) ∧ (∀ a ∈ as, a ≠ fm) ∧ Paired (fun a t => H' a = some (.lst (vi t))) as (ms.map fun m => Vaescc.formAt m.2 (Vaescc.datumOf data m.1))
def WfI (H : Hp) (d sp mk fm : Addr) (data : List (List Nat)) (marks : List (Nat × Nat)) (i : Nat) (σ : L2.St) (H' : Hp) : Prop := (∃ o, σ = [some (.ref d), some (.ref sp), some (.ref mk), some (.ref fm), o]) ∧ Same H H' ∧ (∃ kvs, MdI H' mk fm data i kvs) ∧ FmI H' fm data (marks.take i)
def WfM (H : Hp) (d sp mk fm qs : Addr) (data : List (List Nat)) (marks : List (Nat × Nat)) (m : Nat × Nat) (i : Nat) (σ : L2.St) (H' : Hp) : Prop := σ = [some (.ref d), some (.ref sp), some (.ref mk), some (.ref fm), some (.ref qs)] ∧ Same H H' ∧ (∃ kvs v, MdI H' mk fm data (i + 1) kvs ∧ valV kvs [Sum.inl (m.1 : Int), Sum.inl (m.2 : Int)] = some v) ∧ FmI H' fm data (marks.take i)
theorem ne_ld {H : Hp} {a b : Addr} {xs : List V} {kvs : List (List Key × V)} (h : H a = some (.lst xs)) (h2 : H b = some (.dT kvs)) : a ≠ b := by
 intro e; subst e; rw [h] at h2; cases h2
theorem FmI.same {H H' : Hp} {fm : Addr} {data : List (List Nat)} {ms : List (Nat × Nat)} (h : FmI H fm data ms) (s : Same H H') : FmI H' fm data ms := by
 obtain ⟨as, h1, h2, h3⟩ := h
 exact ⟨as, s _ _ h1, h2, Paired.mp (fun _ _ z => s _ _ z) h3⟩
theorem gf_written_forms (T : Txt P w K mg CR CP CB) : GF P w K mg base "written_forms" (6 + 1) ["data", "spots"] (fun vs H Q _ => ∃ d sp data vsp marks Fr, vs = [.ref d, .ref sp] ∧ Dt H d data ∧ DOk data ∧ H sp = some (.lst vsp) ∧ Paired (MrkV Fr) vsp marks ∧ Same Fr H ∧ marks.length ≤ 5000 ∧ (∀ m ∈ marks, 256 ≤ m.1 ∧ m.2 ≤ 4) ∧ ∀ p H', H p = none → Same H H' → Dt H' p (marks.map fun m => Vaescc.formAt m.2 (Vaescc.datumOf data m.1)) → Q (.ref p) H') := by
 refine gf_mk T.f_written_forms sc_written_forms (fun _ _ _ _ _ _ => us2 fun _ _ => rfl) (fun vs H Q E h => ?_) (fun f cdv A outer s H vs Q E hr h => ?_)
 ·exact ln6 h fun _ _ _ _ _ _ => rfl
 ·obtain ⟨d, sp, data, vsp, marks, Fr, rfl, hD, hok, hsp, hM, sF, hz, hm, q⟩ := h
  refine ⟨_, (pss_cons (ps_set (i := 2) sc_written_forms.nd rfl (Or.inl rfl) pe_dnewT) (pss_cons (ps_set (i := 3) sc_written_forms.nd rfl (Or.inl rfl) (pe_lst pa_nil)) (pss_cons (ps_for PassesOwn.never rfl (pi_list (pv 1)) (pg_name (i := 4) sc_written_forms.nd rfl (Or.inl rfl)) (pss_cut (ps_if (pt_cmp (pc_dnotin (hu_of hr) (pv 4) (pv 2))) (pss_one (ps_dput (hu_of hr) (pv 2) (pv 4) (pe_gf (gf_written_form T) (hr.mono (by decide)) rfl (pa_cons (pe_gf (gf_datum_of T) (hr.mono (by decide)) rfl (pa_cons (pv 0) (pa_cons (pe_ix ix_seq (pv 4) pe_int (fun _ _ => rfl)) pa_nil))) (pa_cons (pe_ix ix_seq (pv 4) pe_int (fun _ _ => rfl)) pa_nil))) rfl)) pss_nil) (pss_one (ps_expr (pe_bm PySem.F.plainAttrs_list PySem.F.slot_list_append PySem.F.type_list_append mt_append (pv 3) (pa_cons (pe_dget (hu_of hr) (pv 2) (pv 4) (fun _ _ => rfl)) pa_nil)))))) (pss_one (ps_ret (pv 3)))))), ?_⟩
  walk_at "s"
  intro mk hmk
  refine ⟨szl, fun fm hfm => ?_⟩
  have s0 := (same_new (o := HO.dT []) hmk).trans (same_new (o := HO.lst []) hfm)
  have nfm : H fm = none := (same_new (o := HO.dT []) hmk).free hfm
  have lm : vsp.length = marks.length := Paired.length hM
  refine ⟨_, rfl, sp, rfl, ⟨_, SqL.of (s0 _ _ hsp)⟩, for_list (K := K) (a := sp) (xs := vsp) (WfI H d sp mk fm data marks) ⟨⟨none, rfl⟩, s0, ⟨[], upd_of hfm upd_same, Nat.le_refl _, fun s t v z => (by cases z)⟩, ⟨[], upd_same, fun a ha => (by cases ha), .nil⟩⟩ (fun i σ H' _ ⟨_, s6, _⟩ => SqL.of (s6 _ _ hsp)) ?_ ?_⟩
  ·rintro i y σ H' hi ⟨⟨o, rfl⟩, s6, ⟨kvs, m1, m2, m3⟩, F⟩
   obtain ⟨m, hmi, qs, rfl, hq⟩ := Paired.get hM hi
   have hq' := s6 _ _ (sF _ _ hq)
   have hmm := hm m (List.mem_of_getElem? hmi)
   have il := lt_of_get hmi
   rw [keyT] at hq'
   refine ⟨WfM H d sp mk fm qs data marks m i, ?_, ?_⟩
   ·walk_at "s"
    refine ⟨_, DGet.t m1 hq', ?_⟩
    cases hv : valV kvs [Sum.inl (m.1 : Int), Sum.inl (m.2 : Int)] with
    | some v =>
     rw [if_neg (by simp)]
     exact ⟨rfl, s6, ⟨kvs, v, ⟨m1, by omega, m3⟩, hv⟩, F⟩
    | none =>
     rw [if_pos (by rfl)]
     rw [← keyT] at hq'
     refine rIx_tup (j := 0) (SqT.of hq') rfl rfl ⟨d, m.1, ⟨rfl, rfl⟩, data, hD.same s6, hmm.1, fun a1 H1 s1 h1 => ?_⟩
     have hd1 := hok.at m.1
     refine rIx_tup (j := 1) (SqT.of (s1 _ _ hq')) rfl rfl ⟨a1, _, m.2, ⟨rfl, rfl⟩, SqL.of h1, hd1.2, by omega, hmm.2, fun p2 H2 hp2 s2 h2 => ?_⟩
     have sT := s1.trans s2
     have hk2 : H2 qs = some (.tup (([Sum.inl (m.1 : Int), Sum.inl (m.2 : Int)] : List Key).map kV)) := by rw [← keyT]; exact sT _ _ hq'
     have F2 := F.same sT
     have m12 := sT _ _ m1
     refine ⟨_, DPut.t m12 hk2 (szlt (by omega)), rfl, same_upd hmk (s6.trans sT), ⟨_, .ref p2, ⟨upd_same, ?_, ?_⟩, ?_⟩, ?_⟩
     ·have := length_putK kvs [Sum.inl (m.1 : Int), Sum.inl (m.2 : Int)] (.ref p2)
      omega
     ·intro s t v hv2
      rw [valV_put] at hv2
      split at hv2
      ·rename_i ek
       have e1 : s = m.1 ∧ t = m.2 := by
        injection ek with e1 e2
        injection e2 with e2 e3
        injection e1 with e1
        injection e2 with e2
        exact ⟨by omega, by omega⟩
       obtain ⟨rfl, rfl⟩ := e1
       obtain ⟨as, f1, f2, f3⟩ := F
       refine ⟨p2, (Option.some.inj hv2).symm, ?_, ?_⟩
       ·exact (ne_of_none (s1 _ _ f1) hp2).symm
       ·rw [upd_ne (ne_ld h2 m12)]; exact h2
      ·obtain ⟨a, e1, e2, e3⟩ := m3 s t v hv2
       exact ⟨a, e1, e2, by rw [upd_ne (ne_ld (sT _ _ e3) m12)]; exact sT _ _ e3⟩
     ·rw [valV_put, if_pos rfl]
     ·obtain ⟨as, f1, f2, f3⟩ := F2
      exact ⟨as, by rw [upd_ne (ne_ld f1 m12)]; exact f1, f2, Paired.mp (fun _ _ z => by rw [upd_ne (ne_ld z m12)]; exact z) f3⟩
   ·rintro σ' H2 ⟨rfl, s7, ⟨kvs2, v, ⟨n1, n2, n3⟩, hv⟩, ⟨as, f1, f2, f3⟩⟩
    obtain ⟨a, rfl, ne, ha⟩ := n3 m.1 m.2 v hv
    have hk2 := s7 _ _ (sF _ _ hq)
    rw [keyT] at hk2
    walk_at "s"
    have lf := Paired.length f3
    refine ⟨tyL f1, _, (by rw [← hv]; exact DGet.t n1 hk2), _, f1, ?_, ⟨_, rfl⟩, same_upd nfm s7, ⟨kvs2, by rw [upd_ne (ne_ld f1 n1).symm]; exact n1, n2, fun s t v hv2 => ?_⟩, ⟨as ++ [a], ?_, ?_, ?_⟩⟩
    ·rw [List.length_map, lf, List.length_map, List.length_take]; exact szlt (by omega)
    ·obtain ⟨a3, e1, e2, e3⟩ := n3 s t v hv2
     exact ⟨a3, e1, e2, by rw [upd_ne e2]; exact e3⟩
    ·rw [upd_same, List.map_append]; rfl
    ·intro a3 ha3
     rcases List.mem_append.mp ha3 with h | h
     ·exact f2 a3 h
     ·rw [List.mem_singleton.mp h]; exact ne
    ·rw [take_snoc hmi, List.map_append]
     refine Paired.snoc ?_ (by rw [upd_ne ne]; exact ha)
     clear lf
     have key : ∀ {l : List Addr} {ts : List (List Nat)} {oo : HO}, (∀ a ∈ l, a ≠ fm) → Paired (fun a t => H2 a = some (.lst (vi t))) l ts → Paired (fun a t => upd H2 fm oo a = some (.lst (vi t))) l ts := by
      intro l ts oo hl hp
      induction hp with
      | nil => exact .nil
      | cons h t ih => exact .cons (by rw [upd_ne (hl _ (List.mem_cons_self ..))]; exact h) (ih fun a ha => hl a (List.mem_cons_of_mem _ ha))
     exact key f2 f3
  ·rintro σ H' ⟨⟨o, rfl⟩, s6, _, ⟨as, f1, f2, f3⟩⟩
   rw [lm, List.take_length] at f3
   walk_at "s"
   exact q fm H' nfm s6 ⟨as, f1, f3⟩
end
section
open Vaesca (Reader Token Mode Home)
def pf : List Nat → List (List Nat) → List Nat
 | [], _ => []
 | c :: r, fs => if Vaesca.isMark c then fs.headD [] ++ pf r fs.tail else c :: pf r fs
def ppf (at_ : Nat) : List Nat → List (List Nat) → List Nat
 | [], _ => []
 | c :: r, fs => if Vaesca.isMark c then at_ :: (fs.headD []).length :: ppf (at_ + (fs.headD []).length) r fs.tail else ppf (at_ + 1) r fs
def nm (x : List Nat) : Nat := (x.filter Vaesca.isMark).length
theorem nm_snoc (x : List Nat) (c : Nat) : nm (x ++ [c]) = nm x + if Vaesca.isMark c then 1 else 0 := by
 unfold nm
 rw [List.filter_append, List.length_append]
 congr 1
 cases h : Vaesca.isMark c <;> simp [List.filter_cons, h]
theorem nm_take_lt {x : List Nat} {i c : Nat} (h : x[i]? = some c) (hc : Vaesca.isMark c = true) : nm (x.take i) < nm x := by
 have e := List.take_append_drop (i + 1) x
 have : nm x = nm (x.take (i + 1)) + nm (x.drop (i + 1)) := by
  unfold nm
  rw [← List.length_append, ← List.filter_append, e]
 rw [this, take_snoc h, nm_snoc, hc]
 simp; omega
def PoI (H : Hp) (a f p : Addr) (x : List Nat) (fs : List (List Nat)) (i : Nat) (σ : L2.St) (H' : Hp) : Prop := ∃ o w, σ = [some (.ref a), some (.ref f), some (.ref p), some (.int (nm (x.take i))), o] ∧ Same H H' ∧ H' p = some (.lst (vi w)) ∧ pf x fs = w ++ pf (x.drop i) (fs.drop (nm (x.take i)))
theorem gf_put_of (T : Txt P w K mg CR CP CB) : GF P w K mg base "put_of" (1 + 1) ["text", "forms"] (fun vs H Q _ => ∃ a f x fs, vs = [.ref a, .ref f] ∧ SqL K H a (vi x) ∧ Dt H f fs ∧ fs.length = nm x ∧ (pf x fs).length ≤ 1000000 ∧ rNew (vi (pf x fs)) H Q) := by
 refine gf_mk T.f_put_of sc_put_of (fun _ _ _ _ _ _ => us2 fun _ _ => rfl) (fun vs H Q E h => ?_) (fun f cdv A outer s H vs Q E hr h => ?_)
 ·exact ln4 h fun _ _ _ _ => rfl
 ·obtain ⟨a, f, x, fs, rfl, ha, hD, hl, hz, q⟩ := h
  refine ⟨_, (pss_cons (ps_set (i := 2) sc_put_of.nd rfl (Or.inl rfl) (pe_lst pa_nil)) (pss_cons (ps_set (i := 3) sc_put_of.nd rfl (Or.inl rfl) pe_int) (pss_cons (ps_for PassesOwn.never rfl (pi_list (pv 0)) (pg_name (i := 4) sc_put_of.nd rfl (Or.inl rfl)) (pss_one (ps_if (pt_truth (pe_gf (gf_is_mark T) (hr.mono (by decide)) rfl (pa_cons (pv 4) pa_nil)) (fun _ => rfl)) (pss_cons (ps_expr (pe_bm PySem.F.plainAttrs_list PySem.F.slot_list_extend PySem.F.type_list_extend mt_extend (pv 2) (pa_cons (pe_ix ix_seq (pv 1) (pv 3) (fun _ _ => rfl)) pa_nil))) (pss_one (ps_aug (i := 3) sc_put_of.nd rfl (Or.inl rfl) pe_int ip_add))) (pss_one (ps_expr (pe_bm PySem.F.plainAttrs_list PySem.F.slot_list_append PySem.F.type_list_append mt_append (pv 2) (pa_cons (pv 4) pa_nil))))))) (pss_one (ps_ret (pv 2)))))), ?_⟩
  walk_at "s"
  refine ⟨szl, fun p hp => ?_⟩
  have s0 := same_new (o := HO.lst []) hp
  refine ⟨_, rfl, a, rfl, ⟨_, s0.seq ha⟩, for_list (K := K) (a := a) (xs := vi x) (PoI H a f p x fs) ⟨none, [], rfl, s0, upd_same, rfl⟩ (fun i σ H' _ ⟨_, _, _, s1, _⟩ => s1.seq ha) ?_ ?_⟩
  ·rintro i y σ H' hi ⟨o, w, rfl, s1, h1, e⟩
   obtain ⟨c, hc, rfl⟩ := vi_get_of hi
   rw [drop_of hc, pf] at e
   walk_at "s"
   cases hm : Vaesca.isMark c with
   | true =>
    rw [if_pos rfl]
    rw [hm, if_pos rfl] at e
    have hk := nm_take_lt hc hm
    obtain ⟨as, g1, g2⟩ := hD
    have hg : fs[nm (x.take i)]? = some fs[nm (x.take i)] := List.getElem?_eq_getElem (by omega)
    obtain ⟨a1, ha1, ha2⟩ := Paired.get' g2 hg
    refine ⟨tyL h1, rIx_lst (j := nm (x.take i)) (v := .ref a1) (SqL.of (s1 _ _ g1)) rfl (by rw [List.getElem?_map, ha1]; rfl) ?_⟩
    have hdr := drop_of hg
    rw [hdr] at e
    simp only [List.headD_cons, List.tail_cons] at e
    have lw := congrArg List.length e
    rw [List.length_append, List.length_append] at lw
    refine ⟨a1, rfl, _, h1, _, s1 _ _ ha2, szl (by rw [vi_length, vi_length]; omega), ?_⟩
    have en : nm (x.take (i + 1)) = nm (x.take i) + 1 := by rw [take_snoc hc, nm_snoc, hm]; rfl
    refine ⟨_, w ++ fs[nm (x.take i)], by rw [en]; rfl, same_upd hp s1, by rw [upd_same, vi_append], ?_⟩
    rw [en, e, List.append_assoc]
   | false =>
    rw [if_neg (by decide)]
    rw [hm, if_neg (by decide)] at e
    have lw := congrArg List.length e
    rw [List.length_append, List.length_cons] at lw
    refine ⟨tyL h1, _, h1, szlt (by rw [vi_length]; omega), ?_⟩
    have en : nm (x.take (i + 1)) = nm (x.take i) := by rw [take_snoc hc, nm_snoc, hm]; rfl
    refine ⟨_, w ++ [c], by rw [en], same_upd hp s1, by rw [upd_same, vi_snoc], ?_⟩
    rw [en, e, List.append_assoc]; rfl
  ·rintro σ H' ⟨o, w, rfl, s1, h1, e⟩
   rw [vi_length, List.drop_length, pf, List.append_nil] at e
   walk_at "s"
   exact q p H' hp s1 (by rw [e]; exact h1)
def PaI (H : Hp) (a f p : Addr) (x : List Nat) (fs : List (List Nat)) (i : Nat) (σ : L2.St) (H' : Hp) : Prop := ∃ o1 o2 w pl, σ = [some (.ref a), some (.ref f), some (.ref p), some (.int ((pl : Nat) : Int)), some (.int (nm (x.take i))), o1, o2] ∧ Same H H' ∧ H' p = some (.lst (vi w)) ∧ ppf 0 x fs = w ++ ppf pl (x.drop i) (fs.drop (nm (x.take i))) ∧ w.length ≤ 2 * i
def PaM (H : Hp) (a f p : Addr) (x : List Nat) (fs : List (List Nat)) (i pl c : Nat) (σ' : L2.St) (H2 : Hp) : Prop := ∃ (n : Nat) (w2 : List Nat), σ' = [some (.ref a), some (.ref f), some (.ref p), some (.int pl), some (.int (nm (x.take (i + 1)))), some (.int c), some (.int n)] ∧ Same H H2 ∧ H2 p = some (.lst (vi w2)) ∧ ppf 0 x fs = w2 ++ ppf (pl + n) (x.drop (i + 1)) (fs.drop (nm (x.take (i + 1)))) ∧ w2.length ≤ 2 * (i + 1)
theorem gf_parts_of (T : Txt P w K mg CR CP CB) : GF P w K mg base "parts_of" (1 + 1) ["text", "forms"] (fun vs H Q _ => ∃ a f x fs, vs = [.ref a, .ref f] ∧ SqL K H a (vi x) ∧ Dt H f fs ∧ fs.length = nm x ∧ x.length ≤ 5000 ∧ rNew (vi (ppf 0 x fs)) H Q) := by
 refine gf_mk T.f_parts_of sc_parts_of (fun _ _ _ _ _ _ => us2 fun _ _ => rfl) (fun vs H Q E h => ?_) (fun f cdv A outer s H vs Q E hr h => ?_)
 ·exact ln4 h fun _ _ _ _ => rfl
 ·obtain ⟨a, f, x, fs, rfl, ha, hD, hl, hz, q⟩ := h
  refine ⟨_, (pss_cons (ps_set (i := 2) sc_parts_of.nd rfl (Or.inl rfl) (pe_lst pa_nil)) (pss_cons (ps_set (i := 3) sc_parts_of.nd rfl (Or.inl rfl) pe_int) (pss_cons (ps_set (i := 4) sc_parts_of.nd rfl (Or.inl rfl) pe_int) (pss_cons (ps_for PassesOwn.never rfl (pi_list (pv 0)) (pg_name (i := 5) sc_parts_of.nd rfl (Or.inl rfl)) (pss_cons (ps_set (i := 6) sc_parts_of.nd rfl (Or.inl rfl) pe_int) (pss_cut (ps_if (pt_truth (pe_gf (gf_is_mark T) (hr.mono (by decide)) rfl (pa_cons (pv 5) pa_nil)) (fun _ => rfl)) (pss_cons (ps_set (i := 6) sc_parts_of.nd rfl (Or.inl rfl) (pe_callB call_len rfl T.b_len PySem.boot_len (pa_cons (pe_ix ix_seq (pv 1) (pv 4) (fun _ _ => rfl)) pa_nil))) (pss_cons (ps_aug (i := 4) sc_parts_of.nd rfl (Or.inl rfl) pe_int ip_add) (pss_one (ps_expr (pe_bm PySem.F.plainAttrs_list PySem.F.slot_list_extend PySem.F.type_list_extend mt_extend (pv 2) (pa_cons (pe_lst (pa_cons (pv 3) (pa_cons (pv 6) pa_nil))) pa_nil)))))) pss_nil) (pss_one (ps_aug (i := 3) sc_parts_of.nd rfl (Or.inl rfl) (pv 6) ip_add))))) (pss_one (ps_ret (pv 2))))))), ?_⟩
  walk_at "s"
  refine ⟨szl, fun p hp => ?_⟩
  have s0 := same_new (o := HO.lst []) hp
  refine ⟨_, rfl, a, rfl, ⟨_, s0.seq ha⟩, for_list (K := K) (a := a) (xs := vi x) (PaI H a f p x fs) ⟨none, none, [], 0, rfl, s0, upd_same, rfl, Nat.zero_le _⟩ (fun i σ H' _ ⟨_, _, _, _, _, s1, _⟩ => s1.seq ha) ?_ ?_⟩
  ·rintro i y σ H' hi ⟨o1, o2, w, pl, rfl, s1, h1, e, lw⟩
   obtain ⟨c, hc, rfl⟩ := vi_get_of hi
   have il := lt_of_get hc
   rw [drop_of hc, ppf] at e
   walk_at "s"
   refine ⟨PaM H a f p x fs i pl c, ?_, ?_⟩
   ·walk_at "s"
    cases hm : Vaesca.isMark c with
    | true =>
     rw [if_pos rfl]
     rw [hm, if_pos rfl] at e
     have hk := nm_take_lt hc hm
     obtain ⟨as, g1, g2⟩ := hD
     have hg : fs[nm (x.take i)]? = some fs[nm (x.take i)] := List.getElem?_eq_getElem (by omega)
     obtain ⟨a1, ha1, ha2⟩ := Paired.get' g2 hg
     have hdr := drop_of hg
     rw [hdr] at e
     simp only [List.headD_cons, List.tail_cons] at e
     have en : nm (x.take (i + 1)) = nm (x.take i) + 1 := by rw [take_snoc hc, nm_snoc, hm]; rfl
     refine rIx_lst (j := nm (x.take i)) (v := .ref a1) (SqL.of (s1 _ _ g1)) rfl (by rw [List.getElem?_map, ha1]; rfl) ⟨_, lenv (SqL.of (s1 _ _ ha2)), ?_⟩
     refine ⟨tyL h1, szl, fun p2 hp2 => ?_⟩
     have s2 := same_new (o := HO.lst [V.int pl, V.int (vi fs[nm (x.take i)]).length]) hp2
     refine ⟨_, s2 _ _ h1, _, upd_same, szl (by rw [vi_length]; simp; omega), fs[nm (x.take i)].length, w ++ [pl, fs[nm (x.take i)].length], ?_, same_upd hp (s1.trans s2), ?_, ?_, ?_⟩
     ·rw [en, vi_length]; simp
     ·rw [upd_same, vi_append, vi_length]; rfl
     ·rw [en, e, List.append_assoc]; rfl
     ·rw [List.length_append]; simp; omega
    | false =>
     rw [if_neg (by decide)]
     rw [hm, if_neg (by decide)] at e
     have en : nm (x.take (i + 1)) = nm (x.take i) := by rw [take_snoc hc, nm_snoc, hm]; rfl
     exact ⟨1, w, by rw [en]; rfl, s1, h1, by rw [en]; exact e, by omega⟩
   ·rintro σ' H2 ⟨n, w2, rfl, s2, h2, e2, lw2⟩
    walk_at "s"
    exact ⟨_, _, w2, pl + n, rfl, s2, h2, e2, lw2⟩
  ·rintro σ H' ⟨o1, o2, w, pl, rfl, s1, h1, e, lw⟩
   rw [vi_length, List.drop_length, ppf, List.append_nil] at e
   walk_at "s"
   exact q p H' hp s1 (by rw [e]; exact h1)
def FtI (H : Hp) (d a p : Addr) (data : List (List Nat)) (x : List Nat) (i : Nat) (σ : L2.St) (H' : Hp) : Prop := (∃ o, σ = [some (.ref d), some (.ref a), some (.ref p), o]) ∧ Same H H' ∧ H' p = some (.lst (vi (Vaescc.fillText data (x.take i))))
theorem gf_filled_text (T : Txt P w K mg CR CP CB) : GF P w K mg base "filled_text" (1 + 1) ["data", "text"] (fun vs H Q _ => ∃ d a data x, vs = [.ref d, .ref a] ∧ Dt H d data ∧ SqL K H a (vi x) ∧ (Vaescc.fillText data x).length ≤ 1000000 ∧ rNew (vi (Vaescc.fillText data x)) H Q) := by
 refine gf_mk T.f_filled_text sc_filled_text (fun _ _ _ _ _ _ => us2 fun _ _ => rfl) (fun vs H Q E h => ?_) (fun f cdv A outer s H vs Q E hr h => ?_)
 ·exact ln4 h fun _ _ _ _ => rfl
 ·obtain ⟨d, a, data, x, rfl, hD, ha, hz, q⟩ := h
  refine ⟨_, (pss_cons (ps_set (i := 2) sc_filled_text.nd rfl (Or.inl rfl) (pe_lst pa_nil)) (pss_cons (ps_for PassesOwn.never rfl (pi_list (pv 1)) (pg_name (i := 3) sc_filled_text.nd rfl (Or.inl rfl)) (pss_one (ps_if (pt_truth (pe_gf (gf_is_mark T) (hr.mono (by decide)) rfl (pa_cons (pv 3) pa_nil)) (fun _ => rfl)) (pss_one (ps_expr (pe_bm PySem.F.plainAttrs_list PySem.F.slot_list_extend PySem.F.type_list_extend mt_extend (pv 2) (pa_cons (pe_gf (gf_datum_of T) (hr.mono (by decide)) rfl (pa_cons (pv 0) (pa_cons (pv 3) pa_nil))) pa_nil)))) (pss_one (ps_expr (pe_bm PySem.F.plainAttrs_list PySem.F.slot_list_append PySem.F.type_list_append mt_append (pv 2) (pa_cons (pv 3) pa_nil))))))) (pss_one (ps_ret (pv 2))))), ?_⟩
  walk_at "s"
  refine ⟨szl, fun p hp => ?_⟩
  have s0 := same_new (o := HO.lst []) hp
  refine ⟨_, rfl, a, rfl, ⟨_, s0.seq ha⟩, for_list (K := K) (a := a) (xs := vi x) (FtI H d a p data x) ⟨⟨none, rfl⟩, s0, upd_same⟩ (fun i σ H' _ ⟨_, s1, _⟩ => s1.seq ha) ?_ ?_⟩
  ·rintro i y σ H' hi ⟨⟨o, rfl⟩, s1, h1⟩
   obtain ⟨c, hc, rfl⟩ := vi_get_of hi
   have ef : Vaescc.fillText data (x.take (i + 1)) = Vaescc.fillText data (x.take i) ++ (if Vaesca.isMark c then Vaescc.datumOf data c else [c]) := by
    unfold Vaescc.fillText
    rw [take_snoc hc, List.flatMap_append]; simp
   have fl : (Vaescc.fillText data (x.take (i + 1))).length ≤ 1000000 := Nat.le_trans (flat_take _ x (i + 1)) hz
   rw [ef, List.length_append] at fl
   walk_at "s"
   cases hm : Vaesca.isMark c with
   | true =>
    rw [hm, if_pos rfl] at ef fl
    rw [if_pos rfl]
    refine ⟨tyL h1, d, c, ⟨rfl, rfl⟩, data, hD.same s1, by simpa [Vaesca.isMark] using hm, fun a2 H2 s2 h2 => ⟨_, s2 _ _ h1, _, h2, szl (by rw [vi_length, vi_length]; omega), ⟨_, rfl⟩, same_upd hp (s1.trans s2), ?_⟩⟩
    rw [upd_same, ef, vi_append]
   | false =>
    rw [hm, if_neg (by decide)] at ef fl
    rw [if_neg (by decide)]
    refine ⟨tyL h1, _, h1, szlt (by rw [vi_length]; simp at fl; omega), ⟨_, rfl⟩, same_upd hp s1, ?_⟩
    rw [upd_same, ef, vi_snoc]
  ·rintro σ H' ⟨⟨o, rfl⟩, s1, h1⟩
   rw [vi_length, List.take_length] at h1
   walk_at "s"
   exact q p H' hp s1 h1
def NMt : Token → Prop
 | .closed _ n => ∀ c ∈ n, Vaesca.isMark c = false
 | .comment _ s => ∀ c ∈ s, Vaesca.isMark c = false
 | _ => True
theorem fill_none (data : List (List Nat)) : ∀ s : List Nat, (∀ c ∈ s, Vaesca.isMark c = false) → Vaescc.fillText data s = s
 | [], _ => rfl
 | c :: s, h => by
  have ih := fill_none data s (fun x hx => h x (List.mem_cons_of_mem _ hx))
  unfold Vaescc.fillText at ih ⊢
  rw [List.flatMap_cons, ih, h c (List.mem_cons_self ..)]; rfl
def nw (Fr H H' : Hp) : Hp := fun b => if (H b).isSome = true ∧ Fr b = none then none else H' b
def off (H : Hp) (D : Addr) : Hp := fun b => if b = D then none else H b
section
variable {Fr H H' : Hp} {b D : Addr} {u : HO}
theorem nw_new (hb : H b = none) (h : H' b = some u) : nw Fr H H' b = some u := by
 unfold nw; rw [if_neg (by rw [hb]; simp)]; exact h
theorem nw_old (s : Same Fr H') (h : Fr b = some u) : nw Fr H H' b = some u := by
 unfold nw; rw [if_neg (by rw [h]; simp)]; exact s _ _ h
theorem nw_sub : Same (nw Fr H H') H' := fun b u h => by
 unfold nw at h; split at h
 ·cases h
 ·exact h
theorem nw_none (h1 : (H b).isSome = true) (h2 : Fr b = none) : nw Fr H H' b = none := by
 unfold nw; rw [if_pos ⟨h1, h2⟩]
theorem nw_mono {H2 : Hp} (s : Same H' H2) : Same (nw Fr H H') (nw Fr H H2) := fun b u h => by
 unfold nw at h ⊢; split at h
 ·cases h
 ·rename_i z; rw [if_neg z]; exact s _ _ h
theorem off_at (hb : b ≠ D) (h : H b = some u) : off H D b = some u := by
 unfold off; rw [if_neg hb]; exact h
theorem off_sub : Same (off H D) H := fun b u h => by
 unfold off at h; split at h
 ·cases h
 ·exact h
theorem off_mono (s : Same H H') : Same (off H D) (off H' D) := fun b u h => by
 unfold off at h ⊢; split at h
 ·cases h
 ·rename_i z; rw [if_neg z]; exact s _ _ h
theorem off_upd {o : HO} : Same (off H D) (off (upd H D o) D) := fun b u h => by
 unfold off at h ⊢; split at h
 ·cases h
 ·rename_i z; rw [if_neg z, upd_ne z]; exact h
theorem off_nw {o : HO} {H0 : Hp} : Same (off (nw Fr H0 H) D) (off (nw Fr H0 (upd H D o)) D) := fun b u h => by
 unfold off at h ⊢; split at h
 ·cases h
 ·rename_i z
  rw [if_neg z]
  unfold nw at h ⊢; split at h
  ·cases h
  ·rename_i z2; rw [if_neg z2, upd_ne z]; exact h
end
def AtI (H Fr : Hp) (data : List (List Nat)) (as : List (Vaesca.Text × Vaesca.Text)) (D : Addr) (i : Nat) (H' : Hp) : Prop := Same H H' ∧ ∃ vs, H' D = some (.lst vs) ∧ Paired (AttV (off (nw Fr H H') D)) vs ((as.take i).map fun a => (a.1, Vaescc.fillText data a.2))
theorem at_len (data : List (List Nat)) (as : List (Vaesca.Text × Vaesca.Text)) : ∀ a ∈ as, (Vaescc.fillText data a.2).length ≤ ((as.map fun a => (a.1, Vaescc.fillText data a.2)).flatMap attF).length := by
 intro a ha
 induction as with
 | nil => cases ha
 | cons b as ih =>
  rw [List.map_cons, List.flatMap_cons, List.length_append]
  rcases List.mem_cons.mp ha with e | e
  ·subst e
   have : (attF (a.1, Vaescc.fillText data a.2)).length = (a.1.length + 1) + ((Vaescc.fillText data a.2).length + 1) := by
    unfold attF Vaescc.counted; rw [List.length_append]; rfl
   omega
  ·have := ih e; omega
theorem gf_filled_token (T : Txt P w K mg CR CP CB) : GF P w K mg base "filled_token" (2 + 1) ["data", "token"] (fun vs H Q _ => ∃ d v data t Fr, vs = [.ref d, v] ∧ Dt H d data ∧ TokV Fr v t ∧ Same Fr H ∧ NMt t ∧ (Vaescc.shownToken (Vaescc.fillToken data t)).length ≤ 1000000 ∧ ∀ q H', Same H H' → TokV (nw Fr H H') (.ref q) (Vaescc.fillToken data t) → Q (.ref q) H') := by
 refine gf_mk T.f_filled_token sc_filled_token (fun _ _ _ _ _ _ => us2 fun _ _ => rfl) (fun vs H Q E h => ?_) (fun f cdv A outer s H vs Q E hr h => ?_)
 ·exact ln5 h fun _ _ _ _ _ => rfl
 ·obtain ⟨d, v, data, t, Fr, rfl, hD, hT, sF, hN, hz, q⟩ := h
  refine ⟨_, (pss_cons (ps_if (pt_cmpR (op_neW hr.units) (pe_ix ix_seq (pv 1) pe_int (fun _ _ => rfl)) (pe_gc T.g_OPEN_TOKEN rfl) (nomark _)) (pss_one (ps_ret (pe_tup (pa_cons (pe_ix ix_seq (pv 1) pe_int (fun _ _ => rfl)) (pa_cons (pe_gf (gf_filled_text T) (hr.mono (by decide)) rfl (pa_cons (pv 0) (pa_cons (pe_ix ix_seq (pv 1) pe_int (fun _ _ => rfl)) pa_nil))) pa_nil))))) pss_nil) (pss_cons (ps_setLc (i := 2) (own := [("attribute", 3)]) rfl sc_filled_token.nd rfl rfl (sw_true rfl rfl rfl (by decide +kernel)) (pi_list (pe_ix ix_seq (pv 1) pe_int (fun _ _ => rfl))) (blkOk_by (N := ["data", "token", "attributes", "attribute"]) (sc := defScope st_filled_token) (by decide +kernel)) (fun _ _ _ _ _ => (pg_name (i := 3) sc_filled_token.nd rfl (Or.inl rfl))) (fun _ _ _ _ _ => pts_nil) (fun _ _ _ _ _ => (pe_tup (pa_cons (pe_ix (ix_seqK K rfl) (pv 3) pe_int (fun _ _ => rfl)) (pa_cons (pe_gf (gf_filled_text T) (hr.mono (by decide)) rfl (pa_cons (pv 0) (pa_cons (pe_ix (ix_seqK K rfl) (pv 3) pe_int (fun _ _ => rfl)) pa_nil))) pa_nil))))) (pss_one (ps_ret (pe_tup (pa_cons (pe_gc T.g_OPEN_TOKEN rfl) (pa_cons (pe_ix ix_seq (pv 1) pe_int (fun _ _ => rfl)) (pa_cons (pe_ix ix_seq (pv 1) pe_int (fun _ _ => rfl)) (pa_cons (pv 2) pa_nil))))))))), ?_⟩
  walk_at "s"
  by_cases ho : ∃ p n as e, t = .opened p n as e
  ·obtain ⟨pl, n, as, e, rfl⟩ := ho
   obtain ⟨qt, a, b, vs, rfl, g1, g2, g3, g4⟩ := hT
   have lv : vs.length = as.length := Paired.length g4
   have e0 : Vaescc.shownToken (Vaescc.fillToken data (.opened pl n as e)) = 1 :: (if e = true then 1 else 0) :: (Vaescc.counted n ++ ((as.map fun a => (a.1, Vaescc.fillText data a.2)).length :: (as.map fun a => (a.1, Vaescc.fillText data a.2)).flatMap attF)) := rfl
   have cn : (Vaescc.counted n).length = n.length + 1 := rfl
   have l0 : (as.map fun a => (a.1, Vaescc.fillText data a.2)).length + ((as.map fun a => (a.1, Vaescc.fillText data a.2)).flatMap attF).length ≤ 2000000 ∧ ((as.map fun a => (a.1, Vaescc.fillText data a.2)).flatMap attF).length ≤ 1000000 ∧ as.length ≤ 1000000 := by
    rw [e0, List.length_cons, List.length_cons, List.length_append, cn, List.length_cons] at hz
    have : ∀ l : List (Vaesca.Text × Vaesca.Text), l.length ≤ (l.flatMap attF).length := by
     intro l
     induction l with
     | nil => simp
     | cons a l ih =>
      rw [List.flatMap_cons, List.length_append, List.length_cons]
      have : 1 ≤ (attF a).length := by unfold attF Vaescc.counted; simp
      omega
    have h3 := this (as.map fun a => (a.1, Vaescc.fillText data a.2))
    rw [List.length_map] at h3 ⊢
    omega
   refine rIx_tup (j := 0) (SqT.of (sF _ _ g1)) rfl rfl (rNeU_int.mpr ⟨_, rfl, ?_⟩)
   rw [if_neg (by decide)]
   refine lcL (a := b) (xs := vs) (fun R hR => ⟨_, rfl, rIx_tup (j := 3) (SqT.of (sF _ _ g1)) rfl rfl hR⟩) (SqL.of (sF _ _ g3)) (AtI H Fr data as) (fun D hD => ⟨same_new hD, [], upd_same, .nil⟩) (fun D i H' hD ⟨s1, _⟩ => SqL.of (s1 _ _ (sF _ _ g3))) ?_ ?_
   ·rintro D i y H' hDn hi ⟨s1, ws, h1, h2⟩
    obtain ⟨at_, hat, qa, a1, a2, rfl, f1, f2, f3⟩ := Paired.get g4 hi
    have sT := sF.trans s1
    have la := at_len data as at_ (List.mem_of_getElem? hat)
    have lw := Paired.length h2
    rw [List.length_map, List.length_take] at lw
    walk_at "s"
    refine rIx_tup (j := 0) (SqT.of (sT _ _ f1)) rfl rfl (rIx_tup (j := 1) (SqT.of (sT _ _ f1)) rfl rfl ⟨d, a2, ⟨rfl, rfl⟩, data, hD.same s1, _, SqL.of (sT _ _ f3), by omega, fun p2 H2 hp2 s2 h3 => ⟨szl, fun p3 hp3 => ?_⟩⟩)
    have s3 := same_new (o := HO.tup [V.ref a1, V.ref p2]) hp3
    have sA := s2.trans s3
    refine ⟨ws, sA _ _ h1, szlt (by omega), same_upd hDn (s1.trans sA), _, upd_same, ?_⟩
    rw [take_snoc hat, List.map_append]
    have nD2 : p2 ≠ D := fun z => by subst z; rw [h1] at hp2; cases hp2
    have nD3 : p3 ≠ D := fun z => by subst z; rw [s2 _ _ h1] at hp3; cases hp3
    have nD1 : a1 ≠ D := fun z => by subst z; rw [sF _ _ f2] at hDn; cases hDn
    have big : Same (off (nw Fr H H') D) (off (nw Fr H (upd (upd H2 p3 (HO.tup [V.ref a1, V.ref p2])) D (HO.lst (ws ++ [V.ref p3])))) D) := (off_mono (nw_mono sA)).trans off_nw
    refine Paired.snoc (Paired.mp (fun _ _ => AttV.mono big) h2) ⟨p3, a1, p2, rfl, ?_, ?_, ?_⟩
    ·refine off_at nD3 (nw_new ((s1.trans s2).free hp3) ?_)
     rw [upd_ne nD3, upd_same]
    ·refine off_at nD1 (nw_old ?_ f2)
     exact same_upd (sF.free hDn) (sT.trans sA)
    ·refine off_at nD2 (nw_new (s1.free hp2) ?_)
     rw [upd_ne nD2]; exact s3 _ _ h3
   ·rintro D H' hDn ⟨s1, ws, h1, h2⟩
    rw [lv, List.take_length] at h2
    have sT := sF.trans s1
    refine rIx_tup (j := 1) (SqT.of (sT _ _ g1)) rfl rfl (rIx_tup (j := 2) (SqT.of (sT _ _ g1)) rfl rfl ⟨szl, fun p4 hp4 => ?_⟩)
    have s4 := same_new (o := HO.tup [V.int 1, V.int (if e = true then 1 else 0), V.ref a, V.ref D]) hp4
    refine q p4 _ (s1.trans s4) ⟨p4, a, D, ws, rfl, nw_new (s1.free hp4) upd_same, nw_old (sT.trans s4) g2, nw_new hDn (s4 _ _ h1), ?_⟩
    exact Paired.mp (fun _ _ => AttV.mono (off_sub.trans (nw_mono s4))) h2
  ·have hs : ∃ (k : Nat) (sg : List Nat), k ≠ 1 ∧ SgV Fr v k sg ∧ (Vaescc.fillText data sg).length ≤ 1000000 ∧ ∀ H' q, SgV H' (.ref q) k (Vaescc.fillText data sg) → TokV H' (.ref q) (Vaescc.fillToken data t) := by
    cases t with
    | text p s => exact ⟨0, s, by decide, hT, by simp [Vaescc.shownToken, Vaescc.fillToken, Vaescc.counted] at hz; omega, fun _ _ z => z⟩
    | opened p n as e => exact absurd ⟨p, n, as, e, rfl⟩ ho
    | closed p n => exact ⟨2, n, by decide, hT, by rw [fill_none data n hN]; simp [Vaescc.shownToken, Vaescc.fillToken, Vaescc.counted] at hz; omega, fun _ _ z => by rw [fill_none data n hN] at z; exact z⟩
    | comment p s => exact ⟨3, s, by decide, hT, by rw [fill_none data s hN]; simp [Vaescc.shownToken, Vaescc.fillToken, Vaescc.counted] at hz; omega, fun _ _ z => by rw [fill_none data s hN] at z; exact z⟩
    | raw p s => exact ⟨4, s, by decide, hT, by simp [Vaescc.shownToken, Vaescc.fillToken, Vaescc.counted] at hz; omega, fun _ _ z => z⟩
   obtain ⟨k, sg, hk, ⟨qt, a1, rfl, g1, g2⟩, hl, fin⟩ := hs
   refine rIx_tup (j := 0) (SqT.of (sF _ _ g1)) rfl rfl (rNeU_int.mpr ⟨_, rfl, ?_⟩)
   rw [if_pos (by simp; omega)]
   refine rIx_tup (j := 0) (SqT.of (sF _ _ g1)) rfl rfl (rIx_tup (j := 1) (SqT.of (sF _ _ g1)) rfl rfl ⟨d, a1, ⟨rfl, rfl⟩, data, hD, sg, SqL.of (sF _ _ g2), hl, fun p2 H2 hp2 s2 h2 => ⟨szl, fun p3 hp3 => ?_⟩⟩)
   have s3 := same_new (o := HO.tup [V.int k, V.ref p2]) hp3
   exact q p3 _ (s2.trans s3) (fin _ _ ⟨p3, p2, rfl, nw_new (s2.free hp3) upd_same, nw_new hp2 (s3 _ _ h2)⟩)
end
section
open Vaesca (Reader Token Mode Home)
def FiI (H : Hp) (data : List (List Nat)) (ts : List Token) (D : Addr) (i : Nat) (H' : Hp) : Prop := Same H H' ∧ ∃ vs, H' D = some (.lst vs) ∧ Paired (TokV (off H' D)) vs ((ts.take i).map (Vaescc.fillToken data))
def FsI (H FrX : Hp) (ft : List Token) (D : Addr) (i : Nat) (H' : Hp) : Prop := Same H H' ∧ ∃ ws, H' D = some (.lst ws) ∧ Paired (TokV FrX) ws ((ft.take i).filter fun t => !Vaescc.isEmptyText t)
theorem sh_len (l : List Token) : ∀ t ∈ l, (Vaescc.shownToken t).length ≤ (l.flatMap Vaescc.shownToken).length := by
 intro t ht
 induction l with
 | nil => cases ht
 | cons b l ih =>
  rw [List.flatMap_cons, List.length_append]
  rcases List.mem_cons.mp ht with e | e
  ·subst e; omega
  ·have := ih e; omega
theorem sh_pos (l : List Token) : l.length ≤ (l.flatMap Vaescc.shownToken).length := by
 induction l with
 | nil => simp
 | cons b l ih =>
  rw [List.flatMap_cons, List.length_append, List.length_cons]
  have : 1 ≤ (Vaescc.shownToken b).length := by cases b <;> simp [Vaescc.shownToken]
  omega
theorem gf_filled_tokens (T : Txt P w K mg CR CP CB) : GF P w K mg base "filled_tokens" (3 + 1) ["data", "tokens"] (fun vs H Q _ => ∃ d a data ts vts Fr, vs = [.ref d, .ref a] ∧ Dt H d data ∧ H a = some (.lst vts) ∧ Paired (TokV Fr) vts ts ∧ Same Fr H ∧ (∀ t ∈ ts, NMt t) ∧ ((ts.map (Vaescc.fillToken data)).flatMap Vaescc.shownToken).length ≤ 1000000 ∧ ∀ p H' vs' Fr', H p = none → Same H H' → H' p = some (.lst vs') → Paired (TokV Fr') vs' (Vaescc.fillTokens data ts) → Same Fr' H' → Q (.ref p) H') := by
 refine gf_mk T.f_filled_tokens sc_filled_tokens (fun _ _ _ _ _ _ => us2 fun _ _ => rfl) (fun vs H Q E h => ?_) (fun f cdv A outer s H vs Q E hr h => ?_)
 ·exact ln6 h fun _ _ _ _ _ _ => rfl
 ·obtain ⟨d, a, data, ts, vts, Fr, rfl, hD, ha, hT, sF, hN, hz, q⟩ := h
  refine ⟨_, (pss_cons (ps_setLc (i := 2) (own := [("token", 3)]) rfl sc_filled_tokens.nd rfl rfl (sw_true rfl rfl rfl (by decide +kernel)) (pi_list (pv 1)) (blkOk_by (N := ["data", "tokens", "filled", "token"]) (sc := defScope st_filled_tokens) (by decide +kernel)) (fun _ _ _ _ _ => (pg_name (i := 3) sc_filled_tokens.nd rfl (Or.inl rfl))) (fun _ _ _ _ _ => pts_nil) (fun _ _ _ _ _ => (pe_gf (gf_filled_token T) (hr.mono (by decide)) rfl (pa_cons (pv 0) (pa_cons (pv 3) pa_nil))))) (pss_one (ps_ret (pe_lc (own := [("token", 3)]) rfl sc_filled_tokens.nd (pi_list (pv 2)) (blkOk_by (N := ["data", "tokens", "filled", "token"]) (sc := defScope st_filled_tokens) (by decide +kernel)) (fun _ _ _ _ _ => (pg_name (i := 3) sc_filled_tokens.nd rfl (Or.inl rfl))) (fun _ _ _ _ _ => (pts_one (PW.pt (pw_or (pt_cmpR (op_neK K rfl hr.units) (pe_ix (ix_seqK K rfl) (pv 3) pe_int (fun _ _ => rfl)) (pe_gc T.g_RUN_TOKEN rfl) (nomark _)) (pw_or1 (pt_truthK K rfl (pe_ix (ix_seqK K rfl) (pv 3) pe_int (fun _ _ => rfl)) (fun _ => rfl))))))) (fun _ _ _ _ _ => (pv 3)))))), ?_⟩
  walk_at "s"
  have lv : vts.length = ts.length := Paired.length hT
  have lp := sh_pos (ts.map (Vaescc.fillToken data))
  rw [List.length_map] at lp
  refine lcL (a := a) (xs := vts) (gvar rfl) (SqL.of ha) (FiI H data ts) (fun D hD => ⟨same_new hD, [], upd_same, .nil⟩) (fun D i H' hD ⟨s1, _⟩ => SqL.of (s1 _ _ ha)) ?_ ?_
  ·rintro D i y H' hDn hi ⟨s1, ws, h1, h2⟩
   obtain ⟨t, ht, hv⟩ := Paired.get hT hi
   have lw := Paired.length h2
   rw [List.length_map, List.length_take] at lw
   have lt := sh_len (ts.map (Vaescc.fillToken data)) (Vaescc.fillToken data t) (List.mem_map.mpr ⟨t, List.mem_of_getElem? ht, rfl⟩)
   walk_at "s"
   refine ⟨d, y, ⟨rfl, rfl⟩, data, hD.same s1, t, Fr, hv, sF.trans s1, hN t (List.mem_of_getElem? ht), by omega, fun q2 H2 s2 t2 => ?_⟩
   refine ⟨ws, s2 _ _ h1, szlt (by omega), same_upd hDn (s1.trans s2), _, upd_same, ?_⟩
   rw [take_snoc ht, List.map_append]
   have big : Same (nw Fr H' H2) (off (upd H2 D (HO.lst (ws ++ [V.ref q2]))) D) := fun b u hb => by
    have hbD : b ≠ D := fun z => by
     subst z
     rw [nw_none (by rw [h1]; rfl) (sF.free hDn)] at hb; cases hb
    exact off_at hbD (by rw [upd_ne hbD]; exact nw_sub _ _ hb)
   exact Paired.snoc (Paired.mp (fun _ _ => TokV.mono ((off_mono s2).trans off_upd)) h2) (TokV.mono big t2)
  ·rintro D H1 hDn ⟨s1, ws, h1, h2⟩
   rw [lv, List.take_length] at h2
   have lw := Paired.length h2
   rw [List.length_map] at lw
   refine lcL (a := D) (xs := ws) (gvar rfl) (SqL.of h1) (FsI H1 (off H1 D) (ts.map (Vaescc.fillToken data))) (fun D2 hD2 => ⟨same_new hD2, [], upd_same, .nil⟩) (fun D2 i H' hD2 ⟨s2, _⟩ => SqL.of (s2 _ _ h1)) ?_ ?_
   ·rintro D2 i y H' hD2 hi ⟨s2, us, g1, g2⟩
    obtain ⟨t, ht, hv⟩ := Paired.get h2 hi
    have lu := Paired.length g2
    have lu2 : us.length ≤ ts.length := by
     rw [lu]
     refine Nat.le_trans (List.length_filter_le _ _) ?_
     rw [List.length_take, List.length_map]; omega
    have sO : Same (off H1 D) H' := off_sub.trans s2
    have ef : (((ts.map (Vaescc.fillToken data)).take (i + 1)).filter fun t => !Vaescc.isEmptyText t) = (((ts.map (Vaescc.fillToken data)).take i).filter fun t => !Vaescc.isEmptyText t) ++ (if Vaescc.isEmptyText t then [] else [t]) := by
     rw [take_snoc ht, List.filter_append]
     congr 1
     cases hE : Vaescc.isEmptyText t <;> simp [List.filter_cons, hE]
    have keep : Vaescc.isEmptyText t = false → ∃ acc, H' D2 = some (HO.lst acc) ∧ acc.length < sizeLine ∧ FsI H1 (off H1 D) (ts.map (Vaescc.fillToken data)) D2 (i + 1) (upd H' D2 (HO.lst (acc ++ [y]))) := by
     intro hE
     rw [hE] at ef
     refine ⟨us, g1, szlt (by omega), same_upd hD2 s2, _, upd_same, ?_⟩
     rw [ef]
     exact Paired.snoc g2 hv
    have hk : (∃ s p, t = .text p s) ∨ (∃ (k : Nat) (q : Addr) (tl : List V), k ≠ 0 ∧ y = .ref q ∧ off H1 D q = some (.tup (.int k :: tl)) ∧ Vaescc.isEmptyText t = false) := by
     cases t with
     | text p s => exact .inl ⟨s, p, rfl⟩
     | opened p n as e => obtain ⟨q, a, b, vs, rfl, f1, _⟩ := hv; exact .inr ⟨1, q, _, by decide, rfl, f1, rfl⟩
     | closed p n => obtain ⟨q, a, rfl, f1, _⟩ := hv; exact .inr ⟨2, q, _, by decide, rfl, f1, rfl⟩
     | comment p s => obtain ⟨q, a, rfl, f1, _⟩ := hv; exact .inr ⟨3, q, _, by decide, rfl, f1, rfl⟩
     | raw p s => obtain ⟨q, a, rfl, f1, _⟩ := hv; exact .inr ⟨4, q, _, by decide, rfl, f1, rfl⟩
    walk_at "s"
    rcases hk with ⟨s, p, rfl⟩ | ⟨k, q2, tl, hk0, rfl, f1, hE⟩
    ·obtain ⟨q2, a2, rfl, f1, f2⟩ := hv
     refine rIx_tup (j := 0) (SqT.of (sO _ _ f1)) rfl rfl (rNeU_int.mpr ⟨_, rfl, ?_⟩)
     rw [if_neg (by decide)]
     refine rIx_tup (j := 1) (SqT.of (sO _ _ f1)) rfl rfl (truL (SqL.of (sO _ _ f2)) ?_)
     rw [vi_isEmpty]
     cases hs : s.isEmpty with
     | true =>
      rw [if_neg (by decide)]
      have hE : Vaescc.isEmptyText (.text p s) = true := hs
      rw [hE, if_pos rfl, List.append_nil] at ef
      exact ⟨s2, us, g1, by rw [ef]; exact g2⟩
     | false =>
      rw [if_pos (by decide)]
      exact keep hs
    ·refine rIx_tup (j := 0) (SqT.of (sO _ _ f1)) rfl rfl (rNeU_int.mpr ⟨_, rfl, ?_⟩)
     rw [if_pos (by simp; omega)]
     exact keep hE
   ·rintro D2 H' hD2 ⟨s2, us, g1, g2⟩
    rw [lw, ← List.length_map (f := Vaescc.fillToken data), List.take_length] at g2
    exact q D2 H' us (off H1 D) (s1.free hD2) (s1.trans s2) g1 g2 (off_sub.trans s2)
def SpI (H : Hp) (marks : List (Nat × Nat)) (D : Addr) (i : Nat) (H' : Hp) : Prop := Same H H' ∧ H' D = some (.lst (((marks.take i).map fun m => (m.2 : Int)).map V.int))
theorem gf_refusal_of_reading (T : Txt P w K mg CR CP CB) : GF P w K mg base "refusal_of_reading" (0 + 1) ["reading"] (fun vs H Q _ => ∃ r m H0, vs = [.ref r] ∧ RD CR H0 H r m ∧ m.marks.length ≤ 100000 ∧ (∀ w, m.wrong = some w → w.1 ≠ 0) ∧ ∀ H', Same H H' → Q (.int (if m.wrong.isSome then -10 else if (m.marks.map fun m => m.2).contains 5 then -11 else 0)) H') := by
 refine gf_mk T.f_refusal_of_reading sc_refusal_of_reading (fun _ _ _ _ _ _ => us1 fun _ => rfl) (fun vs H Q E h => ?_) (fun f cdv A outer s H vs Q E hr h => ?_)
 ·exact ln3 h fun _ _ _ => rfl
 ·obtain ⟨r, m, H0, rfl, ⟨Fr, A, vt, va, vs, tl, B, hr'⟩, hz, hw, q⟩ := h
  refine ⟨_, (pss_cons (ps_if (pt_cmpR (op_neW hr.units) (pe_fld (pv 0) rfl) pe_int (nomark _)) (pss_one (ps_ret (pe_gc T.g_NOT_READ_FINE rfl))) pss_nil) (pss_one (ps_ret (pe_ifExp (pt_cmpR op_in_seq (pe_gc T.g_SPOT_IN_RAW rfl) (pe_lc (own := [("spotted", 1)]) rfl sc_refusal_of_reading.nd (pi_list (pe_fld (pv 0) rfl)) (blkOk_by (N := ["reading", "spotted"]) (sc := defScope st_refusal_of_reading) (by decide +kernel)) (fun _ _ _ _ _ => (pg_name (i := 1) sc_refusal_of_reading.nd rfl (Or.inl rfl))) (fun _ _ _ _ _ => pts_nil) (fun _ _ _ _ _ => (pe_ix (ix_seqK K rfl) (pv 1) pe_int (fun _ _ => rfl)))) (by with_unfolding_all rfl)) (pe_gc T.g_MARK_IN_RAW rfl) (pe_gc T.g_NOT_REFUSED rfl))))), ?_⟩
  walk_at "s"
  refine ⟨_, _, _, B.ins, T.k_Reader, T.n_Reader_fault, _, rfl, rNeU_int.mpr ⟨_, rfl, ?_⟩⟩
  cases hwr : m.wrong with
  | some w =>
   have hne : ¬ (fkr (some w) = 0) := by
    have := hw w hwr
    show ¬ ((w.1 : Int) = 0)
    omega
   rw [if_pos (by simp [hne])]
   have q2 := q H (Same.refl H)
   rw [hwr] at q2
   exact q2
  | none =>
   rw [if_neg (by decide)]
   rw [hwr] at q
   refine lcL (a := A.sp) (xs := vs) (fun R hR => ⟨_, rfl, _, _, _, _, _, rfl, B.ins, T.k_Reader, T.n_Reader_spots, rfl, hR⟩) (SqL.of B.hsp) (SpI H m.marks) (fun D hD => ⟨same_new hD, upd_same⟩) (fun D i H' hD ⟨s1, _⟩ => SqL.of (s1 _ _ B.hsp)) ?_ ?_
   ·rintro D i y H' hD hi ⟨s1, h1⟩
    obtain ⟨mk, hmk, q2, rfl, g1⟩ := Paired.get B.sp hi
    walk_at "s"
    refine rIx_tup (j := 1) (SqT.of (s1 _ _ (B.ow.sub _ _ g1))) rfl rfl ⟨_, h1, ?_, same_upd hD s1, ?_⟩
    ·rw [List.length_map, List.length_map, List.length_take]; exact szlt (by omega)
    ·rw [upd_same, take_snoc hmk, List.map_append, List.map_append]; rfl
   ·rintro D H' hD ⟨s1, h1⟩
    rw [B.ls, List.take_length] at h1
    refine ⟨D, _, rfl, .inl (SqL.of h1), rfl, flat_ints _, ⟨_, rfl, ?_⟩⟩
    have ei : (if false = true then !inV (V.int 5) ((m.marks.map fun m => (m.2 : Int)).map V.int) else inV (V.int 5) ((m.marks.map fun m => (m.2 : Int)).map V.int)) = decide ((5 : Int) ∈ m.marks.map fun m => (m.2 : Int)) := inV_ints 5 _
    rw [ei]
    have ec : (m.marks.map fun m => m.2).contains 5 = decide ((5 : Int) ∈ m.marks.map fun m => (m.2 : Int)) := by
     rw [Bool.eq_iff_iff]
     simp only [List.contains_iff_mem, decide_eq_true_eq, List.mem_map]
     constructor
     ·rintro ⟨x, hx, e⟩; exact ⟨x, hx, by omega⟩
     ·rintro ⟨x, hx, e⟩; exact ⟨x, hx, by omega⟩
    have q2 := q H' s1
    rw [ec] at q2
    cases hd : decide ((5 : Int) ∈ m.marks.map fun m => (m.2 : Int)) with
    | true => rw [hd] at q2; exact q2
    | false => rw [hd] at q2; exact q2
end
section
open Vaesca (Reader Token Mode Home)
def puF (tk fm : Addr) (k : Int) : List (Str × V) := [("tokens", .ref tk), ("forms", .ref fm), ("refusal", .int k)]
theorem pu_len {tk fm : Addr} {k : Int} : (puF tk fm k).length < 1000 := by show 3 < 1000; decide
def PU (C : Addr) (H0 H' : Hp) (r : Addr) (k : Int) (ts : List Token) (forms : List (List Nat)) : Prop := ∃ dx tk fm, H' r = some (.ins C dx (puF tk fm k)) ∧ Same H0 H' ∧ (k = 0 → ∃ vt Fr, H' tk = some (.lst vt) ∧ Paired (TokV Fr) vt ts ∧ Same Fr H' ∧ Dt H' fm forms)
def fms (data : List (List Nat)) (m : Reader) : List (List Nat) := m.marks.map fun k => Vaescc.formAt k.2 (Vaescc.datumOf data k.1)
def useR (data : List (List Nat)) (x : List Nat) (m : Reader) : Int :=
 if m.wrong.isSome then -10 else if (m.marks.map fun m => m.2).contains 5 then -11 else if 65536 < (x.length : Int) - (fms data m).length + ((fms data m).map fun t => (t.length : Int)).sum then -12 else 0
theorem Dt.upd {H : Hp} {d r C dx : Addr} {data : List (List Nat)} {fs : List (Str × V)} {o : HO} (h : Dt H d data) (hr : H r = some (.ins C dx fs)) : Dt (upd H r o) d data := by
 obtain ⟨as, h1, h2⟩ := h
 exact ⟨as, by rw [upd_ne (ne_il hr h1)]; exact h1, Paired.mp (fun _ _ z => by rw [upd_ne (ne_il hr z)]; exact z) h2⟩
theorem gm_Putting_use_reading (T : Txt P w K mg CR CP CB) : GM P w K mg base CP "use_reading" (7 + 1) ["self", "data", "text", "reading"] (fun vs H Q _ => ∃ r d a rr data x m H1 dx tk fm k0 H0, vs = [.ref r, .ref d, .ref a, .ref rr] ∧ H r = some (.ins CP dx (puF tk fm k0)) ∧ H0 r = none ∧ Same H0 H ∧ Dt H0 d data ∧ DOk data ∧ SqL K H0 a (vi x) ∧ RD CR H1 H rr m ∧ (H1 r).isSome = true ∧ m.marks.length ≤ 5000 ∧ (∀ w, m.wrong = some w → w.1 ≠ 0) ∧ (m.wrong = none → ∀ p ∈ m.marks, 256 ≤ p.1 ∧ p.2 ≤ 5) ∧ ∀ H', PU CP H0 H' r (useR data x m) m.tokens (fms data m) → Q .non H') := by
 refine gm_mk T.k_Putting T.mf_Putting_use_reading sc_Putting_use_reading (fun _ _ _ _ _ _ => us4 fun _ _ _ _ => rfl) (fun vs H Q E h => ?_) (fun f cdv A outer s H vs Q E hr h => ?_)
 ·obtain ⟨r, d, a, rr, data, x, m, H1, dx, tk, fm, k0, H0, rfl, _⟩ := h; rfl
 ·obtain ⟨r, d, a, rr, data, x, m, H1, dx, tk, fm, k0, H0, rfl, hI, hn, hs, hD, hok, ha, hR, h1r, hz, hw, hmk, q⟩ := h
  refine ⟨_, (pss_cons (ps_fld (pv 0) (pe_gf (gf_refusal_of_reading T) (hr.mono (by decide)) rfl (pa_cons (pv 3) pa_nil)) rfl) (pss_one (ps_if (pt_cmpR (op_eqW hr.units) (pe_fld (pv 0) rfl) (pe_gc T.g_NOT_REFUSED rfl) (nomark _)) (pss_cons (ps_fld (pv 0) (pe_fld (pv 3) rfl) rfl) (pss_cons (ps_fld (pv 0) (pe_gf (gf_written_forms T) (hr.mono (by decide)) rfl (pa_cons (pv 1) (pa_cons (pe_fld (pv 3) rfl) pa_nil))) rfl) (pss_one (ps_if (pt_cmpR op_gt (pe_gf (gf_put_length T) (hr.mono (by decide)) rfl (pa_cons (pv 2) (pa_cons (pe_fld (pv 0) rfl) pa_nil))) (pe_gc T.g_LONGEST_PUT rfl) (nomark _)) (pss_one (ps_fld (pv 0) (pe_gc T.g_PUT_TOO_LONG rfl) rfl)) pss_nil)))) pss_nil))), ?_⟩
  walk_at "s"
  refine ⟨m, ⟨H1, hR⟩, by omega, hw, fun H2 s2 => ?_⟩
  have hI2 := s2 _ _ hI
  refine ⟨_, _, _, hI2, T.k_Putting, T.n_Putting_refusal, pu_len, _, _, _, upd_same, T.k_Putting, T.n_Putting_refusal, _, rfl, rEqU_int.mpr ⟨_, rfl, ?_⟩⟩
  unfold useR at q
  cases hwr : m.wrong with
  | some w =>
   rw [hwr] at q
   rw [if_neg (by simp)]
   refine q _ ⟨dx, tk, fm, upd_same, same_upd hn (hs.trans s2), fun z => by cases z⟩
  | none =>
   rw [hwr] at q
   simp only [Option.isSome_none, Bool.false_eq_true, if_false] at q ⊢
   cases h5 : (m.marks.map fun m => m.2).contains 5 with
   | true =>
    rw [h5] at q
    rw [if_neg (by simp)]
    refine q _ ⟨dx, tk, fm, upd_same, same_upd hn (hs.trans s2), fun z => by cases z⟩
   | false =>
    rw [h5] at q
    simp only [Bool.false_eq_true, if_false] at q ⊢
    rw [if_pos (by decide)]
    obtain ⟨Fr, A, vt, va, vs, tl, B0, hr'⟩ := hR
    have B := B0.laid s2
    have zr : ∀ {b : Addr}, H1 b = none → b ≠ r := fun hb e => by rw [e] at hb; rw [hb] at h1r; cases h1r
    have zrr : rr ≠ r := zr (B.ow.z (rr, .ins CR A.dx (flds m A)) (by simp))
    have ztk : A.tk ≠ r := zr (B.ow.z (A.tk, .lst vt) (by simp))
    have zsp : A.sp ≠ r := zr (B.ow.z (A.sp, .lst vs) (by simp))
    have fr0 : Fr r = none := by
     cases e : Fr r with
     | none => rfl
     | some u => have := B.ow.f0 r u e; rw [this] at h1r; cases h1r
    have s3 : Same H0 (upd H2 r (HO.ins CP dx (puF tk fm 0))) := same_upd hn (hs.trans s2)
    have i3 : upd H2 r (HO.ins CP dx (puF tk fm 0)) r = some (HO.ins CP dx (puF tk fm 0)) := upd_same
    have r3 : upd H2 r (HO.ins CP dx (puF tk fm 0)) rr = some (.ins CR A.dx (flds m A)) := by rw [upd_ne zrr]; exact B.ins
    have t3 : upd H2 r (HO.ins CP dx (puF tk fm 0)) A.tk = some (.lst vt) := by rw [upd_ne ztk]; exact B.htk
    have p3 : upd H2 r (HO.ins CP dx (puF tk fm 0)) A.sp = some (.lst vs) := by rw [upd_ne zsp]; exact B.hsp
    have f3 : Same Fr (upd H2 r (HO.ins CP dx (puF tk fm 0))) := same_upd fr0 B.ow.sub
    rw [show upd H2 r (HO.ins CP dx (putF "refusal" (V.int 0) (puF tk fm k0))) = upd H2 r (HO.ins CP dx (puF tk fm 0)) from rfl]
    generalize upd H2 r (HO.ins CP dx (puF tk fm 0)) = H3 at s3 i3 r3 t3 p3 f3 ⊢
    refine ⟨_, _, _, r3, T.k_Reader, T.n_Reader_tokens, _, rfl, _, _, _, i3, T.k_Putting, T.n_Putting_tokens, pu_len, ?_⟩
    have s4 : Same H0 (upd H3 r (HO.ins CP dx (puF A.tk fm 0))) := same_upd hn s3
    have i4 : upd H3 r (HO.ins CP dx (puF A.tk fm 0)) r = some (HO.ins CP dx (puF A.tk fm 0)) := upd_same
    have r4 : upd H3 r (HO.ins CP dx (puF A.tk fm 0)) rr = some (.ins CR A.dx (flds m A)) := by rw [upd_ne zrr]; exact r3
    have t4 : upd H3 r (HO.ins CP dx (puF A.tk fm 0)) A.tk = some (.lst vt) := by rw [upd_ne ztk]; exact t3
    have p4 : upd H3 r (HO.ins CP dx (puF A.tk fm 0)) A.sp = some (.lst vs) := by rw [upd_ne zsp]; exact p3
    have f4 : Same Fr (upd H3 r (HO.ins CP dx (puF A.tk fm 0))) := same_upd fr0 f3
    rw [show upd H3 r (HO.ins CP dx (putF "tokens" (V.ref A.tk) (puF tk fm 0))) = upd H3 r (HO.ins CP dx (puF A.tk fm 0)) from rfl]
    generalize upd H3 r (HO.ins CP dx (puF A.tk fm 0)) = H4 at s4 i4 r4 t4 p4 f4 ⊢
    have hm4 : ∀ k ∈ m.marks, 256 ≤ k.1 ∧ k.2 ≤ 4 := fun k hk => by
     have h1 := hmk hwr k hk
     have h2 : k.2 ≠ 5 := fun e => by
      have : (m.marks.map fun m => m.2).contains 5 = true := List.contains_iff_mem.mpr (List.mem_map.mpr ⟨k, hk, e⟩)
      rw [h5] at this; cases this
     exact ⟨h1.1, by omega⟩
    refine ⟨_, _, _, r4, T.k_Reader, T.n_Reader_spots, _, rfl, d, A.sp, ⟨rfl, rfl⟩, data, hD.same s4, hok, vs, p4, m.marks, Fr, B.sp, f4, hz, hm4, fun p5 H5 hp5 s5 D5 => ?_⟩
    have i5 := s5 _ _ i4
    refine ⟨_, _, _, i5, T.k_Putting, T.n_Putting_forms, pu_len, ?_⟩
    have n5 : p5 ≠ r := fun e => by subst e; rw [i4] at hp5; cases hp5
    have s6 : Same H0 (upd H5 r (HO.ins CP dx (puF A.tk p5 0))) := same_upd hn (s4.trans s5)
    have i6 : upd H5 r (HO.ins CP dx (puF A.tk p5 0)) r = some (HO.ins CP dx (puF A.tk p5 0)) := upd_same
    have t6 : upd H5 r (HO.ins CP dx (puF A.tk p5 0)) A.tk = some (.lst vt) := by rw [upd_ne ztk]; exact s5 _ _ t4
    have f6 : Same Fr (upd H5 r (HO.ins CP dx (puF A.tk p5 0))) := same_upd fr0 (f4.trans s5)
    have D6 : Dt (upd H5 r (HO.ins CP dx (puF A.tk p5 0))) p5 (fms data m) := Dt.upd D5 i5
    rw [show upd H5 r (HO.ins CP dx (putF "forms" (V.ref p5) (puF A.tk fm 0))) = upd H5 r (HO.ins CP dx (puF A.tk p5 0)) from rfl]
    generalize upd H5 r (HO.ins CP dx (puF A.tk p5 0)) = H6 at s6 i6 t6 f6 D6 ⊢
    refine ⟨_, _, _, i6, T.k_Putting, T.n_Putting_forms, _, rfl, a, p5, ⟨rfl, rfl⟩, x, s6.seq ha, fms data m, D6, ?_, fun H7 s7 => ?_⟩
    ·unfold fms; rw [List.length_map]; exact hz
    ·split
     ·rename_i z
      rw [if_pos z] at q
      refine ⟨_, _, _, s7 _ _ i6, T.k_Putting, T.n_Putting_refusal, pu_len, q _ ⟨dx, A.tk, p5, upd_same, same_upd hn (s6.trans s7), fun z => by cases z⟩⟩
     ·rename_i z
      rw [if_neg z] at q
      exact q _ ⟨dx, A.tk, p5, s7 _ _ i6, s6.trans s7, fun _ => ⟨vt, Fr, s7 _ _ t6, B.tk, f6.trans s7, D6.same s7⟩⟩
def putK' (data : List (List Nat)) (l : List Int) : Int :=
 if rowR l 65535 4096 = 0 ∧ 256 < ((l.map Int.toNat).filter Vaesca.isMark).length then -9 else if rowR l 65535 4096 = 0 then useR data (l.map Int.toNat) (Vaesca.read (l.map Int.toNat)) else rowR l 65535 4096
theorem row_vi {l : List Int} {hi lo : Int} (h : rowR l hi lo = 0) : l.map V.int = vi (l.map Int.toNat) := by
 have := (rowR_zero h).1
 unfold vi
 rw [List.map_map]
 refine List.map_congr_left fun n hn => ?_
 have := this n hn
 show V.int n = V.int ((n.toNat : Nat) : Int)
 rw [Int.toNat_of_nonneg this.1]
theorem gm_Putting___init__ (T : Txt P w K mg CR CP CB) : GM P w K mg base CP "__init__" (10 + 1) ["self", "data", "text"] (fun vs H Q _ => ∃ r d a data l dx H0, vs = [.ref r, .ref d, .ref a] ∧ H r = some (.ins CP dx []) ∧ H0 r = none ∧ Same H0 H ∧ Dt H0 d data ∧ DOk data ∧ SqL K H0 a (l.map V.int) ∧ l.length ≤ 5000 ∧ ∀ H', PU CP H0 H' r (putK' data l) (Vaesca.read (l.map Int.toNat)).tokens (fms data (Vaesca.read (l.map Int.toNat))) → Q .non H') := by
 refine gm_mk T.k_Putting T.mf_Putting___init__ sc_Putting___init__ (fun _ _ _ _ _ _ => us3 fun _ _ _ => rfl) (fun vs H Q E h => ?_) (fun f cdv A outer s H vs Q E hr h => ?_)
 ·exact ln7 h fun _ _ _ _ _ _ _ => rfl
 ·obtain ⟨r, d, a, data, l, dx, H0, rfl, hI, hn, hs, hD, hok, ha, hz, q⟩ := h
  refine ⟨_, (pss_cons (ps_fld (pv 0) (pe_lst pa_nil) rfl) (pss_cons (ps_fld (pv 0) (pe_lst pa_nil) rfl) (pss_cons (ps_fld (pv 0) (pe_gf (gf_refusal_of_marked T) (hr.mono (by decide)) rfl (pa_cons (pv 2) pa_nil)) rfl) (pss_one (ps_if (pt_cmpR (op_eqW hr.units) (pe_fld (pv 0) rfl) (pe_gc T.g_NOT_REFUSED rfl) (nomark _)) (pss_one (ps_expr (pe_gm (pv 0) (gm_Putting_use_reading T) (hr.mono (by decide)) (pa_cons (pv 1) (pa_cons (pv 2) (pa_cons (pe_gf (gf_read_text T) (hr.mono (by decide)) rfl (pa_cons (pv 2) pa_nil)) pa_nil)))))) pss_nil))))), ?_⟩
  walk_at "s"
  refine ⟨szl, fun p1 h1 => ⟨_, _, _, upd_of h1 hI, T.k_Putting, T.n_Putting_tokens, (by simp), szl, fun p2 h2 => ?_⟩⟩
  have iJ : upd (upd H p1 (HO.lst [])) r (HO.ins CP dx (putF "tokens" (V.ref p1) [])) r = some (HO.ins CP dx [("tokens", V.ref p1)]) := upd_same
  have sJ : Same H0 (upd (upd H p1 (HO.lst [])) r (HO.ins CP dx (putF "tokens" (V.ref p1) []))) := same_upd hn (hs.trans (same_new h1))
  generalize upd (upd H p1 (HO.lst [])) r (HO.ins CP dx (putF "tokens" (V.ref p1) [])) = J1 at iJ sJ h2 ⊢
  have iK : upd (upd J1 p2 (HO.lst [])) r (HO.ins CP dx (putF "forms" (V.ref p2) [("tokens", V.ref p1)])) r = some (HO.ins CP dx [("tokens", V.ref p1), ("forms", V.ref p2)]) := upd_same
  have sK : Same H0 (upd (upd J1 p2 (HO.lst [])) r (HO.ins CP dx (putF "forms" (V.ref p2) [("tokens", V.ref p1)]))) := same_upd hn (sJ.trans (same_new h2))
  refine ⟨_, _, _, upd_of h2 iJ, T.k_Putting, T.n_Putting_forms, (by simp), l, sK.seq ha, hz, fun H5 s5 => ?_⟩
  have i5 := s5 _ _ iK
  have sH5 := sK.trans s5
  unfold putK' at q
  generalize hv : (if rowR l 65535 4096 = 0 ∧ 256 < ((l.map Int.toNat).filter Vaesca.isMark).length then (-9 : Int) else rowR l 65535 4096) = v
  refine ⟨_, _, _, i5, T.k_Putting, T.n_Putting_refusal, (by simp), _, _, _, upd_same, T.k_Putting, T.n_Putting_refusal, _, rfl, rEqU_int.mpr ⟨_, rfl, ?_⟩⟩
  have sL : Same H0 (upd H5 r (HO.ins CP dx (puF p1 p2 v))) := same_upd hn sH5
  have iL : upd H5 r (HO.ins CP dx (puF p1 p2 v)) r = some (HO.ins CP dx (puF p1 p2 v)) := upd_same
  rw [show upd H5 r (HO.ins CP dx (putF "refusal" (V.int v) [("tokens", V.ref p1), ("forms", V.ref p2)])) = upd H5 r (HO.ins CP dx (puF p1 p2 v)) from rfl]
  generalize upd H5 r (HO.ins CP dx (puF p1 p2 v)) = H6 at sL iL ⊢
  split
  ·rename_i z
   have hv0 : v = 0 := by simpa using z
   have hn9 : ¬ (rowR l 65535 4096 = 0 ∧ 256 < ((l.map Int.toNat).filter Vaesca.isMark).length) := fun c => by rw [if_pos c] at hv; omega
   rw [if_neg hn9] at hv q
   have hr0 : rowR l 65535 4096 = 0 := by omega
   rw [if_pos hr0] at q
   have lv : (l.map Int.toNat).length ≤ 5000 := by rw [List.length_map]; exact hz
   have ha2 : SqL K H0 a (vi (l.map Int.toNat)) := by rw [← row_vi hr0]; exact ha
   generalize l.map Int.toNat = x at q lv ha2
   refine ⟨_, _, iL, rfl, x, sL.seq ha2, lv, fun rr H7 R7 => ?_⟩
   have hmr : (Vaesca.read x).marks.length ≤ 5000 := Nat.le_trans (Mt.read_marks x) lv
   refine ⟨r, d, a, rr, ⟨rfl, rfl, rfl, rfl⟩, ⟨dx, p1, p2, v, R7.sam _ _ iL⟩, ?_⟩
   exact ⟨data, x, _, H6, H0, hn, sL.trans R7.sam, hD, hok, ha2, R7, by rw [iL]; rfl, hmr, fun w hw => (Mt.read_wr x w hw).1, fun hw => (Mt.read_fine hw).1.each, q⟩
  ·rename_i z
   have hv0 : ¬ v = 0 := by simpa using z
   refine q H6 ⟨dx, p1, p2, ?_, sL, fun z2 => absurd z2 ?_⟩
   ·rw [iL, ← hv]
    by_cases c : rowR l 65535 4096 = 0 ∧ 256 < ((l.map Int.toNat).filter Vaesca.isMark).length
    ·rw [if_pos c, if_pos c]
    ·rw [if_neg c, if_neg c]
     rw [if_neg c] at hv
     rw [if_neg (by omega)]
   ·by_cases c : rowR l 65535 4096 = 0 ∧ 256 < ((l.map Int.toNat).filter Vaesca.isMark).length
    ·rw [if_pos c]; decide
    ·rw [if_neg c] at hv ⊢
     rw [if_neg (by omega)]; omega
end
section
open Vaesca (Reader Token Mode Home)
def rf : Option Nat → Int
 | none => 0
 | some n => -(n : Int)
theorem rowR_bytes (l : List Int) (m : Nat) : rowR l 255 m = rf (Vaescc.badBytes m l) := by
 unfold rowR Vaescc.badBytes
 have e : l.all (fun n => decide (0 ≤ n) && decide (n ≤ 255)) = l.all Vaescc.isByte := rfl
 rw [e]
 cases l.all Vaescc.isByte with
 | false => rfl
 | true =>
  simp only [if_true, Bool.not_true, Bool.false_eq_true, if_false]
  by_cases h : m < l.length
  ·rw [if_pos h, if_pos (by omega)]; rfl
  ·rw [if_neg h, if_neg (by omega)]; rfl
theorem kind_bad (k : Int) (l : List Int) : (if 0 ≤ k ∧ k ≤ 3 then rowR l 255 4096 else -5) = rf (Vaescc.badKind k l) := by
 unfold Vaescc.badKind
 by_cases h : 0 ≤ k ∧ k ≤ 3
 ·rw [if_pos h, if_neg (by omega)]; exact rowR_bytes l 4096
 ·rw [if_neg h, if_pos (by omega)]; rfl
theorem bb_ne {m : Nat} {l : List Int} : ∀ n, Vaescc.badBytes m l = some n → n ≠ 0 := by
 intro n h
 unfold Vaescc.badBytes at h
 split at h
 ·cases h; decide
 ·split at h
  ·cases h; decide
  ·cases h
theorem bk_ne {k : Int} {l : List Int} : ∀ n, Vaescc.badKind k l = some n → n ≠ 0 := by
 intro n h
 unfold Vaescc.badKind at h
 split at h
 ·cases h; decide
 ·exact bb_ne n h
def stp (c : Vaescc.Call) (data : List (List Nat)) : List (List Nat) × List Int := ((Vaescc.step ⟨data⟩ c).1.data, VaesccNeutral.encode (Vaescc.step ⟨data⟩ c).2)
def callSp (shape : List Int → Prop) (mk : List Int → List Int → Vaescc.Call) : Sp := fun vs H Q _ => ∃ d nn rw tt data nums l, vs = [.ref d, .ref nn, .ref rw] ∧ Dt (off H tt) d data ∧ DOk data ∧ H nn = some (.lst (nums.map V.int)) ∧ H rw = some (.lst (l.map V.int)) ∧ l.length ≤ 5000 ∧ shape nums ∧ rw ≠ d ∧ rw ≠ tt ∧ d ≠ tt ∧
 ∀ p H', H p = none → Kp (fun b => b = d) H H' → Dt (off H' tt) d (stp (mk nums l) data).1 → H' p = some (.lst ((stp (mk nums l) data).2.map V.int)) → Q (.ref p) H'
theorem enc_told (t : List Nat) : (VaesccNeutral.encode (.told t)).map V.int = vi t := by
 unfold VaesccNeutral.encode vi
 rw [List.map_map]; rfl
theorem ret_ref {H H1 : Hp} {Q : VK} {d tt : Addr} {data data' : List (List Nat)} {ans : List Int} {n : Nat} (s : Same H H1) (hD : Dt (off H tt) d data) (q : ∀ p H', H p = none → Kp (fun b => b = d) H H' → Dt (off H' tt) d data' → H' p = some (.lst (ans.map V.int)) → Q (.ref p) H') (e : data' = data) (ea : ans = [-(n : Int)]) :
  ∀ p, H1 p = none → Q (.ref p) (upd H1 p (.lst [.int (rf (some n))])) := by
 intro p hp
 subst e ea
 have s2 := s.trans (same_new (o := HO.lst [.int (rf (some n))]) hp)
 exact q p _ (s.free hp) (Kp.same s2) (hD.same (off_mono s2)) upd_same
theorem row_nats {l : List Int} {m : Nat} (h : Vaescc.badBytes m l = none) : l.map V.int = vi (Vaescc.nats l) ∧ (∀ c ∈ Vaescc.nats l, c < 256) ∧ (Vaescc.nats l).length ≤ m := by
 have h0 : rowR l 255 m = 0 := by rw [rowR_bytes, h]; rfl
 refine ⟨row_vi h0, fun c hc => ?_, ?_⟩
 ·obtain ⟨n, hn, rfl⟩ := List.mem_map.mp hc
  have := (rowR_zero h0).1 n hn
  omega
 ·have := (rowR_zero h0).2
  unfold Vaescc.nats
  rw [List.length_map]; omega
theorem as_ne {H : Hp} {d : Addr} {as : List Addr} {data : List (List Nat)} (h1 : H d = some (.lst (as.map V.ref))) (h2 : Paired (fun a t => H a = some (.lst (vi t))) as data) : ∀ a ∈ as, a ≠ d := by
 intro a ha e
 obtain ⟨i, hi⟩ := List.getElem?_of_mem ha
 obtain ⟨t, ht, hv⟩ := Paired.get h2 hi
 rw [e, h1] at hv
 injection hv with hv
 injection hv with hv
 have h3 : (as.map V.ref)[i]? = some (V.ref a) := by rw [List.getElem?_map, hi]; rfl
 rw [hv, vi_get] at h3
 cases e2 : t[i]? with
 | none => rw [e2] at h3; cases h3
 | some n => rw [e2] at h3; cases h3
theorem dt_set' {H : Hp} {d tt : Addr} {oo : HO} : ∀ {l : List Addr} {ts : List (List Nat)}, Paired (fun a t => off H tt a = some (.lst (vi t))) l ts → (∀ a ∈ l, a ≠ d) → Paired (fun a t => off (upd H d oo) tt a = some (.lst (vi t))) l ts
 | _, _, .nil, _ => .nil
 | _, _, .cons h t, hl => .cons (by
   unfold off at h ⊢
   split at h
   ·cases h
   ·rename_i z; rw [if_neg z, upd_ne (hl _ (List.mem_cons_self ..))]; exact h) (dt_set' t fun a ha => hl a (List.mem_cons_of_mem _ ha))
theorem Paired.dropLast {α β : Type} {R : α → β → Prop} : ∀ {xs : List α} {ys : List β}, Paired R xs ys → Paired R xs.dropLast ys.dropLast
 | _, _, .nil => .nil
 | _, _, .cons h .nil => .nil
 | _, _, .cons h (.cons h2 t) => .cons h (Paired.dropLast (.cons h2 t))
theorem np_of {H : Hp} {d p : Addr} {oo : HO} (hp : upd H d oo p = none) : H p = none := by
 by_cases e : p = d
 ·subst e; rw [upd_same] at hp; cases hp
 ·rw [upd_ne e] at hp; exact hp
theorem gf_begin (T : Txt P w K mg CR CP CB) : GF P w K mg base "begin" (0 + 1) ["data", "numbers", "row"] (callSp (fun _ => True) (fun _ _ => .begin_)) := by
 refine gf_mk T.f_begin sc_begin (fun _ _ _ _ _ _ => us3 fun _ _ _ => rfl) (fun vs H Q E h => ?_) (fun f cdv A outer s H vs Q E hr h => ?_)
 ·exact ln7 h fun _ _ _ _ _ _ _ => rfl
 ·obtain ⟨d, nn, rw, tt, data, nums, l, rfl, hDt, hok, hn, hrw, hz, hsh, hne, hnt, hdt, q⟩ := h
  have hD := hDt.same off_sub
  have hD' := hDt
  obtain ⟨as, h1t, h2t⟩ := hD'
  have h1 := off_sub _ _ h1t
  have h2 := Paired.mp (fun _ _ z => off_sub _ _ z) h2t
  refine ⟨_, (pss_cons (ps_expr (pe_bm0 PySem.F.plainAttrs_list PySem.F.slot_list_clear PySem.F.type_list_clear mt_clear (pv 0))) (pss_one (ps_ret (pe_lst (pa_cons pe_int pa_nil))))), ?_⟩
  walk_at "s"
  refine ⟨tyL h1, ⟨_, h1⟩, szl, fun p hp => ?_⟩
  have np : H p = none := by
   by_cases e : p = d
   ·subst e; rw [upd_same] at hp; cases hp
   ·rw [upd_ne e] at hp; exact hp
  refine q p _ np (Kp.trans (Kp.updT rfl) (Kp.newA hp)) ⟨[], off_at hdt (by rw [upd_ne (fun e => by subst e; rw [upd_same] at hp; cases hp)]; exact upd_same), .nil⟩ (by rw [upd_same]; rfl)
theorem gf_datum (T : Txt P w K mg CR CP CB) : GF P w K mg base "datum" (1 + 1) ["data", "numbers", "row"] (callSp (fun _ => True) (fun _ l => .datum l)) := by
 refine gf_mk T.f_datum sc_datum (fun _ _ _ _ _ _ => us3 fun _ _ _ => rfl) (fun vs H Q E h => ?_) (fun f cdv A outer s H vs Q E hr h => ?_)
 ·exact ln7 h fun _ _ _ _ _ _ _ => rfl
 ·obtain ⟨d, nn, rw, tt, data, nums, l, rfl, hDt, hok, hn, hrw, hz, hsh, hne, hnt, hdt, q⟩ := h
  have hD := hDt.same off_sub
  have hD' := hDt
  obtain ⟨as, h1t, h2t⟩ := hD'
  have h1 := off_sub _ _ h1t
  have h2 := Paired.mp (fun _ _ z => off_sub _ _ z) h2t
  have la : as.length = data.length := Paired.length h2
  refine ⟨_, (pss_cons (ps_set (i := 3) sc_datum.nd rfl (Or.inl rfl) (pe_gf (gf_refusal_of_row T) (hr.mono (by decide)) rfl (pa_cons (pv 2) (pa_cons (pe_gc T.g_HIGHEST_BYTE rfl) (pa_cons (pe_gc T.g_LONGEST_DATUM rfl) pa_nil))))) (pss_cons (ps_if (pt_cmpR (op_neW hr.units) (pv 3) (pe_gc T.g_NOT_REFUSED rfl) (nomark _)) (pss_one (ps_ret (pe_lst (pa_cons (pv 3) pa_nil)))) pss_nil) (pss_cons (ps_if (pt_cmpR (op_eqW hr.units) (pe_callB call_len rfl T.b_len PySem.boot_len (pa_cons (pv 0) pa_nil)) (pe_gc T.g_MOST_DATA rfl) (nomark _)) (pss_one (ps_ret (pe_lst (pa_cons (pe_gc T.g_TOO_MANY_DATA rfl) pa_nil)))) pss_nil) (pss_cons (ps_expr (pe_bm PySem.F.plainAttrs_list PySem.F.slot_list_append PySem.F.type_list_append mt_append (pv 0) (pa_cons (pv 2) pa_nil))) (pss_one (ps_ret (pe_lst (pa_cons (pe_callB call_len rfl T.b_len PySem.boot_len (pa_cons (pv 0) pa_nil)) pa_nil)))))))), ?_⟩
  walk_at "s"
  refine ⟨rw, l, 255, 512, ⟨rfl, rfl, rfl⟩, SqL.of hrw, ?_⟩
  rw [show (512 : Int) = ((512 : Nat) : Int) from rfl, rowR_bytes]
  cases hb : Vaescc.badBytes 512 l with
  | some n =>
   have n0 := bb_ne n hb
   rw [if_pos (by unfold rf; simp; omega)]
   have es : Vaescc.step ⟨data⟩ (.datum l) = (⟨data⟩, .refused n) := by
    show Vaescc.doDatum ⟨data⟩ l = _
    unfold Vaescc.doDatum
    rw [show Vaescc.badBytes Vaescc.DATUM l = some n from hb]
   refine ⟨szl, ret_ref (Same.refl H) hDt q ?_ ?_⟩
   ·unfold stp; rw [es]
   ·unfold stp; rw [es]; rfl
  | none =>
   rw [if_neg (by unfold rf; simp)]
   obtain ⟨e1, e2, e3⟩ := row_nats hb
   refine ⟨_, lenv (SqL.of h1), ?_⟩
   rw [List.length_map, la]
   have hs0 : Vaescc.step ⟨data⟩ (.datum l) = if Vaescc.DATA ≤ data.length then (⟨data⟩, .refused 3) else (⟨data ++ [Vaescc.nats l]⟩, .told [data.length + 1]) := by
    show Vaescc.doDatum ⟨data⟩ l = _
    unfold Vaescc.doDatum
    rw [show Vaescc.badBytes Vaescc.DATUM l = none from hb]
   have l64 := hok.len
   split
   ·rename_i z
    have es : Vaescc.step ⟨data⟩ (.datum l) = (⟨data⟩, .refused 3) := by rw [hs0, if_pos (show Vaescc.DATA ≤ data.length by show 64 ≤ data.length; omega)]
    refine ⟨szl, ret_ref (n := 3) (Same.refl H) hDt q ?_ ?_⟩
    ·unfold stp; rw [es]
    ·unfold stp; rw [es]; rfl
   ·rename_i z
    have es : Vaescc.step ⟨data⟩ (.datum l) = (⟨data ++ [Vaescc.nats l]⟩, .told [data.length + 1]) := by rw [hs0, if_neg (show ¬ Vaescc.DATA ≤ data.length by show ¬ 64 ≤ data.length; omega)]
    refine ⟨tyL h1, _, h1, szlt (by rw [List.length_map]; omega), _, lenv (SqL.of upd_same), szl, fun p hp => ?_⟩
    rw [e1] at hrw
    refine q p _ (np_of hp) (Kp.trans (Kp.updT rfl) (Kp.newA hp)) ?_ ?_
    ·unfold stp; rw [es]
     refine Dt.same (H := off (upd H d _) tt) ⟨as ++ [rw], off_at hdt (by rw [upd_same, List.map_append]; rfl), ?_⟩ (off_mono (same_new hp))
     exact Paired.snoc (dt_set' h2t (as_ne h1 h2)) (off_at hnt (by rw [upd_ne hne]; exact hrw))
    ·unfold stp; rw [es, upd_same, enc_told]
     simp [vi, la]
theorem gf_drop (T : Txt P w K mg CR CP CB) : GF P w K mg base "drop" (0 + 1) ["data", "numbers", "row"] (callSp (fun _ => True) (fun _ _ => .drop)) := by
 refine gf_mk T.f_drop sc_drop (fun _ _ _ _ _ _ => us3 fun _ _ _ => rfl) (fun vs H Q E h => ?_) (fun f cdv A outer s H vs Q E hr h => ?_)
 ·exact ln7 h fun _ _ _ _ _ _ _ => rfl
 ·obtain ⟨d, nn, rw, tt, data, nums, l, rfl, hDt, hok, hn, hrw, hz, hsh, hne, hnt, hdt, q⟩ := h
  have hD := hDt.same off_sub
  have hD' := hDt
  obtain ⟨as, h1t, h2t⟩ := hD'
  have h1 := off_sub _ _ h1t
  have h2 := Paired.mp (fun _ _ z => off_sub _ _ z) h2t
  have la : as.length = data.length := Paired.length h2
  refine ⟨_, (pss_cons (ps_if (pt_not (pt_truth (pv 0) (fun _ => rfl))) (pss_one (ps_ret (pe_lst (pa_cons (pe_gc T.g_NO_DATA rfl) pa_nil)))) pss_nil) (pss_cons (ps_expr (pe_bm0 PySem.F.plainAttrs_list PySem.F.slot_list_pop PySem.F.type_list_pop mt_pop (pv 0))) (pss_one (ps_ret (pe_lst (pa_cons (pe_callB call_len rfl T.b_len PySem.boot_len (pa_cons (pv 0) pa_nil)) pa_nil)))))), ?_⟩
  walk_at "s"
  refine truL (SqL.of h1) ?_
  have es : Vaescc.step ⟨data⟩ .drop = if data.isEmpty then (⟨data⟩, .refused 4) else (⟨data.dropLast⟩, .told [data.length - 1]) := rfl
  cases data with
  | nil =>
   have : as = [] := List.eq_nil_of_length_eq_zero la
   subst this
   rw [if_pos (by decide)]
   exact ⟨szl, ret_ref (n := 4) (Same.refl H) hDt q rfl rfl⟩
  | cons t0 r0 =>
   cases as with
   | nil => cases la
   | cons a0 as0 =>
    rw [if_neg (by simp)]
    have hl : ((a0 :: as0).map V.ref)[((a0 :: as0).map V.ref).length - 1]? = some (((a0 :: as0).map V.ref)[((a0 :: as0).map V.ref).length - 1]'(by simp)) := List.getElem?_eq_getElem _
    refine ⟨tyL h1, _, h1, ⟨_, hl⟩, _, lenv (SqL.of upd_same), szl, fun p hp => ?_⟩
    have ed : ((a0 :: as0).map V.ref).dropLast = ((a0 :: as0).dropLast).map V.ref := by rw [List.map_dropLast]
    refine q p _ (np_of hp) (Kp.trans (Kp.updT rfl) (Kp.newA hp)) ?_ ?_
    ·refine Dt.same (H := off (upd H d _) tt) ⟨(a0 :: as0).dropLast, off_at hdt (by rw [upd_same, ed]), ?_⟩ (off_mono (same_new hp))
     exact dt_set' (Paired.dropLast h2t) (fun a ha => as_ne h1 h2 a (List.dropLast_subset _ ha))
    ·show _ = some (HO.lst ((VaesccNeutral.encode (.told [(t0 :: r0).length - 1])).map V.int))
     rw [upd_same, enc_told, List.length_dropLast, List.length_map, la]; rfl
theorem kind_ok {k : Int} {l : List Int} (h : Vaescc.badKind k l = none) : ∃ kn : Nat, k = kn ∧ kn ≤ 3 ∧ Vaescc.badBytes 4096 l = none := by
 unfold Vaescc.badKind at h
 split at h
 ·cases h
 ·exact ⟨k.toNat, by omega, by omega, h⟩
theorem q_of {H : Hp} {Q : VK} {d tt : Addr} {data : List (List Nat)} {c : Vaescc.Call} {ans : Vaescc.Answer} (q : ∀ p H', H p = none → Kp (fun b => b = d) H H' → Dt (off H' tt) d (stp c data).1 → H' p = some (.lst ((stp c data).2.map V.int)) → Q (.ref p) H') (hD : Dt (off H tt) d data) (es : Vaescc.step ⟨data⟩ c = (⟨data⟩, ans)) :
  ∀ p H', H p = none → Same H H' → H' p = some (.lst ((VaesccNeutral.encode ans).map V.int)) → Q (.ref p) H' := by
 intro p H' hp s h
 refine q p H' hp (Kp.same s) ?_ ?_
 ·unfold stp; rw [es]; exact hD.same (off_mono s)
 ·unfold stp; rw [es]; exact h
theorem f_ref {H : Hp} {Q : VK} {ans : Vaescc.Answer} {n : Nat} (q : ∀ p H', H p = none → Same H H' → H' p = some (.lst ((VaesccNeutral.encode ans).map V.int)) → Q (.ref p) H') (e : ans = .refused n) {H1 : Hp} (s : Same H H1) {v : Int} (hv : v = rf (some n)) :
  1 ≤ sizeLine ∧ ∀ p, H1 p = none → Q (.ref p) (upd H1 p (.lst [.int v])) := by
 subst e hv
 exact ⟨szl, fun p hp => q p _ (s.free hp) (s.trans (same_new hp)) (by rw [upd_same]; rfl)⟩
theorem f_told {H : Hp} {Q : VK} {ans : Vaescc.Answer} {t : List Nat} (q : ∀ p H', H p = none → Same H H' → H' p = some (.lst ((VaesccNeutral.encode ans).map V.int)) → Q (.ref p) H') (e : ans = .told t) : ∀ p H', H p = none → Same H H' → H' p = some (.lst (vi t)) → Q (.ref p) H' := by
 subst e
 intro p H' hp s h
 exact q p H' hp s (by rw [enc_told]; exact h)
theorem rf_pos {n : Nat} (h : n ≠ 0) : (!decide (rf (some n) = 0)) = true := by unfold rf; simp; omega
theorem rf_non : ¬ (!decide (rf none = 0)) = true := by decide
theorem gf_escape (T : Txt P w K mg CR CP CB) : GF P w K mg base "escape" (5 + 1) ["data", "numbers", "row"] (callSp (fun ns => ∃ k, ns = [k]) (fun ns l => .escape (ns.headD 0) l)) := by
 refine gf_mk T.f_escape sc_escape (fun _ _ _ _ _ _ => us3 fun _ _ _ => rfl) (fun vs H Q E h => ?_) (fun f cdv A outer s H vs Q E hr h => ?_)
 ·exact ln7 h fun _ _ _ _ _ _ _ => rfl
 ·obtain ⟨d, nn, rw, tt, data, nums, l, rfl, hDt, hok, hn, hrw, hz, ⟨k, rfl⟩, hne, hnt, hdt, q⟩ := h
  have hD := hDt.same off_sub
  have q2 := q_of q hDt (ans := Vaescc.orRefuse (Vaescc.badKind k l) (Vaescc.counted (Vaescc.escape k.toNat (Vaescc.nats l)))) rfl
  refine ⟨_, (pss_cons (ps_set (i := 3) sc_escape.nd rfl (Or.inl rfl) (pe_ix ix_seq (pv 1) pe_int (fun _ _ => rfl))) (pss_cons (ps_set (i := 4) sc_escape.nd rfl (Or.inl rfl) (pe_gf (gf_refusal_of_writing T) (hr.mono (by decide)) rfl (pa_cons (pv 3) (pa_cons (pv 2) pa_nil)))) (pss_cons (ps_if (pt_cmpR (op_neW hr.units) (pv 4) (pe_gc T.g_NOT_REFUSED rfl) (nomark _)) (pss_one (ps_ret (pe_lst (pa_cons (pv 4) pa_nil)))) pss_nil) (pss_one (ps_ret (pe_gf (gf_counted T) (hr.mono (by decide)) rfl (pa_cons (pe_gf (gf_escape_of T) (hr.mono (by decide)) rfl (pa_cons (pv 3) (pa_cons (pv 2) pa_nil))) pa_nil))))))), ?_⟩
  walk_at "s"
  refine rIx_lst (j := 0) (v := .int k) (SqL.of hn) rfl rfl ⟨rw, l, k, ⟨rfl, rfl⟩, SqL.of hrw, ?_⟩
  rw [kind_bad]
  cases hb : Vaescc.badKind k l with
  | some n =>
   rw [hb] at q2
   rw [if_pos (rf_pos (bk_ne n hb))]
   exact f_ref q2 rfl (Same.refl H) rfl
  | none =>
   rw [hb] at q2
   have q3 := f_told q2 rfl
   rw [if_neg rf_non]
   obtain ⟨kn, rfl, hk3, hb2⟩ := kind_ok hb
   obtain ⟨e1, e2, e3⟩ := row_nats hb2
   rw [e1] at hrw
   have le : (Vaescc.escape kn (Vaescc.nats l)).length ≤ 6 * (Vaescc.nats l).length := flat_len (esc_len kn) (Vaescc.nats l)
   refine ⟨kn, rw, ⟨rfl, rfl⟩, Vaescc.nats l, SqL.of hrw, hk3, e2, by omega, fun p1 H1 hp1 s1 h1 => ⟨p1, rfl, _, h1, szl (by rw [vi_length]; omega), fun p2 H2 hp2 s2 h2 => ?_⟩⟩
   exact q3 p2 H2 (s1.free hp2) (s1.trans s2) (by rw [h2, vi_counted]; rfl)
theorem gf_shortest (T : Txt P w K mg CR CP CB) : GF P w K mg base "shortest" (5 + 1) ["data", "numbers", "row"] (callSp (fun ns => ∃ k, ns = [k]) (fun ns l => .shortest (ns.headD 0) l)) := by
 refine gf_mk T.f_shortest sc_shortest (fun _ _ _ _ _ _ => us3 fun _ _ _ => rfl) (fun vs H Q E h => ?_) (fun f cdv A outer s H vs Q E hr h => ?_)
 ·exact ln7 h fun _ _ _ _ _ _ _ => rfl
 ·obtain ⟨d, nn, rw, tt, data, nums, l, rfl, hDt, hok, hn, hrw, hz, ⟨k, rfl⟩, hne, hnt, hdt, q⟩ := h
  have hD := hDt.same off_sub
  have q2 := q_of q hDt (ans := Vaescc.doShortest k l) rfl
  unfold Vaescc.doShortest at q2
  refine ⟨_, (pss_cons (ps_set (i := 3) sc_shortest.nd rfl (Or.inl rfl) (pe_ix ix_seq (pv 1) pe_int (fun _ _ => rfl))) (pss_cons (ps_set (i := 4) sc_shortest.nd rfl (Or.inl rfl) (pe_gf (gf_refusal_of_writing T) (hr.mono (by decide)) rfl (pa_cons (pv 3) (pa_cons (pv 2) pa_nil)))) (pss_cons (ps_if (pt_cmpR (op_neW hr.units) (pv 4) (pe_gc T.g_NOT_REFUSED rfl) (nomark _)) (pss_one (ps_ret (pe_lst (pa_cons (pv 4) pa_nil)))) pss_nil) (pss_cons (ps_if (PW.pt (pw_and (pt_cmpR (op_eqW hr.units) (pv 3) (pe_gc T.g_BARE rfl) (nomark _)) (pw_and1 (pt_not (pt_truth (pv 2) (fun _ => rfl)))))) (pss_one (ps_ret (pe_lst (pa_cons (pe_gc T.g_NO_SHORTEST_FORM rfl) pa_nil)))) pss_nil) (pss_one (ps_ret (pe_gf (gf_counted T) (hr.mono (by decide)) rfl (pa_cons (pe_gf (gf_shortest_form T) (hr.mono (by decide)) rfl (pa_cons (pv 3) (pa_cons (pv 2) pa_nil))) pa_nil)))))))), ?_⟩
  walk_at "s"
  refine rIx_lst (j := 0) (v := .int k) (SqL.of hn) rfl rfl ⟨rw, l, k, ⟨rfl, rfl⟩, SqL.of hrw, ?_⟩
  rw [kind_bad]
  cases hb : Vaescc.badKind k l with
  | some n =>
   rw [hb] at q2
   rw [if_pos (rf_pos (bk_ne n hb))]
   exact f_ref q2 rfl (Same.refl H) rfl
  | none =>
   rw [hb] at q2
   rw [if_neg rf_non]
   obtain ⟨kn, rfl, hk3, hb2⟩ := kind_ok hb
   obtain ⟨e1, e2, e3⟩ := row_nats hb2
   rw [e1] at hrw
   refine rEqU_int.mpr ⟨_, rfl, ?_⟩
   have eh : Vaescc.shortest kn (Vaescc.nats l) = if kn == 3 && (Vaescc.nats l).isEmpty then none else some ((Vaescc.nats l).flatMap (Vaescc.shortByte kn)) := rfl
   rw [show ((kn : Int)).toNat = kn from rfl, eh] at q2
   split
   ·rename_i z
    have hk : kn = 3 := by simp at z; omega
    refine truL (SqL.of hrw) ?_
    rw [vi_isEmpty]
    cases he : (Vaescc.nats l).isEmpty with
    | true =>
     rw [he, hk] at q2
     rw [if_pos (by rfl)]
     exact f_ref (n := 6) q2 rfl (Same.refl H) rfl
    | false =>
     rw [he, Bool.and_false, if_neg (by decide)] at q2
     have q3 := f_told q2 rfl
     rw [if_neg (by decide)]
     have le : ((Vaescc.nats l).flatMap (Vaescc.shortByte kn)).length ≤ 6 * (Vaescc.nats l).length := flat_len (sho_len kn) (Vaescc.nats l)
     refine ⟨kn, rw, ⟨rfl, rfl⟩, Vaescc.nats l, SqL.of hrw, hk3, e2, by omega, fun p1 H1 hp1 s1 h1 => ⟨p1, rfl, _, h1, szl (by rw [vi_length]; omega), fun p2 H2 hp2 s2 h2 => ?_⟩⟩
     exact q3 p2 H2 (s1.free hp2) (s1.trans s2) (by rw [h2, vi_counted])
   ·rename_i z
    have hk : (kn == 3) = false := by simp at z; simp; omega
    rw [hk, Bool.false_and, if_neg (by decide)] at q2
    have q3 := f_told q2 rfl
    have le : ((Vaescc.nats l).flatMap (Vaescc.shortByte kn)).length ≤ 6 * (Vaescc.nats l).length := flat_len (sho_len kn) (Vaescc.nats l)
    refine ⟨kn, rw, ⟨rfl, rfl⟩, Vaescc.nats l, SqL.of hrw, hk3, e2, by omega, fun p1 H1 hp1 s1 h1 => ⟨p1, rfl, _, h1, szl (by rw [vi_length]; omega), fun p2 H2 hp2 s2 h2 => ?_⟩⟩
    exact q3 p2 H2 (s1.free hp2) (s1.trans s2) (by rw [h2, vi_counted])
theorem gf_back (T : Txt P w K mg CR CP CB) : GF P w K mg base "back" (10 + 1) ["data", "numbers", "row"] (callSp (fun ns => ∃ k, ns = [k]) (fun ns l => .back (ns.headD 0) l)) := by
 refine gf_mk T.f_back sc_back (fun _ _ _ _ _ _ => us3 fun _ _ _ => rfl) (fun vs H Q E h => ?_) (fun f cdv A outer s H vs Q E hr h => ?_)
 ·exact ln7 h fun _ _ _ _ _ _ _ => rfl
 ·obtain ⟨d, nn, rw, tt, data, nums, l, rfl, hDt, hok, hn, hrw, hz, ⟨k, rfl⟩, hne, hnt, hdt, q⟩ := h
  have hD := hDt.same off_sub
  have q2 := q_of q hDt (ans := Vaescc.orRefuse (Vaescc.badKind k l) (Vaescc.shownBack (Vaescc.back k.toNat (Vaescc.nats l)))) rfl
  refine ⟨_, (pss_cons (ps_set (i := 3) sc_back.nd rfl (Or.inl rfl) (pe_ix ix_seq (pv 1) pe_int (fun _ _ => rfl))) (pss_cons (ps_set (i := 4) sc_back.nd rfl (Or.inl rfl) (pe_gf (gf_refusal_of_writing T) (hr.mono (by decide)) rfl (pa_cons (pv 3) (pa_cons (pv 2) pa_nil)))) (pss_cons (ps_if (pt_cmpR (op_neW hr.units) (pv 4) (pe_gc T.g_NOT_REFUSED rfl) (nomark _)) (pss_one (ps_ret (pe_lst (pa_cons (pv 4) pa_nil)))) pss_nil) (pss_cons (ps_set (i := 5) sc_back.nd rfl (Or.inl rfl) (pe_gf (gf_read_back T) (hr.mono (by decide)) rfl (pa_cons (pv 3) (pa_cons (pv 2) pa_nil)))) (pss_cons (ps_if (pt_cmpR (op_neW hr.units) (pe_fld (pv 5) rfl) pe_int (nomark _)) (pss_one (ps_ret (pe_lst (pa_cons pe_int (pa_cons (pe_fld (pv 5) rfl) (pa_cons (pe_fld (pv 5) rfl) pa_nil)))))) pss_nil) (pss_one (ps_ret (pe_op op_addW (pe_lst (pa_cons pe_int pa_nil)) (pe_gf (gf_counted T) (hr.mono (by decide)) rfl (pa_cons (pe_fld (pv 5) rfl) pa_nil)))))))))), ?_⟩
  walk_at "s"
  refine rIx_lst (j := 0) (v := .int k) (SqL.of hn) rfl rfl ⟨rw, l, k, ⟨rfl, rfl⟩, SqL.of hrw, ?_⟩
  rw [kind_bad]
  cases hb : Vaescc.badKind k l with
  | some n =>
   rw [hb] at q2
   rw [if_pos (rf_pos (bk_ne n hb))]
   exact f_ref q2 rfl (Same.refl H) rfl
  | none =>
   rw [hb] at q2
   rw [if_neg rf_non]
   obtain ⟨kn, rfl, hk3, hb2⟩ := kind_ok hb
   obtain ⟨e1, e2, e3⟩ := row_nats hb2
   rw [e1] at hrw
   have q3 := f_told q2 rfl
   rw [show ((kn : Int)).toNat = kn from rfl] at q3
   have F := Mt.finB_ok kn (Vaescc.nats l)
   have I := Mt.BInv.run kn (Vaescc.nats l) (Vaescc.nats l).length (Nat.le_refl _)
   rw [List.take_length] at I
   have hcl : (Mt.finB kn (Vaescc.nats l)).content.length ≤ 5000 := by
    have e : (Mt.finB kn (Vaescc.nats l)).content = (Vaescc.backRun kn (Vaescc.nats l)).content := by
     unfold Mt.finB; split
     ·rfl
     ·split <;> rfl
    rw [e]; have := I.con; omega
   refine ⟨kn, rw, ⟨rfl, rfl⟩, Vaescc.nats l, SqL.of hrw, hk3, e2, by omega, fun r H1 bs B hbs => ?_⟩
   obtain ⟨dx, aC, aB, aO, B⟩ := B
   refine ⟨_, _, _, B.ins, T.k_Back, T.n_Back_fault, _, rfl, rNeU_int.mpr ⟨_, rfl, ?_⟩⟩
   cases hbk : Vaescc.back kn (Vaescc.nats l) with
   | error w =>
    obtain ⟨kd, pl⟩ := w
    rw [hbk] at q3 F
    obtain ⟨f1, f2, f3⟩ := F
    have hfk : fk (Mt.finB kn (Vaescc.nats l)).wrong = kd := by rw [f1]; rfl
    rw [if_pos (by rw [hfk]; simp; omega)]
    refine ⟨_, _, _, B.ins, T.k_Back, T.n_Back_fault, _, rfl, _, _, _, B.ins, T.k_Back, T.n_Back_count, _, rfl, szl, fun p hp => ?_⟩
    refine q3 p _ (B.sam.free hp) (B.sam.trans (same_new hp)) ?_
    rw [upd_same, hfk, f2]; rfl
   | ok ct =>
    rw [hbk] at q3 F
    obtain ⟨f1, f2⟩ := F
    have hfk : fk (Mt.finB kn (Vaescc.nats l)).wrong = 0 := by rw [f1]; rfl
    rw [if_neg (by rw [hfk]; decide)]
    refine ⟨szl, fun p hp => ?_⟩
    have s1 := same_new (o := HO.lst [V.int 0]) hp
    refine ⟨_, _, _, s1 _ _ B.ins, T.k_Back, T.n_Back_content, _, rfl, _, rfl, _, s1 _ _ B.con, szl (by rw [vi_length]; omega), fun p2 H2 hp2 s2 h2 => ?_⟩
    rw [vi_counted] at h2
    refine rAddU_new (B.sam.trans (s1.trans s2)) (s2 _ _ upd_same) h2 (by rw [vi_length]; simp [Vaescc.counted]; omega) fun p3 H3 hp3 s3 _ h3 => q3 p3 H3 hp3 s3 ?_
    rw [h3, f2]; rfl
theorem gf_cut (T : Txt P w K mg CR CP CB) : GF P w K mg base "cut" (10 + 1) ["data", "numbers", "row"] (callSp (fun ns => ∃ k n, ns = [k, n]) (fun ns l => .cut (ns.headD 0) (ns.tail.headD 0) l)) := by
 refine gf_mk T.f_cut sc_cut (fun _ _ _ _ _ _ => us3 fun _ _ _ => rfl) (fun vs H Q E h => ?_) (fun f cdv A outer s H vs Q E hr h => ?_)
 ·exact ln7 h fun _ _ _ _ _ _ _ => rfl
 ·obtain ⟨d, nn, rw, tt, data, nums, l, rfl, hDt, hok, hn, hrw, hz, ⟨k, n, rfl⟩, hne, hnt, hdt, q⟩ := h
  have hD := hDt.same off_sub
  have q2 := q_of q hDt (ans := Vaescc.doCut k n l) rfl
  unfold Vaescc.doCut at q2
  refine ⟨_, (pss_cons (ps_set (i := 3) sc_cut.nd rfl (Or.inl rfl) (pe_ix ix_seq (pv 1) pe_int (fun _ _ => rfl))) (pss_cons (ps_set (i := 4) sc_cut.nd rfl (Or.inl rfl) (pe_ix ix_seq (pv 1) pe_int (fun _ _ => rfl))) (pss_cons (ps_set (i := 5) sc_cut.nd rfl (Or.inl rfl) (pe_gf (gf_refusal_of_writing T) (hr.mono (by decide)) rfl (pa_cons (pv 3) (pa_cons (pv 2) pa_nil)))) (pss_cons (ps_if (pt_cmpR (op_neW hr.units) (pv 5) (pe_gc T.g_NOT_REFUSED rfl) (nomark _)) (pss_one (ps_ret (pe_lst (pa_cons (pv 5) pa_nil)))) pss_nil) (pss_cons (ps_if (pt_cmpR op_lt (pv 4) pe_int (nomark _)) (pss_one (ps_ret (pe_lst (pa_cons (pe_gc T.g_CUT_BELOW_ZERO rfl) pa_nil)))) pss_nil) (pss_cons (ps_set (i := 6) sc_cut.nd rfl (Or.inl rfl) (pe_gf (gf_read_back T) (hr.mono (by decide)) rfl (pa_cons (pv 3) (pa_cons (pv 2) pa_nil)))) (pss_cons (ps_if (pt_cmpR (op_neW hr.units) (pe_fld (pv 6) rfl) pe_int (nomark _)) (pss_one (ps_ret (pe_lst (pa_cons (pe_gc T.g_NOT_READ_BACK rfl) pa_nil)))) pss_nil) (pss_one (ps_ret (pe_gf (gf_counted T) (hr.mono (by decide)) rfl (pa_cons (pe_gf (gf_cut_of T) (hr.mono (by decide)) rfl (pa_cons (pv 2) (pa_cons (pv 6) (pa_cons (pv 4) pa_nil)))) pa_nil))))))))))), ?_⟩
  walk_at "s"
  refine rIx_lst (j := 0) (v := .int k) (SqL.of hn) rfl rfl (rIx_lst (j := 1) (v := .int n) (SqL.of hn) rfl rfl ⟨rw, l, k, ⟨rfl, rfl⟩, SqL.of hrw, ?_⟩)
  rw [kind_bad]
  cases hb : Vaescc.badKind k l with
  | some m =>
   rw [hb] at q2
   rw [if_pos (rf_pos (bk_ne m hb))]
   exact f_ref q2 rfl (Same.refl H) rfl
  | none =>
   rw [hb] at q2
   rw [if_neg rf_non]
   obtain ⟨kn, rfl, hk3, hb2⟩ := kind_ok hb
   obtain ⟨e1, e2, e3⟩ := row_nats hb2
   rw [e1] at hrw
   refine ⟨n, rfl, ?_⟩
   simp only at q2
   split
   ·rename_i z
    rw [if_pos z] at q2
    exact f_ref (n := 8) q2 rfl (Same.refl H) rfl
   ·rename_i z
    rw [if_neg z, show ((kn : Int)).toNat = kn from rfl] at q2
    have F := Mt.finB_ok kn (Vaescc.nats l)
    refine ⟨kn, rw, ⟨rfl, rfl⟩, Vaescc.nats l, SqL.of hrw, hk3, e2, by omega, fun r H1 bs B hbs => ?_⟩
    have B' := B
    obtain ⟨dx, aC, aB, aO, B⟩ := B
    refine ⟨_, _, _, B.ins, T.k_Back, T.n_Back_fault, _, rfl, rNeU_int.mpr ⟨_, rfl, ?_⟩⟩
    cases hbk : Vaescc.back kn (Vaescc.nats l) with
    | error w =>
     obtain ⟨kd, pl⟩ := w
     rw [hbk] at q2 F
     obtain ⟨f1, f2, f3⟩ := F
     have hfk : fk (Mt.finB kn (Vaescc.nats l)).wrong = kd := by rw [f1]; rfl
     rw [if_pos (by rw [hfk]; simp; omega)]
     exact f_ref (n := 7) q2 rfl B.sam rfl
    | ok ct =>
     rw [hbk] at q2 F
     obtain ⟨f1, f2⟩ := F
     have q3 := f_told q2 rfl
     have hfk : fk (Mt.finB kn (Vaescc.nats l)).wrong = 0 := by rw [f1]; rfl
     rw [if_neg (by rw [hfk]; decide)]
     rw [hbs f1] at B'
     refine ⟨rw, Vaescc.nats l, r, n, ⟨rfl, rfl, rfl⟩, B.sam _ _ hrw, kn, ⟨_, _, B'⟩, by omega, by omega, fun p1 H2 hp1 s2 h1 => ⟨p1, rfl, _, h1, szl ?_, fun p2 H3 hp2 s3 h2 => ?_⟩⟩
     ·rw [vi_length]
      unfold Vaescc.cut
      rw [List.length_take]; omega
     ·exact q3 p2 H3 ((B.sam.trans s2).free hp2) ((B.sam.trans s2).trans s3) (by rw [h2, vi_counted])
theorem gf_quotes (T : Txt P w K mg CR CP CB) : GF P w K mg base "quotes" (7 + 1) ["data", "numbers", "row"] (callSp (fun _ => True) (fun _ l => .quotes l)) := by
 refine gf_mk T.f_quotes sc_quotes (fun _ _ _ _ _ _ => us3 fun _ _ _ => rfl) (fun vs H Q E h => ?_) (fun f cdv A outer s H vs Q E hr h => ?_)
 ·exact ln7 h fun _ _ _ _ _ _ _ => rfl
 ·obtain ⟨d, nn, rw, tt, data, nums, l, rfl, hDt, hok, hn, hrw, hz, hsh, hne, hnt, hdt, q⟩ := h
  have hD := hDt.same off_sub
  have q2 := q_of q hDt (ans := Vaescc.orRefuse (Vaescc.badBytes Vaescc.MOST l) [(Vaescc.quotes (Vaescc.nats l)).1, (Vaescc.quotes (Vaescc.nats l)).2]) rfl
  refine ⟨_, (pss_cons (ps_set (i := 3) sc_quotes.nd rfl (Or.inl rfl) (pe_gf (gf_refusal_of_bytes T) (hr.mono (by decide)) rfl (pa_cons (pv 2) pa_nil))) (pss_cons (ps_if (pt_cmpR (op_neW hr.units) (pv 3) (pe_gc T.g_NOT_REFUSED rfl) (nomark _)) (pss_one (ps_ret (pe_lst (pa_cons (pv 3) pa_nil)))) pss_nil) (pss_one (ps_ret (pe_gf (gf_shortest_value T) (hr.mono (by decide)) rfl (pa_cons (pv 2) pa_nil)))))), ?_⟩
  walk_at "s"
  refine ⟨l, SqL.of hrw, ?_⟩
  rw [show (4096 : Int) = ((4096 : Nat) : Int) from rfl, rowR_bytes]
  cases hb : Vaescc.badBytes 4096 l with
  | some n =>
   rw [show Vaescc.badBytes Vaescc.MOST l = some n from hb] at q2
   rw [if_pos (rf_pos (bb_ne n hb))]
   exact f_ref q2 rfl (Same.refl H) rfl
  | none =>
   rw [show Vaescc.badBytes Vaescc.MOST l = none from hb] at q2
   have q3 := f_told q2 rfl
   rw [if_neg rf_non]
   obtain ⟨e1, e2, e3⟩ := row_nats hb
   rw [e1] at hrw
   exact ⟨_, SqL.of hrw, e2, by omega, fun p H' hp s h => q3 p H' hp s h⟩
end
end
end ML
section
namespace ML
open Vaesca
theorem pf_put (data : List (List Nat)) : ∀ (x : List Nat) (ms : List (Nat × Nat)), ms.map (·.1) = x.filter isMark → Vaescc.putAll data x (ms.map (·.2)) = pf x (ms.map fun k => Vaescc.formAt k.2 (Vaescc.datumOf data k.1))
 | [], ms, _ => rfl
 | c :: r, ms, h => by
  unfold Vaescc.putAll pf
  by_cases z : isMark c = true
  ·rw [List.filter_cons_of_pos z] at h
   cases ms with
   | nil => cases h
   | cons m t =>
    rw [List.map_cons] at h
    injection h with h1 h2
    rw [if_pos z, if_pos z]
    simp only [List.map_cons, List.headD_cons, List.tail_cons]
    rw [pf_put data r t h2, h1]
  ·rw [List.filter_cons_of_neg z] at h
   rw [if_neg z, if_neg z, pf_put data r ms h]
theorem ppf_parts (data : List (List Nat)) : ∀ (x : List Nat) (a : Nat) (ms : List (Nat × Nat)), ms.map (·.1) = x.filter isMark → (Vaescc.partsFrom data a x (ms.map (·.2))).flatMap (fun p => [p.1, p.2]) = ppf a x (ms.map fun k => Vaescc.formAt k.2 (Vaescc.datumOf data k.1)) ∧ (Vaescc.partsFrom data a x (ms.map (·.2))).length = ms.length
 | [], a, ms, h => by
  cases ms with
  | nil => exact ⟨rfl, rfl⟩
  | cons m t => cases h
 | c :: r, a, ms, h => by
  unfold Vaescc.partsFrom ppf
  by_cases z : isMark c = true
  ·rw [List.filter_cons_of_pos z] at h
   cases ms with
   | nil => cases h
   | cons m t =>
    rw [List.map_cons] at h
    injection h with h1 h2
    rw [if_pos z, if_pos z]
    simp only [List.map_cons, List.headD_cons, List.tail_cons, List.flatMap_cons, List.length_cons]
    rw [h1]
    have := ppf_parts data r (a + (Vaescc.formAt m.2 (Vaescc.datumOf data c)).length) t h2
    rw [this.1, this.2]
    exact ⟨rfl, rfl⟩
  ·rw [List.filter_cons_of_neg z] at h
   rw [if_neg z, if_neg z]
   exact ppf_parts data r (a + 1) ms h
theorem pf_len : ∀ (x : List Nat) (fs : List (List Nat)), fs.length = (x.filter isMark).length → (pf x fs).length + fs.length = x.length + (fs.map List.length).sum
 | [], fs, h => by
  cases fs with
  | nil => rfl
  | cons a t => cases h
 | c :: r, fs, h => by
  unfold pf
  by_cases z : isMark c = true
  ·rw [List.filter_cons_of_pos z] at h
   cases fs with
   | nil => cases h
   | cons m t =>
    rw [if_pos z]
    simp only [List.headD_cons, List.tail_cons, List.length_append, List.length_cons, List.map_cons, List.sum_cons]
    have := pf_len r t (by simpa using h)
    omega
  ·rw [List.filter_cons_of_neg z] at h
   rw [if_neg z]
   have := pf_len r fs h
   simp only [List.length_cons]
   omega
theorem sum_int : ∀ fs : List (List Nat), (fs.map fun t => (t.length : Int)).sum = ((fs.map List.length).sum : Nat)
 | [] => rfl
 | a :: t => by
  simp only [List.map_cons, List.sum_cons, sum_int t]
  omega
theorem fms_mk (data : List (List Nat)) {x : List Nat} (h : (Vaesca.read x).wrong = none) : Vaescc.put data x = pf x (fms data (Vaesca.read x)) ∧ Vaescc.shownPairs (Vaescc.parts data x) = (fms data (Vaesca.read x)).length :: ppf 0 x (fms data (Vaesca.read x)) ∧ (fms data (Vaesca.read x)).length = (x.filter isMark).length := by
 have k := (Mt.read_fine h).1.fst
 refine ⟨pf_put data x _ k, ?_, ?_⟩
 ·have := ppf_parts data x 0 _ k
  show (Vaescc.partsFrom data 0 x _).length :: (Vaescc.partsFrom data 0 x _).flatMap _ = _
  unfold Vaescc.spotsOf fms
  rw [this.1, this.2, List.length_map]
 ·unfold fms
  rw [List.length_map, ← k, List.length_map]
theorem useR_bad (data : List (List Nat)) (x : List Nat) : useR data x (Vaesca.read x) = rf (if !Vaescc.isFine x then some 10 else if (Vaescc.spotsOf x).contains 5 then some 11 else if Vaescc.PUT < (Vaescc.put data x).length then some 12 else none) := by
 unfold useR Vaescc.isFine
 cases hw : (Vaesca.read x).wrong with
 | some w => rfl
 | none =>
  simp only [Option.isSome_none, Bool.false_eq_true, if_false, Option.isNone_none, Bool.not_true]
  have e : ((Vaesca.read x).marks.map fun m => m.2) = Vaescc.spotsOf x := rfl
  rw [e]
  cases (Vaescc.spotsOf x).contains 5 with
  | true => rfl
  | false =>
   simp only [Bool.false_eq_true, if_false]
   obtain ⟨h1, h2, h3⟩ := fms_mk data hw
   have h4 := pf_len x _ h3
   rw [h1, sum_int]
   by_cases z : 65536 < (pf x (fms data (Vaesca.read x))).length
   ·rw [if_pos (by omega), if_pos (show Vaescc.PUT < _ from z)]; rfl
   ·rw [if_neg (by omega), if_neg (show ¬ Vaescc.PUT < _ from z)]; rfl
theorem W_len : ∀ s : List Nat, s.length ≤ Mt.W s
 | [] => Nat.le_refl _
 | c :: s => by
  have := W_len s
  rw [show c :: s = [c] ++ s from rfl, Mt.W_app, Mt.W_one, List.length_append]
  have : 1 ≤ Mt.wt c := by unfold Mt.wt; split <;> decide
  have : [c].length = 1 := rfl
  omega
theorem W_fill {data : List (List Nat)} (h : DOk data) : ∀ s : List Nat, (Vaescc.fillText data s).length ≤ Mt.W s
 | [] => Nat.le_refl _
 | c :: s => by
  have := W_fill h s
  rw [show c :: s = [c] ++ s from rfl, Mt.W_app, Mt.W_one]
  unfold Vaescc.fillText at this ⊢
  rw [List.flatMap_append, List.length_append, List.flatMap_cons, List.flatMap_nil, List.append_nil]
  unfold Mt.wt
  by_cases z : isMark c = true
  ·rw [if_pos z, if_pos z]
   have := (h.at c).1
   omega
  ·rw [if_neg z, if_neg z]
   have : [c].length = 1 := rfl
   omega
theorem len_ats (f : List Nat → List Nat) (hf : ∀ s, (f s).length ≤ Mt.W s) : ∀ as : List (List Nat × List Nat), ((as.map fun a => (a.1, f a.2)).flatMap fun a => Vaescc.counted a.1 ++ Vaescc.counted a.2).length ≤ Mt.AW as
 | [] => Nat.le_refl _
 | a :: as => by
  have ih := len_ats f hf as
  rw [show a :: as = [a] ++ as from rfl, Mt.AW_app, Mt.AW_one, List.map_append, List.flatMap_append, List.length_append]
  have h1 := W_len a.1
  have h2 := hf a.2
  simp only [List.map_cons, List.map_nil, List.flatMap_cons, List.flatMap_nil, List.append_nil, Vaescc.counted, List.length_append, List.length_cons] at ih ⊢
  omega
theorem counted_len (s : List Nat) : (Vaescc.counted s).length = s.length + 1 := rfl
theorem op_key {a b c d : Nat} (h1 : a ≤ b) (h2 : c ≤ d) : a + 1 + (c + 1) + 1 + 1 ≤ 4 + b + d := by omega
theorem len_tok (t : Token) : (Vaescc.shownToken t).length ≤ Mt.TW t := by
 cases t with
 | text p s => have := W_len s; simp only [Vaescc.shownToken, Vaescc.counted, Mt.TW, List.length_cons]; omega
 | closed p s => have := W_len s; simp only [Vaescc.shownToken, Vaescc.counted, Mt.TW, List.length_cons]; omega
 | comment p s => have := W_len s; simp only [Vaescc.shownToken, Vaescc.counted, Mt.TW, List.length_cons]; omega
 | raw p s => have := W_len s; simp only [Vaescc.shownToken, Vaescc.counted, Mt.TW, List.length_cons]; omega
 | opened p n as e =>
  have h1 := W_len n
  have h2 := len_ats id W_len as
  have e : (as.map fun a => (a.1, id a.2)) = as := by simp
  rw [e] at h2
  simp only [Vaescc.shownToken, Mt.TW, List.length_cons, List.length_append, counted_len]
  exact op_key h1 h2
theorem len_fill {data : List (List Nat)} (h : DOk data) (t : Token) : (Vaescc.shownToken (Vaescc.fillToken data t)).length ≤ Mt.TW t := by
 cases t with
 | text p s => have := W_fill h s; simp only [Vaescc.fillToken, Vaescc.shownToken, Vaescc.counted, Mt.TW, List.length_cons]; omega
 | closed p s => have := W_len s; simp only [Vaescc.fillToken, Vaescc.shownToken, Vaescc.counted, Mt.TW, List.length_cons]; omega
 | comment p s => have := W_len s; simp only [Vaescc.fillToken, Vaescc.shownToken, Vaescc.counted, Mt.TW, List.length_cons]; omega
 | raw p s => have := W_fill h s; simp only [Vaescc.fillToken, Vaescc.shownToken, Vaescc.counted, Mt.TW, List.length_cons]; omega
 | opened p n as e =>
  have h1 := W_len n
  have h2 := len_ats (Vaescc.fillText data) (W_fill h) as
  simp only [Vaescc.fillToken, Vaescc.shownToken, Mt.TW, List.length_cons, List.length_append, counted_len]
  exact op_key h1 h2
theorem len_toks (f : Token → Token) (hf : ∀ t, (Vaescc.shownToken (f t)).length ≤ Mt.TW t) (q : Token → Bool) : ∀ ts : List Token, (((ts.map f).filter q).flatMap Vaescc.shownToken).length ≤ Mt.TS ts ∧ ((ts.map f).flatMap Vaescc.shownToken).length ≤ Mt.TS ts ∧ ((ts.map f).filter q).length ≤ Mt.TS ts
 | [] => ⟨Nat.le_refl _, Nat.le_refl _, Nat.le_refl _⟩
 | t :: ts => by
  have ih := len_toks f hf q ts
  have h := hf t
  have h1 : 1 ≤ Mt.TW t := by cases t <;> simp only [Mt.TW] <;> omega
  rw [show t :: ts = [t] ++ ts from rfl, Mt.TS_app, Mt.TS_one, List.map_append, List.filter_append]
  simp only [List.map_cons, List.map_nil, List.flatMap_append, List.length_append, List.flatMap_cons, List.flatMap_nil, List.append_nil]
  cases z : q (f t) <;> simp only [List.filter_cons, z, List.filter_nil, if_true, Bool.false_eq_true, if_false, List.flatMap_cons, List.flatMap_nil, List.append_nil, List.length_nil, List.length_cons]
  all_goals omega
theorem toks_len {x : List Nat} (h : (Vaesca.read x).wrong = none) (h1 : x.length ≤ 4096) (h2 : (x.filter isMark).length ≤ 256) : (Vaescc.shownTokens (Vaesca.read x).tokens).length ≤ 162400 := by
 have hm := (Mt.read_more h).2
 have := len_toks id len_tok (fun _ => true) (Vaesca.read x).tokens
 unfold Vaescc.shownTokens
 rw [List.length_cons]
 rw [List.map_id] at this
 omega
theorem fill_len {data : List (List Nat)} (hd : DOk data) {x : List Nat} (h : (Vaesca.read x).wrong = none) (h1 : x.length ≤ 4096) (h2 : (x.filter isMark).length ≤ 256) : (Vaescc.shownTokens (Vaescc.fillTokens data (Vaesca.read x).tokens)).length ≤ 162400 ∧ (((Vaesca.read x).tokens.map (Vaescc.fillToken data)).flatMap Vaescc.shownToken).length ≤ 162400 := by
 have hm := (Mt.read_more h).2
 have := len_toks (Vaescc.fillToken data) (len_fill hd) (fun t => !Vaescc.isEmptyText t) (Vaesca.read x).tokens
 exact ⟨Nat.le_trans (Nat.succ_le_succ this.1) (by omega), Nat.le_trans this.2.1 (by omega)⟩
theorem nmt {t : Token} (h : Mt.NMt t) : NMt t := by cases t <;> exact h
end ML
end
namespace ML
open PySem PySem.Spec PyProof.Rows L2
section
variable {P : Program} {w : World} {K : PySem.W.Frag} {mg : Str → Option Value} {base : Heap} {CR CP CB : Addr}
section
open Vaesca (Reader Token Mode Home)
def mkR (l : List Int) : Int := if rowR l 65535 4096 = 0 ∧ 256 < ((l.map Int.toNat).filter Vaesca.isMark).length then -9 else rowR l 65535 4096
theorem mkR_bad (l : List Int) : mkR l = rf (Vaescc.badSigns l) := by
 unfold mkR Vaescc.badSigns rowR
 have e : l.all (fun n => decide (0 ≤ n) && decide (n ≤ 65535)) = l.all Vaesca.isSign := rfl
 have e2 : Vaescc.nats l = l.map Int.toNat := rfl
 rw [e, e2]
 cases l.all Vaesca.isSign with
 | false => rfl
 | true =>
  simp only [if_true, Bool.not_true, Bool.false_eq_true, if_false]
  by_cases h : (4096 : Int) < (l.length : Int)
  ·rw [if_pos h, if_pos (show Vaescc.MOST < l.length by show 4096 < l.length; omega)]; rfl
  ·rw [if_neg h, if_neg (show ¬ Vaescc.MOST < l.length by show ¬ 4096 < l.length; omega)]
   by_cases h2 : 256 < ((l.map Int.toNat).filter Vaesca.isMark).length
   ·rw [if_pos ⟨rfl, h2⟩, if_pos (show Vaescc.MARKS < _ from h2)]; rfl
   ·rw [if_neg (fun z => h2 z.2), if_neg (show ¬ Vaescc.MARKS < _ from h2)]; rfl
theorem bs_ne {l : List Int} : ∀ n, Vaescc.badSigns l = some n → n ≠ 0 := by
 intro n h
 unfold Vaescc.badSigns at h
 split at h
 ·cases h; decide
 ·split at h
  ·cases h; decide
  ·split at h
   ·cases h; decide
   ·cases h
theorem row_signs {l : List Int} (h : Vaescc.badSigns l = none) : l.map V.int = vi (Vaescc.nats l) ∧ (Vaescc.nats l).length ≤ 4096 ∧ ((Vaescc.nats l).filter Vaesca.isMark).length ≤ 256 ∧ rowR l 65535 4096 = 0 := by
 have h0 : mkR l = 0 := by rw [mkR_bad, h]; rfl
 unfold mkR at h0
 split at h0
 ·omega
 ·rename_i z
  refine ⟨row_vi h0, ?_, ?_, h0⟩
  ·have := (rowR_zero h0).2
   unfold Vaescc.nats
   rw [List.length_map]; omega
  ·by_cases c : 256 < ((l.map Int.toNat).filter Vaesca.isMark).length
   ·exact absurd ⟨h0, c⟩ z
   ·unfold Vaescc.nats; omega
def prs (l : List (Nat × Nat)) : List Nat := l.flatMap fun p => [p.1, p.2]
def StI (H : Hp) (d nn rw r p : Addr) (ms : List (Nat × Nat)) (i : Nat) (σ : L2.St) (H' : Hp) : Prop := (∃ o, σ = [some (.ref d), some (.ref nn), some (.ref rw), some (.int (rf none)), some (.ref r), some (.ref p), o]) ∧ Same H H' ∧ H' p = some (.lst (vi (0 :: ms.length :: prs (ms.take i))))
theorem prs_len (l : List (Nat × Nat)) : (prs l).length = 2 * l.length := by
 unfold prs
 induction l with
 | nil => rfl
 | cons a t ih => rw [List.flatMap_cons, List.length_append, ih]; simp; omega
theorem gf_spots (T : Txt P w K mg CR CP CB) : GF P w K mg base "spots" (10 + 1) ["data", "numbers", "row"] (callSp (fun _ => True) (fun _ l => .spots l)) := by
 refine gf_mk T.f_spots sc_spots (fun _ _ _ _ _ _ => us3 fun _ _ _ => rfl) (fun vs H Q E h => ?_) (fun f cdv A outer s H vs Q E hr h => ?_)
 ·exact ln7 h fun _ _ _ _ _ _ _ => rfl
 ·obtain ⟨d, nn, rw, tt, data, nums, l, rfl, hDt, hok, hn, hrw, hz, hsh, hne, hnt, hdt, q⟩ := h
  have hD := hDt.same off_sub
  have q2 := q_of q hDt (ans := Vaescc.orRefuse (Vaescc.badSigns l) (Vaescc.readOr (Vaescc.nats l) (Vaescc.shownPairs (Vaesca.read (Vaescc.nats l)).marks))) rfl
  refine ⟨_, (pss_cons (ps_set (i := 3) sc_spots.nd rfl (Or.inl rfl) (pe_gf (gf_refusal_of_marked T) (hr.mono (by decide)) rfl (pa_cons (pv 2) pa_nil))) (pss_cons (ps_if (pt_cmpR (op_neW hr.units) (pv 3) (pe_gc T.g_NOT_REFUSED rfl) (nomark _)) (pss_one (ps_ret (pe_lst (pa_cons (pv 3) pa_nil)))) pss_nil) (pss_cons (ps_set (i := 4) sc_spots.nd rfl (Or.inl rfl) (pe_gf (gf_read_text T) (hr.mono (by decide)) rfl (pa_cons (pv 2) pa_nil))) (pss_cons (ps_if (pt_cmpR (op_neW hr.units) (pe_fld (pv 4) rfl) pe_int (nomark _)) (pss_one (ps_ret (pe_lst (pa_cons pe_int (pa_cons (pe_fld (pv 4) rfl) (pa_cons (pe_fld (pv 4) rfl) pa_nil)))))) pss_nil) (pss_cons (ps_set (i := 5) sc_spots.nd rfl (Or.inl rfl) (pe_lst (pa_cons pe_int (pa_cons (pe_callB call_len rfl T.b_len PySem.boot_len (pa_cons (pe_fld (pv 4) rfl) pa_nil)) pa_nil)))) (pss_cons (ps_for PassesOwn.never rfl (pi_list (pe_fld (pv 4) rfl)) (pg_name (i := 6) sc_spots.nd rfl (Or.inl rfl)) (pss_one (ps_expr (pe_bm PySem.F.plainAttrs_list PySem.F.slot_list_extend PySem.F.type_list_extend mt_extend (pv 5) (pa_cons (pe_callTy call_list_of rfl T.b_list boot_list (pa_cons (pv 6) pa_nil)) pa_nil))))) (pss_one (ps_ret (pv 5))))))))), ?_⟩
  walk_at "s"
  refine ⟨l, SqL.of hrw, hz, fun H1 s1 => ?_⟩
  rw [show (if rowR l 65535 4096 = 0 ∧ 256 < ((l.map Int.toNat).filter Vaesca.isMark).length then (-9 : Int) else rowR l 65535 4096) = rf (Vaescc.badSigns l) from mkR_bad l]
  cases hb : Vaescc.badSigns l with
  | some n =>
   rw [hb] at q2
   rw [if_pos (rf_pos (bs_ne n hb))]
   exact f_ref q2 rfl s1 rfl
  | none =>
   rw [hb] at q2
   rw [if_neg rf_non]
   obtain ⟨e1, e2, e3, e4⟩ := row_signs hb
   have q3 := f_told q2 rfl
   rw [e1] at hrw
   refine ⟨Vaescc.nats l, s1.seq (SqL.of hrw), by omega, fun r H2 R2 => ?_⟩
   have sam := s1.trans R2.sam
   obtain ⟨Fr, A, vt, va, vs, tl, B, hr'⟩ := R2
   refine ⟨_, _, _, B.ins, T.k_Reader, T.n_Reader_fault, _, rfl, rNeU_int.mpr ⟨_, rfl, ?_⟩⟩
   unfold Vaescc.readOr at q3
   cases hw : (Vaesca.read (Vaescc.nats l)).wrong with
   | some w =>
    obtain ⟨w1, w2⟩ := Mt.read_wr _ _ hw
    rw [hw] at q3
    have hfk : fkr (some w) = w.1 := rfl
    rw [if_pos (by rw [hfk]; simp; omega)]
    refine ⟨_, _, _, B.ins, T.k_Reader, T.n_Reader_fault, _, rfl, _, _, _, B.ins, T.k_Reader, T.n_Reader_count, _, rfl, szl, fun p hp => ?_⟩
    refine q3 p _ (sam.free hp) (sam.trans (same_new hp)) ?_
    rw [upd_same, hw, ← w2]; rfl
   | none =>
    rw [hw] at q3
    rw [if_neg (by decide)]
    have ml : (Vaesca.read (Vaescc.nats l)).marks.length ≤ 4096 := Nat.le_trans (Mt.read_marks _) e2
    have vl := Paired.length B.sp
    refine ⟨_, _, _, B.ins, T.k_Reader, T.n_Reader_spots, _, rfl, _, lenv (SqL.of B.hsp), szl, fun p hp => ?_⟩
    have s2 := same_new (o := HO.lst [V.int 0, V.int (vs.length : Int)]) hp
    refine ⟨_, rfl, _, _, _, _, _, rfl, s2 _ _ B.ins, T.k_Reader, T.n_Reader_spots, rfl, A.sp, rfl, ⟨_, SqL.of (s2 _ _ B.hsp)⟩, for_list (K := K) (a := A.sp) (xs := vs) (StI H2 d nn rw r p (Vaesca.read (Vaescc.nats l)).marks) ⟨⟨none, rfl⟩, s2, ?_⟩ (fun i σ H' _ ⟨_, s3, _⟩ => SqL.of (s3 _ _ B.hsp)) ?_ ?_⟩
    ·rw [upd_same, vl]; rfl
    ·rintro i y σ H' hi ⟨⟨o, rfl⟩, s3, h3⟩
     obtain ⟨mk, hmk, a2, rfl, g1⟩ := Paired.get B.sp hi
     walk_at "s"
     have g2 := s3 _ _ (B.ow.sub _ _ g1)
     have ep : prs ((Vaesca.read (Vaescc.nats l)).marks.take (i + 1)) = prs ((Vaesca.read (Vaescc.nats l)).marks.take i) ++ [mk.1, mk.2] := by
      unfold prs
      rw [take_snoc hmk, List.flatMap_append]; simp
     refine ⟨tyL h3, _, .inr (SqT.of g2), fun q4 hq4 => ⟨_, upd_of hq4 h3, _, upd_same, szl ?_, ⟨_, rfl⟩, same_upd hp (s3.trans (same_new hq4)), ?_⟩⟩
     ·rw [vi_length, List.length_cons, List.length_cons, prs_len, List.length_take]
      simp only [List.length_cons, List.length_nil]
      omega
     ·rw [upd_same, ep]; simp [vi]
    ·rintro σ H' ⟨⟨o, rfl⟩, s3, h3⟩
     walk_at "s"
     refine q3 p H' (sam.free hp) (sam.trans s3) ?_
     rw [h3, vl, List.take_length]; rfl
theorem gf_tokens (T : Txt P w K mg CR CP CB) : GF P w K mg base "tokens" (10 + 1) ["data", "numbers", "row"] (callSp (fun _ => True) (fun _ l => .tokens l)) := by
 refine gf_mk T.f_tokens sc_tokens (fun _ _ _ _ _ _ => us3 fun _ _ _ => rfl) (fun vs H Q E h => ?_) (fun f cdv A outer s H vs Q E hr h => ?_)
 ·exact ln7 h fun _ _ _ _ _ _ _ => rfl
 ·obtain ⟨d, nn, rw, tt, data, nums, l, rfl, hDt, hok, hn, hrw, hz, hsh, hne, hnt, hdt, q⟩ := h
  have hD := hDt.same off_sub
  have q2 := q_of q hDt (ans := Vaescc.orRefuse (Vaescc.badSigns l) (Vaescc.readOr (Vaescc.nats l) (Vaescc.shownTokens (Vaesca.read (Vaescc.nats l)).tokens))) rfl
  refine ⟨_, (pss_cons (ps_set (i := 3) sc_tokens.nd rfl (Or.inl rfl) (pe_gf (gf_refusal_of_marked T) (hr.mono (by decide)) rfl (pa_cons (pv 2) pa_nil))) (pss_cons (ps_if (pt_cmpR (op_neW hr.units) (pv 3) (pe_gc T.g_NOT_REFUSED rfl) (nomark _)) (pss_one (ps_ret (pe_lst (pa_cons (pv 3) pa_nil)))) pss_nil) (pss_cons (ps_set (i := 4) sc_tokens.nd rfl (Or.inl rfl) (pe_gf (gf_read_text T) (hr.mono (by decide)) rfl (pa_cons (pv 2) pa_nil))) (pss_cons (ps_if (pt_cmpR (op_neW hr.units) (pe_fld (pv 4) rfl) pe_int (nomark _)) (pss_one (ps_ret (pe_lst (pa_cons pe_int (pa_cons (pe_fld (pv 4) rfl) (pa_cons (pe_fld (pv 4) rfl) pa_nil)))))) pss_nil) (pss_one (ps_ret (pe_op op_addW (pe_lst (pa_cons pe_int pa_nil)) (pe_gf (gf_told_tokens T) (hr.mono (by decide)) rfl (pa_cons (pe_fld (pv 4) rfl) pa_nil))))))))), ?_⟩
  walk_at "s"
  refine ⟨l, SqL.of hrw, hz, fun H1 s1 => ?_⟩
  rw [show (if rowR l 65535 4096 = 0 ∧ 256 < ((l.map Int.toNat).filter Vaesca.isMark).length then (-9 : Int) else rowR l 65535 4096) = rf (Vaescc.badSigns l) from mkR_bad l]
  cases hb : Vaescc.badSigns l with
  | some n =>
   rw [hb] at q2
   rw [if_pos (rf_pos (bs_ne n hb))]
   exact f_ref q2 rfl s1 rfl
  | none =>
   rw [hb] at q2
   rw [if_neg rf_non]
   obtain ⟨e1, e2, e3, e4⟩ := row_signs hb
   have q3 := f_told q2 rfl
   rw [e1] at hrw
   refine ⟨Vaescc.nats l, s1.seq (SqL.of hrw), by omega, fun r H2 R2 => ?_⟩
   have sam := s1.trans R2.sam
   obtain ⟨Fr, A, vt, va, vs, tl, B, hr'⟩ := R2
   refine ⟨_, _, _, B.ins, T.k_Reader, T.n_Reader_fault, _, rfl, rNeU_int.mpr ⟨_, rfl, ?_⟩⟩
   unfold Vaescc.readOr at q3
   cases hw : (Vaesca.read (Vaescc.nats l)).wrong with
   | some w =>
    obtain ⟨w1, w2⟩ := Mt.read_wr _ _ hw
    rw [hw] at q3
    have hfk : fkr (some w) = w.1 := rfl
    rw [if_pos (by rw [hfk]; simp; omega)]
    refine ⟨_, _, _, B.ins, T.k_Reader, T.n_Reader_fault, _, rfl, _, _, _, B.ins, T.k_Reader, T.n_Reader_count, _, rfl, szl, fun p hp => ?_⟩
    refine q3 p _ (sam.free hp) (sam.trans (same_new hp)) ?_
    rw [upd_same, hw, ← w2]; rfl
   | none =>
    rw [hw] at q3
    rw [if_neg (by decide)]
    have tlen := toks_len hw e2 e3
    refine ⟨szl, fun p hp => ?_⟩
    have s2 := same_new (o := HO.lst [V.int 0]) hp
    refine ⟨_, _, _, s2 _ _ B.ins, T.k_Reader, T.n_Reader_tokens, _, rfl, _, rfl, _, s2 _ _ B.htk, _, Fr, B.tk, B.ow.sub.trans s2, by omega, fun p2 H3 hp2 s3 h3 => ?_⟩
    refine rAddU_new (sam.trans (s2.trans s3)) (s3 _ _ upd_same) h3 (by rw [vi_length]; simp; omega) fun p3 H4 hp3 s4 _ h4 => q3 p3 H4 hp3 s4 ?_
    rw [h4]; rfl
theorem ppf_len : ∀ (x : List Nat) (a : Nat) (fs : List (List Nat)), (ppf a x fs).length ≤ 2 * x.length
 | [], _, _ => Nat.le_refl _
 | c :: r, a, fs => by
  unfold ppf
  split
  ·have := ppf_len r (a + (fs.headD []).length) fs.tail
   simp only [List.length_cons]; omega
  ·have := ppf_len r (a + 1) fs
   simp only [List.length_cons]; omega
theorem putK_bad (data : List (List Nat)) (l : List Int) : putK' data l = rf (Vaescc.badPut data l) := by
 unfold putK' Vaescc.badPut
 have h := mkR_bad l
 unfold mkR at h
 cases hb : Vaescc.badSigns l with
 | some n =>
  have n0 := bs_ne n hb
  rw [hb] at h
  split
  ·rename_i z; rw [if_pos z] at h; exact h
  ·rename_i z
   rw [if_neg z] at h
   have hv : rf (some n) = -(n : Int) := rfl
   rw [if_neg (by rw [h, hv]; omega)]
   exact h
 | none =>
  rw [hb] at h
  have h0 : rf none = 0 := rfl
  split
  ·rename_i z; rw [if_pos z, h0] at h; omega
  ·rename_i z
   rw [if_neg z, h0] at h
   rw [if_pos h]
   exact useR_bad data (Vaescc.nats l)
theorem bp_ne {data : List (List Nat)} {l : List Int} : ∀ n, Vaescc.badPut data l = some n → n ≠ 0 := by
 intro n h
 unfold Vaescc.badPut at h
 split at h
 ·rename_i m hb; cases h; exact bs_ne _ hb
 ·repeat' split at h
  all_goals first | (cases h; decide) | cases h
theorem put_ok {data : List (List Nat)} {l : List Int} (h : Vaescc.badPut data l = none) : Vaescc.badSigns l = none ∧ (Vaesca.read (Vaescc.nats l)).wrong = none ∧ (Vaescc.put data (Vaescc.nats l)).length ≤ 65536 := by
 unfold Vaescc.badPut at h
 cases hb : Vaescc.badSigns l with
 | some n => rw [hb] at h; cases h
 | none =>
  rw [hb] at h
  simp only at h
  unfold Vaescc.isFine at h
  cases hw : (Vaesca.read (Vaescc.nats l)).wrong with
  | some w => rw [hw] at h; cases h
  | none =>
   rw [hw] at h
   simp only [Option.isNone_none, Bool.not_true, Bool.false_eq_true, if_false] at h
   split at h
   ·cases h
   ·split at h
    ·cases h
    ·rename_i z; exact ⟨rfl, rfl, Nat.le_of_not_lt z⟩
theorem gf_put (T : Txt P w K mg CR CP CB) : GF P w K mg base "put" (12 + 1) ["data", "numbers", "row"] (callSp (fun _ => True) (fun _ l => .put l)) := by
 refine gf_mk T.f_put sc_put (fun _ _ _ _ _ _ => us3 fun _ _ _ => rfl) (fun vs H Q E h => ?_) (fun f cdv A outer s H vs Q E hr h => ?_)
 ·exact ln7 h fun _ _ _ _ _ _ _ => rfl
 ·obtain ⟨d, nn, rw, tt, data, nums, l, rfl, hDt, hok, hn, hrw, hz, hsh, hne, hnt, hdt, q⟩ := h
  have hD := hDt.same off_sub
  have q2 := q_of q hDt (ans := Vaescc.orRefuse (Vaescc.badPut data l) (Vaescc.counted (Vaescc.put data (Vaescc.nats l)))) rfl
  refine ⟨_, (pss_cons (ps_set (i := 3) sc_put.nd rfl (Or.inl rfl) (pe_mk (mk_of (gm_Putting___init__ T) T.c_Putting T.m_Putting T.e_Putting) (hr.mono (by decide)) rfl (pa_cons (pv 0) (pa_cons (pv 2) pa_nil)))) (pss_cons (ps_if (pt_cmpR (op_neW hr.units) (pe_fld (pv 3) rfl) (pe_gc T.g_NOT_REFUSED rfl) (nomark _)) (pss_one (ps_ret (pe_lst (pa_cons (pe_fld (pv 3) rfl) pa_nil)))) pss_nil) (pss_one (ps_ret (pe_gf (gf_counted T) (hr.mono (by decide)) rfl (pa_cons (pe_gf (gf_put_of T) (hr.mono (by decide)) rfl (pa_cons (pv 2) (pa_cons (pe_fld (pv 3) rfl) pa_nil))) pa_nil)))))), ?_⟩
  walk_at "s"
  refine fun r dx hr hdx hne2 => ⟨r, d, rw, ⟨rfl, rfl, rfl⟩, ⟨dx, upd_same⟩, data, l, H, hr, same_upd hr (same_new hdx), hD, hok, SqL.of hrw, hz, fun H1 P1 => ?_⟩
  obtain ⟨dx', tk, fm, i1, s1, rest⟩ := P1
  rw [putK_bad] at i1 rest
  refine ⟨_, _, _, i1, T.k_Putting, T.n_Putting_refusal, _, rfl, rNeU_int.mpr ⟨_, rfl, ?_⟩⟩
  cases hb : Vaescc.badPut data l with
  | some n =>
   rw [hb] at q2 i1
   rw [if_pos (rf_pos (bp_ne n hb))]
   exact ⟨_, _, _, i1, T.k_Putting, T.n_Putting_refusal, _, rfl, f_ref q2 rfl s1 rfl⟩
  | none =>
   rw [hb] at q2 i1 rest
   rw [if_neg rf_non]
   obtain ⟨b1, hw, b3⟩ := put_ok hb
   obtain ⟨e1, e2, e3, e4⟩ := row_signs b1
   obtain ⟨vt, Fr, h1, h2, h3, h4⟩ := rest rfl
   have q3 := f_told q2 rfl
   rw [e1] at hrw
   rw [show l.map Int.toNat = Vaescc.nats l from rfl] at h2 h4
   obtain ⟨m1, m2, m3⟩ := fms_mk data hw
   have hrw1 := s1 _ _ hrw
   rw [m1] at b3
   refine ⟨_, _, _, i1, T.k_Putting, T.n_Putting_forms, _, rfl, rw, fm, ⟨rfl, rfl⟩, _, SqL.of hrw1, _, h4, m3, by omega, fun p1 H2 hp1 s2 g2 => ⟨p1, rfl, _, g2, szl (by rw [vi_length]; omega), fun p2 H3 hp2 s3 g3 => ?_⟩⟩
   exact q3 p2 H3 ((s1.trans s2).free hp2) ((s1.trans s2).trans s3) (by rw [g3, vi_counted, m1])
theorem gf_parts (T : Txt P w K mg CR CP CB) : GF P w K mg base "parts" (12 + 1) ["data", "numbers", "row"] (callSp (fun _ => True) (fun _ l => .parts l)) := by
 refine gf_mk T.f_parts sc_parts (fun _ _ _ _ _ _ => us3 fun _ _ _ => rfl) (fun vs H Q E h => ?_) (fun f cdv A outer s H vs Q E hr h => ?_)
 ·exact ln7 h fun _ _ _ _ _ _ _ => rfl
 ·obtain ⟨d, nn, rw, tt, data, nums, l, rfl, hDt, hok, hn, hrw, hz, hsh, hne, hnt, hdt, q⟩ := h
  have hD := hDt.same off_sub
  have q2 := q_of q hDt (ans := Vaescc.orRefuse (Vaescc.badPut data l) (Vaescc.shownPairs (Vaescc.parts data (Vaescc.nats l)))) rfl
  refine ⟨_, (pss_cons (ps_set (i := 3) sc_parts.nd rfl (Or.inl rfl) (pe_mk (mk_of (gm_Putting___init__ T) T.c_Putting T.m_Putting T.e_Putting) (hr.mono (by decide)) rfl (pa_cons (pv 0) (pa_cons (pv 2) pa_nil)))) (pss_cons (ps_if (pt_cmpR (op_neW hr.units) (pe_fld (pv 3) rfl) (pe_gc T.g_NOT_REFUSED rfl) (nomark _)) (pss_one (ps_ret (pe_lst (pa_cons (pe_fld (pv 3) rfl) pa_nil)))) pss_nil) (pss_one (ps_ret (pe_op op_addW (pe_lst (pa_cons (pe_callB call_len rfl T.b_len PySem.boot_len (pa_cons (pe_fld (pv 3) rfl) pa_nil)) pa_nil)) (pe_gf (gf_parts_of T) (hr.mono (by decide)) rfl (pa_cons (pv 2) (pa_cons (pe_fld (pv 3) rfl) pa_nil)))))))), ?_⟩
  walk_at "s"
  refine fun r dx hr hdx hne2 => ⟨r, d, rw, ⟨rfl, rfl, rfl⟩, ⟨dx, upd_same⟩, data, l, H, hr, same_upd hr (same_new hdx), hD, hok, SqL.of hrw, hz, fun H1 P1 => ?_⟩
  obtain ⟨dx', tk, fm, i1, s1, rest⟩ := P1
  rw [putK_bad] at i1 rest
  refine ⟨_, _, _, i1, T.k_Putting, T.n_Putting_refusal, _, rfl, rNeU_int.mpr ⟨_, rfl, ?_⟩⟩
  cases hb : Vaescc.badPut data l with
  | some n =>
   rw [hb] at q2 i1
   rw [if_pos (rf_pos (bp_ne n hb))]
   exact ⟨_, _, _, i1, T.k_Putting, T.n_Putting_refusal, _, rfl, f_ref q2 rfl s1 rfl⟩
  | none =>
   rw [hb] at q2 i1 rest
   rw [if_neg rf_non]
   obtain ⟨b1, hw, b3⟩ := put_ok hb
   obtain ⟨e1, e2, e3, e4⟩ := row_signs b1
   obtain ⟨vt, Fr, h1, h2, h3, h4⟩ := rest rfl
   have q3 := f_told q2 rfl
   rw [e1] at hrw
   rw [show l.map Int.toNat = Vaescc.nats l from rfl] at h2 h4
   obtain ⟨m1, m2, m3⟩ := fms_mk data hw
   have hrw1 := s1 _ _ hrw
   have h4' := h4
   obtain ⟨as, f1, f2⟩ := h4'
   have la := Paired.length f2
   refine ⟨_, _, _, i1, T.k_Putting, T.n_Putting_forms, _, rfl, _, lenv (SqL.of f1), szl, fun p hp => ?_⟩
   have s2 := same_new (o := HO.lst [V.int ((as.map V.ref).length : Int)]) hp
   refine ⟨_, _, _, s2 _ _ i1, T.k_Putting, T.n_Putting_forms, _, rfl, rw, fm, ⟨rfl, rfl⟩, _, s2.seq (SqL.of hrw1), _, h4.same s2, m3, by omega, fun p2 H3 hp2 s3 g3 => ?_⟩
   refine rAddU_new (s1.trans (s2.trans s3)) (s3 _ _ upd_same) g3 (by rw [vi_length]; have := ppf_len (Vaescc.nats l) 0 (fms data (Vaesca.read (Vaescc.nats l))); simp; omega) fun p3 H4 hp3 s4 _ h5 => q3 p3 H4 hp3 s4 ?_
   rw [h5, m2, List.length_map, la]; rfl
theorem gf_fill (T : Txt P w K mg CR CP CB) : GF P w K mg base "fill" (12 + 1) ["data", "numbers", "row"] (callSp (fun _ => True) (fun _ l => .fill l)) := by
 refine gf_mk T.f_fill sc_fill (fun _ _ _ _ _ _ => us3 fun _ _ _ => rfl) (fun vs H Q E h => ?_) (fun f cdv A outer s H vs Q E hr h => ?_)
 ·exact ln7 h fun _ _ _ _ _ _ _ => rfl
 ·obtain ⟨d, nn, rw, tt, data, nums, l, rfl, hDt, hok, hn, hrw, hz, hsh, hne, hnt, hdt, q⟩ := h
  have hD := hDt.same off_sub
  have q2 := q_of q hDt (ans := Vaescc.orRefuse (Vaescc.badPut data l) (Vaescc.shownTokens (Vaescc.fillTokens data (Vaesca.read (Vaescc.nats l)).tokens))) rfl
  refine ⟨_, (pss_cons (ps_set (i := 3) sc_fill.nd rfl (Or.inl rfl) (pe_mk (mk_of (gm_Putting___init__ T) T.c_Putting T.m_Putting T.e_Putting) (hr.mono (by decide)) rfl (pa_cons (pv 0) (pa_cons (pv 2) pa_nil)))) (pss_cons (ps_if (pt_cmpR (op_neW hr.units) (pe_fld (pv 3) rfl) (pe_gc T.g_NOT_REFUSED rfl) (nomark _)) (pss_one (ps_ret (pe_lst (pa_cons (pe_fld (pv 3) rfl) pa_nil)))) pss_nil) (pss_one (ps_ret (pe_gf (gf_told_tokens T) (hr.mono (by decide)) rfl (pa_cons (pe_gf (gf_filled_tokens T) (hr.mono (by decide)) rfl (pa_cons (pv 0) (pa_cons (pe_fld (pv 3) rfl) pa_nil))) pa_nil)))))), ?_⟩
  walk_at "s"
  refine fun r dx hr hdx hne2 => ⟨r, d, rw, ⟨rfl, rfl, rfl⟩, ⟨dx, upd_same⟩, data, l, H, hr, same_upd hr (same_new hdx), hD, hok, SqL.of hrw, hz, fun H1 P1 => ?_⟩
  obtain ⟨dx', tk, fm, i1, s1, rest⟩ := P1
  rw [putK_bad] at i1 rest
  refine ⟨_, _, _, i1, T.k_Putting, T.n_Putting_refusal, _, rfl, rNeU_int.mpr ⟨_, rfl, ?_⟩⟩
  cases hb : Vaescc.badPut data l with
  | some n =>
   rw [hb] at q2 i1
   rw [if_pos (rf_pos (bp_ne n hb))]
   exact ⟨_, _, _, i1, T.k_Putting, T.n_Putting_refusal, _, rfl, f_ref q2 rfl s1 rfl⟩
  | none =>
   rw [hb] at q2 i1 rest
   rw [if_neg rf_non]
   obtain ⟨b1, hw, b3⟩ := put_ok hb
   obtain ⟨e1, e2, e3, e4⟩ := row_signs b1
   obtain ⟨vt, Fr, h1, h2, h3, h4⟩ := rest rfl
   have q3 := f_told q2 rfl
   rw [e1] at hrw
   rw [show l.map Int.toNat = Vaescc.nats l from rfl] at h2 h4
   obtain ⟨m1, m2, m3⟩ := fms_mk data hw
   have hrw1 := s1 _ _ hrw
   obtain ⟨l1, l2⟩ := fill_len hok hw e2 e3
   refine ⟨_, _, _, i1, T.k_Putting, T.n_Putting_tokens, _, rfl, d, tk, ⟨rfl, rfl⟩, data, hD.same s1, _, _, h1, Fr, h2, h3, (fun t ht => nmt ((Mt.read_more hw).1 t ht)), by omega, fun p H2 vs2 Fr2 hp s2 g1 g2 g3 => ⟨_, g1, _, Fr2, g2, g3, by omega, fun p2 H3 hp2 s3 g4 => ?_⟩⟩
   exact q3 p2 H3 ((s1.trans s2).free hp2) ((s1.trans s2).trans s3) g4
end
end
end ML
section
namespace ML
open Vaesca
def nah (p : Int) : Nat := if p = 3 ∨ p = 4 ∨ p = 5 then 1 else if p = 6 then 2 else 0
def noRow (p : Int) : Prop := p = 0 ∨ p = 2
instance (p : Int) : Decidable (noRow p) := inferInstanceAs (Decidable (_ ∨ _))
def mkC (p : Int) (ns row : List Int) : Vaescc.Call :=
 if p = 0 then .begin_ else if p = 1 then .datum row else if p = 2 then .drop else if p = 3 then .escape (ns.headD 0) row
 else if p = 4 then .shortest (ns.headD 0) row else if p = 5 then .back (ns.headD 0) row else if p = 6 then .cut (ns.headD 0) (ns.tail.headD 0) row
 else if p = 7 then .quotes row else if p = 8 then .spots row else if p = 9 then .put row else if p = 10 then .parts row else if p = 11 then .fill row else .tokens row
theorem int13 {p : Int} (h0 : 0 ≤ p) (h1 : p ≤ 12) : p = 0 ∨ p = 1 ∨ p = 2 ∨ p = 3 ∨ p = 4 ∨ p = 5 ∨ p = 6 ∨ p = 7 ∨ p = 8 ∨ p = 9 ∨ p = 10 ∨ p = 11 ∨ p = 12 := by
 obtain ⟨n, rfl⟩ := Int.eq_ofNat_of_zero_le h0
 exact (by decide : ∀ n : Fin 13, ((n.val : Nat) : Int) = 0 ∨ ((n.val : Nat) : Int) = 1 ∨ ((n.val : Nat) : Int) = 2 ∨ ((n.val : Nat) : Int) = 3 ∨ ((n.val : Nat) : Int) = 4 ∨ ((n.val : Nat) : Int) = 5 ∨ ((n.val : Nat) : Int) = 6 ∨ ((n.val : Nat) : Int) = 7 ∨ ((n.val : Nat) : Int) = 8 ∨ ((n.val : Nat) : Int) = 9 ∨ ((n.val : Nat) : Int) = 10 ∨ ((n.val : Nat) : Int) = 11 ∨ ((n.val : Nat) : Int) = 12) ⟨n, by omega⟩
theorem shape_of {p : Int} {n k : Nat} (h : PyVaescc.shape p = some (n, k)) : 0 ≤ p ∧ p ≤ 12 ∧ n = nah p ∧ k = (if noRow p then 0 else 1) := by
 by_cases h0 : 0 ≤ p ∧ p ≤ 12
 ·rcases int13 h0.1 h0.2 with e | e | e | e | e | e | e | e | e | e | e | e | e <;> subst e <;> (injection h with h; injection h with h1 h2; subst h1 h2; decide)
 ·exfalso
  unfold PyVaescc.shape at h
  rw [if_neg (by omega), if_neg (by omega), if_neg (by omega), if_neg (by omega), if_neg (by omega), if_neg (by omega), if_neg (by omega), if_neg (by omega), if_neg (by omega), if_neg (by omega), if_neg (by omega), if_neg (by omega), if_neg (by omega)] at h
  cases h
theorem len1 {l : List Int} (h : l.length = 1) : ∃ k, l = [k] := match l, h with | [k], _ => ⟨k, rfl⟩
theorem len2 {l : List Int} (h : l.length = 2) : ∃ k n, l = [k, n] := match l, h with | [k, n], _ => ⟨k, n, rfl⟩
theorem len0 {l : List Int} (h : l.length = 0) : l = [] := List.eq_nil_of_length_eq_zero h
def rowsOf (p : Int) (ns row : List Int) : List (List Int) := if noRow p then [p :: ns] else [p :: ns, row]
theorem step_eq {p : Int} {ns row : List Int} (h0 : 0 ≤ p) (h1 : p ≤ 12) (hn : ns.length = nah p) (data : List (List Nat)) :
  VaesccNeutral.step ⟨data⟩ (PyVaescc.whole (rowsOf p ns row)) = (⟨(stp (mkC p ns row) data).1⟩, (stp (mkC p ns row) data).2) := by
 rcases int13 h0 h1 with e | e | e | e | e | e | e | e | e | e | e | e | e <;> subst e
 ·cases len0 hn; rfl
 ·cases len0 hn; rfl
 ·cases len0 hn; rfl
 ·obtain ⟨k, rfl⟩ := len1 hn; rfl
 ·obtain ⟨k, rfl⟩ := len1 hn; rfl
 ·obtain ⟨k, rfl⟩ := len1 hn; rfl
 ·obtain ⟨k, n, rfl⟩ := len2 hn; rfl
 ·cases len0 hn; rfl
 ·cases len0 hn; rfl
 ·cases len0 hn; rfl
 ·cases len0 hn; rfl
 ·cases len0 hn; rfl
 ·cases len0 hn; rfl
theorem row_short {p : Int} {ns row : List Int} (h0 : 0 ≤ p) (h1 : p ≤ 12) (hn : ns.length = nah p) (hr : noRow p → row = []) (ha : VaesccNeutral.asked1 (PyVaescc.whole (rowsOf p ns row)) = true) : row.length ≤ 5000 := by
 rcases int13 h0 h1 with e | e | e | e | e | e | e | e | e | e | e | e | e <;> subst e
 ·rw [hr (by decide)]; exact Nat.zero_le _
 ·cases len0 hn
  have ha : ((row.all fun z => VaesccNeutral.whole60 z) && decide (row.length ≤ 5000)) = true := ha
  rw [Bool.and_eq_true] at ha; exact of_decide_eq_true ha.2
 ·rw [hr (by decide)]; exact Nat.zero_le _
 ·obtain ⟨k, rfl⟩ := len1 hn
  have ha : (VaesccNeutral.whole60 k && ((row.all fun z => VaesccNeutral.whole60 z) && decide (row.length ≤ 5000))) = true := ha
  rw [Bool.and_eq_true, Bool.and_eq_true] at ha; exact of_decide_eq_true ha.2.2
 ·obtain ⟨k, rfl⟩ := len1 hn
  have ha : (VaesccNeutral.whole60 k && ((row.all fun z => VaesccNeutral.whole60 z) && decide (row.length ≤ 5000))) = true := ha
  rw [Bool.and_eq_true, Bool.and_eq_true] at ha; exact of_decide_eq_true ha.2.2
 ·obtain ⟨k, rfl⟩ := len1 hn
  have ha : (VaesccNeutral.whole60 k && ((row.all fun z => VaesccNeutral.whole60 z) && decide (row.length ≤ 5000))) = true := ha
  rw [Bool.and_eq_true, Bool.and_eq_true] at ha; exact of_decide_eq_true ha.2.2
 ·obtain ⟨k, n, rfl⟩ := len2 hn
  have ha : (VaesccNeutral.whole60 k && (VaesccNeutral.whole60 n && ((row.all fun z => VaesccNeutral.whole60 z) && decide (row.length ≤ 5000)))) = true := ha
  rw [Bool.and_eq_true, Bool.and_eq_true, Bool.and_eq_true] at ha; exact of_decide_eq_true ha.2.2.2
 all_goals
  cases len0 hn
  have ha : ((row.all fun z => VaesccNeutral.whole60 z) && decide (row.length ≤ 5000)) = true := ha
  rw [Bool.and_eq_true] at ha; exact of_decide_eq_true ha.2
theorem call_one {l : List Int} {place : Nat} {p : Int} {r t : List Int} {c : List (List Int)} (hd : l.drop place = p :: r) (h : PyFlat.call PyVaescc.shape (p :: r) = some (c, t)) :
  ∃ ns row : List Int, ∃ pl : Nat, l[place]? = some p ∧ 0 ≤ p ∧ p ≤ 12 ∧ ns = (l.drop (place + 1)).take (nah p) ∧ ns.length = nah p ∧ c = rowsOf p ns row ∧ t = l.drop pl ∧ place < pl ∧ pl ≤ l.length ∧
   (noRow p → row = [] ∧ pl = place + 1 + nah p) ∧ (¬ noRow p → ∃ n : Nat, l[place + 1 + nah p]? = some (n : Int) ∧ pl = place + 1 + nah p + 1 + n ∧ row = (l.drop (place + 1 + nah p + 1)).take n) := by
 unfold PyFlat.call at h
 simp only at h
 have hl : place < l.length := by
  apply Classical.byContradiction
  intro z
  rw [List.drop_eq_nil_of_le (by omega)] at hd; cases hd
 have hr : r = l.drop (place + 1) := by
  have := congrArg List.tail hd
  rw [List.tail_drop] at this
  exact this.symm
 have hp : l[place]? = some p := by
  have := congrArg (fun x => x[0]?) hd
  simpa using this
 have rl : r.length = l.length - (place + 1) := by rw [hr, List.length_drop]
 cases hs : PyVaescc.shape p with
 | none => rw [hs] at h; cases h
 | some nk =>
  obtain ⟨n, k⟩ := nk
  obtain ⟨p0, p1, rfl, rfl⟩ := shape_of hs
  rw [hs] at h
  simp only at h
  split at h
  ·cases h
  ·rename_i hn
   have dr : r.drop (nah p) = l.drop (place + 1 + nah p) := by rw [hr, List.drop_drop]
   have tl : (r.take (nah p)).length = nah p := by rw [List.length_take]; omega
   by_cases hw : noRow p
   ·rw [if_pos hw] at h
    simp only [PyFlat.rows] at h
    injection h with h; injection h with h1 h2
    refine ⟨r.take (nah p), [], place + 1 + nah p, hp, p0, p1, by rw [hr], tl, ?_, by rw [← h2, dr], by omega, by omega, fun _ => ⟨rfl, rfl⟩, fun z => absurd hw z⟩
    rw [← h1]; unfold rowsOf; rw [if_pos hw]
   ·rw [if_neg hw] at h
    simp only [PyFlat.rows] at h
    cases hrow : PyFlat.row (r.drop (nah p)) with
    | none => rw [hrow] at h; cases h
    | some xs =>
     obtain ⟨x, s⟩ := xs
     rw [hrow] at h
     simp only at h
     injection h with h; injection h with h1 h2
     rw [dr] at hrow
     cases hd2 : l.drop (place + 1 + nah p) with
     | nil => rw [hd2] at hrow; cases hrow
     | cons n r2 =>
      rw [hd2] at hrow
      have hr2 : r2 = l.drop (place + 1 + nah p + 1) := by
       have := congrArg List.tail hd2
       rw [List.tail_drop] at this
       exact this.symm
      have hp2 : l[place + 1 + nah p]? = some n := by
       have := congrArg (fun x => x[0]?) hd2
       simpa using this
      unfold PyFlat.row at hrow
      simp only at hrow
      split at hrow
      ·rename_i z
       injection hrow with hrow; injection hrow with e1 e2
       have hl2 : place + 1 + nah p < l.length := by
        apply Classical.byContradiction
        intro z
        rw [List.drop_eq_nil_of_le (by omega)] at hd2; cases hd2
       have r2l : r2.length = l.length - (place + 1 + nah p + 1) := by rw [hr2, List.length_drop]
       refine ⟨r.take (nah p), x, place + 1 + nah p + 1 + n.toNat, hp, p0, p1, by rw [hr], tl, ?_, by rw [← h2, ← e2, hr2, List.drop_drop], by omega, by omega, fun z => absurd z hw, fun _ => ⟨n.toNat, by rw [hp2]; congr 1; omega, rfl, by rw [← e1, hr2]⟩⟩
       rw [← h1]; unfold rowsOf; rw [if_neg hw]
      ·cases hrow
theorem ite_ind {c : Prop} [Decidable c] {α : Type} {C : α → Prop} {a b : α} (ha : C a) (hb : C b) : C (if c then a else b) := by split <;> assumption
theorem mkC_cases {C : Vaescc.Call → Prop} (p : Int) (ns row : List Int) (h0 : C .begin_) (h1 : C (.datum row)) (h2 : C .drop) (h3 : ∀ k, C (.escape k row)) (h4 : ∀ k, C (.shortest k row)) (h5 : ∀ k, C (.back k row)) (h6 : ∀ k n, C (.cut k n row)) (h7 : C (.quotes row)) (h8 : C (.spots row)) (h9 : C (.put row)) (h10 : C (.parts row)) (h11 : C (.fill row)) (h12 : C (.tokens row)) : C (mkC p ns row) :=
 ite_ind h0 (ite_ind h1 (ite_ind h2 (ite_ind (h3 _) (ite_ind (h4 _) (ite_ind (h5 _) (ite_ind (h6 _ _) (ite_ind h7 (ite_ind h8 (ite_ind h9 (ite_ind h10 (ite_ind h11 h12)))))))))))
theorem dok_step {data : List (List Nat)} (h : DOk data) (p : Int) (ns row : List Int) : DOk (stp (mkC p ns row) data).1 := by
 have hn : DOk [] := ⟨by decide, fun t z => nomatch z⟩
 have hd : DOk data.dropLast := ⟨by rw [List.length_dropLast]; have := h.len; omega, fun t z => h.each t (List.dropLast_subset _ z)⟩
 have ha : ∀ row, DOk (Vaescc.doDatum ⟨data⟩ row).1.data := by
  intro row
  unfold Vaescc.doDatum
  cases hb : Vaescc.badBytes Vaescc.DATUM row with
  | some n => exact h
  | none =>
   simp only
   split
   ·exact h
   ·rename_i z
    obtain ⟨_, e2, e3⟩ := row_nats (m := 512) hb
    refine ⟨?_, fun t ht => ?_⟩
    ·show (data ++ [_]).length ≤ 64
     rw [List.length_append]
     have : ¬ 64 ≤ data.length := z
     simp; omega
    ·rcases List.mem_append.mp ht with ht | ht
     ·exact h.each t ht
     ·rw [List.mem_singleton.mp ht]; exact ⟨e3, e2⟩
 have hD : DOk (Vaescc.doDrop ⟨data⟩).1.data := by
  unfold Vaescc.doDrop
  split
  ·exact h
  ·exact hd
 exact mkC_cases (C := fun c => DOk (stp c data).1) p ns row hn (ha _) hD (fun _ => h) (fun _ => h) (fun _ => h) (fun _ _ => h) h h h h h h
theorem enc_len (t : List Nat) : (VaesccNeutral.encode (.told t)).length = t.length := by unfold VaesccNeutral.encode; rw [List.length_map]
theorem or_len {bad : Option Nat} {t : List Nat} {n : Nat} (h1 : 1 ≤ n) (h : bad = none → t.length ≤ n) : (VaesccNeutral.encode (Vaescc.orRefuse bad t)).length ≤ n := by
 cases bad with
 | some k => exact h1
 | none => unfold Vaescc.orRefuse; rw [enc_len]; exact h rfl
theorem nats_len (l : List Int) : (Vaescc.nats l).length = l.length := by unfold Vaescc.nats; rw [List.length_map]
theorem ro_len {x l : List Nat} {n : Nat} (h1 : 3 ≤ n) (h : (Vaesca.read x).wrong = none → l.length + 1 ≤ n) : (Vaescc.readOr x l).length ≤ n := by
 unfold Vaescc.readOr
 cases hw : (Vaesca.read x).wrong with
 | some w => exact h1
 | none => exact h hw
theorem stp_len {data : List (List Nat)} (hd : DOk data) (p : Int) (ns row : List Int) (hr : row.length ≤ 5000) : (stp (mkC p ns row) data).2.length ≤ 162402 := by
 have rn := nats_len row
 have he : ∀ k, (VaesccNeutral.encode (Vaescc.orRefuse (Vaescc.badKind k row) (Vaescc.counted (Vaescc.escape k.toNat (Vaescc.nats row))))).length ≤ 162402 := fun k => or_len (by decide) fun _ => by
  have le : (Vaescc.escape k.toNat (Vaescc.nats row)).length ≤ 6 * (Vaescc.nats row).length := flat_len (esc_len k.toNat) (Vaescc.nats row)
  rw [counted_len]; omega
 have hs : ∀ k, (VaesccNeutral.encode (Vaescc.doShortest k row)).length ≤ 162402 := fun k => by
  unfold Vaescc.doShortest
  cases Vaescc.badKind k row with
  | some n => exact (by decide : 1 ≤ 162402)
  | none =>
   cases hsh : Vaescc.shortest k.toNat (Vaescc.nats row) with
   | none => exact (by decide : 1 ≤ 162402)
   | some s =>
    unfold Vaescc.shortest at hsh
    split at hsh
    ·cases hsh
    ·injection hsh with hsh
     have le : ((Vaescc.nats row).flatMap (Vaescc.shortByte k.toNat)).length ≤ 6 * (Vaescc.nats row).length := flat_len (sho_len k.toNat) (Vaescc.nats row)
     rw [hsh] at le
     show (VaesccNeutral.encode (.told (Vaescc.counted s))).length ≤ _
     rw [enc_len, counted_len]; omega
 have hb : ∀ k, (VaesccNeutral.encode (Vaescc.orRefuse (Vaescc.badKind k row) (Vaescc.shownBack (Vaescc.back k.toNat (Vaescc.nats row))))).length ≤ 162402 := fun k => or_len (by decide) fun _ => by
  have F := Mt.BInv.run k.toNat (Vaescc.nats row) (Vaescc.nats row).length (Nat.le_refl _)
  rw [List.take_length] at F
  have := F.con
  unfold Vaescc.back
  simp only
  split
  ·exact (by decide : 3 ≤ 162402)
  ·split
   ·exact (by decide : 3 ≤ 162402)
   ·show (Vaescc.counted _).length + 1 ≤ _
    rw [counted_len]; omega
 have hc : ∀ k n, (VaesccNeutral.encode (Vaescc.doCut k n row)).length ≤ 162402 := fun k n => by
  unfold Vaescc.doCut
  cases Vaescc.badKind k row with
  | some n => exact (by decide : 1 ≤ 162402)
  | none =>
   simp only
   split
   ·exact (by decide : 1 ≤ 162402)
   ·split
    ·exact (by decide : 1 ≤ 162402)
    ·rw [enc_len, counted_len]
     unfold Vaescc.cut
     rw [List.length_take]; omega
 have hdt : (VaesccNeutral.encode (Vaescc.doDatum ⟨data⟩ row).2).length ≤ 162402 := by
  unfold Vaescc.doDatum
  cases Vaescc.badBytes Vaescc.DATUM row with
  | some n => exact (by decide : 1 ≤ 162402)
  | none => simp only; split <;> exact (by decide : 1 ≤ 162402)
 have hdr : (VaesccNeutral.encode (Vaescc.doDrop ⟨data⟩).2).length ≤ 162402 := by
  unfold Vaescc.doDrop
  split <;> exact (by decide : 1 ≤ 162402)
 have hq : (VaesccNeutral.encode (Vaescc.orRefuse (Vaescc.badBytes Vaescc.MOST row) [(Vaescc.quotes (Vaescc.nats row)).1, (Vaescc.quotes (Vaescc.nats row)).2])).length ≤ 162402 := or_len (by decide) fun _ => Nat.le_of_ble_eq_true rfl
 have hsp : (VaesccNeutral.encode (Vaescc.orRefuse (Vaescc.badSigns row) (Vaescc.readOr (Vaescc.nats row) (Vaescc.shownPairs (Vaesca.read (Vaescc.nats row)).marks)))).length ≤ 162402 := or_len (by decide) fun _ => ro_len (by decide) fun _ => by
  have := Mt.read_marks (Vaescc.nats row)
  have e : ((Vaesca.read (Vaescc.nats row)).marks.flatMap fun p => [p.1, p.2]).length = 2 * (Vaesca.read (Vaescc.nats row)).marks.length := prs_len _
  show (_ :: List.flatMap _ _).length + 1 ≤ _
  rw [List.length_cons, e]; omega
 have htk : (VaesccNeutral.encode (Vaescc.orRefuse (Vaescc.badSigns row) (Vaescc.readOr (Vaescc.nats row) (Vaescc.shownTokens (Vaesca.read (Vaescc.nats row)).tokens)))).length ≤ 162402 := or_len (by decide) fun hb => ro_len (by decide) fun hw => by
  obtain ⟨_, e2, e3, _⟩ := row_signs hb
  have := toks_len hw e2 e3
  omega
 have hpu : (VaesccNeutral.encode (Vaescc.orRefuse (Vaescc.badPut data row) (Vaescc.counted (Vaescc.put data (Vaescc.nats row))))).length ≤ 162402 := or_len (by decide) fun hb => by
  have := (put_ok hb).2.2
  rw [counted_len]; omega
 have hpa : (VaesccNeutral.encode (Vaescc.orRefuse (Vaescc.badPut data row) (Vaescc.shownPairs (Vaescc.parts data (Vaescc.nats row))))).length ≤ 162402 := or_len (by decide) fun hb => by
  obtain ⟨_, hw, _⟩ := put_ok hb
  have := ppf_len (Vaescc.nats row) 0 (fms data (Vaesca.read (Vaescc.nats row)))
  rw [(fms_mk data hw).2.1, List.length_cons]; omega
 have hfi : (VaesccNeutral.encode (Vaescc.orRefuse (Vaescc.badPut data row) (Vaescc.shownTokens (Vaescc.fillTokens data (Vaesca.read (Vaescc.nats row)).tokens)))).length ≤ 162402 := or_len (by decide) fun hb => by
  obtain ⟨b1, hw, _⟩ := put_ok hb
  obtain ⟨_, e2, e3, _⟩ := row_signs b1
  have := (fill_len hd hw e2 e3).1
  omega
 exact mkC_cases (C := fun c => (stp c data).2.length ≤ 162402) p ns row (by decide : 1 ≤ 162402) hdt hdr he hs hb hc hq hsp hpu hpa hfi htk
end ML
end
namespace ML
open PySem PySem.Spec PyProof.Rows L2
section
variable {P : Program} {w : World} {K : PySem.W.Frag} {mg : Str → Option Value} {base : Heap} {CR CP CB : Addr}
section
def plc (σ : L2.St) : Int := match σ[3]? with
 | some (some (V.int i)) => i
 | _ => 0
def AnI (H : Hp) (a d tt : Addr) (l : List Int) (σ : L2.St) (H' : Hp) : Prop := ∃ (place : Nat) (data : List (List Nat)) (told : List Int) (cs : List (List (List Int))) (fuel : Nat) (o4 o5 o6 o7 o8 : Option V), σ = [some (.ref a), some (.ref d), some (.ref tt), some (.int (place : Nat)), o4, o5, o6, o7, o8] ∧ place ≤ l.length ∧ Same H H' ∧ Dt (off H' tt) d data ∧ DOk data ∧ H' tt = some (.lst (told.map V.int)) ∧
 PyFlat.calls PyVaescc.shape fuel (l.drop place) = some cs ∧ told ++ PyFlat.told (PyFlat.played VaesccNeutral.step ⟨data⟩ (cs.map PyVaescc.whole)) = PyVaescc.answers l ∧ (∀ c ∈ cs, VaesccNeutral.asked1 (PyVaescc.whole c) = true) ∧ cs.length ≤ 100 ∧ told.length + 162500 * cs.length ≤ 16250000
def AnM (H1 : Hp) (a d tt : Addr) (pl rp : Nat) (p : Int) (ns row : List Int) (σ : L2.St) (H' : Hp) : Prop := ∃ nn rw o8, σ = [some (.ref a), some (.ref d), some (.ref tt), some (.int (pl : Nat)), some (.int p), some (.int (rp : Nat)), some (.ref nn), some (.ref rw), o8] ∧ Same H1 H' ∧ H' nn = some (.lst (ns.map V.int)) ∧ H' rw = some (.lst (row.map V.int)) ∧ H1 rw = none
theorem cut_map (l : List Int) (i j : Nat) : cutV (l.map V.int) (some (i : Int)) (some (j : Int)) = ((l.drop i).take (j - i)).map V.int := by
 rw [cutV_nat, List.map_take, List.map_drop]
theorem calls_nil (f : Nat) : PyFlat.calls PyVaescc.shape f [] = some [] := by cases f <;> rfl
theorem calls_cons {f : Nat} {p : Int} {r : List Int} {cs : List (List (List Int))} (h : PyFlat.calls PyVaescc.shape f (p :: r) = some cs) : ∃ g c t cs', PyFlat.call PyVaescc.shape (p :: r) = some (c, t) ∧ PyFlat.calls PyVaescc.shape g t = some cs' ∧ cs = c :: cs' := by
 cases f with
 | zero => cases h
 | succ g =>
  unfold PyFlat.calls at h
  cases hc : PyFlat.call PyVaescc.shape (p :: r) with
  | none => rw [hc] at h; cases h
  | some ct =>
   obtain ⟨c, t⟩ := ct
   rw [hc] at h
   simp only at h
   cases hd : PyFlat.calls PyVaescc.shape g t with
   | none => rw [hd] at h; cases h
   | some cs' =>
    rw [hd] at h
    simp only at h
    injection h with h
    exact ⟨g, c, t, cs', rfl, hd, h.symm⟩
theorem callSp_mono {sh sh' : List Int → Prop} {mk mk' : List Int → List Int → Vaescc.Call} (h1 : ∀ ns, sh ns → sh' ns) (h2 : ∀ ns l, sh ns → mk ns l = mk' ns l) {vs : List V} {H : Hp} {Q : VK} {E : XK} (h : callSp sh mk vs H Q E) : callSp sh' mk' vs H Q E := by
 obtain ⟨d, nn, rw, tt, data, nums, l, e, hD, hok, hn, hrw, hz, hsh, hne, hnt, hdt, q⟩ := h
 refine ⟨d, nn, rw, tt, data, nums, l, e, hD, hok, hn, hrw, hz, h1 _ hsh, hne, hnt, hdt, ?_⟩
 rw [← h2 _ _ hsh]; exact q
theorem nah_val {p : Int} (h0 : 0 ≤ p) (h1 : p ≤ 12) : (valV (κ := Key) [(Sum.inl 3, V.int 1), (Sum.inl 4, V.int 1), (Sum.inl 5, V.int 1), (Sum.inl 6, V.int 2)] (Sum.inl p)).getD (V.int 0) = V.int (nah p : Nat) := by
 rcases int13 h0 h1 with e | e | e | e | e | e | e | e | e | e | e | e | e <;> subst e <;> rfl
theorem fx_answers (T : Txt P w K mg CR CP CB) : FX P w K mg "answers" (13 + 1) ["calls"] (fun vs H Q _ => ∃ a l, vs = [.ref a] ∧ SqL K H a (l.map V.int) ∧ PyVaescc.answers_asked l = true ∧ ∀ p H', H p = none → Same H H' → H' p = some (.lst ((PyVaescc.answers l).map V.int)) → Q (.ref p) H') := by
 refine gf_mkA T.f_answers sc_answers (fun _ _ _ _ _ _ => us1 fun _ => rfl) (fun vs H Q E h => ?_) (fun base f cdv A outer s H vs Q E hr h => ?_)
 ·exact ln2 h fun _ _ => rfl
 ·obtain ⟨a, l, rfl, ha, hk, q⟩ := h
  have S := T.g_CALLS
  obtain ⟨a_begin, a_datum, a_drop, a_escape, a_shortest, a_back, a_cut, a_quotes, a_spots, a_put, a_parts, a_fill, a_tokens, h0, h1, h2, h3, h4, h5, h6, h7, h8, h9, h10, h11, h12, S⟩ := S
  refine ⟨_, (pss_cons (ps_set (i := 1) sc_answers.nd rfl (Or.inl rfl) (pe_lst pa_nil)) (pss_cons (ps_set (i := 2) sc_answers.nd rfl (Or.inl rfl) (pe_lst pa_nil)) (pss_cons (ps_set (i := 3) sc_answers.nd rfl (Or.inl rfl) pe_int) (pss_cons (ps_while PassesOwn.never (pt_cmpR op_lt (pv 3) (pe_callB call_len rfl T.b_len PySem.boot_len (pa_cons (pv 0) pa_nil)) (nomark _)) (pss_cons (ps_set (i := 4) sc_answers.nd rfl (Or.inl rfl) (pe_ix ix_seq (pv 0) (pv 3) (fun _ _ => rfl))) (pss_cons (ps_set (i := 5) sc_answers.nd rfl (Or.inl rfl) (pe_op op_addW (pe_op op_addW (pv 3) pe_int) (pe_gdget2 (hu_of hr) T.g_NUMBERS_AHEAD rfl (pv 4) pe_int ⟨rfl, rfl, rfl, rfl⟩))) (pss_cons (ps_set (i := 6) sc_answers.nd rfl (Or.inl rfl) (pe_slice sl_list (pv 0) (po_some (pe_op op_addW (pv 3) pe_int)) (po_some (pv 5)))) (pss_cons (ps_set (i := 7) sc_answers.nd rfl (Or.inl rfl) (pe_lst pa_nil)) (pss_cons (ps_set (i := 3) sc_answers.nd rfl (Or.inl rfl) (pv 5)) (pss_cut (ps_if (pt_cmp (pc_notInC [0, 2] T.g_WITHOUT_ROW rfl (pv 4))) (pss_cons (ps_set (i := 3) sc_answers.nd rfl (Or.inl rfl) (pe_op op_addW (pe_op op_addW (pv 5) pe_int) (pe_ix ix_seq (pv 0) (pv 5) (fun _ _ => rfl)))) (pss_one (ps_set (i := 7) sc_answers.nd rfl (Or.inl rfl) (pe_slice sl_list (pv 0) (po_some (pe_op op_addW (pv 5) pe_int)) (po_some (pv 3)))))) pss_nil) (pss_cons (ps_set (i := 8) sc_answers.nd rfl (Or.inl rfl) (pe_gdget (hu_of hr) S rfl (pv 4) (fun _ _ => rfl))) (pss_one (ps_expr (pe_bm PySem.F.plainAttrs_list PySem.F.slot_list_extend PySem.F.type_list_extend mt_extend (pv 2) (pa_cons (pe_gf (gf_counted T) (hr.mono (by decide)) rfl (pa_cons (pe_callV (pv 8) hr (pa_cons (pv 1) (pa_cons (pv 6) (pa_cons (pv 7) pa_nil)))) pa_nil)) pa_nil)))))))))))) (pss_one (ps_ret (pv 2))))))), ?_⟩
  walk_at "s"
  refine ⟨szl, fun d hd => ⟨szl, fun tt ht => ?_⟩⟩
  have ndt : d ≠ tt := fun e => by subst e; rw [upd_same] at ht; cases ht
  have ht0 : H tt = none := np_of ht
  have s0 : Same H (upd (upd H d (HO.lst [])) tt (HO.lst [])) := (same_new hd).trans (same_new ht)
  refine while_by (AnI H a d tt l) (fun σ _ => ((l.length : Int) - plc σ).toNat) ?_ ?_ ?_
  ·unfold PyVaescc.answers_asked PyVaescc.calls at hk
   cases hcs : PyFlat.calls PyVaescc.shape l.length l with
   | none => rw [hcs] at hk; cases hk
   | some cs =>
    rw [hcs] at hk
    simp only [Bool.and_eq_true] at hk
    have k1 : (cs.map PyVaescc.whole).length ≤ 100 := of_decide_eq_true hk.1
    have k2 := hk.2
    unfold VaesccNeutral.asked at k2
    rw [Bool.and_eq_true, List.all_eq_true] at k2
    rw [List.length_map] at k1
    refine ⟨0, [], [], cs, l.length, none, none, none, none, none, rfl, Nat.zero_le _, s0, ⟨[], off_at ndt (by rw [upd_ne ndt]; exact upd_same), .nil⟩, ⟨by decide, fun t z => nomatch z⟩, upd_same, hcs, ?_, fun c hc => k2.1 _ (List.mem_map.mpr ⟨c, hc, rfl⟩), k1, by simp; omega⟩
    unfold PyVaescc.answers PyVaescc.calls
    rw [hcs]; rfl
  ·rintro σ H1 ⟨place, data, told, cs, fuel, o4, o5, o6, o7, o8, rfl, hpl, s1, hD, hok, htt, hc, ht1, hask, hcl, htl⟩
   have ha1 := s1.seq ha
   walk_at "s"
   refine ⟨_, lenv (ha1), ?_⟩
   rw [List.length_map]
   split
   ·rename_i z
    have hlt : place < l.length := by simpa using z
    have hdc : l.drop place = l[place] :: l.drop (place + 1) := List.drop_eq_getElem_cons hlt
    rw [hdc] at hc
    obtain ⟨g, c, t, cs', e1, e2, rfl⟩ := calls_cons hc
    obtain ⟨ns, row, pl, hp, p0, p1, hns, hnl, rfl, rfl, hlt2, hle2, hR0, hR1⟩ := call_one hdc e1
    generalize l[place] = p at hp p0 p1 hns hnl e1 hR0 hR1 hask ht1
    have hrl : row.length ≤ 5000 := row_short p0 p1 hnl (fun z => (hR0 z).1) (hask _ (List.mem_cons_self ..))
    have hD1 := hD.same off_sub
    have hsl := stp_len hok p ns row hrl
    have hsl2 : (stp (mkC p ns row) data).2.length + 1 ≤ 162403 := by omega
    have act : ∃ v, valV (κ := Key) [(Sum.inl 0, V.ref a_begin), (Sum.inl 1, V.ref a_datum), (Sum.inl 2, V.ref a_drop), (Sum.inl 3, V.ref a_escape), (Sum.inl 4, V.ref a_shortest), (Sum.inl 5, V.ref a_back), (Sum.inl 6, V.ref a_cut), (Sum.inl 7, V.ref a_quotes), (Sum.inl 8, V.ref a_spots), (Sum.inl 9, V.ref a_put), (Sum.inl 10, V.ref a_parts), (Sum.inl 11, V.ref a_fill), (Sum.inl 12, V.ref a_tokens)] (Sum.inl p) = some v ∧ ∃ ps sp, Callee P w K mg base v 13 ps sp ∧ ∀ vs H Q, callSp (fun x => x = ns) (fun x y => mkC p x y) vs H Q E0 → sp vs H Q E0 := by
     rcases int13 p0 p1 with e | e | e | e | e | e | e | e | e | e | e | e | e <;> subst e
     ·exact ⟨.ref a_begin, rfl, _, _, callee_of (gf_begin T) h0 (by decide), fun _ _ _ => callSp_mono (fun _ _ => trivial) fun _ _ _ => rfl⟩
     ·exact ⟨.ref a_datum, rfl, _, _, callee_of (gf_datum T) h1 (by decide), fun _ _ _ => callSp_mono (fun _ _ => trivial) fun _ _ _ => rfl⟩
     ·exact ⟨.ref a_drop, rfl, _, _, callee_of (gf_drop T) h2 (by decide), fun _ _ _ => callSp_mono (fun _ _ => trivial) fun _ _ _ => rfl⟩
     ·exact ⟨.ref a_escape, rfl, _, _, callee_of (gf_escape T) h3 (by decide), fun _ _ _ => callSp_mono (fun _ e => by subst e; exact len1 hnl) fun _ _ _ => rfl⟩
     ·exact ⟨.ref a_shortest, rfl, _, _, callee_of (gf_shortest T) h4 (by decide), fun _ _ _ => callSp_mono (fun _ e => by subst e; exact len1 hnl) fun _ _ _ => rfl⟩
     ·exact ⟨.ref a_back, rfl, _, _, callee_of (gf_back T) h5 (by decide), fun _ _ _ => callSp_mono (fun _ e => by subst e; exact len1 hnl) fun _ _ _ => rfl⟩
     ·exact ⟨.ref a_cut, rfl, _, _, callee_of (gf_cut T) h6 (by decide), fun _ _ _ => callSp_mono (fun _ e => by subst e; exact len2 hnl) fun _ _ _ => rfl⟩
     ·exact ⟨.ref a_quotes, rfl, _, _, callee_of (gf_quotes T) h7 (by decide), fun _ _ _ => callSp_mono (fun _ _ => trivial) fun _ _ _ => rfl⟩
     ·exact ⟨.ref a_spots, rfl, _, _, callee_of (gf_spots T) h8 (by decide), fun _ _ _ => callSp_mono (fun _ _ => trivial) fun _ _ _ => rfl⟩
     ·exact ⟨.ref a_put, rfl, _, _, callee_of (gf_put T) h9 (by decide), fun _ _ _ => callSp_mono (fun _ _ => trivial) fun _ _ _ => rfl⟩
     ·exact ⟨.ref a_parts, rfl, _, _, callee_of (gf_parts T) h10 (by decide), fun _ _ _ => callSp_mono (fun _ _ => trivial) fun _ _ _ => rfl⟩
     ·exact ⟨.ref a_fill, rfl, _, _, callee_of (gf_fill T) h11 (by decide), fun _ _ _ => callSp_mono (fun _ _ => trivial) fun _ _ _ => rfl⟩
     ·exact ⟨.ref a_tokens, rfl, _, _, callee_of (gf_tokens T) h12 (by decide), fun _ _ _ => callSp_mono (fun _ _ => trivial) fun _ _ _ => rfl⟩
    refine rIx_lst (j := place) (v := .int p) (ha1) rfl (by rw [List.getElem?_map, hp]; rfl) ⟨Sum.inl p, rfl, ?_⟩
    rw [nah_val p0 p1]
    refine rAddU_int.mpr ⟨_, rfl, _, ha1, fun nn hnn => ⟨szl, fun rw0 hrw0 => ?_⟩⟩
    have ecut : cutV (l.map V.int) (some ((place : Int) + 1)) (some ((place : Int) + 1 + (nah p : Nat))) = ns.map V.int := by
     have := cut_map l (place + 1) (place + 1 + nah p)
     rw [show place + 1 + nah p - (place + 1) = nah p by omega, ← hns] at this
     exact this
    rw [ecut] at hrw0 ⊢
    have s2 := (same_new (o := HO.lst (ns.map V.int)) hnn).trans (same_new (o := HO.lst []) hrw0)
    refine ⟨AnM H1 a d tt pl (place + 1 + nah p) p ns row, ?_, ?_⟩
    ·walk_at "s"
     by_cases hw : noRow p
     ·rw [if_neg (by rcases hw with e | e <;> (subst e; decide))]
      obtain ⟨rfl, rfl⟩ := hR0 hw
      exact ⟨nn, rw0, o8, rfl, s2, upd_of hrw0 upd_same, upd_same, np_of hrw0⟩
     ·have hm : p ∉ [(0 : Int), 2] := fun z => hw (by simpa [noRow] using z)
      rw [if_pos (by simpa using hm)]
      obtain ⟨n, hn, rfl, rfl⟩ := hR1 hw
      refine rIx_lst (j := place + 1 + nah p) (v := .int n) (s2.seq ha1) rfl (by rw [List.getElem?_map, hn]; rfl) (rAddU_int.mpr ⟨_, rfl, _, s2.seq ha1, fun rw1 hrw1 => ?_⟩)
      have ecut2 : cutV (l.map V.int) (some ((place : Int) + 1 + (nah p : Nat) + 1)) (some ((place : Int) + 1 + (nah p : Nat) + 1 + (n : Nat))) = ((l.drop (place + 1 + nah p + 1)).take n).map V.int := by
       have := cut_map l (place + 1 + nah p + 1) (place + 1 + nah p + 1 + n)
       rw [show place + 1 + nah p + 1 + n - (place + 1 + nah p + 1) = n by omega] at this
       exact this
      rw [ecut2]
      exact ⟨nn, rw1, o8, rfl, s2.trans (same_new hrw1), upd_of hrw1 (upd_of hrw0 upd_same), upd_same, s2.free hrw1⟩
    ·rintro σ H2 ⟨nn2, rw2, o8', rfl, s3, g1, g2, g3⟩
     walk_at "s"
     obtain ⟨v, hv, ps, sp, hC, hsp⟩ := act
     have htt2 := s3 _ _ htt
     obtain ⟨as, hd1, _⟩ := hD1
     have nd : rw2 ≠ d := fun e => by rw [e, hd1] at g3; cases g3
     have nt : rw2 ≠ tt := fun e => by rw [e, htt] at g3; cases g3
     have hsz : (sizeLine : Nat) = 16777216 := sizeLine_eq
     simp only [List.length_cons] at htl hcl
     refine ⟨Sum.inl p, rfl, v, hv, tyL htt2, ps, sp, hC, hsp _ _ _ ⟨d, nn2, rw2, tt, data, ns, row, rfl, hD.same (off_mono s3), hok, g1, g2, hrl, rfl, nd, nt, ndt, fun q1 H3 hq1 k3 D3 r3 => ⟨q1, rfl, _, r3, ?_, fun p2 H4 hp2 s4 r4 => ⟨p2, rfl, _, s4 _ _ (k3 _ _ htt2 (fun e => ndt (Eq.symm e))), _, r4, ?_, ⟨pl, _, told ++ ((stp (mkC p ns row) data).2.length : Int) :: (stp (mkC p ns row) data).2, cs', g, _, _, _, _, _, rfl, hle2, ?_, D3.same ?_, dok_step hok p ns row, ?_, e2, ?_, fun c hc => hask c (List.mem_cons_of_mem _ hc), by omega, ?_⟩, ?_⟩⟩⟩⟩
     ·rw [List.length_map]; exact Nat.le_trans hsl2 (by rw [hsz]; exact Nat.le_of_ble_eq_true rfl)
     ·simp only [List.length_map, List.length_cons]; omega
     ·refine same_upd ht0 (Same.trans (fun b u hb => ?_) s4)
      exact k3 _ _ (s3 _ _ (s1 _ _ hb)) (fun e => by have e' : b = d := e; rw [e', hd] at hb; cases hb)
     ·intro b u hb
      unfold off at hb ⊢
      split at hb
      ·cases hb
      ·rename_i z2; rw [if_neg z2, upd_ne z2]; exact s4 _ _ hb
     ·rw [upd_same, List.map_append, List.map_cons, List.length_map]
     ·rw [← ht1]
      simp only [List.map_cons, PyFlat.played, step_eq p0 p1 hnl data, PyFlat.told, List.flatMap_cons, List.append_assoc, List.cons_append]
     ·simp only [List.length_append, List.length_cons]; omega
     ·show ((l.length : Int) - (pl : Nat)).toNat < ((l.length : Int) - (place : Nat)).toNat
      omega
   ·rename_i z
    have hpe : place = l.length := by
     have : ¬ place < l.length := by simpa using z
     omega
    subst hpe
    rw [List.drop_length, calls_nil] at hc
    injection hc with hc
    subst hc
    have ht2 : told = PyVaescc.answers l := by rw [← ht1]; simp [PyFlat.played, PyFlat.told]
    exact q tt H1 ht0 s1 (by rw [htt, ht2])
  ·intro σ H1 Q1 Q2 hq hc
   revert hc
   walk_at "s"
   rintro ⟨v, h1, v1, h2, x, h3, i, h4, h5⟩
   exact ⟨v, h1, v1, h2, x, h3, i, h4, hq _ _ h5⟩
end
end
end ML
section
open PySem PySem.W PyProof.Rows
namespace ML
open L2
theorem ans_ok {P : Program} {w : World} {K : PySem.W.Frag} {mg : Str → Option Value} {fa : Addr} (hfa : mg "answers" = some (.ref fa)) (T : ∃ CR CP CB, Txt P w K mg CR CP CB) :
  ∃ fd : FuncData, (∀ (s : Shared) (us : List Value), us.length = (["calls"] : List Str).length → BindsTo s fd ⟨us, []⟩ ((["calls"] : List Str).zip us)) ∧ ∀ base : Heap, K.In base → base.Ns mainGlobals mg → FnOk P w K mg base CX0 14 fa fd ["calls"] (spA K) := by
 obtain ⟨_, _, _, T⟩ := T
 obtain ⟨f, fd, hm, hF, hb⟩ := fx_answers T
 cases hfa.symm.trans hm
 exact ⟨fd, hb, fun base _ _ => hF base⟩
end ML
end
theorem PySem.Challenge.cw_markedtext_s01_answers_holds : PySem.Challenge.rw_markedtext_s01_answers.Holds :=
 ML.hd fun _ _ _ _ _ => ML.ans_ok
