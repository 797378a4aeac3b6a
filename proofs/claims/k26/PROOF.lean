import PyProof.Rows.All
import Wide.All
import OpenK.AllK
import Wide.FinOn
import Lean
import PyProof.EqAt
import PyProof.EqKinds
import PyProof.TupleCall
import PyProof.NeKinds
import KE.KRevIter
import PyProof.EnumStmt
import PyProof.StationsW
import PyProof.ExcClass3
import PyProof.InstStoreFacts
import PyProof.StrCalls
import PyProof.StrCalls2
import PyProof.StrWalks
import PyProof.StrBlockG
import PyProof.ConsumeWalk
import PyProof.StrOps2
import KE.KIntText
import KE.IntTextText
import PyProof.JoinWalk
import PyProof.CollectIter
import PyProof.StrLawsTight
import PyProof.StrLawsChain
import PyProof.Conv_int_bool
import PyProof.MinMaxWalk
import PyProof.WalksMore
import PyProof.WalkInts
import PyProof.ZipIter
import PyProof.DictWalks
import PySem.Challenge.RW_heightfractions_k26_no_moments
set_option Elab.async false
set_option linter.all false
set_option maxRecDepth 100000
set_option maxHeartbeats 4000000
namespace L2
open PySem PySem.Spec PyProof.Rows
abbrev Key := Sum Int Str
def keyIs : Key → Value → Bool
  | .inl k, v => Value.isInt k v
  | .inr x, v => Value.isStrOf x v
def keyH (w : World) : Key → Int
  | .inl k => hashInt k
  | .inr x => hashStr w x
theorem keyIs_shape : ∀ {k : Key} {v : Value}, keyIs k v = true → (∃ i t, k = Sum.inl i ∧ v = Value.int i t) ∨ (∃ x t, k = Sum.inr x ∧ v = Value.str x t)
  | .inl i, v, h => by
    obtain ⟨t, e⟩ := Value.isInt_shape (k := i) (v := v) h
    exact .inl ⟨i, t, rfl, e⟩
  | .inr x, v, h => by
    obtain ⟨t, e⟩ := Value.isStrOf_shape (x := x) (v := v) h
    exact .inr ⟨x, t, rfl, e⟩
theorem key_ll (a b : Int) : decide ((Sum.inl a : Key) = Sum.inl b) = (a == b) := by
  by_cases e : a = b
  · subst e; simp
  · have h : ¬ (Sum.inl a : Key) = Sum.inl b := fun q => e (Sum.inl.inj q)
    rw [decide_eq_false h]
    exact (beq_eq_false_iff_ne.mpr e).symm
theorem key_rr (a b : Str) : decide ((Sum.inr a : Key) = Sum.inr b) = decide (a = b) := by
  by_cases e : a = b
  · subst e; simp
  · have h : ¬ (Sum.inr a : Key) = Sum.inr b := fun q => e (Sum.inr.inj q)
    rw [decide_eq_false h, decide_eq_false e]
theorem key_lr (a : Int) (b : Str) : decide ((Sum.inl a : Key) = Sum.inr b) = false := decide_eq_false (fun q => nomatch q)
theorem key_rl (a : Str) (b : Int) : decide ((Sum.inr a : Key) = Sum.inl b) = false := decide_eq_false (fun q => nomatch q)
def mixKind (prog : Program) (w : World) : PySem.KeyKind prog w Key where
  is := keyIs
  hash := keyH w
  inj := fun v a b ha hb => by
    rcases keyIs_shape ha with ⟨i, t, rfl, rfl⟩ | ⟨x, t, rfl, rfl⟩
    · rcases keyIs_shape hb with ⟨j, u, rfl, e⟩ | ⟨y, u, rfl, e⟩
      · injection e with e1 _; rw [e1]
      · exact nomatch e
    · rcases keyIs_shape hb with ⟨j, u, rfl, e⟩ | ⟨y, u, rfl, e⟩
      · exact nomatch e
      · injection e with e1 _; rw [e1]
  byValue := fun k v h => by
    rcases keyIs_shape h with ⟨i, t, rfl, rfl⟩ | ⟨x, t, rfl, rfl⟩ <;> rfl
  pyHash := fun hv h => by
    rcases keyIs_shape hv with ⟨i, t, rfl, rfl⟩ | ⟨x, t, rfl, rfl⟩
    · exact wpAny_pyHash_int h
    · exact wpAny_pyHash_str h
  eqBool := fun hu hv h => by
    rcases keyIs_shape hu with ⟨i, t, rfl, rfl⟩ | ⟨x, t, rfl, rfl⟩
    · rcases keyIs_shape hv with ⟨j, u, rfl, rfl⟩ | ⟨y, u, rfl, rfl⟩
      · rw [key_ll] at h; exact wpAny_eqBool_int h
      · rw [key_lr] at h; exact SeqAt.EqAt.int_str i t y u _ _ _ _ h
    · rcases keyIs_shape hv with ⟨j, u, rfl, rfl⟩ | ⟨y, u, rfl, rfl⟩
      · rw [key_rl] at h; exact SeqAt.EqAt.str_int x t j u _ _ _ _ h
      · rw [key_rr] at h; exact wpAny_eqBool_str h
  «strs» := fun k x t v h => by
    rcases keyIs_shape h with ⟨i, u, rfl, e⟩ | ⟨y, u, rfl, e⟩
    · exact nomatch e
    · injection e with e1 _
      subst e1
      cases v <;> rfl
end L2
namespace L2
open PySem PySem.Spec PyProof.Rows
inductive V where
  | non | bl (b : Bool) | int (i : Int) | str (x : Str) | byt (b : Array UInt8) | flt (b : UInt64) | ref (a : Addr) | ty (n : String)
  deriving DecidableEq
def RelV : V → Value → Prop
  | .non, u => u = Value.none
  | .bl b, u => u = Value.bool b
  | .int i, u => ∃ t, u = Value.int i t
  | .str x, u => ∃ t, u = Value.str x t
  | .byt b, u => ∃ t, u = Value.bytes b t
  | .flt b, u => ∃ t, u = Value.float b t
  | .ref a, u => u = Value.ref a
  | .ty n, u => u = Value.type n
abbrev Vals : List V → List Value → Prop := Paired RelV
theorem Vals.length {xs : List V} {us : List Value} (r : Vals xs us) : xs.length = us.length := Paired.length r
theorem Vals.get : ∀ {xs : List V} {us : List Value} {i : Nat} {x : V}, Vals xs us → xs[i]? = some x → ∃ u, us[i]? = some u ∧ RelV x u
  | _, _, _, _, .nil, e => by simp at e
  | _, _, 0, _, .cons r _, e => by simp at e; subst e; exact ⟨_, rfl, r⟩
  | _, _, i + 1, x, .cons _ t, e => by
    obtain ⟨u, h1, h2⟩ := Vals.get (i := i) (x := x) t (by simpa using e)
    exact ⟨u, by simpa using h1, h2⟩
theorem Vals.set {x : V} {u : Value} (r : RelV x u) : ∀ {xs : List V} {us : List Value} (i : Nat), Vals xs us → Vals (xs.set i x) (us.set i u)
  | _, _, _, .nil => .nil
  | _, _, 0, .cons _ t => .cons r t
  | _, _, i + 1, .cons q t => .cons q (Vals.set r i t)
theorem Vals.append : ∀ {xs ys : List V} {us ws : List Value}, Vals xs us → Vals ys ws → Vals (xs ++ ys) (us ++ ws)
  | _, _, _, _, .nil, s => s
  | _, _, _, _, .cons r t, s => .cons r (Vals.append t s)
theorem Vals.take : ∀ {xs : List V} {us : List Value} (n : Nat), Vals xs us → Vals (xs.take n) (us.take n)
  | _, _, 0, _ => .nil
  | _, _, _ + 1, .nil => .nil
  | _, _, n + 1, .cons r t => .cons r (Vals.take n t)
theorem Vals.drop : ∀ {xs : List V} {us : List Value} (n : Nat), Vals xs us → Vals (xs.drop n) (us.drop n)
  | _, _, 0, r => r
  | _, _, _ + 1, .nil => .nil
  | _, _, n + 1, .cons _ t => Vals.drop n t
def RelO : Option V → Option Value → Prop
  | some v, some u => RelV v u
  | none, none => True
  | _, _ => False
def KV {κ : Type} : List (κ × V) → List (κ × Value) → Prop := Paired fun (p : κ × V) (q : κ × Value) => p.1 = q.1 ∧ RelV p.2 q.2
def kV : Key → V
  | .inl i => .int i
  | .inr x => .str x
inductive HO where
  | lst (xs : List V)
  | tup (xs : List V)
  | dK (kvs : List (Key × V)) | dT (kvs : List (List Key × V))
  | set (S : Int → Bool) (n : Nat)
  | ins (C dx : Addr) (fs : List (Str × V))
  | own (x : Addr)
  | xd (fs : List (Str × V))
  | met (f x : Addr)
  | rng (lo hi : Int)
  | frz (o : Obj) (u : HO)
  | tbl (ps : Array Value)
  | ext (φ : Heap → Prop)
abbrev Hp := Addr → Option HO
def upd (H : Hp) (a : Addr) (o : HO) : Hp := fun b => if b = a then some o else H b
theorem upd_same {H : Hp} {a : Addr} {o : HO} : upd H a o a = some o := by unfold upd; rw [if_pos rfl]
theorem upd_ne {H : Hp} {a b : Addr} {o : HO} (h : b ≠ a) : upd H a o b = H b := by unfold upd; rw [if_neg h]
theorem ne_of_none {H : Hp} {a b : Addr} {o : HO} (h : H a = some o) (h' : H b = none) : a ≠ b := by
  intro e; subst e; rw [h] at h'; cases h'
section
variable (P : Program) (w : World)
def ObjOk (H : Hp) (h : Heap) (a : Addr) : HO → Prop
  | .lst xs => xs.length ≤ sizeLine ∧ ∃ (its : List Value) (n : Nat), Vals xs its ∧ h.get? a = some { cls := .type "list", data := .seq its.toArray n }
  | .tup xs => xs.length ≤ sizeLine ∧ ∃ its : List Value, Vals xs its ∧ IsTup h a its.toArray
  | .dK kvs => kvs.length ≤ sizeLine ∧ (a == sysModules) = false ∧ ∃ vs, KV kvs vs ∧ h.DictOf (mixKind P w) a vs
  | .dT kvs => kvs.length ≤ sizeLine ∧ (a == sysModules) = false ∧ ∃ xs : List (List Key × Addr × Value),
      Paired (fun (p : List Key × V) (q : List Key × Addr × Value) => p.1 = q.1 ∧ H q.2.1 = some (.tup (p.1.map kV)) ∧ RelV p.2 q.2.2) kvs xs ∧
      ∃ o es ep, h.get? a = some o ∧ o.ExactDict ∧ o.data = .dict es ep ∧ es.toList = xs.map (entryOfKey (tupleKind (mixKind P w))) ∧ (xs.map (·.1)).Nodup
  | .set S n => h.SetOf (intKind P w) a S n
  | .ins C dx fs => H dx = some (.own a) ∧ fs.length ≤ 1000 ∧ dx ≠ a ∧ h.get? a = some (PySem.W.instObj C dx) ∧
      ∃ mA, h.Ns1 dx mA ∧ (∀ f, RelO (fs.lookup f) (mA f)) ∧ PySem.Within mA (fs.map (·.1))
  | .own _ => ∃ o, h.get? a = some o
  | .xd fs => ∃ mA, h.Ns1 a mA ∧ ∀ f, RelO (fs.lookup f) (mA f)
  | .rng lo hi => ∃ t u v, h.get? a = some { cls := .type "range", data := .fields #[.int lo t, .int hi u, .int 1 v] }
  | .frz o u => h.get? a = some o ∧ ObjOk H h a u
  | .tbl ps => h.get? a = some { cls := .none, data := .fields ps }
  | .met f x => h.get? a = some (PySem.W.methodObj (.ref f) (.ref x))
  | .ext φ => φ h ∧ (∃ o, h.get? a = some o) ∧ ∀ h1 h2 : Heap, φ h1 → (∀ o, h1.get? a = some o → h2.get? a = some o) → φ h2
def HOk (H : Hp) (h : Heap) : Prop := ∀ a o, H a = some o → ObjOk P w H h a o
end
section
variable {P : Program} {w : World} {H H' : Hp} {h h' : Heap} {a : Addr} {o : HO}
theorem ObjOk.lt (x : ObjOk P w H h a o) : a < h.objs.size := by
  cases o with
  | lst xs => obtain ⟨_, _, _, _, e⟩ := x; exact Heap.lt_size e
  | tup xs => obtain ⟨_, _, _, p⟩ := x; exact p.lt
  | dK kvs => obtain ⟨_, _, _, _, o, _, _, e, _⟩ := x; exact Heap.lt_size e
  | dT kvs => obtain ⟨_, _, _, _, o, _, _, e, _⟩ := x; exact Heap.lt_size e
  | set S n => obtain ⟨o, _, _, _, e, _⟩ := x; exact Heap.lt_size e
  | ins C dx fs => obtain ⟨_, _, _, e, _⟩ := x; exact Heap.lt_size e
  | own y => obtain ⟨_, e⟩ := x; exact Heap.lt_size e
  | xd fs => obtain ⟨_, ⟨_, _, _, e, _⟩, _⟩ := x; exact Heap.lt_size e
  | rng lo hi => obtain ⟨_, _, _, e⟩ := x; exact Heap.lt_size e
  | frz ob u => obtain ⟨e, _⟩ := x; exact Heap.lt_size e
  | tbl ps => exact Heap.lt_size (show h.get? a = some _ from x)
  | met f y => exact Heap.lt_size (show h.get? a = some _ from x)
  | ext φ => obtain ⟨_, ⟨_, e⟩, _⟩ := x; exact Heap.lt_size e
theorem Paired.mapP {α β : Type} {F G : α → β → Prop} : ∀ {l₁ : List α} {l₂ : List β}, Paired F l₁ l₂ → (∀ a b, F a b → G a b) → Paired G l₁ l₂
  | _, _, .nil, _ => .nil
  | _, _, .cons r t, f => .cons (f _ _ r) (Paired.mapP t f)
theorem ObjOk.stay (x : ObjOk P w H h a o) (k : ∀ b u, (b = a ∨ H b = some (.own a)) → h.get? b = some u → h'.get? b = some u)
    (ho : ∀ b, H b = some (.own a) → H' b = some (.own a)) (ht : ∀ b xs, H b = some (.tup xs) → H' b = some (.tup xs)) : ObjOk P w H' h' a o := by
  induction o with
  | lst xs => obtain ⟨z, its, n, r, e⟩ := x; exact ⟨z, its, n, r, k _ _ (.inl rfl) e⟩
  | tup xs => obtain ⟨z, its, r, ob, e, c⟩ := x; exact ⟨z, its, r, ob, k _ _ (.inl rfl) e, c⟩
  | dK kvs => obtain ⟨z, y, vs, r, ob, es, ep, e, c⟩ := x; exact ⟨z, y, vs, r, ob, es, ep, k _ _ (.inl rfl) e, c⟩
  | dT kvs =>
    obtain ⟨z, y, xs, r, ob, es, ep, e, c⟩ := x
    exact ⟨z, y, xs, Paired.mapP r fun p q z => ⟨z.1, ht _ _ z.2.1, z.2.2⟩, ob, es, ep, k _ _ (.inl rfl) e, c⟩
  | set S n => obtain ⟨ob, es, ep, t, e, c⟩ := x; exact ⟨ob, es, ep, t, k _ _ (.inl rfl) e, c⟩
  | ins C dx fs =>
    obtain ⟨d, z, ne, e, mA, ⟨od, es, ep, e2, c⟩, r⟩ := x
    exact ⟨ho _ d, z, ne, k _ _ (.inl rfl) e, mA, ⟨od, es, ep, k _ _ (.inr d) e2, c⟩, r⟩
  | own y => obtain ⟨ob, e⟩ := x; exact ⟨ob, k _ _ (.inl rfl) e⟩
  | xd fs => obtain ⟨mA, ⟨od, es, ep, e, c⟩, r⟩ := x; exact ⟨mA, ⟨od, es, ep, k _ _ (.inl rfl) e, c⟩, r⟩
  | rng lo hi => obtain ⟨t, u, v, e⟩ := x; exact ⟨t, u, v, k _ _ (.inl rfl) e⟩
  | frz ob u ih => obtain ⟨e, q⟩ := x; exact ⟨k _ _ (.inl rfl) e, ih q⟩
  | tbl ps =>
    have e : h.get? a = some { cls := .none, data := .fields ps } := x
    show h'.get? a = some { cls := .none, data := .fields ps }
    exact k a _ (.inl rfl) e
  | met f y =>
    have e : h.get? a = some (PySem.W.methodObj (.ref f) (.ref y)) := x
    show h'.get? a = some (PySem.W.methodObj (.ref f) (.ref y))
    exact k a _ (.inl rfl) e
  | ext φ => obtain ⟨p, ⟨o, e⟩, st⟩ := x; exact ⟨st _ _ p fun o q => k _ _ (.inl rfl) q, ⟨o, k _ _ (.inl rfl) e⟩, st⟩
theorem HOk.lt (x : HOk P w H h) (e : H a = some o) : a < h.objs.size := (x a o e).lt
theorem HOk.fresh (x : HOk P w H h) (e : h.objs.size ≤ a) : H a = none := by
  cases q : H a with
  | none => rfl
  | some u => exact absurd (Nat.lt_of_lt_of_le (x.lt q) e) (Nat.lt_irrefl _)
theorem HOk.kept (x : HOk P w H h) (k : ∀ b u, h.get? b = some u → h'.get? b = some u) : HOk P w H h' := fun a o e =>
  (x a o e).stay (fun b u _ q => k b u q) (fun _ q => q) fun _ _ q => q
theorem HOk.laid (x : HOk P w H h) (k : ∀ b u, h.get? b = some u → h'.get? b = some u) (hp : h.objs.size ≤ a) (new : ObjOk P w (upd H a o) h' a o) : HOk P w (upd H a o) h' := fun b u e => by
  have hn := x.fresh hp
  by_cases hb : b = a
  · subst hb; rw [upd_same] at e; cases e; exact new
  · rw [upd_ne hb] at e
    exact (x b u e).stay (fun c v _ q => k c v q) (fun c q => by rw [upd_ne (ne_of_none q hn)]; exact q) fun c xs q => by rw [upd_ne (ne_of_none q hn)]; exact q
end
def Rd (H : Hp) (a : Addr) (u : HO) : Prop := H a = some u ∨ ∃ o, H a = some (.frz o u)
theorem Rd.ok {P : Program} {w : World} {H : Hp} {h : Heap} {a : Addr} {u : HO} (r : Rd H a u) (x : HOk P w H h) : ObjOk P w H h a u := by
  rcases r with r | ⟨o, r⟩
  · exact x a u r
  · obtain ⟨_, q⟩ := x a _ r
    exact q
def Mut : Option HO → Prop
  | some (.lst _) => True
  | some (.dK _) => True
  | some (.dT _) => True
  | some (.set _ _) => True
  | some (.ins _ _ _) => True
  | some (.ext _) => True
  | _ => False
section
variable {P : Program} {w : World} {H : Hp} {h h' : Heap} {x e : Addr} {o' : HO}
theorem HOk.write (ok : HOk P w H h) (mu : Mut (H x)) (he : e = x ∨ H e = some (.own x)) (k : ∀ b u, b ≠ e → h.get? b = some u → h'.get? b = some u) (heo : ∃ u, h'.get? e = some u)
    (new : ObjOk P w (upd H x o') h' x o') : HOk P w (upd H x o') h' := fun b u q => by
  have nown : ∀ c y, H c = some (.own y) → c ≠ x := fun c y r z => by subst z; rw [r] at mu; exact mu
  have ntup : ∀ c xs, H c = some (.tup xs) → c ≠ x := fun c xs r z => by subst z; rw [r] at mu; exact mu
  by_cases hb : b = x
  · subst hb; rw [upd_same] at q; cases q; exact new
  · rw [upd_ne hb] at q
    by_cases hbe : b = e
    · have q' : H b = some (.own x) := by
        rcases he with z | z
        · exact absurd (hbe.trans z) hb
        · rw [hbe]; exact z
      rw [q] at q'; cases q'
      obtain ⟨v, hv⟩ := heo
      exact ⟨v, by rw [hbe]; exact hv⟩
    · refine (ok b u q).stay (fun c v hc r => k c v ?_ r) (fun c r => by rw [upd_ne (nown c b r)]; exact r) fun c xs r => by rw [upd_ne (ntup c xs r)]; exact r
      rcases hc with rfl | hc
      · exact hbe
      · rintro rfl
        rcases he with z | z
        · exact nown c b hc z
        · rw [hc] at z; cases z; exact hb rfl
end
structure Un (fs ex : List Addr) (H H' : Hp) (h h' : Heap) : Prop where
  keep : ∀ b o, h.get? b = some o → H b = none → b ∉ fs → b ∉ ex → h'.get? b = some o
  slot : ∀ b o, h.get? b = some o → H b = none → b ∈ fs → b ∉ ex → ∃ sl, h'.get? b = some { o with slots := sl }
  free : ∀ b o, h.get? b = some o → H b = none → b ∉ ex → H' b = none
  there : ∀ b o, h.get? b = some o → b ∉ ex → ∃ o', h'.get? b = some o'
  tups : ∀ b xs, H b = some (.tup xs) → H' b = some (.tup xs)
  frzs : ∀ b o u, H b = some (.frz o u) → H' b = some (.frz o u)
  tbls : ∀ b ps, H b = some (.tbl ps) → ∃ more, H' b = some (.tbl (ps ++ more))
section
variable {fs fs' ex ex' : List Addr} {H H1 H2 : Hp} {h h1 h2 h' : Heap} {a x e : Addr} {o : HO}
theorem Un.any (u : Un fs ex H H1 h h1) {b : Addr} {ob : Obj} (q : h.get? b = some ob) (n : H b = none) (hx : b ∉ ex) : ∃ sl, h1.get? b = some { ob with slots := sl } := by
  by_cases hb : b ∈ fs
  · exact u.slot b ob q n hb hx
  · exact ⟨ob.slots, u.keep b ob q n hb hx⟩
theorem Un.kept (k : ∀ b u, h.get? b = some u → h'.get? b = some u) : Un fs ex H H h h' :=
  ⟨fun b ob q _ _ _ => k b ob q, fun b ob q _ _ _ => ⟨ob.slots, k b ob q⟩, fun _ _ _ n _ => n, fun b ob q _ => ⟨ob, k b ob q⟩, fun _ _ q => q, fun _ _ _ q => q, fun _ ps q => ⟨#[], by rw [q]; simp⟩⟩
theorem Un.refl : Un fs ex H H h h := Un.kept fun _ _ q => q
theorem Un.laid (k : ∀ b u, h.get? b = some u → h'.get? b = some u) (hp : h.objs.size ≤ a) (hn : H a = none) : Un fs ex H (upd H a o) h h' where
  keep := fun b u q _ _ _ => k b u q
  slot := fun b u q _ _ _ => ⟨u.slots, k b u q⟩
  free := fun b u q n _ => by rw [upd_ne (Nat.ne_of_lt (Nat.lt_of_lt_of_le (Heap.lt_size q) hp))]; exact n
  there := fun b u q _ => ⟨u, k b u q⟩
  tups := fun b xs q => by rw [upd_ne (ne_of_none q hn)]; exact q
  frzs := fun b u xs q => by rw [upd_ne (ne_of_none q hn)]; exact q
  tbls := fun b ps q => ⟨#[], by rw [upd_ne (ne_of_none q hn), q]; simp⟩
theorem Un.write (mu : Mut (H x)) (he : e = x ∨ H e = some (.own x)) (k : ∀ b u, b ≠ e → h.get? b = some u → h'.get? b = some u) (heo : ∃ u, h'.get? e = some u) : Un fs ex H (upd H x o) h h' := by
  have hx : ∀ b, H b = none → b ≠ x := fun b n z => by subst z; rw [n] at mu; exact mu
  have hb : ∀ b, H b = none → b ≠ e := fun b n z => by
    subst z
    rcases he with r | r
    · exact hx b n r
    · rw [n] at r; cases r
  have hm : ∀ b u, H b = some u → ¬ Mut (some u) → b ≠ x := fun b u q nm z => by subst z; rw [q] at mu; exact nm mu
  refine ⟨fun b u q n _ _ => k b u (hb b n) q, fun b u q n _ _ => ⟨u.slots, k b u (hb b n) q⟩, fun b u q n _ => by rw [upd_ne (hx b n)]; exact n, fun b u q _ => ?_,
    fun b xs q => by rw [upd_ne (hm b _ q fun z => z)]; exact q, fun b u xs q => by rw [upd_ne (hm b _ q fun z => z)]; exact q, fun b ps q => ⟨#[], by rw [upd_ne (hm b _ q fun z => z), q]; simp⟩⟩
  by_cases hbe : b = e
  · subst hbe; exact heo
  · exact ⟨u, k b u hbe q⟩
end
def trk (h : Heap) (H : Hp) : List Addr := (List.range h.objs.size).filter fun a => (H a).isSome
def hidT (h : Heap) (H : Hp) : Heap := PySem.W.hideAll h (trk h H)
theorem hidT_size (h : Heap) (H : Hp) : (hidT h H).objs.size = h.objs.size := PySem.W.hideAll_size _ _
theorem hidT_get {h : Heap} {H : Hp} {b : Addr} {o : Obj} (e : h.get? b = some o) (n : H b = none) : (hidT h H).get? b = some o :=
  PySem.W.hideAll_get _ e fun hm => by
    have q : (H b).isSome = true := (List.mem_filter.mp hm).2
    rw [n] at q; simp at q
theorem of_hidT {h : Heap} {H : Hp} {b : Addr} {o : Obj} (e : (hidT h H).get? b = some o) : h.get? b = some o ∧ H b = none := by
  have e' : h.get? b = some o := PySem.W.of_hideAll (trk h H) e
  refine ⟨e', ?_⟩
  cases q : H b with
  | none => rfl
  | some x =>
    have hm : b ∈ trk h H := List.mem_filter.mpr ⟨List.mem_range.mpr (Heap.lt_size e'), by simp [q]⟩
    have z : (hidT h H).get? b = none := PySem.W.hideAll_none (trk h H) hm
    rw [z] at e; cases e
def allNews (g h : Heap) (L : Addr) : List (Addr × Obj) := (List.range h.objs.size).filterMap fun a => if a = L ∨ (g.get? a).isSome = true then none else (h.get? a).map fun o => (a, o)
def rest (g h : Heap) (L d : Addr) : List (Addr × Obj) := (allNews g h L).filter fun p => decide (p.1 ≠ d)
end L2
namespace L2
open PySem PySem.Spec PyProof.Rows
structure Mod (K : PySem.W.Frag) (mg : Str → Option Value) (base : Heap) : Prop where
  kin : K.In base
  glob : base.Ns mainGlobals mg
  blt : ∃ mb, base.Ns builtinsNs mb ∧ ∀ x : Str, x ≠ "__name__" → mb x = bootBuiltins x
  nolimit : base.NoLimit
/-- the context: a def's body (or a comprehension's block) running. base: fixed through the whole law; s₀, H₀: the entry; outer: the frames whose slots others may change (a def's callers); stack: all frames that run;
   ex: iterators that were made ahead of the entry and are walked here (a comprehension's); fn: the names whose cells were made at the entry (a def: all; a comprehension's block: its own); calm: not within an except suite; pn: pins that every state bears; xe: what is wanted of an exception that leaves the code -/
structure Cx where
  prog : Program
  w : World
  K : PySem.W.Frag
  mg : Str → Option Value
  base : Heap
  A : Around
  N : List Str
  s₀ : Shared
  H₀ : Hp
  env : Env
  outer : List Env
  stack : List Env
  ex : List Addr
  fn : Str → Bool
  calm : Bool
  pn : List (Addr × Obj)
  xe : Value → Shared → Prop
def frs (l : List Env) : List Addr := l.filterMap (·.frame)
abbrev Cx.fs (X : Cx) : List Addr := frs X.outer
def Vis (sc : Scope) (x : Str) : Prop := sc.names.lookup x = some .local ∨ sc.names.lookup x = some .cell ∨ sc.names.lookup x = some .free
def Loc (sc : Scope) (x : Str) : Prop := sc.names.lookup x = some .local ∨ sc.names.lookup x = some .cell
def Look (env : Env) (h : Heap) (m : Str → Option Value) (x : Str) (u : Value) : Prop :=
  (env.kindOf x = some .local ∧ m x = some u) ∨ ((env.kindOf x = some .cell ∨ env.kindOf x = some .free) ∧ ∃ c, env.cells.lookup x = some c ∧ h.IsCell c (some u))
structure Cx.Ok (X : Cx) : Prop where
  mod : Mod X.K X.mg X.base
  kind : X.env.scope.kind = .function
  glob : X.env.globals = mainGlobals
  blt : X.env.builtins = builtinsNs
  above : X.s₀.heap.objs.size ≤ X.env.locals
  inj : ∀ x y c, X.env.cells.lookup x = some c → X.env.cells.lookup y = some c → x = y
  has : ∀ x, (X.env.kindOf x = some .cell ∨ X.env.kindOf x = some .free) → ∃ c, X.env.cells.lookup x = some c
  cab : ∀ x c, X.fn x = true → X.env.cells.lookup x = some c → X.s₀.heap.objs.size ≤ c
  hd : X.calm = true → X.A.handled = none
  frames : X.A.frames = some X.stack
  stk : X.stack = X.outer ∨ (X.stack = X.env :: X.outer ∧ X.env.frame = some X.env.locals)
  exf : ∀ b ∈ X.ex, b ≠ X.env.locals ∧ ∀ x c, X.env.cells.lookup x = some c → c ≠ b
  bs : ∀ b o, X.base.get? b = some o → X.s₀.heap.get? b = some o ∧ X.H₀ b = none
  bsz : X.base.objs.size ≤ X.s₀.heap.objs.size
  noex : ∀ b o, X.base.get? b = some o → b ∉ X.ex
  exfs : ∀ b ∈ X.ex, b ∉ X.fs
  funs : X.s₀.heap.FunFrames X.base X.outer
  frf : ∀ b ∈ X.fs, X.H₀ b = none
structure Inv (X : Cx) (pins : List (Addr × Obj)) (σ : List (Option V)) (H : Hp) (s : Shared) : Prop where
  ok : X.Ok
  os : s.os = X.s₀.os
  bare : AllBare s.gens
  base : Un X.fs X.ex X.H₀ H X.s₀.heap s.heap
  loc : ∃ m, s.heap.Ns X.env.locals m ∧ ∀ (i : Nat) (x : Str) (v : V), X.N[i]? = some x → σ[i]? = some (some v) → Vis X.env.scope x → ∃ u, RelV v u ∧ Look X.env s.heap m x u
  cell : ∀ x c, X.env.cells.lookup x = some c → ∃ v, s.heap.IsCell c v
  free : H X.env.locals = none
  freeC : ∀ x c, X.env.cells.lookup x = some c → H c = none
  pin : ∀ p ∈ X.pn ++ pins, s.heap.get? p.1 = some p.2 ∧ H p.1 = none ∧ p.1 ≠ X.env.locals ∧ p.1 ∉ X.fs ∧ ∀ v, p.2.data ≠ .cell v
  hok : HOk X.prog X.w H s.heap
  len : σ.length = X.N.length
section
variable {X : Cx} {pins : List (Addr × Obj)} {σ : List (Option V)} {H H' : Hp} {s : Shared} {h' : Heap}
theorem Cx.Ok.nofr (ok : X.Ok) {b : Addr} {o : Obj} (e : X.base.get? b = some o) : b ∉ X.fs := fun hb => by
  have := (ok.funs.mem hb).1
  rw [e] at this; cases this
theorem Inv.bs (I : Inv X pins σ H s) : ∀ b o, X.base.get? b = some o → s.heap.get? b = some o ∧ H b = none := fun b o e =>
  ⟨I.base.keep b o (I.ok.bs b o e).1 (I.ok.bs b o e).2 (I.ok.nofr e) (I.ok.noex b o e), I.base.free b o (I.ok.bs b o e).1 (I.ok.bs b o e).2 (I.ok.noex b o e)⟩
theorem Inv.bk (I : Inv X pins σ H s) : ∀ b o, X.base.get? b = some o → s.heap.get? b = some o := fun b o e => (I.bs b o e).1
theorem Inv.mod (I : Inv X pins σ H s) : Mod X.K X.mg X.base := I.ok.mod
theorem Inv.kIn (I : Inv X pins σ H s) : X.K.In s.heap := I.ok.mod.kin.keeps I.bk
theorem Inv.lt (I : Inv X pins σ H s) : X.env.locals < s.heap.objs.size := let ⟨_, hn, _⟩ := I.loc; hn.lt
theorem Inv.sz (I : Inv X pins σ H s) : X.s₀.heap.objs.size ≤ s.heap.objs.size := Nat.le_trans I.ok.above (Nat.le_of_lt I.lt)
theorem Inv.nofs (I : Inv X pins σ H s) {a : Addr} (h : s.heap.objs.size ≤ a) : a ∉ X.fs := fun hb => by
  obtain ⟨_, o, ho, _⟩ := I.ok.funs.mem hb
  exact absurd (Nat.lt_of_lt_of_le (Heap.lt_size ho) (Nat.le_trans I.sz h)) (Nat.lt_irrefl _)
theorem Inv.cne (I : Inv X pins σ H s) : ∀ x c, X.env.cells.lookup x = some c → c ≠ X.env.locals := fun x c e z => by
  obtain ⟨v, o, ho, hd⟩ := I.cell x c e
  obtain ⟨m, ⟨o', es, ep, ho', hd', _⟩, _⟩ := I.loc
  rw [z, ho'] at ho; cases ho; rw [hd'] at hd; cases hd
theorem Inv.funs (I : Inv X pins σ H s) : s.heap.FunFrames X.base X.outer := by
  have all : ∀ (l : List Env), (∀ b ∈ frs l, b ∈ X.fs) → X.s₀.heap.FunFrames X.base l → s.heap.FunFrames X.base l := by
    intro l
    induction l with
    | nil => intro _ _; trivial
    | cons env r ih =>
      intro hs hl
      obtain ⟨hk, ⟨L, o, hf, hn, ho, hd⟩, hr⟩ := hl
      have hL : L ∈ X.fs := hs L (by unfold frs; rw [List.filterMap_cons, hf]; exact List.mem_cons_self)
      obtain ⟨sl, e⟩ := I.base.slot L o ho (I.ok.frf L hL) hL fun z => I.ok.exfs L z hL
      exact ⟨hk, ⟨L, _, hf, hn, e, hd⟩, ih (fun b hb => hs b (by unfold frs; rw [List.filterMap_cons, hf]; exact List.mem_cons_of_mem _ hb)) hr⟩
  exact all X.outer (fun _ hb => hb) I.ok.funs
theorem Inv.stack (I : Inv X pins σ H s) : s.heap.FunFrames X.base X.stack := by
  rcases I.ok.stk with e | ⟨e, hf⟩
  · rw [e]; exact I.funs
  · rw [e]
    obtain ⟨m, hn, _⟩ := I.loc
    refine .cons (by rw [I.ok.kind]; decide) hf hn ?_ I.funs
    exact Heap.get?_none_of_le (Nat.le_trans I.ok.bsz I.ok.above)
theorem Inv.stkSub (I : Inv X pins σ H s) : ∀ b ∈ frs X.stack, b ∈ X.env.locals :: X.fs := fun b hb => by
  rcases I.ok.stk with e | ⟨e, hf⟩
  · rw [e] at hb; exact List.mem_cons_of_mem _ hb
  · rw [e] at hb
    unfold frs at hb
    rw [List.filterMap_cons, hf] at hb
    exact hb
theorem Inv.stkFree (I : Inv X pins σ H s) : ∀ b ∈ frs X.stack, H b = none := fun b hb => by
  rcases List.mem_cons.mp (I.stkSub b hb) with e | hb
  · rw [e]; exact I.free
  · obtain ⟨_, o, ho, _⟩ := I.ok.funs.mem hb
    exact I.base.free b o ho (I.ok.frf b hb) fun z => I.ok.exfs b z hb
theorem Inv.step {g' : Array GenState} {t' : Nat} {d' : Drawn} {ch : List Addr} (I : Inv X pins σ H s)
    (hch : ∀ b ∈ ch, (b ∈ X.ex ∨ X.s₀.heap.objs.size ≤ b) ∧ b ≠ X.env.locals ∧ (∀ x c, X.env.cells.lookup x = some c → c ≠ b) ∧ ∀ p ∈ X.pn ++ pins, p.1 ≠ b)
    (keep : ∀ b o, b ≠ X.env.locals → b ∉ X.fs → b ∉ ch → s.heap.get? b = some o → H b = none → h'.get? b = some o)
    (slot : ∀ b o, b ≠ X.env.locals → b ∈ X.fs → b ∉ ch → s.heap.get? b = some o → H b = none → ∃ sl, h'.get? b = some { o with slots := sl }) (free : ∀ b o, b ∉ ch → s.heap.get? b = some o → H b = none → H' b = none)
    (there : ∀ b o, b ∉ ch → s.heap.get? b = some o → ∃ o', h'.get? b = some o')
    (tups : ∀ b xs, H b = some (.tup xs) → H' b = some (.tup xs)) (frzs : ∀ b o u, H b = some (.frz o u) → H' b = some (.frz o u)) (tbls : ∀ b ps, H b = some (.tbl ps) → ∃ more, H' b = some (.tbl (ps ++ more)))
    (ns : ∀ m, s.heap.Ns X.env.locals m → h'.Ns X.env.locals m) (hok : HOk X.prog X.w H' h') (hg : AllBare g') :
    Inv X pins σ H' { s with heap := h', gens := g', drawn := d', toks := t' } := by
  have neL : ∀ b o, X.s₀.heap.get? b = some o → b ≠ X.env.locals := fun b o e => Nat.ne_of_lt (Nat.lt_of_lt_of_le (Heap.lt_size e) I.ok.above)
  have neC : ∀ b o, X.s₀.heap.get? b = some o → b ∉ X.ex → b ∉ ch := fun b o e hx hb => by
    rcases (hch b hb).1 with z | z
    · exact hx z
    · exact absurd (Nat.lt_of_lt_of_le (Heap.lt_size e) z) (Nat.lt_irrefl _)
  have cellK : ∀ x c, X.env.cells.lookup x = some c → ∀ v, s.heap.IsCell c v → h'.IsCell c v := fun x c e v ⟨o, ho, hd⟩ => by
    have nch : c ∉ ch := fun z => (hch c z).2.2.1 x c e rfl
    by_cases hc : c ∈ X.fs
    · obtain ⟨sl, q⟩ := slot c o (I.cne x c e) hc nch ho (I.freeC x c e)
      exact ⟨_, q, hd⟩
    · exact ⟨o, keep c o (I.cne x c e) hc nch ho (I.freeC x c e), hd⟩
  refine ⟨I.ok, I.os, hg, ⟨fun b o e n hb hx => ?_, fun b o e n hb hx => ?_, fun b o e n hx => ?_, fun b o e hx => ?_, fun b xs e => tups b xs (I.base.tups b xs e), fun b o xs e => frzs b o xs (I.base.frzs b o xs e), fun b ps e => ?_⟩, ?_, fun x c e => ?_, ?_, fun x c e => ?_, fun p hp => ?_, hok, I.len⟩
  · exact keep b o (neL b o e) hb (neC b o e hx) (I.base.keep b o e n hb hx) (I.base.free b o e n hx)
  · obtain ⟨sl, e1⟩ := I.base.slot b o e n hb hx
    obtain ⟨sl', e2⟩ := slot b _ (neL b o e) hb (neC b o e hx) e1 (I.base.free b o e n hx)
    exact ⟨sl', e2⟩
  · obtain ⟨o', e1⟩ := I.base.there b o e hx
    exact free b o' (neC b o e hx) e1 (I.base.free b o e n hx)
  · obtain ⟨o', e1⟩ := I.base.there b o e hx
    exact there b o' (neC b o e hx) e1
  · obtain ⟨m1, e1⟩ := I.base.tbls b ps e
    obtain ⟨m2, e2⟩ := tbls b _ e1
    exact ⟨m1 ++ m2, by rw [e2, Array.append_assoc]⟩
  · obtain ⟨m, hn, hl⟩ := I.loc
    refine ⟨m, ns m hn, fun i x v e1 e2 e3 => ?_⟩
    obtain ⟨u, r, l⟩ := hl i x v e1 e2 e3
    refine ⟨u, r, ?_⟩
    rcases l with l | ⟨k, c, e, z⟩
    · exact .inl l
    · exact .inr ⟨k, c, e, cellK x c e _ z⟩
  · obtain ⟨v, z⟩ := I.cell x c e
    exact ⟨v, cellK x c e v z⟩
  · obtain ⟨m, ⟨o, _, _, ho, _⟩, _⟩ := I.loc
    exact free _ o (fun z => (hch _ z).2.1 rfl) ho I.free
  · obtain ⟨v, o, ho, hd⟩ := I.cell x c e
    exact free c o (fun z => (hch c z).2.2.1 x c e rfl) ho (I.freeC x c e)
  · obtain ⟨e, n, ne, nf, d⟩ := I.pin p hp
    have nch : p.1 ∉ ch := fun z => (hch p.1 z).2.2.2 p hp rfl
    exact ⟨keep p.1 p.2 ne nf nch e n, free p.1 p.2 nch e n, ne, nf, d⟩
theorem Inv.un {t' : Nat} (I : Inv X pins σ H s) (u : Un X.fs [] H H' s.heap h') (hok : HOk X.prog X.w H' h') : Inv X pins σ H' { s with heap := h', toks := t' } := by
  obtain ⟨m, ⟨o, es, ep, ho, r⟩, _⟩ := id I.loc
  obtain ⟨sl, hL⟩ := u.any ho I.free (by simp)
  exact I.step (g' := s.gens) (d' := s.drawn) (ch := []) (fun _ z => nomatch z) (fun b o _ hb _ e n => u.keep b o e n hb (by simp)) (fun b o _ hb _ e n => u.slot b o e n hb (by simp)) (fun b o _ e n => u.free b o e n (by simp)) (fun b o _ e => u.there b o e (by simp)) u.tups u.frzs u.tbls (fun m' hm => by
    obtain ⟨o', es', ep', ho', r'⟩ := hm
    rw [ho] at ho'; cases ho'
    exact ⟨_, es', ep', hL, r'⟩) hok I.bare
theorem Inv.call {g' : Array GenState} {t' : Nat} {d' : Drawn} {ch : List Addr} (I : Inv X pins σ H s) (u : Un (frs X.stack) ch H H' s.heap h') (hok : HOk X.prog X.w H' h') (hg : AllBare g')
    (hch : ∀ b ∈ ch, (b ∈ X.ex ∨ X.s₀.heap.objs.size ≤ b) ∧ b ≠ X.env.locals ∧ (∀ x c, X.env.cells.lookup x = some c → c ≠ b) ∧ ∀ p ∈ X.pn ++ pins, p.1 ≠ b) :
    Inv X pins σ H' { s with heap := h', gens := g', drawn := d', toks := t' } := by
  obtain ⟨m, ⟨o, es, ep, ho, r⟩, _⟩ := id I.loc
  obtain ⟨sl, hL⟩ := u.any ho I.free fun z => (hch _ z).2.1 rfl
  exact I.step (ch := ch) hch (fun b o hL hb hc e n => u.keep b o e n (fun z => (List.mem_cons.mp (I.stkSub b z)).elim hL hb) hc) (fun b o _ _ hc e n => u.any e n hc) (fun b o hc e n => u.free b o e n hc) (fun b o hc e => u.there b o e hc) u.tups u.frzs u.tbls (fun m' hm => by
    obtain ⟨o', es', ep', ho', r'⟩ := hm
    rw [ho] at ho'; cases ho'
    exact ⟨_, es', ep', hL, r'⟩) hok hg
theorem Inv.turned {t' : Nat} {it : Addr} (I : Inv X pins σ H s) (k : ∀ b o, b ≠ it → s.heap.get? b = some o → h'.get? b = some o) (hn : H it = none) (hL : it ≠ X.env.locals)
    (h1 : it ∈ X.ex ∨ X.s₀.heap.objs.size ≤ it) (h2 : ∀ x c, X.env.cells.lookup x = some c → c ≠ it) (h3 : ∀ p ∈ X.pn ++ pins, p.1 ≠ it) : Inv X pins σ H { s with heap := h', toks := t' } := by
  have nit : ∀ b u, H b = some u → b ≠ it := fun b u e z => by rw [z, hn] at e; cases e
  refine I.step (g' := s.gens) (d' := s.drawn) (ch := [it]) (fun b hb => ?_) (fun b o _ _ hc e _ => k b o (fun z => hc (by simp [z])) e) (fun b o _ _ hc e _ => ⟨o.slots, k b o (fun z => hc (by simp [z])) e⟩) (fun _ _ _ _ n => n)
    (fun b o hc e => ⟨o, k b o (fun z => hc (by simp [z])) e⟩) (fun _ _ e => e) (fun _ _ _ e => e) (fun b ps e => ⟨#[], by rw [e]; simp⟩) (fun m hm => ?_) (fun b u e => ?_) I.bare
  · have e : b = it := by simpa using hb
    subst e
    exact ⟨h1, hL, h2, h3⟩
  · obtain ⟨o, es, ep, ho, r⟩ := hm
    exact ⟨o, es, ep, k _ o (Ne.symm hL) ho, r⟩
  · refine (I.hok b u e).stay (fun c v hc q => k c v ?_ q) (fun _ q => q) fun _ _ q => q
    rcases hc with z | z
    · rw [z]; exact nit b u e
    · exact nit c _ z
theorem Inv.tok (I : Inv X pins σ H s) (t : Nat) : Inv X pins σ H { s with toks := t } := I.un (h' := s.heap) (t' := t) Un.refl I.hok
theorem Inv.kept {t' : Nat} (I : Inv X pins σ H s) (k : ∀ b u, s.heap.get? b = some u → h'.get? b = some u) : Inv X pins σ H { s with heap := h', toks := t' } := I.un (Un.kept k) (I.hok.kept k)
theorem Inv.laid {a : Addr} {o : HO} {t' : Nat} (I : Inv X pins σ H s) (k : ∀ b u, s.heap.get? b = some u → h'.get? b = some u) (hp : s.heap.objs.size ≤ a) (new : ObjOk X.prog X.w (upd H a o) h' a o) :
    Inv X pins σ (upd H a o) { s with heap := h', toks := t' } := I.un (Un.laid k hp (I.hok.fresh hp)) (I.hok.laid k hp new)
theorem Inv.write {x e : Addr} {o : HO} {t' : Nat} (I : Inv X pins σ H s) (mu : Mut (H x)) (he : e = x ∨ H e = some (.own x)) (k : ∀ b u, b ≠ e → s.heap.get? b = some u → h'.get? b = some u) (heo : ∃ u, h'.get? e = some u)
    (new : ObjOk X.prog X.w (upd H x o) h' x o) : Inv X pins σ (upd H x o) { s with heap := h', toks := t' } := I.un (Un.write mu he k heo) (I.hok.write mu he k heo new)
theorem Inv.pins_of {pins' : List (Addr × Obj)} (I : Inv X pins σ H s) (h : ∀ p ∈ pins', s.heap.get? p.1 = some p.2 ∧ H p.1 = none ∧ p.1 ≠ X.env.locals ∧ p.1 ∉ X.fs ∧ ∀ v, p.2.data ≠ .cell v) : Inv X pins' σ H s :=
  ⟨I.ok, I.os, I.bare, I.base, I.loc, I.cell, I.free, I.freeC, fun p hp => (List.mem_append.mp hp).elim (fun z => I.pin p (List.mem_append_left _ z)) (h p), I.hok, I.len⟩
theorem nodup_ix {N : List Str} (hN : N.Nodup) {i j : Nat} {x : Str} (a : N[i]? = some x) (b : N[j]? = some x) : i = j := by
  obtain ⟨h1, e1⟩ := List.getElem?_eq_some_iff.mp a
  obtain ⟨h2, e2⟩ := List.getElem?_eq_some_iff.mp b
  exact (List.getElem_inj hN).mp (e1.trans e2.symm)
theorem store_ok2 {M : Model} {A : Around} {E : Value → Shared → Prop} {i : Nat} {x : Str} {v : V} {u : Value} {Q : Unit → Shared → Prop} (I : Inv X pins σ H s) (hN : X.N.Nodup) (hi : X.N[i]? = some x) (hx : Loc X.env.scope x) (r : RelV v u)
    (h : ∀ s', Inv X pins (σ.set i (some v)) H s' → (∃ a, Heap.SameBut a s.heap s'.heap ∧ (a = X.env.locals ∨ X.env.cells.lookup x = some a)) → Q () s') (hf : X.fn x = true ∨ X.env.scope.names.lookup x = some .local := by first | exact .inl rfl | exact .inr rfl | assumption) : wpAny M A (storeName X.env x u) Q E s := by
  obtain ⟨m, hn, hl⟩ := id I.loc
  have hcls : (X.env.scope.kind == .class || (X.env.scope.kind == .module && X.env.locals != X.env.globals)) = false := by rw [I.ok.kind]; rfl
  have hiσ : i < σ.length := by rw [I.len]; exact (List.getElem?_eq_some_iff.mp hi).1
  have cne := I.cne
  have tracked : ∀ {a : Addr} {h' : Heap}, (∃ o, s.heap.get? a = some o ∧ H a = none) → Heap.SameBut a s.heap h' → HOk X.prog X.w H h' := fun {a h'} ha hs b ob e => by
    obtain ⟨_, _, hfree⟩ := ha
    refine (I.hok b ob e).stay (fun c w' hc q => (hs.2 c ?_).trans q) (fun _ q => q) fun _ _ q => q
    rintro rfl
    rcases hc with rfl | hc
    · rw [hfree] at e; cases e
    · rw [hfree] at hc; cases hc
  rcases hx with hk | hk
  · refine wpAny_storeName_local hk hn (fun h' hn' hs => ?_) hcls
    obtain ⟨oL, _, _, hoL, _⟩ := id hn
    refine h _ ⟨I.ok, I.os, I.bare, ⟨fun b o e n hb hx => ?_, fun b o e n hb hx => ?_, I.base.free, fun b o e hx => ?_, I.base.tups, I.base.frzs, I.base.tbls⟩, ⟨_, hn', fun j y v' e1 e2 e3 => ?_⟩, fun y c e => ?_, I.free, I.freeC, fun p hp => ?_, tracked ⟨oL, hoL, I.free⟩ hs, by simpa using I.len⟩ ⟨_, hs, .inl rfl⟩
    · exact (hs.2 b (Nat.ne_of_lt (Nat.lt_of_lt_of_le (Heap.lt_size e) I.ok.above))).trans (I.base.keep b o e n hb hx)
    · obtain ⟨sl, e1⟩ := I.base.slot b o e n hb hx
      exact ⟨sl, (hs.2 b (Nat.ne_of_lt (Nat.lt_of_lt_of_le (Heap.lt_size e) I.ok.above))).trans e1⟩
    · obtain ⟨o', e1⟩ := I.base.there b o e hx
      exact ⟨o', (hs.2 b (Nat.ne_of_lt (Nat.lt_of_lt_of_le (Heap.lt_size e) I.ok.above))).trans e1⟩
    · by_cases hj : j = i
      · subst hj
        rw [hi] at e1; cases e1
        rw [List.getElem?_set_self hiσ] at e2
        cases e2
        exact ⟨u, r, .inl ⟨hk, by simp⟩⟩
      · rw [List.getElem?_set_ne (Ne.symm hj)] at e2
        obtain ⟨u', r', q⟩ := hl j y v' e1 e2 e3
        refine ⟨u', r', ?_⟩
        rcases q with ⟨k, e⟩ | ⟨k, c, e, z⟩
        · refine .inl ⟨k, ?_⟩
          have : y ≠ x := fun e => hj (nodup_ix hN e1 (e ▸ hi))
          simp [this, e]
        · exact .inr ⟨k, c, e, z.sameBut hs (cne y c e)⟩
    · obtain ⟨w', z⟩ := I.cell y c e
      exact ⟨w', z.sameBut hs (cne y c e)⟩
    · obtain ⟨e, n, ne, nf, d⟩ := I.pin p hp
      exact ⟨(hs.2 p.1 ne).trans e, n, ne, nf, d⟩
  · have hfn : X.fn x = true := by
      rcases hf with z | z
      · exact z
      · rw [z] at hk; cases hk
    obtain ⟨c, hc⟩ := I.ok.has x (.inl hk)
    obtain ⟨w', z⟩ := I.cell x c hc
    refine wpAny_storeName_cell I.ok.kind hk hc z (fun h' hc' hs => ?_)
    obtain ⟨oc, hoc, hocd⟩ := id z
    refine h { s with heap := h' } ⟨I.ok, I.os, I.bare, ⟨fun b o e n hb hx => ?_, fun b o e n hb hx => ?_, I.base.free, fun b o e hx => ?_, I.base.tups, I.base.frzs, I.base.tbls⟩, ⟨m, hn.sameBut hs (Ne.symm (cne x c hc)), fun j y v' e1 e2 e3 => ?_⟩, fun y c' e => ?_, I.free, I.freeC, fun p hp => ?_, tracked ⟨oc, hoc, I.freeC x c hc⟩ hs, by simpa using I.len⟩ ⟨c, hs, .inr hc⟩
    · exact (hs.2 b (Nat.ne_of_lt (Nat.lt_of_lt_of_le (Heap.lt_size e) (I.ok.cab x c hfn hc)))).trans (I.base.keep b o e n hb hx)
    · obtain ⟨sl, e1⟩ := I.base.slot b o e n hb hx
      exact ⟨sl, (hs.2 b (Nat.ne_of_lt (Nat.lt_of_lt_of_le (Heap.lt_size e) (I.ok.cab x c hfn hc)))).trans e1⟩
    · obtain ⟨o', e1⟩ := I.base.there b o e hx
      exact ⟨o', (hs.2 b (Nat.ne_of_lt (Nat.lt_of_lt_of_le (Heap.lt_size e) (I.ok.cab x c hfn hc)))).trans e1⟩
    · by_cases hj : j = i
      · subst hj
        rw [hi] at e1; cases e1
        rw [List.getElem?_set_self hiσ] at e2
        cases e2
        exact ⟨u, r, .inr ⟨.inl hk, c, hc, hc'⟩⟩
      · rw [List.getElem?_set_ne (Ne.symm hj)] at e2
        obtain ⟨u', r', q⟩ := hl j y v' e1 e2 e3
        refine ⟨u', r', ?_⟩
        rcases q with q | ⟨k, c', e, z'⟩
        · exact .inl q
        · refine .inr ⟨k, c', e, z'.sameBut hs ?_⟩
          rintro rfl
          exact hj (nodup_ix hN e1 (I.ok.inj _ _ _ e hc ▸ hi))
    · by_cases hcc : c' = c
      · subst hcc; exact ⟨_, hc'⟩
      · obtain ⟨w2, z2⟩ := I.cell y c' e
        exact ⟨w2, z2.sameBut hs hcc⟩
    · obtain ⟨e, n, ne, nf, d⟩ := I.pin p hp
      refine ⟨(hs.2 p.1 ?_).trans e, n, ne, nf, d⟩
      intro q
      rw [q, hoc] at e
      have q' : oc = p.2 := Option.some.inj e
      exact d w' (by rw [← q']; exact hocd)
theorem store_ok {M : Model} {A : Around} {E : Value → Shared → Prop} {i : Nat} {x : Str} {v : V} {u : Value} {Q : Unit → Shared → Prop} (I : Inv X pins σ H s) (hN : X.N.Nodup) (hi : X.N[i]? = some x) (hx : Loc X.env.scope x) (r : RelV v u)
    (h : ∀ s', Inv X pins (σ.set i (some v)) H s' → Q () s') (hf : X.fn x = true ∨ X.env.scope.names.lookup x = some .local := by first | exact .inl rfl | exact .inr rfl | assumption) : wpAny M A (storeName X.env x u) Q E s :=
  store_ok2 I hN hi hx r (fun s' I' _ => h s' I') hf
theorem Inv.call' {s' : Shared} {ch : List Addr} (I : Inv X pins σ H s) (ho : s'.os = s.os) (u : Un (frs X.stack) ch H H' s.heap s'.heap) (hok : HOk X.prog X.w H' s'.heap) (hg : AllBare s'.gens)
    (hch : ∀ b ∈ ch, (b ∈ X.ex ∨ X.s₀.heap.objs.size ≤ b) ∧ b ≠ X.env.locals ∧ (∀ x c, X.env.cells.lookup x = some c → c ≠ b) ∧ ∀ p ∈ X.pn ++ pins, p.1 ≠ b) : Inv X pins σ H' s' := by
  obtain ⟨h', g', d', t', o'⟩ := s'
  have e : o' = s.os := ho
  subst e
  exact I.call (g' := g') (t' := t') (d' := d') u hok hg hch
end
abbrev XK := Value → Option Addr → Hp → Prop
abbrev St := List (Option V)
abbrev VK := V → Hp → Prop
abbrev TE := St → Hp → VK → Prop
abbrev TT := St → Hp → (Bool → Hp → Prop) → Prop
abbrev TA := St → Hp → (List V → Hp → Prop) → Prop
structure Ends where
  nx : St → Hp → Prop
  rt : VK
  bk : St → Hp → Prop := fun _ _ => False
  ct : St → Hp → Prop := fun _ _ => False
abbrev TS := Ends → St → Hp → Prop
def EP (X : Cx) (pins : List (Addr × Obj)) (σ : St) (Q : VK) (u : Value) (s' : Shared) : Prop := ∃ v H', Inv X pins σ H' s' ∧ RelV v u ∧ Q v H'
def TP (X : Cx) (pins : List (Addr × Obj)) (σ : St) (Q : Bool → Hp → Prop) (b : Bool) (s' : Shared) : Prop := ∃ H', Inv X pins σ H' s' ∧ Q b H'
def AP (X : Cx) (pins : List (Addr × Obj)) (σ : St) (Q : List V → Hp → Prop) (us : List Value) (s' : Shared) : Prop := ∃ vs H', Inv X pins σ H' s' ∧ Vals vs us ∧ Q vs H'
def SP (X : Cx) (pins : List (Addr × Obj)) (D : Ends) (f : Flow) (s' : Shared) : Prop :=
  match f with
  | .next => ∃ σ' H', Inv X pins σ' H' s' ∧ D.nx σ' H'
  | .brk => ∃ σ' H', Inv X pins σ' H' s' ∧ D.bk σ' H'
  | .cont => ∃ σ' H', Inv X pins σ' H' s' ∧ D.ct σ' H'
  | .ret u => ∃ v σ' H', Inv X pins σ' H' s' ∧ RelV v u ∧ D.rt v H'
def PE (X : Cx) (e : Expr) (t : TE) : Prop :=
  ∀ (pins : List (Addr × Obj)) (s : Shared) (σ : St) (H : Hp) (Q : VK), Inv X pins σ H s → t σ H Q → wpAny (model X.prog X.w) X.A (eval e X.env) (EP X pins σ Q) X.xe s
def PT (X : Cx) (e : Expr) (t : TT) : Prop :=
  ∀ (pins : List (Addr × Obj)) (s : Shared) (σ : St) (H : Hp) (Q : Bool → Hp → Prop), Inv X pins σ H s → t σ H Q → wpAny (model X.prog X.w) X.A (isTrue e X.env (eval e X.env)) (TP X pins σ Q) X.xe s
def PW (X : Cx) (e : Expr) (t : TT) : Prop :=
  ∀ (whole : Sem Value) (pins : List (Addr × Obj)) (s : Shared) (σ : St) (H : Hp) (Q : Bool → Hp → Prop), Inv X pins σ H s → t σ H Q → wpAny (model X.prog X.w) X.A (isTrue e X.env whole) (TP X pins σ Q) X.xe s
theorem PW.pt {X : Cx} {e : Expr} {t : TT} (h : PW X e t) : PT X e t := h _
def PA (X : Cx) (es : List Expr) (t : TA) : Prop :=
  ∀ (pos : Pos) (pins : List (Addr × Obj)) (s : Shared) (σ : St) (H : Hp) (Q : List V → Hp → Prop), Inv X pins σ H s → t σ H Q → wpAny (model X.prog X.w) X.A (spliced (backTo pos (starEach es X.env))) (AP X pins σ Q) X.xe s
def PS (X : Cx) (st : Stmt) (t : TS) : Prop :=
  ∀ (pins : List (Addr × Obj)) (s : Shared) (σ : St) (H : Hp) (D : Ends), Inv X pins σ H s → t D σ H → wpAny (model X.prog X.w) X.A (exec st X.env) (SP X pins D) X.xe s
def PSs (X : Cx) (st : List Stmt) (t : TS) : Prop :=
  ∀ (pins : List (Addr × Obj)) (s : Shared) (σ : St) (H : Hp) (D : Ends), Inv X pins σ H s → t D σ H → wpAny (model X.prog X.w) X.A (execs st X.env) (SP X pins D) X.xe s
theorem thn {α : Type} {t : Sem α} {Q Q' : α → Shared → Prop} {M : Model} {A : Around} {E : Value → Shared → Prop} {s : Shared} (h : wpAny M A t Q E s) (hQ : ∀ a s, Q a s → Q' a s) : wpAny M A t Q' E s := wpAny_mono h hQ fun _ _ x => x
end L2
namespace L2
open PySem PySem.Spec PyProof.Rows
section
variable {X : Cx}
def tVar (i : Nat) : TE := fun σ H Q => ∃ v, σ[i]? = some (some v) ∧ Q v H
def tC (v : V) : TE := fun _ H Q => Q v H
theorem pe_var {i : Nat} {x : Str} {pos : Pos} (hN : X.N[i]? = some x) (hv : Vis X.env.scope x) (hd : (x == ("__debug__" : Str)) = false := by decide) (hcd : (x == ("__classdict__" : Str)) = false := by decide) : PE X (.Name x pos) (tVar i) := by
  intro pins s σ H Q I h
  obtain ⟨v, e, h⟩ := h
  obtain ⟨m, hn, hl⟩ := I.loc
  obtain ⟨u, r, l⟩ := hl i x v hN e hv
  have fin : EP X pins σ Q u s := ⟨v, H, I, r, h⟩
  rcases l with ⟨hk, hm⟩ | ⟨hk, c, hc, hcell⟩
  · exact wpAny_Name (wpAny_loadName_local I.ok.kind hk hn hm fin) hd
  · rcases hk with hk | hk
    · exact wpAny_Name (wpAny_loadName_cell I.ok.kind hk hc hcell fin) hd
    · exact wpAny_Name (wpAny_loadName_free I.ok.kind hk hc hcell fin hcd) hd
theorem pe_int {i j pos} : PE X (.Constant (.int i) j pos) (tC (.int i)) := fun _ _ _ H _ I h => wpAny_Constant_int ⟨.int i, H, I.tok _, ⟨_, rfl⟩, h⟩
theorem pe_bl {b j pos} : PE X (.Constant (.bool b) j pos) (tC (.bl b)) := fun _ _ _ H _ I h => Constant_bool ⟨.bl b, H, I, rfl, h⟩
theorem pe_non {j pos} : PE X (.Constant .none j pos) (tC .non) := fun _ _ _ H _ I h => Constant_none ⟨.non, H, I, rfl, h⟩
theorem pe_str {x j pos} : PE X (.Constant (.str x) j pos) (tC (.str x)) := fun _ _ _ H _ I h => Calls.Constant_str ⟨.str x, H, I.tok _, ⟨_, rfl⟩, h⟩
def Gl (X : Cx) (x : Str) : Prop := X.env.kindOf x = some .globalImplicit
theorem ld_glob {E : Value → Shared → Prop} {pins : List (Addr × Obj)} {s : Shared} {σ : St} {H : Hp} {x : Str} {u : Value} {pos : Pos} {Q : Value → Shared → Prop} (I : Inv X pins σ H s) (hg : Gl X x) (hm : X.mg x = some u) (h : Q u s)
    (hd : (x == ("__debug__" : Str)) = false := by decide) : wpAny (model X.prog X.w) X.A (eval (.Name x pos) X.env) Q E s :=
  Calls.Name_function_global I.ok.kind hg (Calls.loadGlobal_global (by rw [I.ok.glob]; exact I.mod.glob.keeps I.bk) hm h) hd
theorem ld_blt {E : Value → Shared → Prop} {pins : List (Addr × Obj)} {s : Shared} {σ : St} {H : Hp} {x : Str} {u : Value} {pos : Pos} {Q : Value → Shared → Prop} (I : Inv X pins σ H s) (hg : Gl X x) (hm : X.mg x = none) (hv : bootBuiltins x = some u) (h : Q u s)
    (hn : x ≠ "__name__" := by decide) (hd : (x == ("__debug__" : Str)) = false := by decide) : wpAny (model X.prog X.w) X.A (eval (.Name x pos) X.env) Q E s := by
  obtain ⟨mb, h1, h2⟩ := I.mod.blt
  exact Calls.Name_function_global I.ok.kind hg (Calls.loadGlobal_builtin (by rw [I.ok.glob]; exact I.mod.glob.keeps I.bk) hm (by rw [I.ok.blt]; exact h1.keeps I.bk) ((h2 x hn).trans hv) h) hd
theorem pe_glob {x : Str} {v : V} {u : Value} {pos : Pos} (hg : Gl X x) (hm : X.mg x = some u) (r : RelV v u) (hd : (x == ("__debug__" : Str)) = false := by decide) : PE X (.Name x pos) (tC v) :=
  fun _ _ _ H _ I h => ld_glob I hg hm ⟨v, H, I, r, h⟩ hd
theorem pe_bltn {x : Str} {v : V} {u : Value} {pos : Pos} (hg : Gl X x) (hm : X.mg x = none) (hv : bootBuiltins x = some u) (r : RelV v u) (hn : x ≠ "__name__" := by decide) (hd : (x == ("__debug__" : Str)) = false := by decide) : PE X (.Name x pos) (tC v) :=
  fun _ _ _ H _ I h => ld_blt I hg hm hv ⟨v, H, I, r, h⟩ hn hd
variable {a b : Expr} {ta tb : TE} {pos : Pos}
def tB (t : TE) : TT := fun σ H Q => t σ H fun x H1 => ∃ c, x = .bl c ∧ Q c H1
theorem pt_val {e : Expr} {t : TE} (h : PE X e t) (he : ∀ whole, isTrue e X.env whole = (do let v ← whole; standAt e.pos; holding [v] (truthy v)) := by intro _; rfl) : PT X e (tB t) := by
  intro pins s σ H Q I hw
  refine isTrue_plain (thn (h pins s σ H _ I hw) fun v s1 ⟨x, H1, I1, r1, q1⟩ => ?_) (he _)
  obtain ⟨d, rfl, q⟩ := q1
  cases r1
  exact wpAny_truthy_bool ⟨H1, I1, q⟩
variable {tA tB' : TT} {rest : List Expr}
def tAnd (t u : TT) : TT := fun σ H Q => t σ H fun c H1 => if c = true then u σ H1 Q else Q false H1
def tOr (t u : TT) : TT := fun σ H Q => t σ H fun c H1 => if c = true then Q true H1 else u σ H1 Q
def tNot (t : TT) : TT := fun σ H Q => t σ H fun c H1 => Q (!c) H1
theorem pw_and1 (ha : PT X a tA) : PW X (.BoolOp .And [a] pos) tA := by
  intro wh pins s σ H Q I h
  refine isTrue_and (thn (ha pins s σ H Q I h) fun c s1 e => ?_)
  cases c with
  | true => exact isTrue_and_nil e
  | false => exact e
theorem pw_or1 (ha : PT X a tA) : PW X (.BoolOp .Or [a] pos) tA := by
  intro wh pins s σ H Q I h
  refine isTrue_or (thn (ha pins s σ H Q I h) fun c s1 e => ?_)
  cases c with
  | false => exact isTrue_or_nil e
  | true => exact e
theorem pw_and (ha : PT X a tA) (hb : PW X (.BoolOp .And (b :: rest) pos) tB') : PW X (.BoolOp .And (a :: b :: rest) pos) (tAnd tA tB') := by
  intro wh pins s σ H Q I h
  refine isTrue_and (thn (ha pins s σ H _ I h) fun c s1 ⟨H1, I1, q1⟩ => ?_)
  cases c with
  | true => exact hb wh pins s1 σ H1 Q I1 q1
  | false => exact ⟨H1, I1, q1⟩
theorem pw_or (ha : PT X a tA) (hb : PW X (.BoolOp .Or (b :: rest) pos) tB') : PW X (.BoolOp .Or (a :: b :: rest) pos) (tOr tA tB') := by
  intro wh pins s σ H Q I h
  refine isTrue_or (thn (ha pins s σ H _ I h) fun c s1 ⟨H1, I1, q1⟩ => ?_)
  cases c with
  | true => exact ⟨H1, I1, q1⟩
  | false => exact hb wh pins s1 σ H1 Q I1 q1
theorem pt_not (ha : PT X a tA) : PT X (.UnaryOp .Not a pos) (tNot tA) := by
  intro pins s σ H Q I h
  exact isTrue_not (ha pins s σ H (fun c H1 => Q (!c) H1) I h)
def tAndV (ta tb : TE) : TE := fun σ H Q => ta σ H fun x H1 => ∃ c, x = .bl c ∧ if c = true then tb σ H1 Q else Q (.bl false) H1
def tOrV (ta tb : TE) : TE := fun σ H Q => ta σ H fun x H1 => ∃ c, x = .bl c ∧ if c = true then Q (.bl true) H1 else tb σ H1 Q
def tNotV (ta : TE) : TE := fun σ H Q => ta σ H fun x H1 => ∃ c, x = .bl c ∧ Q (.bl (!c)) H1
theorem pe_one {op} {t : TE} (h : PE X a t) : PE X (.BoolOp op [a] pos) t := fun pins s σ H Q I hw => BoolOp_one (h pins s σ H Q I hw)
theorem pe_and (ha : PE X a ta) (hb : PE X (.BoolOp .And (b :: rest) pos) tb) : PE X (.BoolOp .And (a :: b :: rest) pos) (tAndV ta tb) := by
  intro pins s σ H Q I h
  refine BoolOp_and (thn (ha pins s σ H _ I h) fun v s1 ⟨x, H1, I1, r1, q1⟩ => ?_)
  obtain ⟨c, rfl, q1⟩ := q1
  cases r1
  refine wpAny_truthy_bool ?_
  cases c with
  | true => exact hb pins s1 σ H1 Q I1 q1
  | false => exact ⟨.bl false, H1, I1, rfl, q1⟩
theorem pe_or (ha : PE X a ta) (hb : PE X (.BoolOp .Or (b :: rest) pos) tb) : PE X (.BoolOp .Or (a :: b :: rest) pos) (tOrV ta tb) := by
  intro pins s σ H Q I h
  refine BoolOp_or (thn (ha pins s σ H _ I h) fun v s1 ⟨x, H1, I1, r1, q1⟩ => ?_)
  obtain ⟨c, rfl, q1⟩ := q1
  cases r1
  refine wpAny_truthy_bool ?_
  cases c with
  | false => exact hb pins s1 σ H1 Q I1 q1
  | true => exact ⟨.bl true, H1, I1, rfl, q1⟩
theorem pe_not (ha : PE X a ta) : PE X (.UnaryOp .Not a pos) (tNotV ta) := by
  intro pins s σ H Q I h
  refine UnaryOp_ (thn (ha pins s σ H _ I h) fun v s1 ⟨x, H1, I1, r1, q1⟩ => ?_)
  obtain ⟨c, rfl, q1⟩ := q1
  cases r1
  exact not_of (wpAny_truthy_bool ⟨.bl (!c), H1, I1, rfl, q1⟩)
def tIf (t : TT) (ta tb : TE) : TE := fun σ H Q => t σ H fun c H1 => if c = true then ta σ H1 Q else tb σ H1 Q
theorem pe_ifExp {c : Expr} (hc : PT X c tA) (ha : PE X a ta) (hb : PE X b tb) : PE X (.IfExp c a b pos) (tIf tA ta tb) := by
  intro pins s σ H Q I h
  refine wpAny_IfExp (thn (hc pins s σ H _ I h) fun d s1 ⟨H1, I1, q1⟩ => ?_)
  cases d with
  | true => exact ha pins s1 σ H1 Q I1 q1
  | false => exact hb pins s1 σ H1 Q I1 q1
end
end L2
namespace L2
open PySem PySem.Spec PyProof.Rows
def SqL (K : PySem.W.Frag) (H : Hp) (a : Addr) (xs : List V) : Prop :=
  Rd H a (.lst xs) ∨
    ∃ (o : Obj) (its : Array Value) (n : Nat), K.lookup a = some o ∧ o.cls = .type "list" ∧ o.dict = none ∧ o.data = .seq its n ∧ its.size ≤ sizeLine ∧ Vals xs its.toList
def SqT (K : PySem.W.Frag) (H : Hp) (a : Addr) (xs : List V) : Prop :=
  Rd H a (.tup xs) ∨
    ∃ (o : Obj) (its : Array Value) (n : Nat), K.lookup a = some o ∧ o.cls = .type "tuple" ∧ o.data = .seq its n ∧ its.size ≤ sizeLine ∧ Vals xs its.toList
def absV : Value → Option V
  | .none => some .non
  | .bool b => some (.bl b)
  | .int i _ => some (.int i)
  | .str x _ => some (.str x)
  | .bytes b _ => some (.byt b)
  | .float b _ => some (.flt b)
  | .ref a => some (.ref a)
  | .type n => some (.ty n)
  | _ => none
theorem RelV.abs {x : V} {u : Value} (r : RelV x u) : absV u = some x := by
  cases x with
  | non => cases r; rfl
  | bl _ => cases r; rfl
  | int _ => obtain ⟨t, rfl⟩ := r; rfl
  | str _ => obtain ⟨t, rfl⟩ := r; rfl
  | byt _ => obtain ⟨t, rfl⟩ := r; rfl
  | flt _ => obtain ⟨t, rfl⟩ := r; rfl
  | ref _ => cases r; rfl
  | ty _ => cases r; rfl
theorem RelV.inj {x y : V} {u : Value} (r : RelV x u) (q : RelV y u) : x = y := Option.some.inj (r.abs.symm.trans q.abs)
theorem Vals.inj : ∀ {xs ys : List V} {us : List Value}, Vals xs us → Vals ys us → xs = ys
  | _, _, _, .nil, .nil => rfl
  | _, _, _, .cons r t, .cons r' t' => by rw [r.inj r', Vals.inj t t']
section
variable {X : Cx} {pins : List (Addr × Obj)} {σ : St} {H : Hp} {s : Shared} {a : Addr} {xs ys : List V}
theorem SqL.of {K : PySem.W.Frag} (h : H a = some (.lst xs)) : SqL K H a xs := .inl (.inl h)
theorem SqT.of {K : PySem.W.Frag} (h : H a = some (.tup xs)) : SqT K H a xs := .inl (.inl h)
theorem Inv.list (I : Inv X pins σ H s) (h : SqL X.K H a xs) : ∃ its : List Value, Vals xs its ∧ PlainL s.heap a its.toArray ∧ xs.length ≤ sizeLine := by
  rcases h with h | ⟨o, its, n, hk, hc, hd, hs, hz, r⟩
  · obtain ⟨z, its, n, r, e⟩ := h.ok I.hok
    exact ⟨its, r, ⟨_, n, e, rfl, rfl, rfl⟩, z⟩
  · refine ⟨its.toList, r, ⟨o, n, I.kIn a o hk, hc, hd, by simpa using hs⟩, ?_⟩
    have e := r.length
    simp only [Array.length_toList] at e
    omega
theorem Inv.tuple (I : Inv X pins σ H s) (h : SqT X.K H a xs) : ∃ its : List Value, Vals xs its ∧ IsTup s.heap a its.toArray ∧ xs.length ≤ sizeLine := by
  rcases h with h | ⟨o, its, n, hk, hc, hs, hz, r⟩
  · obtain ⟨z, its, r, p⟩ := h.ok I.hok
    exact ⟨its, r, p, z⟩
  · refine ⟨its.toList, r, ⟨o, I.kIn a o hk, hc, n, by simpa using hs⟩, ?_⟩
    have e := r.length
    simp only [Array.length_toList] at e
    omega
theorem Inv.list_inj (I : Inv X pins σ H s) (h : SqL X.K H a xs) (h' : SqL X.K H a ys) : xs = ys := by
  obtain ⟨its, r, ⟨o, n, e, _, _, d⟩, _⟩ := I.list h
  obtain ⟨its', r', ⟨o', n', e', _, _, d'⟩, _⟩ := I.list h'
  rw [e] at e'; cases e'
  rw [d] at d'
  injection d' with d1 _
  have : its = its' := by simpa using congrArg Array.toList d1
  subst this
  exact r.inj r'
theorem Inv.tuple_inj (I : Inv X pins σ H s) (h : SqT X.K H a xs) (h' : SqT X.K H a ys) : xs = ys := by
  obtain ⟨its, r, ⟨o, e, _, n, d⟩, _⟩ := I.tuple h
  obtain ⟨its', r', ⟨o', e', _, n', d'⟩, _⟩ := I.tuple h'
  rw [e] at e'; cases e'
  rw [d] at d'
  injection d' with d1 _
  have : its = its' := by simpa using congrArg Array.toList d1
  subst this
  exact r.inj r'
end
abbrev Cx.wish (X : Cx) (E : Value → Shared → Prop) : Cx := { X with xe := E }
abbrev Cx.nox (X : Cx) : Cx := X.wish fun _ _ => False
theorem Cx.Ok.wish {X : Cx} (ok : X.Ok) (E : Value → Shared → Prop) : (X.wish E).Ok :=
  ⟨ok.mod, ok.kind, ok.glob, ok.blt, ok.above, ok.inj, ok.has, ok.cab, ok.hd, ok.frames, ok.stk, ok.exf, ok.bs, ok.bsz, ok.noex, ok.exfs, ok.funs, ok.frf⟩
theorem Cx.Ok.unwish {X : Cx} {E : Value → Shared → Prop} (ok : (X.wish E).Ok) : X.Ok :=
  ⟨ok.mod, ok.kind, ok.glob, ok.blt, ok.above, ok.inj, ok.has, ok.cab, ok.hd, ok.frames, ok.stk, ok.exf, ok.bs, ok.bsz, ok.noex, ok.exfs, ok.funs, ok.frf⟩
section
variable {X : Cx} {pins : List (Addr × Obj)} {σ : St} {H : Hp} {s : Shared} {E : Value → Shared → Prop}
theorem Inv.wish (I : Inv X pins σ H s) (E : Value → Shared → Prop) : Inv (X.wish E) pins σ H s := ⟨I.ok.wish E, I.os, I.bare, I.base, I.loc, I.cell, I.free, I.freeC, I.pin, I.hok, I.len⟩
theorem Inv.unwish (I : Inv (X.wish E) pins σ H s) : Inv X pins σ H s := ⟨I.ok.unwish, I.os, I.bare, I.base, I.loc, I.cell, I.free, I.freeC, I.pin, I.hok, I.len⟩
theorem SP.unwish {D : Ends} {f : Flow} {s' : Shared} (h : SP (X.wish E) pins D f s') : SP X pins D f s' := by
  cases f with
  | next => obtain ⟨σ', H', I, q⟩ := h; exact ⟨σ', H', I.unwish, q⟩
  | brk => obtain ⟨σ', H', I, q⟩ := h; exact ⟨σ', H', I.unwish, q⟩
  | cont => obtain ⟨σ', H', I, q⟩ := h; exact ⟨σ', H', I.unwish, q⟩
  | ret u => obtain ⟨v, σ', H', I, r, q⟩ := h; exact ⟨v, σ', H', I.unwish, r, q⟩
theorem PSs.nox {st : List Stmt} {t : TS} (h : PSs X.nox st t) : PSs X st t := fun pins s σ H D I hw =>
  wpAny_mono (h pins s σ H D (I.wish _) hw) (fun _ _ q => q.unwish) fun _ _ z => False.elim z
end
section
variable {X : Cx} {st : Stmt} {rest : List Stmt} {t u : TS} {e : Expr} {te : TE} {pos : Pos}
def tNext : TS := fun D σ H => D.nx σ H
def tSeq (t u : TS) : TS := fun D σ H => t { D with nx := u D } σ H
theorem pss_nil : PSs X [] tNext := fun _ _ σ H _ I h => wpAny_execs_nil ⟨σ, H, I, h⟩
theorem pss_cons (h1 : PS X st t) (h2 : PSs X rest u) : PSs X (st :: rest) (tSeq t u) := by
  intro pins s σ H D I h
  refine wpAny_execs_cons (thn (h1 pins s σ H { D with nx := u D } I h) fun f s1 q => ?_)
  cases f with
  | next =>
    obtain ⟨σ', H', I', q⟩ := q
    exact h2 pins s1 σ' H' D I' q
  | ret v => exact q
  | brk => exact q
  | cont => exact q
theorem pss_one (h1 : PS X st t) : PSs X [st] t := by
  intro pins s σ H D I h
  refine wpAny_execs_cons (thn (h1 pins s σ H D I h) fun f s1 q => ?_)
  cases f with
  | next => exact wpAny_execs_nil q
  | ret v => exact q
  | brk => exact q
  | cont => exact q
def tBreak : TS := fun D σ H => D.bk σ H
theorem Inv.quiet {pins : List (Addr × Obj)} {σ : St} {H : Hp} {s : Shared} (I : Inv X pins σ H s) : interactive X.env = false := by simp [interactive, I.ok.kind]
def tDrop (te : TE) : TS := fun D σ H => te σ H fun _ H1 => D.nx σ H1
theorem ps_expr (he : PE X e te) (hs : swapsWith e none pos.line X.env = pure false := by rfl) : PS X (.Expr e pos) (tDrop te) := by
  intro pins s σ H D I h
  exact wpAny_Expr_any (thn (he pins s σ H _ I h) fun v s1 ⟨x, H1, I1, r1, q1⟩ => ⟨σ, H1, I1, q1⟩) I.quiet hs
def tRet (te : TE) : TS := fun D σ H => te σ H D.rt
theorem ps_ret (he : PE X e te) : PS X (.Return (some e) pos) (tRet te) := by
  intro pins s σ H D I h
  exact wpAny_Return_some (thn (he pins s σ H _ I h) fun v s1 ⟨x, H1, I1, r1, q1⟩ => ⟨x, σ, H1, I1, r1, q1⟩)
def tRetN : TS := fun D _ H => D.rt .non H
def tIfS (c : TT) (t u : TS) : TS := fun D σ H => c σ H fun b H1 => if b = true then t D σ H1 else u D σ H1
theorem ps_if {c : Expr} {a b : List Stmt} {tc : TT} (hc : PT X c tc) (ha : PSs X a t) (hb : PSs X b u) : PS X (.If c a b pos) (tIfS tc t u) := by
  intro pins s σ H D I h
  refine wpAny_If (thn (hc pins s σ H _ I h) fun d s1 ⟨H1, I1, q1⟩ => ?_)
  cases d with
  | true => exact ha pins s1 σ H1 D I1 q1
  | false => exact hb pins s1 σ H1 D I1 q1
end
abbrev TG := V → St → Hp → (St → Hp → Prop) → Prop
abbrev TGs := List V → St → Hp → (St → Hp → Prop) → Prop
def PG (X : Cx) (target : Expr) (t : TG) : Prop :=
  ∀ (pins : List (Addr × Obj)) (s : Shared) (σ : St) (H : Hp) (v : V) (u : Value) (Q : St → Hp → Prop), Inv X pins σ H s → RelV v u → t v σ H Q →
    wpAny (model X.prog X.w) X.A (assign target X.env u) (fun _ s' => ∃ σ' H', Inv X pins σ' H' s' ∧ Q σ' H') X.xe s
def PGs (X : Cx) (ts : List Expr) (t : TGs) : Prop :=
  ∀ (pins : List (Addr × Obj)) (s : Shared) (σ : St) (H : Hp) (vs : List V) (us : List Value) (Q : St → Hp → Prop), Inv X pins σ H s → Vals vs us → t vs σ H Q →
    wpAny (model X.prog X.w) X.A (assignInOrder ((assignEach ts X.env).map (·.2)) us) (fun _ s' => ∃ σ' H', Inv X pins σ' H' s' ∧ Q σ' H') X.xe s
abbrev TSet := V → V → V → Hp → (Hp → Prop) → Prop
def PSet (X : Cx) (t : TSet) : Prop :=
  ∀ (pins : List (Addr × Obj)) (s : Shared) (σ : St) (H : Hp) (o i v : V) (ov iv u : Value) (Q : Hp → Prop), Inv X pins σ H s → RelV o ov → RelV i iv → RelV v u → t o i v H Q →
    wpAny (model X.prog X.w) X.A (setItem ov iv u) (fun _ s' => ∃ H', Inv X pins σ H' s' ∧ Q H') X.xe s
abbrev TIp := V → V → Hp → VK → Prop
section
variable {X : Cx} {pos : Pos}
def gName (i : Nat) : TG := fun v σ H Q => Q (σ.set i (some v)) H
theorem pg_name {i : Nat} {x : Str} (hN : X.N.Nodup) (hi : X.N[i]? = some x) (hx : Loc X.env.scope x) (hf : X.fn x = true ∨ X.env.scope.names.lookup x = some .local := by first | exact .inl rfl | exact .inr rfl | assumption) : PG X (.Name x pos) (gName i) := by
  intro pins s σ H v u Q I r h
  exact wpAny_assign_Name (store_ok I hN hi hx r (fun s' I' => ⟨_, H, I', h⟩) hf)
def gNil : TGs := fun vs σ H Q => vs = [] ∧ Q σ H
def gCons (t : TG) (u : TGs) : TGs := fun vs σ H Q => ∃ v r, vs = v :: r ∧ t v σ H fun σ' H' => u r σ' H' Q
theorem pgs_nil : PGs X [] gNil := by
  intro pins s σ H vs us Q I r h
  obtain ⟨e, h⟩ := h
  subst e
  cases r
  exact assignInOrder_nil ⟨σ, H, I, h⟩
theorem pgs_cons {e : Expr} {es : List Expr} {t : TG} {u : TGs} (h1 : PG X e t) (h2 : PGs X es u)
    (hs : (assignEach (e :: es) X.env).map (·.2) = assign e X.env :: (assignEach es X.env).map (·.2) := by rfl) : PGs X (e :: es) (gCons t u) := by
  intro pins s σ H vs us Q I r h
  obtain ⟨v, vr, e1, h⟩ := h
  subst e1
  cases r with
  | cons r rr =>
    rw [hs]
    refine assignInOrder_cons (thn (h1 pins s σ H _ _ _ I r h) fun _ s1 ⟨σ1, H1, I1, q1⟩ => ?_)
    exact h2 pins s1 σ1 H1 _ _ Q I1 rr q1
def gTup (K : PySem.W.Frag) (n : Nat) (t : TGs) : TG := fun v σ H Q => ∃ a xs, v = .ref a ∧ SqT K H a xs ∧ xs.length = n ∧ t xs σ H Q
theorem pg_tup {es : List Expr} {k : Nat} {t : TGs} {n : Nat} (hc : X.calm = true) (h : PGs X es t)
    (hn : (assignEach es X.env).length = n := by rfl) (hst : (assignEach es X.env).findIdx? (·.1) = none := by rfl) : PG X (.Tuple es k pos) (gTup X.K n t) := by
  intro pins s σ H v u Q I r hw
  obtain ⟨a, xs, e1, hq, hl, hw⟩ := hw
  subst e1
  cases r
  obtain ⟨its, rv, ht, hz⟩ := I.tuple hq
  refine assign_Tuple_tuple (I.ok.hd hc) ht (by simp [hn, ← hl, rv.length]) hst fun h' hx => ?_
  have I1 : Inv X pins σ H { s with heap := h' } := I.kept (t' := s.toks) fun b o e => hx b o (Nat.ne_of_lt (Heap.lt_size e)) e
  exact h pins _ σ H xs _ Q I1 (by simpa using rv) hw
def gSub (to ti : TE) (t : TSet) : TG := fun v σ H Q => to σ H fun o H1 => ti σ H1 fun i H2 => t o i v H2 fun H3 => Q σ H3
theorem pg_sub {o i : Expr} {to ti : TE} {t : TSet} (ho : PE X o to) (hi : PE X i ti) (hs : PSet X t)
    (ha : ∀ v, assign (.Subscript o i pos) X.env v = (do
      let ov ← holding [v] (eval o X.env)
      let iv ← holding [v, ov] (eval i X.env)
      standAt pos
      holding [v, ov, iv] (setItem ov iv v)
      release [v, ov, iv] []) := by intro _; rfl) : PG X (.Subscript o i pos) (gSub to ti t) := by
  intro pins s σ H v u Q I r h
  rw [ha]
  refine wpAny_bind (wpAny_holding (thn (ho pins s σ H _ I h) fun ov s1 ⟨x, H1, I1, r1, q1⟩ => ?_))
  refine wpAny_bind (wpAny_holding (thn (hi pins s1 σ H1 _ I1 q1) fun iv s2 ⟨y, H2, I2, r2, q2⟩ => ?_))
  refine wpAny_bind (wpAny_standAt (wpAny_bind (wpAny_holding (thn (hs pins s2 σ H2 x y v ov iv u _ I2 r1 r2 r q2) fun _ s3 ⟨H3, I3, q3⟩ => ?_))))
  exact wpAny_release ⟨σ, H3, I3, q3⟩
def tAsg (te : TE) (g : TG) : TS := fun D σ H => te σ H fun x H1 => g x σ H1 D.nx
theorem ps_asg {tg e : Expr} {te : TE} {g : TG} (he : PE X e te) (hg : PG X tg g) (hs : swapsWithSole [tg] e pos.line X.env = pure false := by rfl) (hw : swappedStores [tg] e X.env = pure none := by rfl)
    (h1 : (assignEach [tg] X.env).map (·.2) = [assign tg X.env] := by rfl) : PS X (.Assign [tg] e pos) (tAsg te g) := by
  intro pins s σ H D I h
  refine wpAny_Assign_stores (thn (he pins s σ H _ I h) fun v s1 ⟨x, H1, I1, r1, q1⟩ => ?_) hs hw
  rw [h1]
  exact thn (hg pins s1 σ H1 x v _ I1 r1 q1) fun _ s2 q => q
theorem ps_set {i : Nat} {x : Str} {e : Expr} {te : TE} {pos' : Pos} (hN : X.N.Nodup) (hi : X.N[i]? = some x) (hx : Loc X.env.scope x) (he : PE X e te) (hs : swapsWith e (some (.Name x pos')) pos.line X.env = pure false := by rfl) (hf : X.fn x = true ∨ X.env.scope.names.lookup x = some .local := by first | exact .inl rfl | exact .inr rfl | assumption) :
    PS X (.Assign [.Name x pos'] e pos) (tAsg te (gName i)) := by
  intro pins s σ H D I h
  refine wpAny_Assign_Name (thn (he pins s σ H _ I h) fun v s1 ⟨y, H1, I1, r1, q1⟩ => ?_) hs
  exact store_ok I1 hN hi hx r1 (fun s2 I2 => ⟨_, H1, I2, q1⟩) hf
def tPar (i j : Nat) (ta : TA) : TS := fun D σ H => ta σ H fun vs H1 => ∃ v w, vs = [v, w] ∧ D.nx ((σ.set i (some v)).set j (some w)) H1
def tAugS (to ti te : TE) (tget : V → V → Hp → VK → Prop) (tip : TIp) (tset : TSet) : TS := fun D σ H => to σ H fun o H1 => ti σ H1 fun i H2 => tget o i H2 fun x H3 => te σ H3 fun y H4 => tip x y H4 fun z H5 => tset o i z H5 fun H6 => D.nx σ H6
def ipI (f : Int → Int → Int) : TIp := fun x y H Q => ∃ i j, x = .int i ∧ y = .int j ∧ Q (.int (f i j)) H
end
section
variable {X : Cx} {pos : Pos}
def tWhile (c : TT) (tb : TS) : TS := fun D σ H => ∃ W : Nat → St → Hp → Prop, (∃ m, W m σ H) ∧ ∀ m σ H, W m σ H →
  c σ H fun b H1 => if b = true then ∃ N : St → Hp → Prop, (∀ σ' H', N σ' H' → ∃ m', m' < m ∧ W m' σ' H') ∧ tb { D with nx := N, ct := N, bk := D.nx } σ H1 else D.nx σ H1
theorem ps_while {c : Expr} {body : List Stmt} {tc : TT} {tb : TS} (hp : PassesOwn (model X.prog X.w) X.A X.env X.xe) (hc : PT X c tc) (hb : PSs X body tb) : PS X (.While c body [] pos) (tWhile tc tb) := by
  intro pins s σ H D I h
  obtain ⟨W, ⟨m0, w0⟩, turn⟩ := h
  refine wpAny_While (codeAny_whileLoop (fun n s' => ∃ σ' H', Inv X pins σ' H' s' ∧ W n σ' H') ?_ m0 ⟨σ, H, I, w0⟩)
  rintro n s1 ⟨σ1, H1, I1, w1⟩
  refine wpAny_passesOwn hp (thn (hc pins s1 σ1 H1 _ I1 (turn n σ1 H1 w1)) fun b s2 ⟨H2, I2, q2⟩ => ?_)
  cases b with
  | true =>
    obtain ⟨N, hN, q2⟩ := q2
    rw [if_pos rfl]
    refine wpAny_passesOwn hp (thn (hb pins s2 σ1 H2 _ I2 q2) fun f s3 q3 => ?_)
    cases f with
    | next =>
      obtain ⟨σ3, H3, I3, n3⟩ := q3
      obtain ⟨m', hm, w3⟩ := hN σ3 H3 n3
      exact ⟨m', hm, σ3, H3, I3, w3⟩
    | cont =>
      obtain ⟨σ3, H3, I3, n3⟩ := q3
      obtain ⟨m', hm, w3⟩ := hN σ3 H3 n3
      exact ⟨m', hm, σ3, H3, I3, w3⟩
    | brk => exact q3
    | ret v => exact q3
  | false =>
    rw [if_neg Bool.false_ne_true]
    exact wpAny_execs_nil ⟨σ1, H2, I2, q2⟩
end
structure It where
  go : Nat → Hp → Prop
  yld : Nat → Hp → V → Hp → Prop
  stop : Nat → Hp → Prop
def FpOk (X : Cx) (pins : List (Addr × Obj)) (H : Hp) (b : Addr) : Prop :=
  H b = none ∧ b ≠ X.env.locals ∧ b ∉ X.fs ∧ (b ∈ X.ex ∨ X.s₀.heap.objs.size ≤ b) ∧ (∀ x c, X.env.cells.lookup x = some c → c ≠ b) ∧ ∀ p ∈ X.pn ++ pins, p.1 ≠ b
theorem Inv.fpOk {X : Cx} {pins : List (Addr × Obj)} {σ : St} {H H' : Hp} {s : Shared} {b : Addr} (I : Inv X pins σ H s) (hb : s.heap.objs.size ≤ b) (hn : H' b = none) : FpOk X pins H' b := by
  refine ⟨hn, Nat.ne_of_gt (Nat.lt_of_lt_of_le I.lt hb), I.nofs hb, .inr (Nat.le_trans I.sz hb), fun x c e z => ?_, fun p hp z => ?_⟩
  · obtain ⟨v, q⟩ := I.cell x c e
    exact absurd (Nat.lt_of_lt_of_le q.lt (by rw [z]; exact hb)) (Nat.lt_irrefl _)
  · exact absurd (Nat.lt_of_lt_of_le (Heap.lt_size (I.pin p hp).1) (by rw [z]; exact hb)) (Nat.lt_irrefl _)
structure Turn (P : Program) (w : World) (K : PySem.W.Frag) (tg : Expr) (J : It) (fp : List Addr) (it : Addr) (tn : Nat → Heap → Prop) : Prop where
  mem : it ∈ fp
  obj : ∀ i h, tn i h → ∀ b ∈ fp, ∃ o, h.get? b = some o ∧ ∀ v, o.data ≠ .cell v
  keep : ∀ i h h', tn i h → (∀ b ∈ fp, ∀ o, h.get? b = some o → h'.get? b = some o) → tn i h'
  item : ∀ (X : Cx), X.prog = P → X.w = w → X.K = K → X.calm = true → ∀ (i : Nat) (pins : List (Addr × Obj)) (s : Shared) (σ : St) (H : Hp) (E : Value → Shared → Prop), Inv X pins σ H s → (∀ b ∈ fp, FpOk X pins H b) → tn i s.heap → J.go i H →
    wpAny (model P w) X.A (pyNext (.ref it)) (fun r s1 => ∃ u, r = some u ∧
      wpAny (model P w) X.A (letOwnedTupleGo tg (.ref it) u) (fun _ s2 => ∃ x H', Inv X pins σ H' s2 ∧ RelV x u ∧ J.yld i H x H' ∧ tn (i + 1) s2.heap ∧ ∀ b ∈ fp, H' b = none) E s1) E s
  done : ∀ (X : Cx), X.prog = P → X.w = w → X.K = K → X.calm = true → ∀ (i : Nat) (pins : List (Addr × Obj)) (s : Shared) (σ : St) (H : Hp) (E : Value → Shared → Prop), Inv X pins σ H s → (∀ b ∈ fp, FpOk X pins H b) → tn i s.heap → J.stop i H →
    wpAny (model P w) X.A (pyNext (.ref it)) (fun r s1 => r = none ∧ Inv X pins σ H s1) E s
  self : ∀ (A : Around) (i : Nat) (s : Shared) (Q : Value → Shared → Prop) (E : Value → Shared → Prop), tn i s.heap → Q (.ref it) s → wpAny (model P w) A (pyIter (.ref it)) Q E s
abbrev TI := St → Hp → (It → Hp → Prop) → Prop
def PIE (X : Cx) (pins : List (Addr × Obj)) (σ : St) (tg : Expr) (R : It → Hp → Prop) (itv : Value) (s2 : Shared) : Prop :=
  ∃ (it : Addr) (fp : List Addr) (tn : Nat → Heap → Prop) (J : It) (H' : Hp), itv = .ref it ∧ Inv X pins σ H' s2 ∧ Turn X.prog X.w X.K tg J fp it tn ∧ tn 0 s2.heap ∧ (∀ b ∈ fp, FpOk X pins H' b) ∧ R J H'
def PI (X : Cx) (tg iter : Expr) (wi : TI) : Prop :=
  ∀ (pins : List (Addr × Obj)) (s : Shared) (σ : St) (H : Hp) (R : It → Hp → Prop), Inv X pins σ H s → wi σ H R →
    wpAny (model X.prog X.w) X.A (eval iter X.env) (fun v s1 => wpAny (model X.prog X.w) X.A (pyIter v) (PIE X pins σ tg R) X.xe s1) X.xe s
theorem go_of {M : Model} {A : Around} {E : Value → Shared → Prop} {s : Shared} {tg : Expr} {it : Addr} {u : Value} {o : Obj} {n : String} {vs : Array Value} {Q : Unit → Shared → Prop} (ho : s.heap.get? it = some o) (hc : o.cls = .type n) (hd : o.data = .fields vs)
    (hn : ["enumerate", "zip", "dict_itemiterator", "dict_reverseitemiterator", "odict_iterator", "itertools.zip_longest", "itertools.pairwise"].contains n = false) (hQ : Q () s) : wpAny M A (letOwnedTupleGo tg (.ref it) u) Q E s := by
  unfold letOwnedTupleGo
  cases tg <;> first
    | exact wpAny_pure hQ
    | (cases u <;> first
        | exact wpAny_pure hQ
        | (refine wpAny_bind (wpAny_load ho ?_)
           rw [hc, hd]
           show wpAny M A (if (["enumerate", "zip", "dict_itemiterator", "dict_reverseitemiterator", "odict_iterator", "itertools.zip_longest", "itertools.pairwise"].contains n && vs[0]? == some (rawInt _)) = true then _ else _) Q E s
           rw [if_neg (by intro h; rw [hn, Bool.false_and] at h; cases h)]
           exact wpAny_pure hQ))
def Itl (K : PySem.W.Frag) (a : Addr) : It :=
  ⟨fun i H => ∃ xs x, SqL K H a xs ∧ xs[i]? = some x, fun i H x H' => H' = H ∧ ∀ xs, SqL K H a xs → xs[i]? = some x, fun i H => ∃ xs, SqL K H a xs ∧ xs.length ≤ i⟩
def Itt (K : PySem.W.Frag) (a : Addr) : It :=
  ⟨fun i H => ∃ xs x, SqT K H a xs ∧ xs[i]? = some x, fun i H x H' => H' = H ∧ ∀ xs, SqT K H a xs → xs[i]? = some x, fun i H => ∃ xs, SqT K H a xs ∧ xs.length ≤ i⟩
def Itr (lo : Int) (n : Nat) : It := ⟨fun i _ => i < n, fun i H x H' => H' = H ∧ x = .int (lo + i), fun i _ => n ≤ i⟩
theorem turn_list {P : Program} {w : World} {K : PySem.W.Frag} {tg : Expr} (a it : Addr) : Turn P w K tg (Itl K a) [it] it (fun i h => h.IsListIter it a i) where
  mem := by simp
  obj := fun i h st b hb => by
    have e : b = it := by simpa using hb
    subst e
    obtain ⟨o, e, c, d⟩ := st
    exact ⟨o, e, fun v z => by rw [d] at z; cases z⟩
  keep := fun i h h' st k => st.at fun o e => k it (by simp) o e
  item := by
    intro X hP hw hK hc i pins s σ H E I hf st hg
    subst hP hw hK
    obtain ⟨xs, x, hq, hx⟩ := hg
    obtain ⟨its, rv, p, hz⟩ := I.list hq
    obtain ⟨u, hu, ru⟩ := rv.get hx
    obtain ⟨f0, f1, f2, f3, f4, f5⟩ := hf it (by simp)
    refine wpAny_pyNext_list_item st p.isList (x := u) (by simpa using hu) fun h' st' sb => ?_
    have I1 : Inv X pins σ H { s with heap := h' } := I.turned (t' := s.toks) (fun b o hb e => (sb.2 b hb).trans e) f0 f1 f3 f4 f5
    obtain ⟨o, e, c, d⟩ := id st'
    exact ⟨u, rfl, go_of (s := { s with heap := h' }) e c d (by decide) ⟨x, H, I1, ru, ⟨rfl, fun ys hy => by rw [I.list_inj hy hq]; exact hx⟩, st', fun b hb => (hf b hb).1⟩⟩
  done := by
    intro X hP hw hK hc i pins s σ H E I hf st hg
    subst hP hw hK
    obtain ⟨xs, hq, hx⟩ := hg
    obtain ⟨its, rv, p, hz⟩ := I.list hq
    obtain ⟨f0, f1, f2, f3, f4, f5⟩ := hf it (by simp)
    have hl := rv.length
    exact wpAny_pyNext_list_end (I.ok.hd hc) st p.isList (by simp; omega) fun h' eb => ⟨rfl, I.turned (t' := s.toks) (fun b o hb e => eb b o hb e) f0 f1 f3 f4 f5⟩
  self := fun _ _ _ _ _ st h => wpAny_pyIter_listiter st h
theorem turn_tuple {P : Program} {w : World} {K : PySem.W.Frag} {tg : Expr} (a it : Addr) : Turn P w K tg (Itt K a) [it] it (fun i h => h.IsTupleIter it a i) where
  mem := by simp
  obj := fun i h st b hb => by
    have e : b = it := by simpa using hb
    subst e
    obtain ⟨o, e, c, d⟩ := st
    exact ⟨o, e, fun v z => by rw [d] at z; cases z⟩
  keep := fun i h h' st k => st.at fun o e => k it (by simp) o e
  item := by
    intro X hP hw hK hc i pins s σ H E I hf st hg
    subst hP hw hK
    obtain ⟨xs, x, hq, hx⟩ := hg
    obtain ⟨its, rv, p, hz⟩ := I.tuple hq
    obtain ⟨u, hu, ru⟩ := rv.get hx
    obtain ⟨f0, f1, f2, f3, f4, f5⟩ := hf it (by simp)
    refine wpAny_pyNext_tuple_item st (show s.heap.IsTuple a its.toArray from p) (x := u) (by simpa using hu) fun h' st' sb => ?_
    have I1 : Inv X pins σ H { s with heap := h' } := I.turned (t' := s.toks) (fun b o hb e => (sb.2 b hb).trans e) f0 f1 f3 f4 f5
    obtain ⟨o, e, c, d⟩ := id st'
    exact ⟨u, rfl, go_of (s := { s with heap := h' }) e c d (by decide) ⟨x, H, I1, ru, ⟨rfl, fun ys hy => by rw [I.tuple_inj hy hq]; exact hx⟩, st', fun b hb => (hf b hb).1⟩⟩
  done := by
    intro X hP hw hK hc i pins s σ H E I hf st hg
    subst hP hw hK
    obtain ⟨xs, hq, hx⟩ := hg
    obtain ⟨its, rv, p, hz⟩ := I.tuple hq
    obtain ⟨f0, f1, f2, f3, f4, f5⟩ := hf it (by simp)
    have hl := rv.length
    exact wpAny_pyNext_tuple_end (I.ok.hd hc) st (show s.heap.IsTuple a its.toArray from p) (by simp; omega) fun h' eb => ⟨rfl, I.turned (t' := s.toks) (fun b o hb e => eb b o hb e) f0 f1 f3 f4 f5⟩
  self := fun _ _ _ _ _ st h => wpAny_pyIter_tupleiter st h
theorem turn_range {P : Program} {w : World} {K : PySem.W.Frag} {tg : Expr} (it : Addr) (lo : Int) (n : Nat) : Turn P w K tg (Itr lo n) [it] it (fun i h => IsRangeIter h it (lo + (i : Nat) * 1) ((n : Int) - (i : Nat)) 1) where
  mem := by simp
  obj := fun i h st b hb => by
    have e : b = it := by simpa using hb
    subst e
    exact ⟨_, st, fun v z => by
      have z' : Data.fields _ = Data.cell v := z
      cases z'⟩
  keep := fun i h h' st k => k it (by simp) _ st
  item := by
    intro X hP hw hK hc i pins s σ H E I hf st hg
    subst hP hw hK
    obtain ⟨f0, f1, f2, f3, f4, f5⟩ := hf it (by simp)
    have W := Walks.range (prog := X.prog) (w := X.w) (I.ok.hd hc) it lo 1 n
    refine W.item i s _ _ hg st fun v h' tk hv st' kk => ?_
    obtain ⟨t, rfl⟩ := hv
    have I1 : Inv X pins σ H { s with heap := h', toks := tk } := I.turned (fun b o hb e => kk b o (by simpa using hb) e) f0 f1 f3 f4 f5
    refine ⟨_, rfl, go_of (s := { s with heap := h', toks := tk }) (n := "range_iterator") st' rfl rfl (by decide) ⟨.int (lo + i), H, I1, ⟨t, ?_⟩, ⟨rfl, rfl⟩, st', fun b hb => (hf b hb).1⟩⟩
    rw [Int.mul_one]
  done := by
    intro X hP hw hK hc i pins s σ H E I hf st hg
    subst hP hw hK
    obtain ⟨f0, f1, f2, f3, f4, f5⟩ := hf it (by simp)
    exact wpAny_pyNext_range_end (I.ok.hd hc) st (by have : n ≤ i := hg; omega) fun h' eb => ⟨rfl, I.turned (t' := s.toks) (fun b o hb e => eb b o hb e) f0 f1 f3 f4 f5⟩
  self := fun _ _ _ _ _ st h => wpAny_pyIter_rangeiter st h
end L2
namespace L2
open PySem PySem.Spec PyProof.Rows
section
variable {X : Cx} {tg : Expr}
def iList (K : PySem.W.Frag) (tl : TE) : TI := fun σ H R => tl σ H fun x H1 => ∃ a, x = .ref a ∧ (∃ xs, SqL K H1 a xs) ∧ R (Itl K a) H1
def iTup (K : PySem.W.Frag) (tl : TE) : TI := fun σ H R => tl σ H fun x H1 => ∃ a, x = .ref a ∧ (∃ xs, SqT K H1 a xs) ∧ R (Itt K a) H1
theorem pi_list {l : Expr} {tl : TE} (hl : PE X l tl) : PI X tg l (iList X.K tl) := by
  intro pins s σ H R I h
  refine thn (hl pins s σ H _ I h) fun v s1 ⟨x, H1, I1, r1, q1⟩ => ?_
  obtain ⟨a, e, ⟨xs, hq⟩, q⟩ := q1
  subst e
  cases r1
  obtain ⟨its, rv, p, hz⟩ := I1.list hq
  refine wpAny_pyIter_list p.isList ?_
  refine ⟨s1.heap.objs.size, [s1.heap.objs.size], _, _, H1, rfl, I1.kept (t' := s1.toks) fun b o e => Heap.get?_push_of_some _ e, turn_list a _, ⟨_, Heap.get?_push_size _ rfl, rfl, rfl⟩, fun b hb => ?_, q⟩
  have e : b = s1.heap.objs.size := by simpa using hb
  subst e
  exact I1.fpOk (Nat.le_refl _) (I1.hok.fresh (Nat.le_refl _))
theorem pi_tup {l : Expr} {tl : TE} (hl : PE X l tl) : PI X tg l (iTup X.K tl) := by
  intro pins s σ H R I h
  refine thn (hl pins s σ H _ I h) fun v s1 ⟨x, H1, I1, r1, q1⟩ => ?_
  obtain ⟨a, e, ⟨xs, hq⟩, q⟩ := q1
  subst e
  cases r1
  obtain ⟨its, rv, p, hz⟩ := I1.tuple hq
  refine wpAny_pyIter_tuple (show s1.heap.IsTuple a its.toArray from p) ?_
  refine ⟨s1.heap.objs.size, [s1.heap.objs.size], _, _, H1, rfl, I1.kept (t' := s1.toks) fun b o e => Heap.get?_push_of_some _ e, turn_tuple a _, ⟨_, Heap.get?_push_size _ rfl, rfl, rfl⟩, fun b hb => ?_, q⟩
  have e : b = s1.heap.objs.size := by simpa using hb
  subst e
  exact I1.fpOk (Nat.le_refl _) (I1.hok.fresh (Nat.le_refl _))
theorem range_it {pins : List (Addr × Obj)} {σ : St} {H : Hp} {s : Shared} {R : It → Hp → Prop} {E : Value → Shared → Prop} {lo hi : Int} {t u v : Tok} {tk : Nat} (I : Inv X pins σ H s) (h1 : -(2 ^ 62) ≤ lo) (h2 : lo < 2 ^ 62) (h3 : -(2 ^ 62) ≤ hi) (h4 : hi < 2 ^ 62)
    (q : R (Itr lo (hi - lo).toNat) H) : wpAny (model X.prog X.w) X.A (pyIter (.ref s.heap.objs.size)) (PIE X pins σ tg R) E { s with heap := s.heap.push { cls := .type "range", data := .fields #[.int lo t, .int hi u, .int 1 v] }, toks := tk } := by
  refine wpAny_pyIter_range (IsRange.new ..) (small_one h1 h2 h3 h4) ?_
  have I1 : Inv X pins σ H { s with heap := s.heap.push { cls := .type "range", data := .fields #[.int lo t, .int hi u, .int 1 v] }, toks := tk } := I.kept fun b o e => Heap.get?_push_of_some _ e
  refine ⟨(s.heap.push { cls := .type "range", data := .fields #[.int lo t, .int hi u, .int 1 v] }).objs.size, [(s.heap.push { cls := .type "range", data := .fields #[.int lo t, .int hi u, .int 1 v] }).objs.size], _, _, H, rfl,
    I1.kept (t' := tk) fun b o e => Heap.get?_push_of_some _ e, turn_range _ lo (hi - lo).toNat, ?_, fun b hb => ?_, q⟩
  · have e1 : lo + ((0 : Nat) : Int) * 1 = lo := by simp
    have e2 : (((hi - lo).toNat : Nat) : Int) - ((0 : Nat) : Int) = Builtin.Range.rangeSize lo hi 1 := by rw [rangeSize_one]; split <;> omega
    show IsRangeIter _ _ (lo + ((0 : Nat) : Int) * 1) ((((hi - lo).toNat : Nat) : Int) - ((0 : Nat) : Int)) 1
    rw [e1, e2]
    exact Heap.get?_push_size _ rfl
  · have e : b = (s.heap.push { cls := .type "range", data := .fields #[.int lo t, .int hi u, .int 1 v] }).objs.size := by simpa using hb
    subst e
    exact I1.fpOk (Nat.le_refl _) (I1.hok.fresh (Nat.le_refl _))
def iRng1 (ta : TA) : TI := fun σ H R => ta σ H fun vs H1 => ∃ j : Int, vs = [.int j] ∧ -(2 ^ 62) ≤ j ∧ j < 2 ^ 62 ∧ R (Itr 0 j.toNat) H1
def iRng2 (ta : TA) : TI := fun σ H R => ta σ H fun vs H1 => ∃ i j : Int, vs = [.int i, .int j] ∧ (-(2 ^ 62) ≤ i ∧ i < 2 ^ 62 ∧ -(2 ^ 62) ≤ j ∧ j < 2 ^ 62) ∧ R (Itr i (j - i).toNat) H1
theorem pi_range1 {a : Expr} {ta : TA} {p pos : Pos} (hg : Gl X "range") (hm : X.mg "range" = none) (ha : PA X [a] ta) (hs : starEach [a] X.env = [(false, eval a X.env)] := by rfl) : PI X tg (.Call (.Name "range" p) [a] [] pos) (iRng1 ta) := by
  intro pins s σ H R I h
  refine Call_ (ld_blt I hg hm boot_range (PyProof.Rows.callWith_type1 (thn (ha pos pins s σ H _ I h) fun us s1 ⟨vs, H1, I1, r1, q1⟩ => ?_) hs rfl))
  obtain ⟨j, e, q1, q2, q⟩ := q1
  subst e
  cases r1 with
  | cons r rr =>
    cases rr
    obtain ⟨t, rfl⟩ := r
    exact call_range_1 (range_it I1 (by omega) (by omega) q1 q2 (by simpa using q))
theorem pi_range2 {a b : Expr} {ta : TA} {p pos : Pos} (hg : Gl X "range") (hm : X.mg "range" = none) (ha : PA X [a, b] ta) (hs : starEach [a, b] X.env = [(false, eval a X.env), (false, eval b X.env)] := by rfl) (hs2 : starEach [b] X.env = [(false, eval b X.env)] := by rfl) :
    PI X tg (.Call (.Name "range" p) [a, b] [] pos) (iRng2 ta) := by
  intro pins s σ H R I h
  refine Call_ (ld_blt I hg hm boot_range (PyProof.Rows.callWith_type1 (thn (ha pos pins s σ H _ I h) fun us s1 ⟨vs, H1, I1, r1, q1⟩ => ?_) (by rw [hs, hs2]) (by rw [hs2]; rfl)))
  obtain ⟨i, j, e, ⟨q1, q2, q3, q4⟩, q⟩ := q1
  subst e
  cases r1 with
  | cons r rr =>
    cases rr with
    | cons r' rr =>
      cases rr
      obtain ⟨t, rfl⟩ := r
      obtain ⟨t', rfl⟩ := r'
      exact call_range_2 (range_it I1 q1 q2 q3 q4 q)
def tFor (wi : TI) (g : TG) (tb : TS) : TS := fun D σ H => wi σ H fun J H1 => ∃ W : Nat → Nat → St → Hp → Prop, (∃ m, W 0 m σ H1) ∧ ∀ i m σ H, W i m σ H →
  (J.stop i H ∧ D.nx σ H) ∨ (J.go i H ∧ ∃ N : St → Hp → Prop, (∀ σ' H', N σ' H' → ∃ m', m' < m ∧ W (i + 1) m' σ' H') ∧ ∀ x H', J.yld i H x H' → g x σ H' fun σ2 H2 => tb { D with nx := N, ct := N, bk := D.nx } σ2 H2)
def pinsAt (fp : List Addr) (h : Heap) : List (Addr × Obj) := fp.filterMap fun b => (h.get? b).map fun o => (b, o)
theorem mem_pinsAt {fp : List Addr} {h : Heap} {b : Addr} {o : Obj} (hb : b ∈ fp) (e : h.get? b = some o) : (b, o) ∈ pinsAt fp h := List.mem_filterMap.mpr ⟨b, hb, by rw [e]; rfl⟩
theorem of_pinsAt {fp : List Addr} {h : Heap} {p : Addr × Obj} (hp : p ∈ pinsAt fp h) : p.1 ∈ fp ∧ h.get? p.1 = some p.2 := by
  obtain ⟨b, hb, e⟩ := List.mem_filterMap.mp hp
  cases q : h.get? b with
  | none => rw [q] at e; cases e
  | some o =>
    rw [q] at e
    have e' : (b, o) = p := Option.some.inj e
    subst e'
    exact ⟨hb, q⟩
theorem Inv.pinned {pins : List (Addr × Obj)} {σ : St} {H : Hp} {s : Shared} {fp : List Addr} (I : Inv X pins σ H s) (hf : ∀ b ∈ fp, FpOk X pins H b) (ho : ∀ b ∈ fp, ∃ o, s.heap.get? b = some o ∧ ∀ v, o.data ≠ .cell v) : Inv X (pins ++ pinsAt fp s.heap) σ H s :=
  I.pins_of fun p hp => (List.mem_append.mp hp).elim (fun z => I.pin p (List.mem_append_right _ z)) fun z => by
    obtain ⟨hb, e⟩ := of_pinsAt z
    obtain ⟨f0, f1, f2, _⟩ := hf p.1 hb
    obtain ⟨o, e', d⟩ := ho p.1 hb
    rw [e] at e'; cases e'
    exact ⟨e, f0, f1, f2, d⟩
theorem Inv.unpinned {pins pl : List (Addr × Obj)} {σ : St} {H : Hp} {s : Shared} (I : Inv X (pins ++ pl) σ H s) : Inv X pins σ H s := I.pins_of fun p hp => I.pin p (List.mem_append_right _ (List.mem_append_left _ hp))
theorem ps_for {iter : Expr} {body : List Stmt} {wi : TI} {g : TG} {tb : TS} {pos : Pos} (hp : PassesOwn (model X.prog X.w) X.A X.env X.xe) (hc : X.calm = true) (hi : PI X tg iter wi) (hg : PG X tg g) (hb : PSs X body tb)
    (hs : ∀ x, foldedSetIterable iter X.env x = pure x := by intro _; rfl) : PS X (.For tg iter body [] pos) (tFor wi g tb) := by
  intro pins s σ H D I h
  refine wpAny_For (thn (hi pins s σ H _ I h) fun v s1 h1 => thn h1 fun itv s2 h2 => ?_) hs
  obtain ⟨it, fp, tn, J, H2, e, I2, T, st2, f2, W, ⟨m0, w0⟩, turn⟩ := h2
  subst e
  -- what stays true of the iterator's objects through the loop
  have stat : ∀ {H' : Hp}, (∀ b ∈ fp, H' b = none) → ∀ b ∈ fp, FpOk X pins H' b := fun hn b hb => ⟨hn b hb, (f2 b hb).2⟩
  refine codeAny_forLoop_any (fun n s' => ∃ i σ' H', Inv X pins σ' H' s' ∧ tn i s'.heap ∧ (∀ b ∈ fp, H' b = none) ∧ W i n σ' H') ?_ m0 ⟨0, σ, H2, I2, st2, fun b hb => (f2 b hb).1, w0⟩
  rintro n s3 ⟨i, σ3, H3, I3, st3, fr3, w3⟩
  rcases turn i n σ3 H3 w3 with ⟨stop, qn⟩ | ⟨go, N, hN, step⟩
  · refine wpAny_passesOwn hp (thn (T.done X rfl rfl rfl hc i pins s3 σ3 H3 X.xe I3 (stat fr3) st3 stop) fun r s4 ⟨hr, I4⟩ => ?_)
    subst hr
    exact wpAny_execs_nil ⟨σ3, H3, I4, qn⟩
  · refine wpAny_passesOwn hp (thn (T.item X rfl rfl rfl hc i pins s3 σ3 H3 X.xe I3 (stat fr3) st3 go) fun r s4 ⟨u, hr, h4⟩ => ?_)
    subst hr
    refine wpAny_passesOwn hp (thn h4 fun _ s5 ⟨x, H5, I5, r5, y5, st5, fr5⟩ => ?_)
    have I5' := I5.pinned (stat fr5) (T.obj _ _ st5)
    refine wpAny_passesOwn hp (thn (hg _ s5 σ3 H5 x u _ I5' r5 (step x H5 y5)) fun _ s6 ⟨σ6, H6, I6, q6⟩ => ?_)
    refine wpAny_passesOwn hp (thn (hb _ s6 σ6 H6 _ I6 q6) fun f s7 q7 => ?_)
    have again : ∀ {σ7 : St} {H7 : Hp}, Inv X (pins ++ pinsAt fp s5.heap) σ7 H7 s7 → N σ7 H7 → ∃ m, m < n ∧ ∃ i σ' H', Inv X pins σ' H' s7 ∧ tn i s7.heap ∧ (∀ b ∈ fp, H' b = none) ∧ W i m σ' H' := fun {σ7 H7} I7 n7 => by
      obtain ⟨m', hm, w7⟩ := hN σ7 H7 n7
      refine ⟨m', hm, i + 1, σ7, H7, I7.unpinned, T.keep _ _ _ st5 fun b hb o e => (I7.pin (b, o) (List.mem_append_right _ (List.mem_append_right _ (mem_pinsAt hb e)))).1, fun b hb => ?_, w7⟩
      obtain ⟨o, e, d⟩ := T.obj _ _ st5 b hb
      exact (I7.pin (b, o) (List.mem_append_right _ (List.mem_append_right _ (mem_pinsAt hb e)))).2.1
    cases f with
    | next => obtain ⟨σ7, H7, I7, n7⟩ := q7; exact again I7 n7
    | cont => obtain ⟨σ7, H7, I7, n7⟩ := q7; exact again I7 n7
    | brk => obtain ⟨σ7, H7, I7, q7⟩ := q7; exact ⟨σ7, H7, I7.unpinned, q7⟩
    | ret v => obtain ⟨x7, σ7, H7, I7, r7, q7⟩ := q7; exact ⟨x7, σ7, H7, I7.unpinned, r7, q7⟩
end
theorem for_tup {K : PySem.W.Frag} {a : Addr} {xs : List V} {g : TG} {tb : TS} {D : Ends} {σ : St} {H : Hp} (Pv : Nat → St → Hp → Prop) (h0 : Pv 0 σ H) (hl : ∀ i σ H, i ≤ xs.length → Pv i σ H → SqT K H a xs)
    (hs : ∀ i x σ H, xs[i]? = some x → Pv i σ H → g x σ H fun σ2 H2 => tb { D with nx := Pv (i + 1), ct := Pv (i + 1), bk := D.nx } σ2 H2) (hd : ∀ σ H, Pv xs.length σ H → D.nx σ H) :
    ∃ W : Nat → Nat → St → Hp → Prop, (∃ m, W 0 m σ H) ∧ ∀ i m σ H, W i m σ H →
      ((Itt K a).stop i H ∧ D.nx σ H) ∨ ((Itt K a).go i H ∧ ∃ N : St → Hp → Prop, (∀ σ' H', N σ' H' → ∃ m', m' < m ∧ W (i + 1) m' σ' H') ∧ ∀ x H', (Itt K a).yld i H x H' → g x σ H' fun σ2 H2 => tb { D with nx := N, ct := N, bk := D.nx } σ2 H2) := by
  refine ⟨fun i m σ H => m = xs.length - i ∧ i ≤ xs.length ∧ Pv i σ H, ⟨xs.length, by simp, Nat.zero_le _, h0⟩, ?_⟩
  rintro i m σ H ⟨rfl, hi, p⟩
  have q := hl i σ H hi p
  by_cases hlt : i < xs.length
  · refine .inr ⟨⟨xs, xs[i], q, by simp [hlt]⟩, Pv (i + 1), fun σ' H' p' => ⟨xs.length - (i + 1), by omega, rfl, hlt, p'⟩, fun x H' y => ?_⟩
    obtain ⟨e, y⟩ := y
    subst e
    exact hs i x σ _ (y xs q) p
  · have e : i = xs.length := by omega
    subst e
    exact .inl ⟨⟨xs, q, Nat.le_refl _⟩, hd σ H p⟩
theorem for_range {lo : Int} {n : Nat} {g : TG} {tb : TS} {D : Ends} {σ : St} {H : Hp} (Pv : Nat → St → Hp → Prop) (h0 : Pv 0 σ H)
    (hs : ∀ i σ H, i < n → Pv i σ H → g (.int (lo + i)) σ H fun σ2 H2 => tb { D with nx := Pv (i + 1), ct := Pv (i + 1), bk := D.nx } σ2 H2) (hd : ∀ σ H, Pv n σ H → D.nx σ H) :
    ∃ W : Nat → Nat → St → Hp → Prop, (∃ m, W 0 m σ H) ∧ ∀ i m σ H, W i m σ H →
      ((Itr lo n).stop i H ∧ D.nx σ H) ∨ ((Itr lo n).go i H ∧ ∃ N : St → Hp → Prop, (∀ σ' H', N σ' H' → ∃ m', m' < m ∧ W (i + 1) m' σ' H') ∧ ∀ x H', (Itr lo n).yld i H x H' → g x σ H' fun σ2 H2 => tb { D with nx := N, ct := N, bk := D.nx } σ2 H2) := by
  refine ⟨fun i m σ H => m = n - i ∧ i ≤ n ∧ Pv i σ H, ⟨n, by simp, Nat.zero_le _, h0⟩, ?_⟩
  rintro i m σ H ⟨rfl, hi, p⟩
  by_cases hlt : i < n
  · refine .inr ⟨hlt, Pv (i + 1), fun σ' H' p' => ⟨n - (i + 1), by omega, rfl, hlt, p'⟩, fun x H' y => ?_⟩
    obtain ⟨e, y⟩ := y
    subst e y
    exact hs i σ _ hlt p
  · have e : i = n := by omega
    subst e
    exact .inl ⟨Nat.le_refl _, hd σ H p⟩
theorem while_by {c : TT} {tb : TS} {D : Ends} {σ : St} {H : Hp} (Pv : St → Hp → Prop) (μ : St → Hp → Nat) (h0 : Pv σ H)
    (hs : ∀ σ H, Pv σ H → c σ H fun b H1 => if b = true then tb { D with nx := fun σ' H' => Pv σ' H' ∧ μ σ' H' < μ σ H, ct := fun σ' H' => Pv σ' H' ∧ μ σ' H' < μ σ H, bk := D.nx } σ H1 else D.nx σ H1)
    (mono : ∀ σ H Q Q', (∀ b H1, Q b H1 → Q' b H1) → c σ H Q → c σ H Q') : tWhile c tb D σ H := by
  refine ⟨fun m σ H => m = μ σ H ∧ Pv σ H, ⟨_, rfl, h0⟩, ?_⟩
  rintro m σ H ⟨rfl, p⟩
  refine mono σ H _ _ (fun b H1 q => ?_) (hs σ H p)
  cases b with
  | true => exact ⟨_, fun σ' H' ⟨p', l⟩ => ⟨_, l, rfl, p'⟩, q⟩
  | false => exact q
end L2
namespace L2
open PySem PySem.Spec PyProof.Rows
abbrev R2 := V → V → Hp → VK → Prop
def OpR (X : Cx) (f : Value → Value → Sem Value) (r : R2) : Prop :=
  ∀ (pins : List (Addr × Obj)) (s : Shared) (σ : St) (H : Hp) (x y : V) (v u : Value) (Q : VK), Inv X pins σ H s → RelV x v → RelV y u → r x y H Q →
    wpAny (model X.prog X.w) X.A (f v u) (EP X pins σ Q) X.xe s
def UnR (X : Cx) (f : Value → Sem Value) (r : V → Hp → VK → Prop) : Prop :=
  ∀ (pins : List (Addr × Obj)) (s : Shared) (σ : St) (H : Hp) (x : V) (v : Value) (Q : VK), Inv X pins σ H s → RelV x v → r x H Q →
    wpAny (model X.prog X.w) X.A (f v) (EP X pins σ Q) X.xe s
def CallR (X : Cx) (f : Value) (r : List V → Hp → VK → Prop) : Prop :=
  ∀ (pins : List (Addr × Obj)) (s : Shared) (σ : St) (H : Hp) (xs : List V) (us : List Value) (Q : VK), Inv X pins σ H s → Vals xs us → r xs H Q →
    wpAny (model X.prog X.w) X.A (call f us) (EP X pins σ Q) X.xe s
def tOp (r : R2) (ta tb : TE) : TE := fun σ H Q => ta σ H fun x H1 => tb σ H1 fun y H2 => r x y H2 Q
def tUn (r : V → Hp → VK → Prop) (ta : TE) : TE := fun σ H Q => ta σ H fun x H1 => r x H1 Q
def rI (C : Int → Int → Prop) (g : Int → Int → V) : R2 := fun x y H Q => ∃ i j, x = .int i ∧ y = .int j ∧ C i j ∧ Q (g i j) H
def rI0 (g : Int → Int → V) : R2 := fun x y H Q => ∃ i j, x = .int i ∧ y = .int j ∧ Q (g i j) H
def rU (g : Int → V) : V → Hp → VK → Prop := fun x H Q => ∃ i, x = .int i ∧ Q (g i) H
section
variable {X : Cx} {a b c : Expr} {ta tb tc : TE} {pos : Pos}
theorem binT (ha : PE X a ta) (hb : PE X b tb) {pins : List (Addr × Obj)} {s : Shared} {σ : St} {H : Hp} {R : V → V → Hp → Prop} (I : Inv X pins σ H s)
    (h : ta σ H fun x H1 => tb σ H1 fun y H2 => R x y H2) {Q : Value → Shared → Prop} {f : Value → Value → Sem Value}
    (hf : ∀ v u s2 x y H2, Inv X pins σ H2 s2 → RelV x v → RelV y u → R x y H2 → wpAny (model X.prog X.w) X.A (f v u) Q X.xe s2) :
    wpAny (model X.prog X.w) X.A (eval a X.env) (fun v s₁ => wpAny (model X.prog X.w) X.A (eval b X.env) (fun u s₂ => wpAny (model X.prog X.w) X.A (f v u) Q X.xe s₂) X.xe s₁) X.xe s := by
  refine thn (ha pins s σ H _ I h) fun v s1 ⟨x, H1, I1, r1, q1⟩ => ?_
  refine thn (hb pins s1 σ H1 _ I1 q1) fun u s2 ⟨y, H2, I2, r2, q2⟩ => ?_
  exact hf v u s2 x y H2 I2 r1 r2 q2
theorem pe_op {op : Operator} {r : R2} (ho : OpR X (binaryOp op) r) (ha : PE X a ta) (hb : PE X b tb) : PE X (.BinOp a op b pos) (tOp r ta tb) := by
  intro pins s σ H Q I h
  exact wpAny_BinOp (binT ha hb I h fun v u s2 x y H2 I2 rx ry q => ho pins s2 σ H2 x y v u Q I2 rx ry q)
theorem pe_un {op : UnaryOp} {r : V → Hp → VK → Prop} (ho : UnR X (unaryOp op) r) (ha : PE X a ta) : PE X (.UnaryOp op a pos) (tUn r ta) := by
  intro pins s σ H Q I h
  exact UnaryOp_ (thn (ha pins s σ H _ I h) fun v s1 ⟨x, H1, I1, r1, q1⟩ => ho pins s1 σ H1 x v Q I1 r1 q1)
theorem opI {f : Value → Value → Sem Value} {C : Int → Int → Prop} {g : Int → Int → Int}
    (rule : ∀ (i j : Int) (t u : Tok) (s : Shared) (Q : Value → Shared → Prop) (E : Value → Shared → Prop), C i j → Q (.int (g i j) s.toks) { s with toks := s.toks + 1 } → wpAny (model X.prog X.w) X.A (f (.int i t) (.int j u)) Q E s) :
    OpR X f (rI C fun i j => .int (g i j)) := by
  intro pins s σ H x y v u Q I rx ry h
  obtain ⟨i, j, rfl, rfl, hc, q⟩ := h
  obtain ⟨t, rfl⟩ := rx
  obtain ⟨t', rfl⟩ := ry
  exact rule i j t t' s _ _ hc ⟨.int (g i j), H, I.tok _, ⟨_, rfl⟩, q⟩
theorem opI0 {f : Value → Value → Sem Value} {g : Int → Int → Int}
    (rule : ∀ (i j : Int) (t u : Tok) (s : Shared) (Q : Value → Shared → Prop) (E : Value → Shared → Prop), Q (.int (g i j) s.toks) { s with toks := s.toks + 1 } → wpAny (model X.prog X.w) X.A (f (.int i t) (.int j u)) Q E s) :
    OpR X f (rI0 fun i j => .int (g i j)) := by
  intro pins s σ H x y v u Q I rx ry h
  obtain ⟨i, j, rfl, rfl, q⟩ := h
  obtain ⟨t, rfl⟩ := rx
  obtain ⟨t', rfl⟩ := ry
  exact rule i j t t' s _ _ ⟨.int (g i j), H, I.tok _, ⟨_, rfl⟩, q⟩
theorem opB0 {f : Value → Value → Sem Value} {g : Int → Int → Bool}
    (rule : ∀ (i j : Int) (t u : Tok) (s : Shared) (Q : Value → Shared → Prop) (E : Value → Shared → Prop), Q (.bool (g i j)) s → wpAny (model X.prog X.w) X.A (f (.int i t) (.int j u)) Q E s) :
    OpR X f (rI0 fun i j => .bl (g i j)) := by
  intro pins s σ H x y v u Q I rx ry h
  obtain ⟨i, j, rfl, rfl, q⟩ := h
  obtain ⟨t, rfl⟩ := rx
  obtain ⟨t', rfl⟩ := ry
  exact rule i j t t' s _ _ ⟨.bl (g i j), H, I, rfl, q⟩
def CPow (i j : Int) : Prop := 0 ≤ j ∧ j ≤ 1000000 ∧ i.natAbs < 2 ^ 64
def CMul (i j : Int) : Prop := (-(2 ^ 64) < i ∧ i < 2 ^ 64) ∨ (-(2 ^ 64) < j ∧ j < 2 ^ 64)
theorem CMul.ok {i j : Int} (h : CMul i j) : IntMulOk i j := by
  rcases h with ⟨h1, h2⟩ | ⟨h1, h2⟩
  · exact .of_left (intBits_le_64 h1 h2)
  · exact .of_right (intBits_le_64 h1 h2)
theorem op_add : OpR X (binaryOp .Add) (rI0 fun i j => .int (i + j)) := opI0 fun _ _ _ _ _ _ _ q => add_int q
theorem op_sub : OpR X (binaryOp .Sub) (rI0 fun i j => .int (i - j)) := opI0 fun _ _ _ _ _ _ _ q => sub_int q
theorem op_mul : OpR X (binaryOp .Mult) (rI CMul fun i j => .int (i * j)) := opI fun _ _ _ _ _ _ _ hc q => mul_int q hc.ok
theorem op_mod : OpR X (binaryOp .Mod) (rI (fun _ j => 0 < j) fun i j => .int (i % j)) := opI fun i j _ _ _ _ _ hc q => by
  have h1 : (0 : Int) < j := hc
  exact mod_int' (by omega) (by rw [Int.fmod_eq_emod_of_nonneg i (by omega)]; exact q)
theorem op_pow : OpR X (binaryOp .Pow) (rI CPow fun i j => .int (i ^ j.toNat)) := opI fun _ _ _ _ _ _ _ hc q => pow_int_small hc.1 hc.2.1 hc.2.2 q
theorem unI {f : Value → Sem Value} {g : Int → Int}
    (rule : ∀ (i : Int) (t : Tok) (s : Shared) (Q : Value → Shared → Prop) (E : Value → Shared → Prop), Q (.int (g i) s.toks) { s with toks := s.toks + 1 } → wpAny (model X.prog X.w) X.A (f (.int i t)) Q E s) :
    UnR X f (rU fun i => .int (g i)) := by
  intro pins s σ H x v Q I rx h
  obtain ⟨i, rfl, q⟩ := h
  obtain ⟨t, rfl⟩ := rx
  exact rule i t s _ _ ⟨.int (g i), H, I.tok _, ⟨_, rfl⟩, q⟩
theorem un_neg : UnR X (unaryOp .USub) (rU fun i => .int (-i)) := unI fun _ _ _ _ _ q => neg_int q
end
def scal : V → V → Bool
  | .non, .non => true | .non, .int _ => true | .int _, .non => true | .non, .bl _ => true | .bl _, .non => true | .non, .str _ => true | .str _, .non => true
  | .int _, .int _ => true | .bl _, .bl _ => true | .str _, .str _ => true | .byt _, .byt _ => true
  | .int _, .str _ => true | .str _, .int _ => true | .bl _, .str _ => true | .str _, .bl _ => true
  | _, _ => false
def rEq : R2 := fun x y H Q => scal x y = true ∧ Q (.bl (decide (x = y))) H
def rNe : R2 := fun x y H Q => scal x y = true ∧ Q (.bl (!decide (x = y))) H
theorem dec_int {i j : Int} : decide (V.int i = V.int j) = (i == j) := by
  rw [Bool.eq_iff_iff]
  simp
theorem dec_bl {i j : Bool} : decide (V.bl i = V.bl j) = (i == j) := by
  rw [Bool.eq_iff_iff]
  simp
theorem dec_str {i j : Str} : decide (V.str i = V.str j) = (i == j) := by
  rw [Bool.eq_iff_iff]
  simp
theorem dec_byt {i j : Array UInt8} : decide (V.byt i = V.byt j) = (i.toList == j.toList) := by
  rw [Bool.eq_iff_iff]
  cases i
  cases j
  simp
section
variable {X : Cx} {a b c : Expr} {ta tb tc : TE} {pos : Pos}
theorem fin_bl {pins : List (Addr × Obj)} {σ : St} {H : Hp} {s : Shared} {Q : VK} {k k' : Bool} (I : Inv X pins σ H s) (q : Q (.bl k) H) (e : k = k') : EP X pins σ Q (.bool k') s := by
  subst e
  exact ⟨.bl k, H, I, rfl, q⟩
theorem op_eq : OpR X (compareOp .Eq) rEq := by
  intro pins s σ H x y v u Q I rx ry h
  obtain ⟨hs, q⟩ := h
  cases x with
  | non =>
    cases rx
    cases y with
    | non => cases ry; exact PySem.EqNone.eq_none_none (fin_bl I q (by simp))
    | bl j => cases ry; exact PySem.EqNone.eq_none_bool (fin_bl I q (by simp))
    | int j => obtain ⟨t', rfl⟩ := ry; exact PySem.EqNone.eq_none_int (fin_bl I q (by simp))
    | str j => obtain ⟨t', rfl⟩ := ry; exact PySem.EqNone.eq_none_str (fin_bl I q (by simp))
    | _ => exact absurd (show false = true from hs) Bool.false_ne_true
  | bl i =>
    cases rx
    cases y with
    | non => cases ry; exact PySem.EqNone.eq_bool_none (fin_bl I q (by simp))
    | bl j => cases ry; exact eq_bool (fin_bl I q dec_bl)
    | str j => obtain ⟨t', rfl⟩ := ry; exact PySem.EqMixed.eq_bool_str (fin_bl I q (by simp))
    | _ => exact absurd (show false = true from hs) Bool.false_ne_true
  | int i =>
    obtain ⟨t, rfl⟩ := rx
    cases y with
    | non => cases ry; exact PySem.EqNone.eq_int_none (fin_bl I q (by simp))
    | int j => obtain ⟨t', rfl⟩ := ry; exact eq_int (fin_bl I q dec_int)
    | str j => obtain ⟨t', rfl⟩ := ry; exact PySem.EqMixed.eq_int_str (fin_bl I q (by simp))
    | _ => exact absurd (show false = true from hs) Bool.false_ne_true
  | str i =>
    obtain ⟨t, rfl⟩ := rx
    cases y with
    | non => cases ry; exact PySem.EqNone.eq_str_none (fin_bl I q (by simp))
    | bl j => cases ry; exact PySem.EqMixed.eq_str_bool (fin_bl I q (by simp))
    | int j => obtain ⟨t', rfl⟩ := ry; exact PySem.EqMixed.eq_str_int (fin_bl I q (by simp))
    | str j => obtain ⟨t', rfl⟩ := ry; exact eq_str (fin_bl I q dec_str)
    | _ => exact absurd (show false = true from hs) Bool.false_ne_true
  | byt i =>
    obtain ⟨t, rfl⟩ := rx
    cases y with
    | byt j => obtain ⟨t', rfl⟩ := ry; exact PySem.W.eq_bytes (fin_bl I q dec_byt)
    | _ => exact absurd (show false = true from hs) Bool.false_ne_true
  | _ => cases y <;> exact absurd (show false = true from hs) Bool.false_ne_true
theorem op_ne : OpR X (compareOp .NotEq) rNe := by
  intro pins s σ H x y v u Q I rx ry h
  obtain ⟨hs, q⟩ := h
  cases x with
  | non =>
    cases rx
    cases y with
    | non => cases ry; exact PySem.EqNone.ne_none_none (fin_bl I q (by simp))
    | bl j => cases ry; exact PySem.EqNone.ne_none_bool (fin_bl I q (by simp))
    | int j => obtain ⟨t', rfl⟩ := ry; exact PySem.EqNone.ne_none_int (fin_bl I q (by simp))
    | str j => obtain ⟨t', rfl⟩ := ry; exact PySem.EqNone.ne_none_str (fin_bl I q (by simp))
    | _ => exact absurd (show false = true from hs) Bool.false_ne_true
  | bl i =>
    cases rx
    cases y with
    | non => cases ry; exact PySem.EqNone.ne_bool_none (fin_bl I q (by simp))
    | bl j => cases ry; exact ne_bool (fin_bl I q (congrArg not dec_bl))
    | str j => obtain ⟨t', rfl⟩ := ry; exact PySem.EqMixed.ne_bool_str (fin_bl I q (by simp))
    | _ => exact absurd (show false = true from hs) Bool.false_ne_true
  | int i =>
    obtain ⟨t, rfl⟩ := rx
    cases y with
    | non => cases ry; exact PySem.EqNone.ne_int_none (fin_bl I q (by simp))
    | int j => obtain ⟨t', rfl⟩ := ry; exact ne_int (fin_bl I q (congrArg not dec_int))
    | str j => obtain ⟨t', rfl⟩ := ry; exact PySem.EqMixed.ne_int_str (fin_bl I q (by simp))
    | _ => exact absurd (show false = true from hs) Bool.false_ne_true
  | str i =>
    obtain ⟨t, rfl⟩ := rx
    cases y with
    | non => cases ry; exact PySem.EqNone.ne_str_none (fin_bl I q (by simp))
    | bl j => cases ry; exact PySem.EqMixed.ne_str_bool (fin_bl I q (by simp))
    | int j => obtain ⟨t', rfl⟩ := ry; exact PySem.EqMixed.ne_str_int (fin_bl I q (by simp))
    | str j => obtain ⟨t', rfl⟩ := ry; exact ne_str (fin_bl I q (congrArg not dec_str))
    | _ => exact absurd (show false = true from hs) Bool.false_ne_true
  | byt i =>
    obtain ⟨t, rfl⟩ := rx
    cases y with
    | byt j => obtain ⟨t', rfl⟩ := ry; exact PySem.W.ne_bytes (fin_bl I q (congrArg not dec_byt))
    | _ => exact absurd (show false = true from hs) Bool.false_ne_true
  | _ => cases y <;> exact absurd (show false = true from hs) Bool.false_ne_true
theorem op_lt : OpR X (compareOp .Lt) (rI0 fun i j => .bl (decide (i < j))) := opB0 fun _ _ _ _ _ _ _ q => lt_int q
theorem op_le : OpR X (compareOp .LtE) (rI0 fun i j => .bl (decide (i ≤ j))) := opB0 fun _ _ _ _ _ _ _ q => le_int q
theorem op_gt : OpR X (compareOp .Gt) (rI0 fun i j => .bl (decide (j < i))) := opB0 fun _ _ _ _ _ _ _ q => gt_int q
theorem op_ge : OpR X (compareOp .GtE) (rI0 fun i j => .bl (decide (j ≤ i))) := opB0 fun _ _ _ _ _ _ _ q => ge_int q
theorem nomark (b : Expr) {op : CmpOp} (h : op ≠ .In := by decide) (h2 : op ≠ .NotIn := by decide) : behindInMarks op b = false := by
  have e1 : (op == CmpOp.In) = false := by cases op <;> first | rfl | exact absurd rfl h
  have e2 : (op == CmpOp.NotIn) = false := by cases op <;> first | rfl | exact absurd rfl h2
  cases b <;> simp [behindInMarks, e1, e2]
theorem pe_cmpR {op : CmpOp} {r : R2} (ho : OpR X (compareOp op) r) (ha : PE X a ta) (hb : PE X b tb) (hm : behindInMarks op b = false) : PE X (.Compare a [op] [b] pos) (tOp r ta tb) := by
  intro pins s σ H Q I h
  exact wpAny_Compare1 (binT ha hb I h fun v u s2 x y H2 I2 rx ry q => ho pins s2 σ H2 x y v u Q I2 rx ry q) hm
def tTest (t : TE) : TT := fun σ H Q => t σ H fun x H' => ∃ k, x = .bl k ∧ Q k H'
theorem pt_cmpR {op : CmpOp} {r : R2} (ho : OpR X (compareOp op) r) (ha : PE X a ta) (hb : PE X b tb) (hm : behindInMarks op b = false) : PT X (.Compare a [op] [b] pos) (tTest (tOp r ta tb)) := by
  intro pins s σ H Q I h
  refine wpAny_isTrue_Compare1 (thn (ha pins s σ H _ I h) fun v s1 ⟨x, H1, I1, r1, q1⟩ => thn (hb pins s1 σ H1 _ I1 q1) fun u s2 ⟨y, H2, I2, r2, q2⟩ =>
    thn (ho pins s2 σ H2 x y v u _ I2 r1 r2 q2) fun c s3 ⟨z, H3, I3, r3, k, e, q3⟩ => ?_) hm
  subst e
  cases r3
  exact wpAny_truthy_bool ⟨H3, I3, q3⟩
def tChain (r r' : R2) (ta tb tc : TE) : TE := fun σ H Q => ta σ H fun x H1 => tb σ H1 fun y H2 => r x y H2 fun z H3 => ∃ k, z = .bl k ∧
  (if k = true then tc σ H3 fun w' H4 => r' y w' H4 Q else Q (.bl false) H3)
theorem pt_chain {op op' : CmpOp} {r r' : R2} (ho : OpR X (compareOp op) r) (ho' : OpR X (compareOp op') r') (ha : PE X a ta) (hb : PE X b tb) (hc : PE X c tc)
    (hm : lastMarks [op, op'] [b, c] = false := by with_unfolding_all rfl) : PT X (.Compare a [op, op'] [b, c] pos) (tTest (tChain r r' ta tb tc)) := by
  intro pins s σ H Q I h
  refine isTrue_chain (thn (ha pins s σ H _ I h) fun v s1 ⟨x, H1, I1, r1, q1⟩ => test_link (thn (hb pins s1 σ H1 _ I1 q1) fun u s2 ⟨y, H2, I2, r2, q2⟩ =>
    thn (ho pins s2 σ H2 x y v u _ I2 r1 r2 q2) fun d s3 ⟨z, H3, I3, r3, k, e, q3⟩ => ?_)) hm
  subst e
  cases r3
  refine wpAny_truthy_bool ?_
  cases k with
  | false =>
    obtain ⟨k', e', q'⟩ := q3
    cases e'
    exact ite_ff ⟨H3, I3, q'⟩
  | true =>
    refine ite_tt (test_last (thn (hc pins s3 σ H3 _ I3 q3) fun w' s4 ⟨z', H4, I4, r4, q4⟩ => thn (ho' pins s4 σ H4 y z' u w' _ I4 r2 r4 q4) fun d' s5 ⟨z2, H5, I5, r5, k2, e2, q5⟩ => ?_))
    subst e2
    cases r5
    exact wpAny_truthy_bool ⟨H5, I5, q5⟩
theorem line63 : (sizeLine : Nat) < 2 ^ 63 := by rw [sizeLine_eq]; decide
theorem vals1 {x : V} {us : List Value} (r : Vals [x] us) : ∃ u, us = [u] ∧ RelV x u := by
  cases r with
  | cons r1 r2 => cases r2; exact ⟨_, rfl, r1⟩
theorem vals2 {x y : V} {us : List Value} (r : Vals [x, y] us) : ∃ u w', us = [u, w'] ∧ RelV x u ∧ RelV y w' := by
  cases r with
  | cons r1 r2 =>
    cases r2 with
    | cons r3 r4 => cases r4; exact ⟨_, _, rfl, r1, r3⟩
theorem call_abs : CallR X (.builtin "abs") (fun xs H Q => ∃ i, xs = [.int i] ∧ Q (.int (if i < 0 then -i else i)) H) := by
  intro pins s σ H xs us Q I r h
  obtain ⟨i, rfl, q⟩ := h
  obtain ⟨u, rfl, t, rfl⟩ := vals1 r
  exact call_abs_int fun u tk => ⟨.int (if i < 0 then -i else i), H, I.tok _, ⟨_, rfl⟩, q⟩
theorem call_max2 (hc : X.calm = true) : CallR X (.builtin "max") (fun xs H Q => ∃ i j, xs = [.int i, .int j] ∧ Q (.int (if j > i then j else i)) H) := by
  intro pins s σ H xs us Q I r h
  obtain ⟨i, j, rfl, q⟩ := h
  obtain ⟨u, w', rfl, ⟨t, rfl⟩, ⟨t', rfl⟩⟩ := vals2 r
  refine max_two_ints (I.ok.hd hc) fun h' tk k => ⟨_, H, I.kept k, ?_, q⟩
  by_cases hj : j > i
  · rw [if_pos hj, if_pos hj]; exact ⟨_, rfl⟩
  · rw [if_neg hj, if_neg hj]; exact ⟨_, rfl⟩
theorem call_min2 (hc : X.calm = true) : CallR X (.builtin "min") (fun xs H Q => ∃ i j, xs = [.int i, .int j] ∧ Q (.int (if j < i then j else i)) H) := by
  intro pins s σ H xs us Q I r h
  obtain ⟨i, j, rfl, q⟩ := h
  obtain ⟨u, w', rfl, ⟨t, rfl⟩, ⟨t', rfl⟩⟩ := vals2 r
  refine min_two_ints (I.ok.hd hc) fun h' tk k => ⟨_, H, I.kept k, ?_, q⟩
  by_cases hj : j < i
  · rw [if_pos hj, if_pos hj]; exact ⟨_, rfl⟩
  · rw [if_neg hj, if_neg hj]; exact ⟨_, rfl⟩
end
end L2
namespace L2
open PySem PySem.Spec PyProof.Rows
structure ObjM (h : Heap) (x dx C : Addr) (mA : Str → Option Value) : Prop where
  obj : h.get? x = some (PySem.W.instObj C dx)
  ns : h.Ns1 dx mA
  ne : dx ≠ x
theorem lookIn_ns {h : Heap} {dx : Addr} {mA : Str → Option Value} (n : h.Ns1 dx mA) : ∃ od, h.get? dx = some od ∧ ∀ name, PySem.W.lookIn name od = some (mA name) := by
  obtain ⟨o, es, ep, ho, hd, hk, _, hm⟩ := n
  refine ⟨o, ho, fun name => ?_⟩
  have e := hm name
  unfold nsFind findBy at e
  rw [← Array.find?_toList] at e
  unfold PySem.W.lookIn
  rw [hd]
  dsimp only
  split
  · rename_i y q
    rw [q] at e
    exact congrArg some e
  · rename_i q
    rw [q] at e
    have a : es.toList.any (·.refKey) = false := by
      rw [List.any_eq_false]
      intro y hy
      obtain ⟨z, t, hkey⟩ := hk y (Array.mem_toList_iff.mp hy)
      simp [DictEntry.refKey, hkey]
    have a' : ¬ es.toList.any (·.refKey) = true := by rw [a]; exact Bool.false_ne_true
    rw [if_neg a']
    exact congrArg some e
theorem ObjM.look {h : Heap} {x dx C : Addr} {mA : Str → Option Value} (I : ObjM h x dx C mA) : ∃ od, PySem.W.InstAt h x (PySem.W.instObj C dx) C (some od) ∧ ∀ name, PySem.W.lookIn name od = some (mA name) :=
  let ⟨od, ho, hl⟩ := lookIn_ns I.ns
  ⟨od, ⟨I.obj, rfl, rfl, ho⟩, hl⟩
section
variable {prog : Program} {w : World} {A : Around} {E : Value → Shared → Prop} {s : Shared} {K : PySem.W.Frag} {x dx C f : Addr} {mA : Str → Option Value} {name : Str} {v : Value}
end
section
variable {P : Program} {w : World} {H H' : Hp} {h h' : Heap} {a C dx : Addr} {fs fs' : List (Str × V)}
theorem ins_get (hok : HOk P w H h) (e : H a = some (.ins C dx fs)) : ∃ mA, ObjM h a dx C mA ∧ (∀ f, RelO (fs.lookup f) (mA f)) ∧ PySem.Within mA (fs.map (·.1)) ∧ fs.length ≤ 1000 ∧ H dx = some (.own a) := by
  obtain ⟨d, z, ne, ob, mA, n, r, q⟩ := (show ObjOk P w H h a (.ins C dx fs) from hok a _ e)
  exact ⟨mA, ⟨ob, n, ne⟩, r, q, z, d⟩
end
structure Cls (K : PySem.W.Frag) (C : Addr) : Prop where
  pg : PySem.W.plainGet K C Str.empty = true
  hd : PySem.W.hasDictIn K C = true
  po : PySem.W.plainOver K C = true
  sa : PySem.W.findIn K (.ref C) "__setattr__" = some (some (.builtin "object.__setattr__"))
theorem Cls.get {K : PySem.W.Frag} {C : Addr} (c : Cls K C) (f : Str) : PySem.W.plainGet K C f = true := c.pg
section
variable {X : Cx} {pins : List (Addr × Obj)} {σ : St} {H : Hp} {s : Shared} {a C dx : Addr} {fs : List (Str × V)} {f : Str} {v : V} {A : Around} {E : Value → Shared → Prop}
end
section
variable {X : Cx} {o e value : Expr} {f : Str} {pos pos' tpos : Pos} {ta tv : TE}
end
section
variable {X : Cx} {pins : List (Addr × Obj)} {σ : St} {H : Hp} {s : Shared} {A : Around} {E : Value → Shared → Prop} {Q : Value → Shared → Prop} {c : Value} {b : Bool}
inductive TyOf (K : PySem.W.Frag) (H : Hp) : V → Value → Prop where
  | non : TyOf K H .non (.type "NoneType")
  | bl (x : Bool) : TyOf K H (.bl x) (.type "bool")
  | int (i : Int) : TyOf K H (.int i) (.type "int")
  | str (x : Str) : TyOf K H (.str x) (.type "str")
  | flt (x : UInt64) : TyOf K H (.flt x) (.type "float")
  | lst {a : Addr} {xs : List V} (e : H a = some (.lst xs)) : TyOf K H (.ref a) (.type "list")
  | frz {a : Addr} {o : Obj} {xs : List V} (e : H a = some (.frz o (.lst xs))) : TyOf K H (.ref a) (.type "list")
  | tup {a : Addr} {xs : List V} (e : H a = some (.tup xs)) : TyOf K H (.ref a) (.type "tuple")
  | dK {a : Addr} {kvs : List (Key × V)} (e : H a = some (.dK kvs)) : TyOf K H (.ref a) (.type "dict")
  | dT {a : Addr} {kvs : List (List Key × V)} (e : H a = some (.dT kvs)) : TyOf K H (.ref a) (.type "dict")
  | ins {a C dx : Addr} {fs : List (Str × V)} (e : H a = some (.ins C dx fs)) (cl : Cls K C) (ha : PySem.W.findIn K (.ref C) "__class__" = some (some (.builtin "object.__class__")))
      (hn : PySem.W.specialIn K (.builtin "object.__class__") "__get__" = some (some (.builtin "getset_descriptor.__get__"))) (htk : PySem.W.takesIn K (.builtin "object.__class__") = some true)
      (hm : PySem.W.mroIn K C (.type "object") = some true) : TyOf K H (.ref a) (.ref C)
theorem isinst_ok {x : V} {u t : Value} (I : Inv X pins σ H s) (rx : RelV x u) (ty : TyOf X.K H x t) (e : PySem.W.kitOne X.K t c = some b) (h : ∀ tk, Q (.bool b) { s with toks := tk }) :
    wpAny (model X.prog X.w) A (call (.builtin "isinstance") [u, c]) Q E s := by
  cases ty with
  | non => cases (show u = Value.none from rx); exact PySem.W.kia_one PySem.W.kitx_none I.kIn True.intro e (fun z => nomatch z) h
  | bl y => cases (show u = Value.bool y from rx); exact PySem.W.kia_one PySem.W.kitx_bool I.kIn True.intro e (fun z => nomatch z) h
  | int i => obtain ⟨t, q⟩ := (show ∃ t, u = Value.int i t from rx); cases q; exact PySem.W.kia_one PySem.W.kitx_int I.kIn True.intro e (fun z => nomatch z) h
  | str y => obtain ⟨t, q⟩ := (show ∃ t, u = Value.str y t from rx); cases q; exact PySem.W.kia_one PySem.W.kitx_str I.kIn True.intro e (fun z => nomatch z) h
  | flt y => obtain ⟨t, q⟩ := (show ∃ t, u = Value.float y t from rx); cases q; exact PySem.W.kia_one PySem.W.kitx_float I.kIn True.intro e (fun z => nomatch z) h
  | @lst a xs ea =>
    cases (show u = Value.ref a from rx)
    obtain ⟨_, _, n, _, h1⟩ := (show ObjOk X.prog X.w H s.heap a (.lst xs) from I.hok a _ ea)
    exact PySem.W.kia_one PySem.W.kitx_list I.kIn ⟨_, h1, rfl⟩ e (fun z => nomatch z) h
  | @frz a ob xs ea =>
    cases (show u = Value.ref a from rx)
    obtain ⟨_, _, _, n, _, h1⟩ := (show ObjOk X.prog X.w H s.heap a (.frz ob (.lst xs)) from I.hok a _ ea)
    exact PySem.W.kia_one PySem.W.kitx_list I.kIn ⟨_, h1, rfl⟩ e (fun z => nomatch z) h
  | @tup a xs ea =>
    cases (show u = Value.ref a from rx)
    obtain ⟨_, _, _, p⟩ := (show ObjOk X.prog X.w H s.heap a (.tup xs) from I.hok a _ ea)
    obtain ⟨o, h1, h2, _⟩ := p
    exact PySem.W.kia_one PySem.W.kitx_tuple I.kIn ⟨o, h1, h2⟩ e (fun z => nomatch z) h
  | @dK a kvs ea =>
    cases (show u = Value.ref a from rx)
    obtain ⟨_, _, vs, _, p⟩ := (show ObjOk X.prog X.w H s.heap a (.dK kvs) from I.hok a _ ea)
    obtain ⟨o, es, ep, h1, h2, _⟩ := p
    exact PySem.W.kia_one PySem.W.kitx_dict I.kIn ⟨o, h1, h2.1⟩ e (fun z => nomatch z) h
  | @dT a kvs ea =>
    cases (show u = Value.ref a from rx)
    obtain ⟨_, _, xs, _, o, es, ep, h1, h2, _⟩ := (show ObjOk X.prog X.w H s.heap a (.dT kvs) from I.hok a _ ea)
    exact PySem.W.kia_one PySem.W.kitx_dict I.kIn ⟨o, h1, h2.1⟩ e (fun z => nomatch z) h
  | @ins a C dx fs ea cl ha hn htk hm =>
    cases (show u = Value.ref a from rx)
    obtain ⟨mA, O, _⟩ := ins_get I.hok ea
    obtain ⟨od, J, _⟩ := O.look
    exact PySem.W.kia_one (PySem.W.kitx_own (cl.get _) cl.hd ha hn htk hm) I.kIn J e (fun z => nomatch z) h
end
end L2
namespace L2
open PySem PySem.Spec PyProof.Rows
structure Room (k : Nat) (A : Around) : Prop where
  hd : A.handled = none
  dp : A.depth + 3 * k + 5 < recursionLimit
  un : A.units + 16 * k + 200 < cLine
theorem Room.mono {j k : Nat} {A : Around} (r : Room k A) (h : j ≤ k) : Room j A := ⟨r.hd, by have := r.dp; omega, by have := r.un; omega⟩
theorem Room.deeper {k : Nat} {A : Around} (r : Room (k + 1) A) (env : Env) : Room k (A.deeper env) :=
  ⟨r.hd, by have := r.dp; show A.depth + 1 + 3 * k + 5 < _; omega, by have := r.un; show A.units + 3 + 16 * k + 200 < _; omega⟩
theorem Room.depth {k : Nat} {A : Around} (r : Room k A) : A.depth < recursionLimit := by have := r.dp; omega
theorem Room.units {k : Nat} {A : Around} (r : Room k A) : A.units + 64 < cLine := by have := r.un; omega
def tNil : TA := fun _ H Q => Q [] H
def tCons (ta : TE) (tr : TA) : TA := fun σ H Q => ta σ H fun x H1 => tr σ H1 fun xs H2 => Q (x :: xs) H2
section
variable {X : Cx} {e : Expr} {es : List Expr} {te : TE} {t : TA} {pos : Pos}
theorem pa_nil : PA X [] tNil := fun _ _ _ _ H Q I h => Calls.spliced_nil ⟨[], H, I, .nil, h⟩
theorem pa_cons (ha : PE X e te) (hr : PA X es t) (hs : starEach (e :: es) X.env = (false, eval e X.env) :: starEach es X.env := by rfl) : PA X (e :: es) (tCons te t) := by
  intro pos pins s σ H Q I h
  rw [hs]
  show wpAny _ _ (spliced ((false, eval e X.env) :: backTo pos (starEach es X.env))) _ _ s
  refine Calls.spliced_cons (thn (ha pins s σ H _ I h) fun u s1 ⟨x, H1, I1, r1, q1⟩ => ?_)
  exact thn (hr pos pins s1 σ H1 _ I1 q1) fun us s2 ⟨xs, H2, I2, r2, q2⟩ => ⟨x :: xs, H2, I2, .cons r1 r2, q2⟩
def tTup (t : TA) : TE := fun σ H Q => t σ H fun xs H1 => xs.length ≤ sizeLine ∧ ∀ p, H1 p = none → Q (.ref p) (upd H1 p (.tup xs))
def tLst (t : TA) : TE := fun σ H Q => t σ H fun xs H1 => xs.length ≤ sizeLine ∧ ∀ p, H1 p = none → Q (.ref p) (upd H1 p (.lst xs))
theorem pe_tup {x1} (h : PA X es t) : PE X (.Tuple es x1 pos) (tTup t) := by
  intro pins s σ H Q I hq
  refine wpAny_Tuple_spliced (thn (h pos pins s σ H _ I hq) fun us s1 ⟨xs, H1, I1, r, z, q⟩ => ⟨by rw [← r.length]; exact z, ?_⟩)
  have hf : H1 s1.heap.objs.size = none := I1.hok.fresh (Nat.le_refl _)
  refine ⟨.ref s1.heap.objs.size, upd H1 s1.heap.objs.size (.tup xs), I1.laid (t' := s1.toks) (fun b u e => Heap.get?_push_of_some _ e) (Nat.le_refl _) ?_, rfl, q _ hf⟩
  exact ⟨z, us, r, ⟨_, Heap.get?_push_size _ rfl, rfl, _, rfl⟩⟩
theorem pe_lst (h : PA X es t) : PE X (.List es pos) (tLst t) := by
  intro pins s σ H Q I hq
  refine wpAny_List_spliced (thn (h pos pins s σ H _ I hq) fun us s1 ⟨xs, H1, I1, r, z, q⟩ => ⟨by rw [← r.length]; exact z, ?_⟩)
  have hf : H1 s1.heap.objs.size = none := I1.hok.fresh (Nat.le_refl _)
  refine ⟨.ref s1.heap.objs.size, upd H1 s1.heap.objs.size (.lst xs), I1.laid (t' := s1.toks) (fun b u e => Heap.get?_push_of_some _ e) (Nat.le_refl _) ?_, rfl, q _ hf⟩
  exact ⟨z, us, 0, r, Heap.get?_push_size _ rfl⟩
end
abbrev Sp := List V → Hp → VK → XK → Prop
abbrev CXT := List Env → Hp → Shared → XK → Value → Shared → Prop
structure Env0 (P : Program) (w : World) (K : PySem.W.Frag) (mg : Str → Option Value) (base : Heap) (A : Around) (outer : List Env) (s : Shared) (H : Hp) : Prop where
  frames : A.frames = some outer
  mod : Mod K mg base
  bs : ∀ b o, base.get? b = some o → s.heap.get? b = some o ∧ H b = none
  bsz : base.objs.size ≤ s.heap.objs.size
  funs : s.heap.FunFrames base outer
  frf : ∀ b ∈ frs outer, H b = none
  hok : HOk P w H s.heap
  bare : AllBare s.gens
def CE (outer : List Env) (P : Program) (w : World) (H : Hp) (s : Shared) (Q : VK) (u : Value) (s' : Shared) : Prop :=
  ∃ v H', s'.os = s.os ∧ AllBare s'.gens ∧ Un (frs outer) [] H H' s.heap s'.heap ∧ HOk P w H' s'.heap ∧ RelV v u ∧ Q v H'
def CR (CX : CXT) (outer : List Env) (P : Program) (w : World) (H : Hp) (s : Shared) (Q : VK) (E : XK) (r : Result) (s' : Shared) : Prop :=
  match r with
  | .ok (.ret u) => CE outer P w H s Q u s'
  | .ok _ => False
  | .error e => CX outer H s E e s'
structure FnOk (P : Program) (w : World) (K : PySem.W.Frag) (mg : Str → Option Value) (base : Heap) (CX : CXT) (k : Nat) (f : Addr) (fd : FuncData) (ps : List Str) (sp : Sp) : Prop where
  len : ∀ vs H Q E, sp vs H Q E → vs.length = ps.length
  run : ∀ (A : Around) (outer : List Env) (s : Shared) (H : Hp) (args : Args) (us : List Value) (vs : List V) (Q : VK) (E : XK), Room k A → Env0 P w K mg base A outer s H → BindsTo s fd args (ps.zip us) → Vals vs us → sp vs H Q E →
    codeAny (model P w) A (.call (.ref f) args) (CR CX outer P w H s Q E) s
section
variable {X : Cx} {pins : List (Addr × Obj)} {σ : St} {H : Hp} {s s' : Shared}
theorem Inv.env0 (I : Inv X pins σ H s) : Env0 X.prog X.w X.K X.mg X.base X.A X.stack s H :=
  ⟨I.ok.frames, I.ok.mod, I.bs, Nat.le_trans I.ok.bsz I.sz, I.stack, I.stkFree, I.hok, I.bare⟩
theorem Inv.after {Q : VK} {u : Value} (I : Inv X pins σ H s) (h : CE X.stack X.prog X.w H s Q u s') : EP X pins σ Q u s' := by
  obtain ⟨v, H', os, bare, un, hok, r, q⟩ := h
  obtain ⟨hh, g, d, t, os'⟩ := s'
  obtain rfl : os' = s.os := os
  exact ⟨v, H', I.call (h' := hh) (g' := g) (d' := d) (t' := t) (ch := []) un hok bare (fun b z => absurd z (by simp)), r, q⟩
end
def tCall (sp : Sp) (dvs : List V) (E : XK) (t : TA) : TE := fun σ H Q => t σ H fun vs H1 => sp (vs ++ dvs) H1 Q E
def Binds (K : PySem.W.Frag) (fd : FuncData) (ps : List Str) (ds : List Value) : Prop :=
  ∀ (s : Shared) (us : List Value), K.In s.heap → (us ++ ds).length = ps.length → BindsTo s fd ⟨us, []⟩ (ps.zip (us ++ ds))
theorem Binds.all {K : PySem.W.Frag} {fd : FuncData} {ps : List Str} (h : ∀ us : List Value, us.length = ps.length → bindArgs fd ⟨us, []⟩ = pure (ps.zip us)) : Binds K fd ps [] := fun s us _ hl => by
  rw [List.append_nil] at hl ⊢
  exact .of_eq (h us hl)
def Passes (CX : CXT) (X : Cx) (E : XK) : Prop := ∀ (pins : List (Addr × Obj)) (σ : St) (H : Hp) (s : Shared) (e : Value) (s' : Shared), Inv X pins σ H s → CX X.stack H s E e s' → X.xe e s'
section
variable {X : Cx} {CX : CXT} {k : Nat} {f C : Addr} {fd : FuncData} {ps : List Str} {sp : Sp} {dvs : List V} {ds : List Value} {E : XK} {x m : Str} {p pos apos : Pos} {e o : Expr} {es : List Expr} {ta : TE} {t : TA}
theorem run_fn {pins : List (Addr × Obj)} {σ : St} {H : Hp} {s : Shared} {Q : VK} {us : List Value} {vs : List V} (F : FnOk X.prog X.w X.K X.mg X.base CX k f fd ps sp) (hr : Room k X.A) (hb : Binds X.K fd ps ds) (hd : Vals dvs ds) (hx : Passes CX X E)
    (I : Inv X pins σ H s) (r : Vals vs us) (h : sp (vs ++ dvs) H Q E) : wpAny (model X.prog X.w) X.A (call (.ref f) us) (EP X pins σ Q) X.xe s := by
  have r2 : Vals (vs ++ dvs) (us ++ ds) := r.append hd
  have hl : (us ++ ds).length = ps.length := by rw [← r2.length]; exact F.len _ _ _ _ h
  refine wpAny_call (codeAny_mono (F.run X.A X.stack s H ⟨us, []⟩ (us ++ ds) (vs ++ dvs) Q E hr I.env0 (hb s us I.kIn hl) r2 h) fun r s' hq => ?_)
  cases r with
  | error e => exact hx pins σ H s e s' I hq
  | ok fl =>
    cases fl with
    | ret u => exact I.after hq
    | next => exact False.elim hq
    | brk => exact False.elim hq
    | cont => exact False.elim hq
theorem pe_call (F : FnOk X.prog X.w X.K X.mg X.base CX k f fd ps sp) (hr : Room k X.A) (hg : Gl X x) (hm : X.mg x = some (.ref f)) (hk : PySem.W.keepIn X.K (.ref f) = true) (hb : Binds X.K fd ps ds) (hd : Vals dvs ds) (hx : Passes CX X E)
    (ha : PA X (e :: es) t) (hdb : (x == ("__debug__" : Str)) = false := by decide) (he : starEach (e :: es) X.env = (false, eval e X.env) :: starEach es X.env := by rfl) (hpl : (backTo pos (starEach es X.env)).any (·.1) = false := by rfl) :
    PE X (.Call (.Name x p) (e :: es) [] pos) (tCall sp dvs E t) := by
  intro pins s σ H Q I h
  refine wpAny_Call_Name_kw (ld_glob I hg hm ?_ hdb)
  refine PySem.W.callWith_K (h₀ := X.base) I.ok.mod.kin hk (thn (ha pos pins s σ H _ I h) fun us s1 ⟨vs, H1, I1, r, q⟩ => ⟨I1.kIn, ?_⟩) he hpl
  exact run_fn F hr hb hd hx I1 r q
end
section
variable {X : Cx} {CX : CXT} {k : Nat} {f C : Addr} {fd : FuncData} {ps ks : List Str} {sp : Sp} {E : XK} {x m : Str} {p pos apos kpos : Pos} {e o : Expr} {es : List Expr} {kws : List Keyword} {te ta : TE} {t tk : TA} {nm : Option Str}
variable {g : List Value → List Value → List Value} {gV : List V → List V → List V}
end
structure FnScope (N P : List Str) (sc : Scope) : Prop where
  kind : sc.kind = .function
  co : sc.isCoroutine = false
  gen : sc.isGenerator = false
  nd : N.Nodup
  pre : N.take P.length = P
  par : ∀ x ∈ P, sc.names.lookup x = some .local ∨ sc.names.lookup x = some .cell
  nofree : ∀ y ∈ sc.names, y.2 ≠ .free
theorem bindL_out {kindOf : Str → Option NameKind} {x : Str} : ∀ {binds : List (Str × Value)} {m : Str → Option Value}, (∀ v, (x, v) ∉ binds) → bindL kindOf binds m x = m x
  | [], _, _ => rfl
  | (n, v) :: r, m, h => by
    unfold bindL
    rw [bindL_out fun w hw => h w (List.mem_cons_of_mem _ hw)]
    split
    · have : x ≠ n := by rintro rfl; exact h v List.mem_cons_self
      simp [this]
    · rfl
theorem bindC_out {kindOf : Str → Option NameKind} {x : Str} : ∀ {binds : List (Str × Value)} {m : Str → Option Value}, (∀ v, (x, v) ∉ binds) → bindC kindOf binds m x = m x
  | [], _, _ => rfl
  | (n, v) :: r, m, h => by
    unfold bindC
    rw [bindC_out fun w hw => h w (List.mem_cons_of_mem _ hw)]
    split
    · rfl
    · have : x ≠ n := by rintro rfl; exact h v List.mem_cons_self
      simp [this]
theorem bindL_get {kindOf : Str → Option NameKind} {x : Str} {v : Value} : ∀ {P : List Str} {vs : List Value} {i : Nat} {m : Str → Option Value}, P.Nodup → P[i]? = some x → vs[i]? = some v → kindOf x = some .local →
    bindL kindOf (P.zip vs) m x = some v
  | [], _, _, _, _, h, _, _ => by simp at h
  | _ :: _, [], _, _, _, _, h, _ => by simp at h
  | p :: P, w :: vs, 0, m, nd, h1, h2, hk => by
    simp at h1 h2; subst h1; subst h2
    show bindL kindOf ((p, w) :: P.zip vs) m p = _
    unfold bindL
    rw [bindL_out fun v hv => (List.nodup_cons.mp nd).1 (List.of_mem_zip hv).1, if_pos hk]
    simp
  | p :: P, w :: vs, i + 1, m, nd, h1, h2, hk => by
    show bindL kindOf ((p, w) :: P.zip vs) m x = _
    unfold bindL
    exact bindL_get (i := i) (List.nodup_cons.mp nd).2 (by simpa using h1) (by simpa using h2) hk
theorem bindC_get {kindOf : Str → Option NameKind} {x : Str} {v : Value} : ∀ {P : List Str} {vs : List Value} {i : Nat} {m : Str → Option Value}, P.Nodup → P[i]? = some x → vs[i]? = some v → kindOf x ≠ some .local →
    bindC kindOf (P.zip vs) m x = some v
  | [], _, _, _, _, h, _, _ => by simp at h
  | _ :: _, [], _, _, _, _, h, _ => by simp at h
  | p :: P, w :: vs, 0, m, nd, h1, h2, hk => by
    simp at h1 h2; subst h1; subst h2
    show bindC kindOf ((p, w) :: P.zip vs) m p = _
    unfold bindC
    rw [bindC_out fun v hv => (List.nodup_cons.mp nd).1 (List.of_mem_zip hv).1, if_neg hk]
    simp
  | p :: P, w :: vs, i + 1, m, nd, h1, h2, hk => by
    show bindC kindOf ((p, w) :: P.zip vs) m x = _
    unfold bindC
    exact bindC_get (i := i) (List.nodup_cons.mp nd).2 (by simpa using h1) (by simpa using h2) hk
def start (N : List Str) (vs : List V) : St := vs.map some ++ List.replicate (N.length - vs.length) none
def cxOf (CX : CXT) (P : Program) (w : World) (K : PySem.W.Frag) (mg : Str → Option Value) (base : Heap) (N : List Str) (qual : Str) (scope : Scope) (f : Addr) (cd : Value) (A : Around) (outer : List Env) (s : Shared) (H : Hp) (E : XK) : Cx where
  prog := P
  w := w
  K := K
  mg := mg
  base := base
  A := A.deeper (envOfC qual scope s.heap.objs.size f cd)
  N := N
  s₀ := s
  H₀ := H
  env := envOfC qual scope s.heap.objs.size f cd
  outer := outer
  stack := envOfC qual scope s.heap.objs.size f cd :: outer
  ex := []
  calm := true
  fn := fun _ => true
  pn := []
  xe := fun e s' => wpAny (model P w) (A.deeper (envOfC qual scope s.heap.objs.size f cd)) (leaving (envOfC qual scope s.heap.objs.size f cd) e) (fun _ s'' => CX outer H s E e s'') (fun e' s'' => CX outer H s E e' s'') s'
theorem cell_has {sc : Scope} {n : Nat} {x : Str} (h : sc.names.lookup x = some .cell) : ∃ c, (cellsFrom n sc.names []).lookup x = some c := by
  have q := PySem.W.cellsFrom_some sc.names n [] (.inl h)
  exact Option.isSome_iff_exists.mp q
theorem inv_start {CX : CXT} {P : Program} {w : World} {K : PySem.W.Frag} {mg : Str → Option Value} {base : Heap} {N ps : List Str} {qual : Str} {scope : Scope} {f : Addr} {cd : Value} {A : Around} {outer : List Env} {s s1 : Shared} {H : Hp} {E : XK} {us : List Value} {vs : List V}
    (S : FnScope N ps scope) (hd : A.handled = none) (e0 : Env0 P w K mg base A outer s H) (hl : vs.length = ps.length) (r : Vals vs us)
    (x : InCallC s s.heap.objs.size (bindL (envOfC qual scope s.heap.objs.size f cd).kindOf (ps.zip us) fun _ => none) (cellsFrom (s.heap.objs.size + 1) scope.names []) (bindC (envOfC qual scope s.heap.objs.size f cd).kindOf (ps.zip us) fun _ => none) s1) :
    Inv (cxOf CX P w K mg base N qual scope f cd A outer s H E) [] (start N vs) H s1 := by
  have hpl : ps.length ≤ N.length := by have := congrArg List.length S.pre; rw [List.length_take] at this; omega
  obtain ⟨h1, tk, rfl, hk⟩ := x.done
  have noA : ∀ b : Addr, b ∉ (cxOf CX P w K mg base N qual scope f cd A outer s H E).ex := fun b z => absurd (show b ∈ ([] : List Addr) from z) (by simp)
  refine ⟨⟨e0.mod, S.kind, rfl, rfl, Nat.le_refl _, fun y z c h1 h2 => ?_, fun y hy => ?_, fun y c _ h => ?_, fun _ => hd, Around.frames_deeper e0.frames, .inr ⟨rfl, rfl⟩, fun b z => absurd z (noA b), e0.bs, e0.bsz, fun b _ _ => noA b, fun b z => absurd z (noA b), e0.funs, e0.frf⟩,
    rfl, e0.bare, Un.kept hk, ⟨_, x.toInCall.ns, fun i y v h1 h2 h3 => ?_⟩, fun y c h => ⟨_, x.cell y c h⟩, e0.hok.fresh (Nat.le_refl _), fun y c h => ?_, fun p hp => absurd (show p ∈ ([] : List (Addr × Obj)) from hp) (by simp), e0.hok.kept hk, ?_⟩
  · exact name_of_addr x.apart (PySem.mem_of_lookup h1) (PySem.mem_of_lookup h2)
  · have hy : scope.names.lookup y = some .cell ∨ scope.names.lookup y = some .free := hy
    rcases hy with hy | hy
    · exact cell_has hy
    · exact absurd rfl (S.nofree _ (PySem.mem_of_lookup hy))
  · exact Nat.le_of_lt (x.above y c (PySem.mem_of_lookup h))
  · have hi : i < vs.length := by
      unfold start at h2
      by_cases hi : i < vs.length
      · exact hi
      · rw [List.getElem?_append_right (by simpa using hi)] at h2
        rw [List.getElem?_replicate] at h2
        split at h2 <;> cases h2
    have ha : vs[i]? = some v := by
      unfold start at h2
      rw [List.getElem?_append_left (by simpa using hi), List.getElem?_map] at h2
      cases e : vs[i]? with
      | none => rw [e] at h2; cases h2
      | some a => rw [e] at h2; cases h2; rfl
    obtain ⟨u, hu, rv⟩ := r.get ha
    have hp : ps[i]? = some y := by
      rw [← S.pre, List.getElem?_take_of_lt (by omega)]; exact h1
    have ndP : ps.Nodup := by rw [← S.pre]; exact S.nd.sublist (List.take_sublist _ _)
    refine ⟨u, rv, ?_⟩
    rcases S.par y (List.mem_of_getElem? hp) with k | k
    · exact .inl ⟨k, bindL_get ndP hp hu k⟩
    · obtain ⟨c, e⟩ := cell_has (n := s.heap.objs.size + 1) k
      refine .inr ⟨.inl k, c, e, ?_⟩
      have q := x.cell y c e
      rw [bindC_get ndP hp hu (by show scope.names.lookup y ≠ _; rw [k]; decide)] at q
      exact q
  · exact e0.hok.fresh (Nat.le_of_lt (x.above y c (PySem.mem_of_lookup h)))
  · unfold start
    show _ = N.length
    rw [List.length_append, List.length_map, List.length_replicate]
    omega
theorem fn_of {CX : CXT} {P : Program} {w : World} {K : PySem.W.Frag} {mg : Str → Option Value} {base : Heap} {k : Nat} {f : Addr} {name qual : Str} {params : Arguments} {body : List Stmt} {scope : Scope} {dV kV doc pm cdv ct oc : Value} {an od : Option Addr}
    {osl : Array (Option Value)} {N ps : List Str} {sp : Sp} (lk : K.lookup f = some ⟨oc, od, .func (PySem.W.fnOf name qual params body scope dV kV doc pm an cdv ct), osl⟩) (hcd : PySem.W.codeIn K cdv qual = true) (S : FnScope N ps scope)
    (len : ∀ vs H Q E, sp vs H Q E → vs.length = ps.length)
    (hbody : ∀ (A : Around) (outer : List Env) (s : Shared) (H : Hp) (vs : List V) (Q : VK) (E : XK), Room k (A.deeper (envOfC qual scope s.heap.objs.size f cdv)) → sp vs H Q E →
      ∃ t, PSs (cxOf CX P w K mg base N qual scope f cdv A outer s H E) body t ∧ t { nx := fun _ H' => Q .non H', rt := Q } (start N vs) H) :
    FnOk P w K mg base CX (k + 1) f (PySem.W.fnOf name qual params body scope dV kV doc pm an cdv ct) ps sp := by
  refine ⟨len, fun A outer s H args us vs Q E hr e0 hb r hsp => ?_⟩
  have hl := len _ _ _ _ hsp
  have KX : K.In s.heap := e0.mod.kin.keeps fun b o e => (e0.bs b o e).1
  have lim : s.heap.NoLimit := e0.mod.nolimit.keeps fun b o e => (e0.bs b o e).1
  have hkind : ∀ y ∈ ps.zip us, scope.names.lookup y.1 = some .local ∨ (scope.names.lookup y.1 = some .cell ∧ ((cellsFrom (s.heap.objs.size + 1) scope.names []).lookup y.1).isSome = true) := fun ⟨n, v⟩ hy => by
    rcases S.par n (List.of_mem_zip hy).1 with q | q
    · exact .inl q
    · exact .inr ⟨q, PySem.W.cellsFrom_some _ _ _ (.inl q)⟩
  refine codeAny_call_function hr.depth (KX _ _ lk) rfl S.co S.gen rfl (PySem.W.codeRec_of KX hcd) (hb _ _ _ _ ?_)
  refine wpAny_newFunctionEnv_cells S.kind hkind fun env he s1 x => ?_
  subst he
  refine ⟨lim.keeps x.toInCall.keep, codeAny_func ?_⟩
  obtain ⟨t, ht, hq⟩ := hbody A outer s H vs Q E (hr.deeper _) hsp
  have I : Inv (cxOf CX P w K mg base N qual scope f cdv A outer s H E) [] (start N vs) H s1 := inv_start S hr.hd e0 hl r x
  refine wpAny_mono (ht [] s1 (start N vs) H _ I hq) (fun fl s' hs => ?_) fun e s' hs => hs
  have fin : ∀ {σ' : St} {H' : Hp} {v : V} {u : Value}, Inv (cxOf CX P w K mg base N qual scope f cdv A outer s H E) [] σ' H' s' → RelV v u → Q v H' → CE outer P w H s Q u s' :=
    fun {σ' H' v u} J rv q => ⟨v, H', J.os, J.bare, J.base, J.hok, rv, q⟩
  cases fl with
  | ret u =>
    obtain ⟨v, σ', H', J, rv, q⟩ := hs
    exact fin J rv q
  | next =>
    obtain ⟨σ', H', J, q⟩ := hs
    exact fin (v := V.non) (u := Value.none) J rfl q
  | brk =>
    obtain ⟨_, _, _, q⟩ := hs
    exact False.elim q
  | cont =>
    obtain ⟨_, _, _, q⟩ := hs
    exact False.elim q
end L2
namespace L2
open PySem PySem.Spec PyProof.Rows
section
variable {X : Cx} {x : Str} {p pos : Pos} {e : Expr} {es : List Expr} {t : TA} {id T : String} {r : List V → Hp → VK → Prop}
def tCB (r : List V → Hp → VK → Prop) (t : TA) : TE := fun σ H Q => t σ H fun vs H1 => r vs H1 Q
theorem pe_callB (hc : CallR X (.builtin id) r) (hg : Gl X x) (hm : X.mg x = none) (hv : bootBuiltins x = some (.builtin id)) (ha : PA X (e :: es) t) (hn : x ≠ "__name__" := by decide) (hdb : (x == ("__debug__" : Str)) = false := by decide)
    (he : starEach (e :: es) X.env = (false, eval e X.env) :: starEach es X.env := by rfl) (hpl : (backTo pos (starEach es X.env)).any (·.1) = false := by rfl) : PE X (.Call (.Name x p) (e :: es) [] pos) (tCB r t) := by
  intro pins s σ H Q I h
  refine wpAny_Call_Name_kw (ld_blt I hg hm hv ?_ hn hdb)
  exact PyProof.Rows.callWith_builtin1 (thn (ha pos pins s σ H _ I h) fun us s1 ⟨vs, H1, I1, r1, q1⟩ => hc pins s1 σ H1 vs us Q I1 r1 q1) he hpl
theorem pe_callTy (hc : CallR X (.type T) r) (hg : Gl X x) (hm : X.mg x = none) (hv : bootBuiltins x = some (.type T)) (ha : PA X (e :: es) t) (hn : x ≠ "__name__" := by decide) (hdb : (x == ("__debug__" : Str)) = false := by decide)
    (he : starEach (e :: es) X.env = (false, eval e X.env) :: starEach es X.env := by rfl) (hpl : (backTo pos (starEach es X.env)).any (·.1) = false := by rfl) : PE X (.Call (.Name x p) (e :: es) [] pos) (tCB r t) := by
  intro pins s σ H Q I h
  refine wpAny_Call_Name_kw (ld_blt I hg hm hv ?_ hn hdb)
  exact PyProof.Rows.callWith_type1 (thn (ha pos pins s σ H _ I h) fun us s1 ⟨vs, H1, I1, r1, q1⟩ => hc pins s1 σ H1 vs us Q I1 r1 q1) he hpl
end
end L2
namespace HT
open PySem PyProof.Rows
section
open PySem.SeqAt
open PySem.AutoSeq1 (wpAny_loadPart')
open PySem.MeetsSeq PySem.MeetsSeq2 PySem.MeetsSeq3
end
section
variable {prog : Program} {w : World} {A : Around} {E : Value → Shared → Prop} {s : Shared}
theorem cat_tup {t b : Addr} {vs ws : List Value} {Q : Value → Shared → Prop} (ht : IsTup s.heap t vs.toArray) (hb : IsTup s.heap b ws.toArray) (hv : vs ≠ [])
    (h1 : ws = [] → Q (.ref t) s) (h2 : ws ≠ [] → Q (.ref s.heap.objs.size) { s with heap := s.heap.push { cls := .type "tuple", data := .seq (vs ++ ws).toArray } })
    (hsz : vs.length + ws.length ≤ sizeLine) : wpAny (model prog w) A (binaryOp .Add (.ref t) (.ref b)) Q E s := by
  obtain ⟨⟨cls, dd, data, sl⟩, ho, hc, n, hd⟩ := id ht
  obtain ⟨⟨cls2, dd2, data2, sl2⟩, ho2, hc2, n2, hd2⟩ := id hb
  simp only at hc hd hc2 hd2
  subst hc hd hc2 hd2
  have e : vs.toArray ++ ws.toArray = (vs ++ ws).toArray := by simp
  by_cases hw : ws = []
  · exact concat_meets ⟨_, ho, rfl⟩ ⟨_, ho2, rfl⟩ noFill_tuple_add seq_tuple_add PySem.F.slot_tuple_add PySem.F.entry_tuple_add (PySem.F.args_tuple_add_2 _ _)
      (tuple_addW1 t b vs.toArray ws.toArray n n2 dd dd2 sl sl2 (by simpa using hv) (by simp [hw])) ⟨ho, ho2, h1 hw⟩
  · refine concat_meets ⟨_, ho, rfl⟩ ⟨_, ho2, rfl⟩ noFill_tuple_add seq_tuple_add PySem.F.slot_tuple_add PySem.F.entry_tuple_add (PySem.F.args_tuple_add_2 _ _)
      (tuple_addW2 t b vs.toArray ws.toArray n n2 dd dd2 sl sl2 (by simpa using hv) (by simpa using hw) (by rw [List.size_toArray, List.size_toArray]; exact hsz)) ⟨ho, ho2, ?_⟩
    rw [e]
    exact h2 hw
def sIx (n d : Nat) : Option Int → Nat
  | none => d
  | some v => if v < 0 then (v + (n : Int)).toNat else min v.toNat n
theorem sIx_none (n d : Nat) : sIx n d none = d := rfl
theorem sIx_nat (n d k : Nat) : sIx n d (some (k : Int)) = min k n := by
  show (if (k : Int) < 0 then ((k : Int) + (n : Int)).toNat else min (k : Int).toNat n) = min k n
  rw [if_neg (by omega), Int.toNat_natCast]
theorem sIx_le (n d : Nat) (hd : d ≤ n) (o : Option Int) : sIx n d o ≤ n := by
  cases o with
  | none => exact hd
  | some v =>
    show (if v < 0 then (v + (n : Int)).toNat else min v.toNat n) ≤ n
    by_cases hv : v < 0
    · rw [if_pos hv]; omega
    · rw [if_neg hv]; exact Nat.min_le_right _ _
theorem clip_eq (v : Int) (n d : Nat) : (if v < 0 then max (v + (n : Int)) 0 else min v (n : Int)) = ((sIx n d (some v) : Nat) : Int) := by
  show (if v < 0 then max (v + (n : Int)) 0 else min v (n : Int)) = (((if v < 0 then (v + (n : Int)).toNat else min v.toNat n) : Nat) : Int)
  by_cases hv : v < 0
  · simp only [if_pos hv]; omega
  · simp only [if_neg hv]; omega
theorem adjust_gen (lo hi : Option Int) (n : Nat) : Builtin.Slice.sliceAdjust lo hi 1 (n : Int) = (((sIx n 0 lo : Nat) : Int), ((sIx n n hi : Nat) : Int)) := by
  have h1 : ¬ ((1 : Int) < 0) := by omega
  unfold Builtin.Slice.sliceAdjust
  simp only [h1, if_false]
  refine Prod.ext ?_ ?_
  · cases lo with
    | none => rfl
    | some v => exact clip_eq v n 0
  · cases hi with
    | none => rfl
    | some v => exact clip_eq v n n
theorem places_gen (i j : Nat) : Builtin.Slice.slicePlaces (i : Int) (j : Int) 1 = j - i := by
  unfold Builtin.Slice.slicePlaces
  have h1 : (1 : Int) > 0 := by omega
  simp only [h1, if_true, Int.ediv_one]
  split <;> omega
theorem slicePart_ {v : Value} {o : Option Int} {Q : Option Int → Shared → Prop} (p : IsPart v o) (h : Q o s) : wpAny (model prog w) A (Builtin.Slice.slicePartIndex v) Q E s := by
  cases p with
  | none => exact slicePart_none h
  | int i t => exact slicePart_int h
theorem sliceApplied_gen {sl : Addr} {vl vu : Value} {lo hi : Option Int} {n : Nat} {Q : Int × Int × Nat → Shared → Prop} (hs : s.heap.IsSliceOf sl vl vu .none) (pl : IsPart vl lo) (pu : IsPart vu hi)
    (h : Q (((sIx n 0 lo : Nat) : Int), 1, sIx n n hi - sIx n 0 lo) s) : wpAny (model prog w) A (Builtin.Slice.sliceApplied (.ref sl) (pure (n : Int))) Q E s := by
  obtain ⟨os, hos, hcs, hds⟩ := id hs
  unfold Builtin.Slice.sliceApplied Builtin.Slice.sliceFields
  refine wpAny_bind (wpAny_bind (wpAny_field hos hds (x := vl) rfl (wpAny_bind (wpAny_field hos hds (x := vu) rfl (wpAny_bind (wpAny_field hos hds (x := .none) rfl (wpAny_pure ?_)))))))
  refine wpAny_bind (slicePart_none ?_)
  show wpAny _ _ (if ((1 : Int) == 0) = true then _ else _) _ _ s
  rw [if_neg (by decide)]
  refine wpAny_bind (slicePart_ pl (wpAny_bind (slicePart_ pu (wpAny_bind (wpAny_pure ?_)))))
  show wpAny _ _ (match Builtin.Slice.sliceAdjust lo hi 1 (n : Int) with | (lo, hi) => pure (lo, (1 : Int), Builtin.Slice.slicePlaces lo hi 1)) _ _ s
  rw [adjust_gen lo hi n]
  show wpAny _ _ (pure (((sIx n 0 lo : Nat) : Int), (1 : Int), Builtin.Slice.slicePlaces ((sIx n 0 lo : Nat) : Int) ((sIx n n hi : Nat) : Int) 1)) _ _ s
  rw [places_gen]
  exact wpAny_pure h
theorem pick_gen (xs : Array Value) (i k : Nat) : ((List.range k).filterMap fun (m : Nat) => xs[((i : Int) + (m : Int) * 1).toNat]?).toArray = ((xs.toList.drop i).take k).toArray := by
  have e : (fun (m : Nat) => xs[((i : Int) + (m : Int) * 1).toNat]?) = fun m => xs[i + m]? := by
    funext m
    have : ((i : Int) + (m : Int) * 1).toNat = i + m := by omega
    rw [this]
  rw [e]
  have := pick_run xs i k
  rw [List.filterMap_map] at this
  have e2 : ((fun x => xs[x]?) ∘ fun x => i + x) = fun m => xs[i + m]? := rfl
  rw [e2] at this
  rw [this]
theorem getItem_tuple_cut {t sl : Addr} {items : Array Value} {vl vu : Value} {lo hi : Option Int} {Q : Value → Shared → Prop} (ht : IsTup s.heap t items) (hs : s.heap.IsSliceOf sl vl vu .none) (pl : IsPart vl lo) (pu : IsPart vu hi)
    (hw : ¬ (sIx items.size 0 lo = 0 ∧ sIx items.size items.size hi = items.size))
    (h : Q (.ref s.heap.objs.size) { s with heap := s.heap.push { cls := .type "tuple", data := .seq ((items.toList.drop (sIx items.size 0 lo)).take (sIx items.size items.size hi - sIx items.size 0 lo)).toArray } })
    (hsz : items.size ≤ sizeLine) : wpAny (model prog w) A (getItem (.ref t) (.ref sl)) Q E s := by
  have htake : sizeOk (.seq ((items.toList.drop (sIx items.size 0 lo)).take (sIx items.size items.size hi - sIx items.size 0 lo)).toArray) := by
    show ((items.toList.drop (sIx items.size 0 lo)).take (sIx items.size items.size hi - sIx items.size 0 lo)).toArray.size ≤ sizeLine
    rw [List.size_toArray, List.length_take, List.length_drop, Array.length_toList]
    omega
  have hj : sIx items.size items.size hi ≤ items.size := sIx_le _ _ (Nat.le_refl _) hi
  obtain ⟨os, hos, hcs, hds⟩ := id hs
  have hTs : s.TypeIs (.ref sl) "slice" := ⟨os, hos, hcs⟩
  unfold getItem
  try with_reducible refine wpAny_holding ?_
  first | refine wpAny_bind (wpAny_pure ?_) | skip
  refine wpAny_bind (wpAny_sequenceKey ht.typeIs (by decide) ?_)
  refine wpAny_bind (wpAny_callSpecial?_slot (name := Str.ofString "__getitem__") ht.typeIs PyProof.Rows.slot_tuple_getitem
    (wpAny_call_entry PyProof.Rows.slot_tuple_getitem ht.typeIs entry_tuple_getitem ?_ (args_tuple_getitem _ _)))
  show wpAny _ _ (Builtin.Tuple.tupleItemsOf (.ref t) >>= _) _ _ s
  refine wpAny_bind (tupleItemsOf_ ht ?_)
  refine wpAny_bind (wpAny_typeOf hTs ?_)
  rw [if_pos (by decide)]
  refine wpAny_bind (sliceApplied_gen hs pl pu ?_)
  have hno : ¬ ((((sIx items.size 0 lo : Nat) : Int) == 0 && (1 : Int) == 1 && (sIx items.size items.size hi - sIx items.size 0 lo) == items.size) = true) := by
    intro q
    rw [Bool.and_eq_true, Bool.and_eq_true] at q
    have q1 : ((sIx items.size 0 lo : Nat) : Int) = 0 := eq_of_beq q.1.1
    have q2 : sIx items.size items.size hi - sIx items.size 0 lo = items.size := eq_of_beq q.2
    exact hw ⟨by omega, by omega⟩
  show wpAny _ _ (if (((sIx items.size 0 lo : Nat) : Int) == 0 && (1 : Int) == 1 && (sIx items.size items.size hi - sIx items.size 0 lo) == items.size) = true then _ else _) _ _ s
  rw [if_neg hno, pick_gen]
  first
    | exact wpAny_bind (m := Builtin.Tuple.tupleExact _) (wpAny_newObj_type (wpAny_pure ⟨_, rfl, wpAny_pure h⟩) htake)
    | exact wpAny_bind (m := Builtin.Tuple.tupleExact _) (wpAny_newObj_type (wpAny_bind (wpAny_pure (wpAny_pure ⟨_, rfl, wpAny_pure h⟩))) htake)
    | exact wpAny_bind (wpAny_bind (m := Builtin.Tuple.tupleExact _) (wpAny_newObj_type (wpAny_pure (wpAny_pure ⟨_, rfl, wpAny_pure h⟩)) htake))
    | exact wpAny_bind (wpAny_bind (m := Builtin.Tuple.tupleExact _) (wpAny_newObj_type (wpAny_pure ⟨_, rfl, wpAny_pure h⟩) htake))
end
end HT
namespace L2
open PySem PySem.Spec PyProof.Rows
abbrev TO := St → Hp → (Option Int → Hp → Prop) → Prop
def PO (X : Cx) (e : Option Expr) (t : TO) : Prop :=
  ∀ (pins : List (Addr × Obj)) (s : Shared) (σ : St) (H : Hp) (Q : Option Int → Hp → Prop), Inv X pins σ H s → t σ H Q →
    wpAny (model X.prog X.w) X.A (evalPart e X.env) (fun u s' => ∃ o H', Inv X pins σ H' s' ∧ IsPart u o ∧ Q o H') X.xe s
def tNoPart : TO := fun _ H Q => Q none H
def tPart (t : TE) : TO := fun σ H Q => t σ H fun x H1 => ∃ i, x = .int i ∧ Q (some i) H1
section
variable {X : Cx} {e : Expr} {te : TE} {lo hi : Option Expr} {tl th : TO} {pos p2 : Pos}
theorem po_none : PO X none tNoPart := by
  intro pins s σ H Q I h
  rw [evalPart_none]
  exact wpAny_pure ⟨none, H, I, .none, h⟩
theorem po_some (h : PE X e te) : PO X (some e) (tPart te) := by
  intro pins s σ H Q I hw
  rw [evalPart_some]
  refine thn (h pins s σ H _ I hw) fun u s1 ⟨x, H1, I1, r1, q1⟩ => ?_
  obtain ⟨i, rfl, q⟩ := q1
  obtain ⟨t, rfl⟩ := r1
  exact ⟨some i, H1, I1, .int i t, q⟩
def SlR (X : Cx) (r : V → Option Int → Option Int → Hp → VK → Prop) : Prop :=
  ∀ (pins : List (Addr × Obj)) (s : Shared) (σ : St) (H : Hp) (x : V) (v vl vu : Value) (lo hi : Option Int) (sl : Addr) (Q : VK), Inv X pins σ H s → RelV x v → s.heap.IsSliceOf sl vl vu .none → IsPart vl lo → IsPart vu hi → r x lo hi H Q →
    ∃ T id, typeLookup (.type T) "__getitem__" = pure (some (.builtin id)) ∧ s.TypeIs v T ∧ wpAny (model X.prog X.w) X.A (getItem v (.ref sl)) (EP X pins σ Q) X.xe s
theorem SlR.or {r r' : V → Option Int → Option Int → Hp → VK → Prop} (h : SlR X r) (h' : SlR X r') : SlR X (fun x lo hi H Q => r x lo hi H Q ∨ r' x lo hi H Q) := by
  intro pins s σ H x v vl vu lo hi sl Q I rx hs pl pu q
  rcases q with q | q
  · exact h pins s σ H x v vl vu lo hi sl Q I rx hs pl pu q
  · exact h' pins s σ H x v vl vu lo hi sl Q I rx hs pl pu q
def tSl (r : V → Option Int → Option Int → Hp → VK → Prop) (te : TE) (tl th : TO) : TE := fun σ H Q => te σ H fun x H1 => tl σ H1 fun l H2 => th σ H2 fun u H3 => r x l u H3 Q
theorem pe_slice {r : V → Option Int → Option Int → Hp → VK → Prop} (hr : SlR X r) (he : PE X e te) (hl : PO X lo tl) (hu : PO X hi th) : PE X (.Subscript e (.Slice lo hi none p2) pos) (tSl r te tl th) := by
  intro pins s σ H Q I h
  refine Subscript_ (thn (he pins s σ H _ I h) fun v s1 ⟨x, H1, I1, r1, q1⟩ => ?_)
  refine wpAny_Slice (thn (hl pins s1 σ H1 _ I1 q1) fun vl s2 ⟨l, H2, I2, pl, q2⟩ => thn (hu pins s2 σ H2 _ I2 q2) fun vu s3 ⟨u, H3, I3, pu, q3⟩ => ?_)
  rw [evalPart_none]
  refine wpAny_pure ?_
  have I4 : Inv X pins σ H3 { s3 with heap := s3.heap.push { cls := .type "slice", data := .fields #[vl, vu, .none] } } := I3.kept (t' := s3.toks) fun b ob q => Heap.get?_push_of_some _ q
  obtain ⟨T, id, hT, ht, hg⟩ := hr pins { s3 with heap := s3.heap.push { cls := .type "slice", data := .fields #[vl, vu, .none] } } σ H3 x v vl vu l u s3.heap.objs.size Q I4 r1 (Heap.IsSliceOf.new ..) pl pu q3
  show wpAny (model X.prog X.w) X.A (subscriptTail e (.Slice lo hi none p2) v (.ref s3.heap.objs.size)) (EP X pins σ Q) X.xe { s3 with heap := s3.heap.push { cls := .type "slice", data := .fields #[vl, vu, .none] } }
  exact tail_any (ops := [.ref s3.heap.objs.size, v]) ht hT hg (by with_unfolding_all rfl)
def cutV (xs : List V) (lo hi : Option Int) : List V := (xs.drop (HT.sIx xs.length 0 lo)).take (HT.sIx xs.length xs.length hi - HT.sIx xs.length 0 lo)
theorem cutV_length (xs : List V) (lo hi : Option Int) : (cutV xs lo hi).length ≤ xs.length := by
  unfold cutV
  rw [List.length_take, List.length_drop]
  omega
def rSlT (K : PySem.W.Frag) : V → Option Int → Option Int → Hp → VK → Prop := fun x lo hi H Q => ∃ a xs, x = .ref a ∧ SqT K H a xs ∧
  ¬ (HT.sIx xs.length 0 lo = 0 ∧ HT.sIx xs.length xs.length hi = xs.length) ∧ ∀ p, H p = none → Q (.ref p) (upd H p (.tup (cutV xs lo hi)))
theorem sl_tup : SlR X (rSlT X.K) := by
  intro pins s σ H x v vl vu lo hi sl Q I rx hs pl pu h
  obtain ⟨a, xs, rfl, hx, hw, q⟩ := h
  cases rx
  obtain ⟨its, r, ht, hz⟩ := I.tuple hx
  have hlen : its.toArray.size = xs.length := by rw [List.size_toArray]; exact r.length.symm
  refine ⟨"tuple", _, PyProof.Rows.slot_tuple_getitem.lookup, ht.typeIs, ?_⟩
  refine HT.getItem_tuple_cut ht hs pl pu (by rw [hlen]; exact hw) ?_ (by rw [hlen]; exact hz)
  rw [hlen]
  refine ⟨.ref s.heap.objs.size, _, I.laid (t' := s.toks) (o := .tup (cutV xs lo hi)) (fun b ob q => Heap.get?_push_of_some _ q) (Nat.le_refl _) ?_, rfl, q _ (I.hok.fresh (Nat.le_refl _))⟩
  exact ⟨Nat.le_trans (cutV_length xs lo hi) hz, _, (r.drop (HT.sIx xs.length 0 lo)).take (HT.sIx xs.length xs.length hi - HT.sIx xs.length 0 lo), IsTup.new _ _⟩
def rCatT (K : PySem.W.Frag) : R2 := fun x y H Q => ∃ a b xs ys, x = .ref a ∧ y = .ref b ∧ SqT K H a xs ∧ SqT K H b ys ∧ xs ≠ [] ∧ xs.length + ys.length ≤ sizeLine ∧
  (ys = [] → Q (.ref a) H) ∧ (ys ≠ [] → ∀ p, H p = none → Q (.ref p) (upd H p (.tup (xs ++ ys))))
theorem Vals.nil_iff {xs : List V} {us : List Value} (r : Vals xs us) : us = [] ↔ xs = [] := by
  cases r with
  | nil => simp
  | cons _ _ => simp
theorem op_catT : OpR X (binaryOp .Add) (rCatT X.K) := by
  intro pins s σ H x y v u Q I rx ry h
  obtain ⟨a, b, xs, ys, rfl, rfl, ha, hb, hx, hz, q1, q2⟩ := h
  cases rx
  cases ry
  obtain ⟨its, r1, p1, _⟩ := I.tuple ha
  obtain ⟨its2, r2, p2, _⟩ := I.tuple hb
  refine HT.cat_tup p1 p2 (fun z => hx (r1.nil_iff.mp z)) (fun z => ⟨.ref a, H, I, rfl, q1 (r2.nil_iff.mp z)⟩) (fun z => ?_) (by rw [← r1.length, ← r2.length]; exact hz)
  refine ⟨.ref s.heap.objs.size, _, I.laid (t' := s.toks) (o := .tup (xs ++ ys)) (fun b ob q => Heap.get?_push_of_some _ q) (Nat.le_refl _) ?_, rfl, q2 (fun w => z (r2.nil_iff.mpr w)) _ (I.hok.fresh (Nat.le_refl _))⟩
  exact ⟨by rw [List.length_append]; exact hz, _, r1.append r2, IsTup.new _ _⟩
end
end L2
namespace L2
open PySem PySem.Spec PyProof.Rows
def ixN (n : Nat) (i : Int) : Option Nat := if 0 ≤ i then (if i < n then some i.toNat else none) else if -(n : Int) ≤ i then some (i + n).toNat else none
def atI {α : Type} (xs : List α) (i : Int) : Option α := (ixN xs.length i).bind fun j => xs[j]?
theorem ixN_seq {n : Nat} {i : Int} {j : Nat} (h : ixN n i = some j) : seqIndex? i n = some j ∧ j < n ∧ -(n : Int) ≤ i ∧ i < n := by
  unfold ixN at h
  by_cases h0 : 0 ≤ i
  · rw [if_pos h0] at h
    by_cases h1 : i < n
    · rw [if_pos h1] at h
      have e : i.toNat = j := Option.some.inj h
      exact ⟨by rw [seqIndex_of h0 h1, e], by omega, by omega, h1⟩
    · rw [if_neg h1] at h; cases h
  · rw [if_neg h0] at h
    by_cases h1 : -(n : Int) ≤ i
    · rw [if_pos h1] at h
      have e : (i + n).toNat = j := Option.some.inj h
      exact ⟨by rw [seqIndex_neg (by omega) h1, e], by omega, h1, by omega⟩
    · rw [if_neg h1] at h; cases h
theorem atI_get {α : Type} {xs : List α} {i : Int} {v : α} (h : atI xs i = some v) : ∃ j, seqIndex? i xs.length = some j ∧ xs[j]? = some v ∧ j < xs.length ∧ -(xs.length : Int) ≤ i ∧ i < xs.length := by
  unfold atI at h
  cases e : ixN xs.length i with
  | none => rw [e] at h; cases h
  | some j =>
    rw [e] at h
    obtain ⟨h1, h2, h3, h4⟩ := ixN_seq e
    exact ⟨j, h1, h, h2, h3, h4⟩
theorem atI_nat {α : Type} {xs : List α} {j : Nat} {v : α} (h : xs[j]? = some v) : atI xs (j : Int) = some v := by
  have hj : j < xs.length := (List.getElem?_eq_some_iff.mp h).1
  have e : ixN xs.length (j : Int) = some j := by
    unfold ixN
    rw [if_pos (by omega), if_pos (by omega)]; simp
  unfold atI; rw [e]; exact h
theorem atI_last {α : Type} (xs : List α) (v : α) : atI (xs ++ [v]) (-1) = some v := by
  have hl : (xs ++ [v]).length = xs.length + 1 := by simp
  have e : ixN (xs ++ [v]).length (-1) = some xs.length := by
    unfold ixN
    rw [hl, if_neg (by decide), if_pos (by omega)]
    congr 1
    omega
  unfold atI
  rw [e]
  show (xs ++ [v])[xs.length]? = some v
  simp
def PlainIx (b : Expr) : Prop := ∀ o i, subscripted b false o i = operate [o, i] (getItem o i)
def IxR (X : Cx) (r : R2) : Prop :=
  ∀ (value slice : Expr) (pins : List (Addr × Obj)) (s : Shared) (σ : St) (H : Hp) (x y : V) (v u : Value) (Q : VK), Inv X pins σ H s → RelV x v → RelV y u → r x y H Q →
    subscripted slice false v u = operate [v, u] (getItem v u) → wpAny (model X.prog X.w) X.A (subscriptTail value slice v u) (EP X pins σ Q) X.xe s
def MtR (X : Cx) (id : String) (r : V → List V → Hp → VK → Prop) : Prop :=
  ∀ (pins : List (Addr × Obj)) (s : Shared) (σ : St) (H : Hp) (x : V) (xs : List V) (v : Value) (us : List Value) (Q : VK), Inv X pins σ H s → RelV x v → Vals xs us → r x xs H Q →
    wpAny (model X.prog X.w) X.A (call (.builtin id) (v :: us)) (EP X pins σ Q) X.xe s
section
variable {X : Cx} {a b : Expr} {ta tb : TE} {pos : Pos}
theorem IxR.or {r r' : R2} (h : IxR X r) (h' : IxR X r') : IxR X (fun x y H Q => r x y H Q ∨ r' x y H Q) := by
  intro value slice pins s σ H x y v u Q I rx ry q hs
  rcases q with q | q
  · exact h value slice pins s σ H x y v u Q I rx ry q hs
  · exact h' value slice pins s σ H x y v u Q I rx ry q hs
theorem pe_ix {r : R2} (hr : IxR X r) (ha : PE X a ta) (hb : PE X b tb) (hs : PlainIx b) : PE X (.Subscript a b pos) (tOp r ta tb) := by
  intro pins s σ H Q I h
  exact Subscript_ (binT ha hb I h fun v u s2 x y H2 I2 rx ry q => hr a b pins s2 σ H2 x y v u Q I2 rx ry q (hs _ _))
def rIxL (K : PySem.W.Frag) : R2 := fun x y H Q => ∃ p xs i v, x = .ref p ∧ y = .int i ∧ SqL K H p xs ∧ atI xs i = some v ∧ Q v H
def rIxT (K : PySem.W.Frag) : R2 := fun x y H Q => ∃ p xs i v, x = .ref p ∧ y = .int i ∧ SqT K H p xs ∧ atI xs i = some v ∧ Q v H
def rIxS : R2 := fun x y H Q => ∃ z i c, x = .str z ∧ y = .int i ∧ z.length ≤ sizeLine ∧ atI z.cps.toList i = some c ∧ Q (.str ⟨#[c]⟩) H
theorem ix_list : IxR X (rIxL X.K) := by
  intro value slice pins s σ H x y v u Q I rx ry h hs
  obtain ⟨p, xs, i, z, rfl, rfl, hq, he, q⟩ := h
  cases rx
  obtain ⟨t, rfl⟩ := ry
  obtain ⟨its, r, pl, hz⟩ := I.list hq
  obtain ⟨j, h1, h2, h3, h4, h5⟩ := atI_get he
  obtain ⟨w, ew, rw'⟩ := r.get h2
  have hl := r.length
  have hn := line63
  have fin : EP X pins σ Q w s := ⟨z, H, I, rw', q⟩
  by_cases h0 : 0 ≤ i
  · have hj : i.toNat = j := by
      rw [seqIndex_of h0 h5] at h1
      exact Option.some.inj h1
    exact item_listR pl.isList h0 (by omega) (by rw [hj]; simpa using ew) fin hs
  · have hj : (i + (its.toArray.size : Int)).toNat = j := by
      rw [seqIndex_neg (by omega) h4] at h1
      rw [List.size_toArray, ← hl]
      exact Option.some.inj h1
    exact subscriptTail_builtinR (x := w) pl.isList.typeIs slot_list_getitem.lookup
      (wpAny_getItem_list_neg (Q := fun r s' => r = w ∧ EP X pins σ Q r s') pl.isList (by omega) (by rw [List.size_toArray] <;> omega) (by omega) (by rw [hj]; simpa using ew) ⟨rfl, fin⟩) hs
theorem ix_tup : IxR X (rIxT X.K) := by
  intro value slice pins s σ H x y v u Q I rx ry h hs
  obtain ⟨p, xs, i, z, rfl, rfl, hq, he, q⟩ := h
  cases rx
  obtain ⟨t, rfl⟩ := ry
  obtain ⟨its, r, pl, hz⟩ := I.tuple hq
  obtain ⟨j, h1, h2, h3, h4, h5⟩ := atI_get he
  obtain ⟨w, ew, rw'⟩ := r.get h2
  have hl := r.length
  have hn := line63
  have fin : EP X pins σ Q w s := ⟨z, H, I, rw', q⟩
  exact subscriptTail_builtinR (x := w) pl.typeIs slot_tuple_getitem.lookup
    (getItem_tuple (j := j) (Q := fun r s' => r = w ∧ EP X pins σ Q r s') pl (by omega) (by omega) (by rw [List.size_toArray, ← hl]; exact h1) (by simpa using ew) ⟨rfl, fin⟩) hs
theorem ix_str : IxR X rIxS := by
  intro value slice pins s σ H x y v u Q I rx ry h hs
  obtain ⟨z, i, c, rfl, rfl, hz, he, q⟩ := h
  obtain ⟨t, rfl⟩ := rx
  obtain ⟨t', rfl⟩ := ry
  obtain ⟨j, h1, h2, h3, h4, h5⟩ := atI_get he
  have hl : z.cps.toList.length = z.length := by simp [Str.length]
  rw [hl] at h1 h4 h5
  have hn := line63
  exact tail_any (typeIs_str s z t) slot_str_getitem.lookup (getItem_str (c := c) (by
    have e1 : decide (i < -(2 ^ 63 : Int)) = false := decide_eq_false (by omega)
    have e2 : decide (i ≥ 2 ^ 63) = false := decide_eq_false (by omega)
    rw [e1, e2, Bool.or_false]) (by rw [h1]; simpa using h2) ⟨.str ⟨#[c]⟩, H, I.tok _, ⟨_, rfl⟩, q⟩) hs
def rIx (K : PySem.W.Frag) : R2 := fun x y H Q => rIxL K x y H Q ∨ rIxT K x y H Q ∨ rIxS x y H Q
theorem ix_seq : IxR X (rIx X.K) := ix_list.or (ix_tup.or ix_str)
theorem mapSeq_set (its : List Value) (n j : Nat) (u : Value) : Obj.mapSeq (·.setIfInBounds j u) { cls := .type "list", data := .seq its.toArray n } = { cls := .type "list", data := .seq (its.set j u).toArray n } := by
  simp [Obj.mapSeq]
theorem Inv.lst {pins : List (Addr × Obj)} {σ : St} {H : Hp} {s : Shared} {p : Addr} {xs : List V} (I : Inv X pins σ H s) (h : H p = some (.lst xs)) :
    ∃ (its : List Value) (n : Nat), Vals xs its ∧ s.heap.get? p = some { cls := .type "list", data := .seq its.toArray n } ∧ xs.length ≤ sizeLine := by
  obtain ⟨z, its, n, r, e⟩ := I.hok p _ h
  exact ⟨its, n, r, e, z⟩
theorem Inv.lstUpd {pins : List (Addr × Obj)} {σ : St} {H : Hp} {s : Shared} {p : Addr} {xs ys : List V} {its its' : List Value} {n n' : Nat} {f : Obj → Obj} (I : Inv X pins σ H s) (h : H p = some (.lst xs))
    (ho : s.heap.get? p = some { cls := .type "list", data := .seq its.toArray n }) (hf : f { cls := .type "list", data := .seq its.toArray n } = { cls := .type "list", data := .seq its'.toArray n' }) (r : Vals ys its') (hz : ys.length ≤ sizeLine) (t : Nat) :
    Inv X pins σ (upd H p (.lst ys)) { s with heap := s.heap.update p f, toks := t } := by
  have e : (s.heap.update p f).get? p = some { cls := .type "list", data := .seq its'.toArray n' } := by
    rw [Heap.get?_update_self f ho (by rw [hf] <;> rfl), hf]
  refine I.write (x := p) (e := p) (by rw [h]; trivial) (.inl rfl) (fun b u hb q => (Heap.get?_update_other _ _ (Ne.symm hb)).trans q) ⟨_, e⟩ ?_
  exact ⟨hz, its', n', r, e⟩
def rSetL : V → V → V → Hp → (Hp → Prop) → Prop := fun o i v H Q => ∃ p xs k j, o = .ref p ∧ i = .int k ∧ H p = some (.lst xs) ∧ ixN xs.length k = some j ∧ Q (upd H p (.lst (xs.set j v)))
theorem set_list : PSet X rSetL := by
  intro pins s σ H o i v ov iv u Q I ro ri rv h
  obtain ⟨p, xs, k, j, rfl, rfl, hp, hj, q⟩ := h
  cases ro
  obtain ⟨t, rfl⟩ := ri
  obtain ⟨its, n, r, ho, hz⟩ := I.lst hp
  obtain ⟨h1, h2, h3, h4⟩ := ixN_seq hj
  have hl := r.length
  have hn := line63
  have I' : Inv X pins σ (upd H p (.lst (xs.set j v))) { s with heap := s.heap.update p (Obj.mapSeq (·.setIfInBounds j u)) } :=
    I.lstUpd hp ho (mapSeq_set its n j u) (r.set rv j) (by rw [List.length_set]; exact hz) s.toks
  by_cases h0 : 0 ≤ k
  · have hk : k.toNat = j := by
      rw [seqIndex_of h0 h4] at h1
      exact Option.some.inj h1
    exact PySem.W.ki_setAt ho h0 (by omega) (by rw [List.size_toArray, ← hl]; exact h4) (by rw [hk]; exact ⟨_, I', q⟩)
  · have hk : (k + (its.toArray.size : Int)).toNat = j := by
      rw [seqIndex_neg (by omega) h3] at h1
      rw [List.size_toArray, ← hl]
      exact Option.some.inj h1
    exact PySem.W.ki_setBack ho (by omega) (by rw [List.size_toArray, ← hl]; exact h3) (by omega) (by rw [hk]; exact ⟨_, I', q⟩)
theorem slice_bounds (lo hi : Option Int) (n : Nat) : (sliceBounds lo hi none n).1 = ((HT.sIx n 0 lo : Nat) : Int) ∧ (sliceBounds lo hi none n).2.1 = ((HT.sIx n n hi : Nat) : Int) ∧ (sliceBounds lo hi none n).2.2 = 1 := by
  refine ⟨?_, ?_, rfl⟩
  · cases lo with
    | none => simp [sliceBounds, HT.sIx]
    | some i =>
      simp only [sliceBounds, HT.sIx, Option.getD_none, show (1 : Int) > 0 by decide, if_true]
      by_cases h : i < 0
      · simp only [h, if_true] <;> omega
      · simp only [h, if_false] <;> omega
  · cases hi with
    | none => simp [sliceBounds, HT.sIx]
    | some i =>
      simp only [sliceBounds, HT.sIx, Option.getD_none, show (1 : Int) > 0 by decide, if_true]
      by_cases h : i < 0
      · simp only [h, if_true] <;> omega
      · simp only [h, if_false] <;> omega
theorem slicePick_cut (its : List Value) (lo hi : Option Int) : slicePick its.toArray lo hi none = ((its.drop (HT.sIx its.length 0 lo)).take (HT.sIx its.length its.length hi - HT.sIx its.length 0 lo)).toArray := by
  obtain ⟨h1, h2, h3⟩ := slice_bounds lo hi its.toArray.size
  unfold slicePick
  rw [h1, h2, h3]
  simp only [sliceRange_one, pick_run, List.size_toArray] <;> rfl
def rSlL (K : PySem.W.Frag) : V → Option Int → Option Int → Hp → VK → Prop := fun x lo hi H Q => ∃ a xs, x = .ref a ∧ SqL K H a xs ∧ ∀ p, H p = none → Q (.ref p) (upd H p (.lst (cutV xs lo hi)))
theorem sl_list : SlR X (rSlL X.K) := by
  intro pins s σ H x v vl vu lo hi sl Q I rx hs pl pu h
  obtain ⟨a, xs, rfl, hx, q⟩ := h
  cases rx
  obtain ⟨its, r, ht, hz⟩ := I.list hx
  have hlen := r.length
  refine ⟨"list", _, slot_list_getitem.lookup, ht.isList.typeIs, ?_⟩
  refine wpAny_getItem_list_slice ht.isList hs pl pu .none (by simp) ?_ (by rw [List.size_toArray] <;> omega)
  rw [slicePick_cut, ← hlen]
  refine ⟨.ref s.heap.objs.size, _, I.laid (t' := s.toks) (o := .lst (cutV xs lo hi)) (fun b ob q => Heap.get?_push_of_some _ q) (Nat.le_refl _) ?_, rfl, q _ (I.hok.fresh (Nat.le_refl _))⟩
  exact ⟨Nat.le_trans (cutV_length xs lo hi) hz, _, 0, (r.drop (HT.sIx xs.length 0 lo)).take (HT.sIx xs.length xs.length hi - HT.sIx xs.length 0 lo), Heap.get?_push_size _ rfl⟩
def flatV : V → Bool
  | .non => true
  | .bl _ => true
  | .int _ => true
  | .str _ => true
  | _ => false
def eqV : V → V → Bool
  | .non, .non => true
  | .bl a, .bl b => a == b
  | .bl a, .int b => (if a then 1 else 0) == b
  | .int a, .bl b => a == (if b then 1 else 0)
  | .int a, .int b => a == b
  | .str a, .str b => a == b
  | _, _ => false
theorem eqAt_V {A : Around} {s : Shared} {y x : V} {u v : Value} (ry : RelV y u) (rx : RelV x v) (fy : flatV y = true) (fx : flatV x = true) : SeqAt.EqAt A s u v (eqV y x) := by
  cases y with
  | non =>
    cases ry
    cases x with
    | non => cases rx; exact SeqAt.EqAt.same _
    | bl b => cases rx; exact SeqAt.EqAt.none_bool b
    | int b => obtain ⟨t, rfl⟩ := rx; exact SeqAt.EqAt.none_int b t
    | str b => obtain ⟨t, rfl⟩ := rx; exact SeqAt.EqAt.none_str b t
    | _ => exact absurd (show false = true from fx) Bool.false_ne_true
  | bl a =>
    cases ry
    cases x with
    | non => cases rx; exact SeqAt.EqAt.bool_none a
    | bl b => cases rx; exact SeqAt.EqAt.bool_bool a b
    | int b => obtain ⟨t, rfl⟩ := rx; exact SeqAt.EqAt.bool_int a b t
    | str b => obtain ⟨t, rfl⟩ := rx; exact SeqAt.EqAt.bool_str a b t
    | _ => exact absurd (show false = true from fx) Bool.false_ne_true
  | int a =>
    obtain ⟨t', rfl⟩ := ry
    cases x with
    | non => cases rx; exact SeqAt.EqAt.int_none a t'
    | bl b => cases rx; exact SeqAt.EqAt.int_bool a t' b
    | int b => obtain ⟨t, rfl⟩ := rx; exact SeqAt.EqAt.int_int a t' b t
    | str b => obtain ⟨t, rfl⟩ := rx; exact SeqAt.EqAt.int_str a t' b t
    | _ => exact absurd (show false = true from fx) Bool.false_ne_true
  | str a =>
    obtain ⟨t', rfl⟩ := ry
    cases x with
    | non => cases rx; exact SeqAt.EqAt.str_none a t'
    | bl b => cases rx; exact SeqAt.EqAt.str_bool a t' b
    | int b => obtain ⟨t, rfl⟩ := rx; exact SeqAt.EqAt.str_int a t' b t
    | str b => obtain ⟨t, rfl⟩ := rx; exact SeqAt.EqAt.str_str a t' b t
    | _ => exact absurd (show false = true from fx) Bool.false_ne_true
  | _ => exact absurd (show false = true from fy) Bool.false_ne_true
def eqU (x : V) (u : Value) : Bool := match u with
  | .none => eqV .non x
  | .bool b => eqV (.bl b) x
  | .int i _ => eqV (.int i) x
  | .str z _ => eqV (.str z) x
  | _ => false
theorem eqU_of {x y : V} {u : Value} (r : RelV y u) (f : flatV y = true) : eqU x u = eqV y x := by
  cases y with
  | non => cases r; rfl
  | bl b => cases r; rfl
  | int i => obtain ⟨t, rfl⟩ := r; rfl
  | str z => obtain ⟨t, rfl⟩ := r; rfl
  | _ => exact absurd (show false = true from f) Bool.false_ne_true
theorem any_eqU {x : V} : ∀ {xs : List V} {us : List Value}, Vals xs us → xs.all flatV = true → us.any (eqU x) = xs.any fun y => eqV y x
  | _, _, .nil, _ => rfl
  | y :: xs, u :: us, .cons r t, f => by
    rw [List.all_cons, Bool.and_eq_true] at f
    rw [List.any_cons, List.any_cons, eqU_of r f.1, any_eqU t f.2]
theorem mem_eqAt {A : Around} {s : Shared} {x : V} {v : Value} (rx : RelV x v) (fx : flatV x = true) : ∀ {xs : List V} {us : List Value}, Vals xs us → xs.all flatV = true → ∀ u ∈ us, SeqAt.EqAt A s u v (eqU x u)
  | _, _, .nil, _ => fun u hu => by cases hu
  | y :: xs, u :: us, .cons r t, f => fun u' hu => by
    rw [List.all_cons, Bool.and_eq_true] at f
    rcases List.mem_cons.mp hu with rfl | hu
    · rw [eqU_of r f.1]; exact eqAt_V r rx f.1 fx
    · exact mem_eqAt rx fx t f.2 u' hu
def inV (x : V) (xs : List V) : Bool := xs.any fun y => eqV y x
def rIn (K : PySem.W.Frag) (neg : Bool) : R2 := fun x y H Q => ∃ p xs, y = .ref p ∧ (SqL K H p xs ∨ SqT K H p xs) ∧ flatV x = true ∧ xs.all flatV = true ∧ Q (.bl (if neg then !inV x xs else inV x xs)) H
theorem op_in_seq : OpR X (compareOp .In) (rIn X.K false) := by
  intro pins s σ H x y v u Q I rx ry h
  obtain ⟨p, xs, rfl, hq, fx, fs, q⟩ := h
  cases ry
  rcases hq with hq | hq
  · obtain ⟨its, r, pl, hz⟩ := I.list hq
    refine SeqAt.in_listAt (eqU x) pl.isList (fun w hw => mem_eqAt rx fx r fs w (by simpa using hw)) ⟨.bl _, H, I, rfl, ?_⟩
    rw [show its.toArray.any (eqU x) = its.any (eqU x) by simp, any_eqU r fs]
    exact q
  · obtain ⟨its, r, pl, hz⟩ := I.tuple hq
    refine SeqAt.in_tupleAt (eqU x) pl (fun w hw => mem_eqAt rx fx r fs w (by simpa using hw)) ⟨.bl _, H, I, rfl, ?_⟩
    rw [show its.toArray.any (eqU x) = its.any (eqU x) by simp, any_eqU r fs]
    exact q
theorem call_len_seq : CallR X (.builtin "len") (fun xs H Q => ∃ p ys, xs = [.ref p] ∧ (SqL X.K H p ys ∨ SqT X.K H p ys) ∧ Q (.int ys.length) H) := by
  intro pins s σ H xs us Q I r h
  obtain ⟨p, ys, rfl, hq, q⟩ := h
  obtain ⟨u, rfl, rx⟩ := vals1 r
  cases rx
  have hn := line63
  rcases hq with hq | hq
  · obtain ⟨its, r', pl, hz⟩ := I.list hq
    have hlen := r'.length
    exact Calls.call_len_list pl.isList (by simp only [List.size_toArray] <;> omega) ⟨.int ys.length, H, I.tok _, ⟨s.toks + 1, by rw [List.size_toArray, hlen]⟩, q⟩
  · obtain ⟨its, r', pl, hz⟩ := I.tuple hq
    have hlen := r'.length
    exact len_tuple pl (by simp only [List.size_toArray] <;> omega) ⟨.int ys.length, H, I.tok _, ⟨s.toks + 1, by rw [List.size_toArray, hlen]⟩, q⟩
theorem call_list_of : CallR X (.type "list") (fun xs H Q => ∃ p ys, xs = [.ref p] ∧ (SqL X.K H p ys ∨ SqT X.K H p ys) ∧ ∀ l, H l = none → Q (.ref l) (upd H l (.lst ys))) := by
  intro pins s σ H xs us Q I r h
  obtain ⟨p, ys, rfl, hq, q⟩ := h
  obtain ⟨u, rfl, rx⟩ := vals1 r
  cases rx
  have fin : ∀ (its : List Value), Vals ys its → ys.length ≤ sizeLine → ∀ (h' : Heap) (c' : Nat), (∀ b o', s.heap.get? b = some o' → h'.get? b = some o') →
      h'.get? s.heap.objs.size = some { cls := .type "list", dict := none, data := .seq its.toArray c', slots := #[] } → EP X pins σ Q (.ref s.heap.objs.size) { s with heap := h' } := fun its r' hz h' c' kp e =>
    ⟨.ref s.heap.objs.size, _, I.laid (t' := s.toks) kp (Nat.le_refl _) (show ObjOk X.prog X.w _ h' _ (.lst ys) from ⟨hz, its, c', r', e⟩), rfl, q _ (I.hok.fresh (Nat.le_refl _))⟩
  rcases hq with hq | hq
  · obtain ⟨its, r', pl, hz⟩ := I.list hq
    have hlen := r'.length
    obtain ⟨o, ho, hc, n, hd⟩ := pl.isList
    exact call_list_seq p (.inl rfl) ho hc hd (fun h' c' kp e => fin its r' hz h' c' kp e) (by simp only [List.size_toArray] <;> omega)
  · obtain ⟨its, r', pl, hz⟩ := I.tuple hq
    have hlen := r'.length
    obtain ⟨o, ho, hc, n, hd⟩ := pl
    exact call_list_seq p (.inr rfl) ho hc hd (fun h' c' kp e => fin its r' hz h' c' kp e) (by simp only [List.size_toArray] <;> omega)
theorem call_tuple_of : CallR X (.type "tuple") (fun xs H Q => ∃ p ys, xs = [.ref p] ∧ ((SqL X.K H p ys ∧ ∀ l, H l = none → Q (.ref l) (upd H l (.tup ys))) ∨ (SqT X.K H p ys ∧ Q (.ref p) H))) := by
  intro pins s σ H xs us Q I r h
  obtain ⟨p, ys, rfl, h⟩ := h
  obtain ⟨u, rfl, rx⟩ := vals1 r
  cases rx
  rcases h with ⟨hq, q⟩ | ⟨hq, q⟩
  · obtain ⟨its, r', pl, hz⟩ := I.list hq
    have hlen := r'.length
    refine call_tuple_list pl.isList (fun h' kp => ?_) (by simp only [List.size_toArray] <;> omega)
    have I1 : Inv X pins σ H { s with heap := h' } := I.kept (t' := s.toks) kp
    have I2 : Inv X pins σ (upd H h'.objs.size (.tup ys)) { s with heap := h'.push { cls := .type "tuple", data := .seq its.toArray } } :=
      I1.laid (t' := s.toks) (fun b o e => Heap.get?_push_of_some _ e) (Nat.le_refl _) (show ObjOk X.prog X.w _ _ _ (.tup ys) from ⟨hz, its, r', IsTup.new _ _⟩)
    exact ⟨.ref h'.objs.size, _, I2, rfl, q _ (I1.hok.fresh (Nat.le_refl _))⟩
  · obtain ⟨its, r', pl, hz⟩ := I.tuple hq
    exact call_tuple_same pl ⟨.ref p, H, I, rfl, q⟩
def tyV (K : PySem.W.Frag) (T : String) (x : V) (H : Hp) : Prop := match x with
  | .str _ => T = "str"
  | .int _ => T = "int"
  | .ref p => (T = "list" ∧ ∃ xs, SqL K H p xs) ∨ (T = "tuple" ∧ ∃ o, K.lookup p = some o ∧ o.cls = .type "tuple" ∧ o.dict = none) ∨
      (T = "dict" ∧ ((∃ kvs, H p = some (.dK kvs)) ∨ ∃ kvs, H p = some (.dT kvs))) ∨ (T = "set" ∧ ∃ S n, H p = some (.set S n))
  | _ => False
theorem tyV_is {pins : List (Addr × Obj)} {σ : St} {H : Hp} {s : Shared} {T : String} {x : V} {v : Value} (I : Inv X pins σ H s) (r : RelV x v) (ty : tyV X.K T x H) :
    s.TypeIs v T ∧ ∀ a, v = .ref a → ∃ ob, s.heap.get? a = some ob ∧ ob.dict = none := by
  cases x with
  | str z =>
    obtain ⟨t, rfl⟩ := r
    cases (show T = "str" from ty)
    exact ⟨typeIs_str s z t, fun _ e => nomatch e⟩
  | int i =>
    obtain ⟨t, rfl⟩ := r
    cases (show T = "int" from ty)
    exact ⟨typeIs_int s i t, fun _ e => nomatch e⟩
  | ref p =>
    cases r
    rcases ty with ⟨rfl, xs, hq⟩ | ⟨rfl, o, hk, hc, hd⟩ | ⟨rfl, hk⟩ | ⟨rfl, S, n, hk⟩
    · obtain ⟨its, _, pl, _⟩ := I.list hq
      refine ⟨pl.isList.typeIs, fun a e => ?_⟩
      cases e
      obtain ⟨o, n, e, c, hd, _⟩ := pl
      exact ⟨o, e, hd⟩
    · refine ⟨⟨o, I.kIn p o hk, hc⟩, fun a e => ?_⟩
      cases e
      exact ⟨o, I.kIn _ o hk, hd⟩
    · have z : ∃ o, s.heap.get? p = some o ∧ o.ExactDict := by
        rcases hk with ⟨kvs, hk⟩ | ⟨kvs, hk⟩
        · obtain ⟨_, _, _, _, o, _, _, e, ex, _⟩ := I.hok p _ hk
          exact ⟨o, e, ex⟩
        · obtain ⟨_, _, _, _, o, _, _, e, ex, _⟩ := I.hok p _ hk
          exact ⟨o, e, ex⟩
      obtain ⟨o, e, ex⟩ := z
      refine ⟨⟨o, e, ex.1⟩, fun a e2 => ?_⟩
      cases e2
      exact ⟨o, e, ex.2.1⟩
    · obtain ⟨o, _, _, _, e, ex, _⟩ := I.hok p _ hk
      refine ⟨⟨o, e, ex.1⟩, fun a e2 => ?_⟩
      cases e2
      exact ⟨o, e, ex.2.1⟩
  | _ => exact False.elim ty
def tBM0 (K : PySem.W.Frag) (T : String) (r : V → List V → Hp → VK → Prop) (to : TE) : TE := fun σ H Q => to σ H fun x H1 => tyV K T x H1 ∧ r x [] H1 Q
def tBM (K : PySem.W.Frag) (T : String) (r : V → List V → Hp → VK → Prop) (to : TE) (t : TA) : TE := fun σ H Q => to σ H fun x H1 => tyV K T x H1 ∧ t σ H1 fun xs H2 => r x xs H2 Q
variable {o e : Expr} {es : List Expr} {to : TE} {t : TA} {name : Str} {apos cpos : Pos} {T id : String} {r : V → List V → Hp → VK → Prop}
theorem pe_bm (pa : PlainAttrs T) (slot : Slot T name id) (hty : typeOf (.builtin id) = pure (.type "method_descriptor")) (hm : MtR X id r) (ho : PE X o to) (ha : PA X (e :: es) t)
    (hbase : attributeBase o name X.env (eval o X.env) = eval o X.env := by rfl)
    (hfew : ((backTo cpos (starEach (e :: es) X.env)).all (fun x => !x.1) && (backToKw cpos (keywordEach [] X.env)).all (fun x => x.1.isSome)
      && decide ((e :: es).length + ([] : List Keyword).length + (if ([] : List Keyword).isEmpty then 0 else 1) < 30)) = true := by rfl)
    (hline : (apos.endLine == cpos.line) = true := by rfl) (hs : starEach (e :: es) X.env = (false, eval e X.env) :: starEach es X.env := by rfl) (hplain : (backTo cpos (starEach es X.env)).any (·.1) = false := by rfl) :
    PE X (.Call (.Attribute o name apos) (e :: es) [] cpos) (tBM X.K T r to t) := by
  intro pins s σ H Q I h
  refine wpAny_Call_method_late hbase hfew hline rfl (thn (ho pins s σ H _ I h) fun v s1 ⟨x, H1, I1, r1, ty, q1⟩ => ?_)
  obtain ⟨h1, h2⟩ := tyV_is I1 r1 ty
  refine ⟨T, id, pa, slot, hty, h1, h2, ?_⟩
  have hA := ha cpos pins s1 σ H1 _ I1 q1
  rw [hs] at hA ⊢
  refine Calls.callWith_builtin (by show (false || (backTo cpos (starEach es X.env)).any (·.1)) = false; rw [hplain] <;> rfl) (Calls.evalArgs_plain ?_)
  exact thn hA fun us s2 ⟨vs, H2, I2, r2, q2⟩ => hm pins s2 σ H2 x vs v us Q I2 r1 r2 q2
/- xs.append(e), list.index on a module's tuple .. are MtR facts of 06m -/
end
end L2
namespace L2
open PySem PySem.Spec PyProof.Rows
def MtM (X : Cx) (id : String) (r : V → List V → Hp → VK → Prop) : Prop :=
  ∀ (pins : List (Addr × Obj)) (s : Shared) (σ : St) (H : Hp) (x : V) (xs : List V) (v : Value) (us : List Value) (Q : VK), Inv X pins σ H s → RelV x v → Vals xs us → r x xs H Q →
    wpAny (model X.prog X.w) X.A (call (.builtin id) (v :: us)) (EP X pins σ Q) X.xe s
theorem Vals.one : ∀ {x : V} {us : List Value}, Vals [x] us → ∃ u, us = [u] ∧ RelV x u
  | _, _, .cons r .nil => ⟨_, rfl, r⟩
theorem Vals.rep {xs : List V} {us : List Value} (h : Vals xs us) : ∀ k : Nat, Vals (List.replicate k xs).flatten (List.replicate k us).flatten
  | 0 => .nil
  | k + 1 => by
    rw [List.replicate_succ, List.replicate_succ, List.flatten_cons, List.flatten_cons]
    exact Vals.append h (Vals.rep h k)
theorem foldl_rep (its : List Value) : ∀ (k : Nat) (acc : List Value),
    List.foldl (fun x1 x2 => x1 ++ x2) acc.toArray (List.replicate k its.toArray) = (acc ++ (List.replicate k its).flatten).toArray
  | 0, acc => by simp
  | k + 1, acc => by
    have e : acc.toArray ++ its.toArray = (acc ++ its).toArray := by simp
    have e2 : (acc ++ its) ++ (List.replicate k its).flatten = acc ++ (List.replicate (k + 1) its).flatten := by
      rw [List.replicate_succ, List.flatten_cons, List.append_assoc]
    rw [← e2, ← foldl_rep its k (acc ++ its), ← e, List.replicate_succ, List.foldl_cons]
section
variable {X : Cx} {pins : List (Addr × Obj)} {σ : St} {H : Hp} {s : Shared} {l b : Addr} {xs ys zs : List V}
theorem Inv.lset {its its' : List Value} {n : Nat} {f : Array Value → Array Value} {t' : Nat} (I : Inv X pins σ H s) (hH : H l = some (.lst xs))
    (e : s.heap.get? l = some { cls := .type "list", data := .seq its.toArray n }) (hf : f its.toArray = its'.toArray) (hv : Vals ys its') (hz : ys.length ≤ sizeLine) :
    Inv X pins σ (upd H l (.lst ys)) { s with heap := s.heap.update l (Obj.mapSeq f), toks := t' } := by
  have q := PySem.IsL.update e f
  rw [hf] at q
  refine I.write (x := l) (e := l) (by rw [hH]; exact trivial) (.inl rfl) (fun b' u hb hu => (Heap.get?_update_other s.heap (Obj.mapSeq f) (Ne.symm hb)).trans hu) ⟨_, q⟩ ?_
  exact ⟨hz, its', _, hv, q⟩
theorem Inv.lnew {its : List Value} {t' : Nat} (I : Inv X pins σ H s) (hv : Vals ys its) (hz : ys.length ≤ sizeLine) :
    Inv X pins σ (upd H s.heap.objs.size (.lst ys)) { s with heap := s.heap.push { cls := .type "list", data := .seq its.toArray }, toks := t' } :=
  I.laid (fun _ _ q => Heap.get?_push_of_some _ q) (Nat.le_refl _) ⟨hz, its, 0, hv, Heap.get?_push_size _ rfl⟩
theorem Inv.fresh (I : Inv X pins σ H s) : H s.heap.objs.size = none := I.hok.fresh (Nat.le_refl _)
theorem Inv.lstM (I : Inv X pins σ H s) (hH : H l = some (.lst xs)) : xs.length ≤ sizeLine ∧ ∃ (its : List Value) (n : Nat), Vals xs its ∧ xs.length = its.length ∧ s.heap.get? l = some { cls := .type "list", data := .seq its.toArray n } := by
  obtain ⟨z, its, n, r, e⟩ := I.hok l _ hH
  exact ⟨z, its, n, r, r.length, e⟩
theorem notLongL {n : Nat} (h : n ≤ sizeLine) : Builtin.List.listTooLong n = false := by
  unfold Builtin.List.listTooLong
  exact decide_eq_false (by omega)
end
section
variable {X : Cx}
def rAppend : V → List V → Hp → VK → Prop := fun x vs H Q => ∃ l xs y, x = .ref l ∧ vs = [y] ∧ H l = some (.lst xs) ∧ xs.length < sizeLine ∧ Q .non (upd H l (.lst (xs ++ [y])))
theorem mt_append : MtM X "list.append" rAppend := by
  intro pins s σ H x vs v us Q I rx rv h
  obtain ⟨l, xs, y, rfl, rfl, hH, hz, q⟩ := h
  cases rx
  obtain ⟨u, rfl, ru⟩ := rv.one
  obtain ⟨z, its, n, r, hl, e⟩ := I.lstM hH
  refine call_meets F.slot_list_append ⟨_, e, rfl⟩ F.entry_list_append (F.args_list_append_2 _ _) (PySem.list_append l its.toArray n u (by rw [List.size_toArray]; omega)) ⟨e, ?_⟩
  refine ⟨.non, _, I.lset (its' := its ++ [u]) hH e (by simp) (r.append (.cons ru .nil)) ?_, rfl, q⟩
  rw [List.length_append, List.length_singleton]
  omega
def rReverse : V → List V → Hp → VK → Prop := fun x vs H Q => ∃ l xs, x = .ref l ∧ vs = [] ∧ H l = some (.lst xs) ∧ Q .non (upd H l (.lst xs.reverse))
def rClear : V → List V → Hp → VK → Prop := fun x vs H Q => ∃ l xs, x = .ref l ∧ vs = [] ∧ H l = some (.lst xs) ∧ Q .non (upd H l (.lst []))
def rCat : R2 := fun x y H Q => ∃ l b xs zs, x = .ref l ∧ y = .ref b ∧ H l = some (.lst xs) ∧ H b = some (.lst zs) ∧ xs.length + zs.length ≤ sizeLine ∧ ∀ p, H p = none → Q (.ref p) (upd H p (.lst (xs ++ zs)))
theorem op_cat : OpR X (binaryOp .Add) rCat := by
  intro pins s σ H x y v u Q I rx ry h
  obtain ⟨l, b, xs, zs, rfl, rfl, hH, hB, hz, q⟩ := h
  cases rx
  cases ry
  obtain ⟨z, its, n, r, hl, e⟩ := I.lstM hH
  obtain ⟨z2, its2, n2, r2, hl2, e2⟩ := I.lstM hB
  refine PySem.P.add_list e e2 ?_ (by rw [List.size_toArray, List.size_toArray]; omega)
  have ea : its.toArray ++ its2.toArray = (its ++ its2).toArray := by simp
  rw [ea]
  exact ⟨.ref _, _, I.lnew (t' := s.toks) (r.append r2) (by rw [List.length_append]; omega), rfl, q _ I.fresh⟩
def rRep : R2 := fun x y H Q => ∃ l k xs, x = .ref l ∧ y = .int k ∧ H l = some (.lst xs) ∧ -(2 ^ 63) ≤ k ∧ k < 2 ^ 63 ∧ xs.length * k.toNat ≤ sizeLine ∧
  ∀ p, H p = none → Q (.ref p) (upd H p (.lst (List.replicate k.toNat xs).flatten))
theorem len_rep {α : Type} (xs : List α) (k : Nat) : (List.replicate k xs).flatten.length = k * xs.length := by
  induction k with
  | zero => simp
  | succ k ih => rw [List.replicate_succ, List.flatten_cons, List.length_append, ih, Nat.succ_mul, Nat.add_comm]
theorem op_rep : OpR X (binaryOp .Mult) rRep := by
  intro pins s σ H x y v u Q I rx ry h
  obtain ⟨l, k, xs, rfl, rfl, hH, h1, h2, hz, q⟩ := h
  cases rx
  obtain ⟨t, rfl⟩ := ry
  obtain ⟨z, its, n, r, hl, e⟩ := I.lstM hH
  have hlen : its.toArray.size * k.toNat ≤ sizeLine := by rw [List.size_toArray, ← hl]; exact hz
  have hcap : ¬ its.toArray.size * k.toNat > (2 ^ 63 - 1) / 8 := by
    have : (sizeLine : Nat) ≤ (2 ^ 63 - 1) / 8 := by decide
    omega
  have hfit : ¬ (!Builtin.List.listFitsIndex k) = true := by
    rw [fitsIndex_both h1 h2]
    exact Bool.false_ne_true
  have hlong : ¬ Builtin.List.listTooLong (its.toArray.size * k.toNat) = true := by
    rw [notLongL hlen]
    exact Bool.false_ne_true
  have hnew : List.foldl (fun x1 x2 => x1 ++ x2) #[] (List.replicate (if its.toArray.isEmpty = true then 0 else k.toNat) its.toArray) = (List.replicate k.toNat its).flatten.toArray := by
    have f0 : ∀ m : Nat, List.foldl (fun x1 x2 => x1 ++ x2) #[] (List.replicate m its.toArray) = (List.replicate m its).flatten.toArray := fun m => by
      have := foldl_rep its m []
      rw [List.nil_append] at this
      exact this
    rw [f0]
    cases its with
    | nil => simp
    | cons a r' => rw [if_neg (by simp)]
  refine wpAny_binaryOp_repeat_ref (T := "list") (U := "int") (by decide) ⟨_, e, rfl⟩ (fun s' => typeIs_int s' k t) noFill_list_mul F.fills_int_mul F.slot_int_rmul repeat_list F.slot_int_index.lookup
    (call_meets F.slot_int_rmul (typeIs_int s k t) F.entry_int_rmul (F.args_int_rmul_2 _ _) (int___rmul___int_list k t l its.toArray n)
      ⟨e, rfl, ⟨_, e, rfl⟩, call_meets F.slot_list_mul ⟨_, e, rfl⟩ F.entry_list_mul (F.args_list_mul_2 _ _) (AutoListH.list___mul___list_int_3 l its.toArray n k t hfit hcap hlong) ⟨e, ?_⟩⟩)
  rw [hnew]
  exact ⟨.ref _, _, I.lnew (t' := s.toks) (r.rep k.toNat) (by rw [len_rep, Nat.mul_comm]; exact hz), rfl, q _ I.fresh⟩
end
section
variable {prog : Program} {w : World} {A : Around} {E : Value → Shared → Prop} {s : Shared}
end
section
variable {X : Cx}
end
end L2
namespace Att
open PySem PySem.W PySem.Calls PyProof.Rows
theorem ints_of_wellAll {P : Params} {h : Heap} : ∀ (ns : List Int) (vs : List Value), WellAll P h vs (ns.map WData.int) → IntsAre vs ns := by
  intro ns
  induction ns with
  | nil =>
    intro vs w
    rw [List.map_nil] at w
    cases w
    exact .nil
  | cons n ns ih =>
    intro vs w
    rw [List.map_cons] at w
    cases w with
    | cons a b =>
      cases a
      exact .cons _ _ (ih _ b)
theorem script_of {l : OpenLaw} {n : Nat} (hn : l.most = some n) {P : Params} {h : Heap} {args : List WData} {vals : List Value}
    (hpre : l.row.toRowW.claim.pre args = true) (hwl : WellAll P h vals args) :
    ∃ a vs ns, vals = [Value.ref a] ∧ args = [WData.list (ns.map WData.int)] ∧ h.get? a = some { cls := .type "list", data := .seq vs.toArray } ∧ IntsAre vs ns ∧ ns.length ≤ n := by
  have hsh : WShape.hasAll [] args [.list .int] = true := (pre_splitW hpre).1
  have hc : l.pre.holds [] { args := args } = true := (pre_splitW hpre).2
  obtain ⟨d, r, rfl, h1, h2⟩ := hasAllW_cons hsh
  obtain rfl := hasAllW_nil h2
  obtain ⟨xs, rfl, h3⟩ := hasW_list h1
  obtain ⟨ns, rfl⟩ := items_int h3
  have hlen : ns.length ≤ n := by
    unfold OpenLaw.pre at hc
    have h4 : (WTm.not (.lt (.lit (.int (n : Int))) (.len (.arg 0)))).holds [] { args := [.list (ns.map .int)] } = true := by
      have h4 := (holds_andW hc).1
      rw [hn] at h4
      exact h4
    have h5 := condW_of h4 (w_not (w_lt w_lit (w_len_list (w_arg rfl))))
    rw [List.length_map] at h5
    refine Nat.le_of_not_lt fun q => ?_
    have q' : (n : Int) < ((ns.length : Nat) : Int) := by omega
    first
      | (rw [decide_eq_true q'] at h5; exact absurd h5 (by decide))
      | (simp at h5; omega)
  cases hwl with
  | cons w1 w2 =>
    cases w2
    cases w1 with
    | list ho hall => exact ⟨_, _, ns, rfl, rfl, ho, ints_of_wellAll ns _ hall, hlen⟩
theorem post_true (l : OpenLaw) (args : List WData) : l.row.toRowW.claim.post args (.bool true) args = true :=
  postW_of (r := l.row.toRowW) (X := (true == true))
    (show WShape.has [] (.bool true) .bool = true by first | rfl | decide | simp [WShape.has, WShape.arms, WShape.armsAll])
    (show (WTm.eq .res (.lit (.bool true))).value [] { args := args, res := some (.bool true), after := args } = some (.bool (true == true)) from w_eq_bool (w_res rfl) w_lit) rfl
theorem attach_call {l : OpenLaw} {n : Nat} {q : Program} {loose : List Str} {XP : (Str → Option Value) → Heap → Prop} {YP : World → Heap → Prop} {d : DefRec}
    (hn : l.most = some n) (hdf : d.params.defaults = [])
    (call : ∀ (w : World) (s₀ s₁ : Shared) (mg mb : Str → Option Value) (fa : Addr) (o : Obj) (pm cd doc : Value) (a : Addr) (vs : List Value) (ns : List Int),
      Ground q loose [] XP w s₀ mg mb s₁.heap → YP w s₁.heap →
      s₁.heap.get? fa = some o → o.data = .func (docDef d.name d.params d.body d.scope pm cd doc) → s₁.heap.CodeRec cd d.name → mg d.name = some (.ref fa) →
      s₁.heap.get? a = some { cls := .type "list", data := .seq vs.toArray } → IntsAre vs ns → ns.length ≤ n → s₁.gens = #[] →
      codeAny (model l.prog w) callerA (.call (.ref fa) ⟨[.ref a], []⟩) (fun r s' => r = .ok (.ret (.bool true)) ∧ OldK s₁.heap s'.heap ∧ s'.os = s₁.os ∧ AllBare s'.gens) s₁) :
    WalkO q loose XP YP l.row.toRowW d [] (fun f vs => PySem.call f vs) := by
  intro w s₀ s₁ mg mb G Y fa o pm cd doc dV kV ho hd hcd hD hmg hg args vals as hpre hlay hrd hwl hlo
  obtain rfl : dV = .none := Dflts.none hD hdf
  obtain rfl : kV = .none := Dflts.noKw hD
  obtain ⟨a, vs, ns, rfl, rfl, hobj, hints, hlen⟩ := script_of hn hpre hwl
  refine enter_call (codeAny_mono (call w s₀ s₁ mg mb fa o pm cd doc a vs ns G Y ho (fd_plain hd) hcd hmg hobj hints hlen hg) fun r s' hq => ?_)
  obtain ⟨rfl, h2, h3, h4⟩ := hq
  exact ⟨.inl ⟨.bool true, .bool true, [], rfl, fun _ => rfl, .bool true, post_true l _, fun _ => ⟨List.Pairwise.nil, fun _ hm => (nomatch hm)⟩⟩, h2, h3, h4⟩
section
variable {prog : Program} {w : World} {A : Around} {E : Value → Shared → Prop} {s : Shared} {K : Frag}
end
end Att
namespace L2
open PySem PySem.Spec PyProof.Rows
theorem vals_ints : ∀ {vs : List Value} {ns : List Int}, IntsAre vs ns → Vals (ns.map V.int) vs
  | _, _, .nil => .nil
  | _, _, .cons n t h => .cons ⟨t, rfl⟩ (vals_ints h)
def Only (H : Hp) : Prop := ∀ b, H b = none ∨ ∃ o xs, H b = some (.frz o (.lst xs))
theorem law_call {P : Program} {w : World} {K : PySem.W.Frag} {mg mb : Str → Option Value} {CX : CXT} {k : Nat} {fa a : Addr} {fd : FuncData} {x : Str} {sp : Sp} {s₁ : Shared} {vs : List Value} {ns : List Int}
    (KX : K.In s₁.heap) (hns : s₁.heap.Ns mainGlobals mg) (hb : s₁.heap.Ns builtinsNs mb) (hbb : ∀ x : Str, x ≠ "__name__" → mb x = bootBuiltins x) (hlim : s₁.heap.NoLimit) (hg : s₁.gens = #[])
    (ha : s₁.heap.get? a = some { cls := .type "list", data := .seq vs.toArray }) (hi : IntsAre vs ns) (hl : ns.length ≤ sizeLine) (hr : Room k callerA)
    (F : ∀ base : Heap, K.In base → base.Ns mainGlobals mg → FnOk P w K mg base CX k fa fd [x] sp) (hbind : ∀ (s : Shared) (u : Value), BindsTo s fd ⟨[u], []⟩ [(x, u)])
    (hsp : ∀ H : Hp, Only H → SqL K H a (ns.map V.int) → sp [.ref a] H (fun v _ => v = .bl true) fun _ _ _ => False)
    (hCX : ∀ H e s', CX [] H s₁ (fun _ _ _ => False) e s' → False) :
    codeAny (model P w) callerA (.call (.ref fa) ⟨[.ref a], []⟩) (fun r s' => r = .ok (.ret (.bool true)) ∧ OldK s₁.heap s'.heap ∧ s'.os = s₁.os ∧ AllBare s'.gens) s₁ := by
  have rv := vals_ints hi
  have lenV := hi.length
  -- from an abstract heap in which nothing but the script may be tracked
  have core : ∀ H : Hp, Only H → SqL K H a (ns.map V.int) → HOk P w H s₁.heap → (∀ b, H b ≠ none → b = a) → (H a ≠ none → K.lookup a = none) →
      codeAny (model P w) callerA (.call (.ref fa) ⟨[.ref a], []⟩) (fun r s' => r = .ok (.ret (.bool true)) ∧ OldK s₁.heap s'.heap ∧ s'.os = s₁.os ∧ AllBare s'.gens) s₁ := by
    intro H hO hS hok hA hK
    have base_of : ∀ {b : Addr} {o : Obj}, s₁.heap.get? b = some o → H b = none → (hidT s₁.heap H).get? b = some o := fun e n => hidT_get e n
    have noA : ∀ {b : Addr} {o : Obj} {es : Array DictEntry} {ep : Nat}, s₁.heap.get? b = some o → o.data = .dict es ep → H b = none := fun {b o es ep} e d => by
      cases q : H b with
      | none => rfl
      | some u =>
        have e' : b = a := hA b (by rw [q]; simp)
        subst e'
        rw [ha] at e; cases e
        have d' : Data.seq vs.toArray _ = Data.dict es ep := d
        cases d'
    have nsK : ∀ {b : Addr} {m : Str → Option Value}, s₁.heap.Ns b m → (hidT s₁.heap H).Ns b m := fun {b m} ⟨o, es, ep, e, d, r⟩ => ⟨o, es, ep, base_of e (noA e d), d, r⟩
    have hKb : K.In (hidT s₁.heap H) := fun b o e => base_of (KX b o e) (by
      cases q : H b with
      | none => rfl
      | some u =>
        have e' : b = a := hA b (by rw [q]; simp)
        subst e'
        rw [hK (by rw [q]; simp)] at e; cases e)
    have hM : Mod K mg (hidT s₁.heap H) := ⟨hKb, nsK hns, ⟨mb, nsK hb, hbb⟩, let ⟨mc, h1, h2⟩ := hlim; ⟨mc, nsK h1, h2⟩⟩
    have e0 : Env0 P w K mg (hidT s₁.heap H) callerA [] s₁ H := ⟨rfl, hM, fun b o e => of_hidT e, Nat.le_of_eq (hidT_size _ _), trivial, fun b hb => absurd (show b ∈ ([] : List Addr) from hb) (by simp), hok, .of_eq hg⟩
    refine codeAny_mono ((F _ hKb (nsK hns)).run callerA [] s₁ H ⟨[.ref a], []⟩ [.ref a] [.ref a] _ _ hr e0 (hbind s₁ (.ref a)) (.cons rfl .nil) (hsp H hO hS)) fun r s' h => ?_
    cases r with
    | error e => exact (hCX H e s' h).elim
    | ok fl =>
      cases fl with
      | next => exact False.elim h
      | brk => exact False.elim h
      | cont => exact False.elim h
      | ret u =>
        obtain ⟨v, H', os, bare, un, hok', r', q⟩ := h
        have q' : v = .bl true := q
        subst q'
        obtain rfl : u = Value.bool true := r'
        refine ⟨rfl, OldK.of_keep fun b o e => ?_, os, bare⟩
        cases q : H b with
        | none => exact un.keep b o e q (by intro z; exact absurd (show b ∈ ([] : List Addr) from z) (by simp)) (by simp)
        | some u =>
          rcases hO b with z | ⟨ob, xs, z⟩
          · rw [q] at z; cases z
          · have z2 := un.frzs b ob _ z
            obtain ⟨e1, _⟩ := hok b _ z
            obtain ⟨e2, _⟩ := hok' b _ z2
            rw [e] at e1; cases e1
            exact e2
  cases hk : K.lookup a with
  | some o =>
    -- the script is one of the module's own objects
    have e := KX a o hk
    rw [ha] at e
    cases e
    refine core (fun _ => none) (fun _ => .inl rfl) (.inr ⟨_, vs.toArray, _, hk, rfl, rfl, rfl, by rw [List.size_toArray, lenV]; exact hl, by simpa using rv⟩) (fun b u z => by have z' : (none : Option HO) = some u := z; cases z') (fun b z => absurd rfl z) fun z => absurd rfl z
  | none =>
    refine core (fun b => if b = a then some (.frz { cls := .type "list", data := .seq vs.toArray } (.lst (ns.map V.int))) else none) (fun b => ?_) (.inl (.inr ⟨{ cls := .type "list", data := .seq vs.toArray }, if_pos rfl⟩)) (fun b u z => ?_) (fun b z => ?_) fun _ => hk
    · by_cases hb : b = a
      · exact .inr ⟨_, _, if_pos hb⟩
      · exact .inl (if_neg hb)
    · by_cases hb : b = a
      · have z' := (if_pos hb).symm.trans z
        cases z'
        subst hb
        exact ⟨ha, by rw [List.length_map]; exact hl, vs, _, rv, ha⟩
      · have z' := (if_neg hb).symm.trans z
        cases z'
    · by_cases hb : b = a
      · exact hb
      · exact absurd (if_neg hb) z
end L2
namespace L2
open PySem PySem.Spec PyProof.Rows
abbrev KOf {K : PySem.W.Frag} {h : Heap} (_ : K.In h) : PySem.W.Frag := K
theorem walk_of {l : PySem.W.OpenLaw} {n k : Nat} {q : Program} {loose : List Str} {XP : (Str → Option Value) → Heap → Prop} {YP : World → Heap → Prop} {d : DefRec} {K : Params → PySem.W.Frag} {CX : World → CXT} {sp : World → Sp} {x : Str}
    (hn : l.most = some n) (hn2 : n ≤ sizeLine) (hdf : d.params.defaults = []) (hr : Room k callerA)
    (hY : ∀ (w : World) (h : Heap), YP w h → (K w.params).In h)
    (F : ∀ (w : World) (mg : Str → Option Value) (fa : Addr) (h : Heap), (K w.params).In h → h.Ns mainGlobals mg → mg d.name = some (.ref fa) →
      ∃ fd : FuncData, (∀ (s : Shared) (u : Value), BindsTo s fd ⟨[u], []⟩ [(x, u)]) ∧
        ∀ base : Heap, (K w.params).In base → base.Ns mainGlobals mg → FnOk l.prog w (K w.params) mg base (CX w) k fa fd [x] (sp w))
    (hsp : ∀ (w : World) (H : Hp) (a : Addr) (ns : List Int), ns.length ≤ n → Only H → SqL (K w.params) H a (ns.map V.int) → sp w [.ref a] H (fun v _ => v = .bl true) fun _ _ _ => False)
    (hCX : ∀ (w : World) (H : Hp) (s : Shared) (e : Value) (s' : Shared), CX w [] H s (fun _ _ _ => False) e s' → False) :
    PySem.W.WalkO q loose XP YP l.row.toRowW d [] (fun f vs => PySem.call f vs) := by
  refine Att.attach_call hn hdf fun w s₀ s₁ mg mb fa o pm cd doc a vs ns G Y ho hd hcd hmg hobj hints hlen hg => ?_
  have KX := hY w _ Y
  obtain ⟨fd, hb, hF⟩ := F w mg fa _ KX G.T.g hmg
  exact law_call KX G.T.g G.T.b G.T.builtins G.T.nolimit hg hobj hints (Nat.le_trans hlen hn2) hr hF hb (fun H hO hS => hsp w H a ns hlen hO hS) fun H e s' => hCX w H s₁ e s'
end L2
/- THE LAST THEOREM (shape; LID, My.* are yours):
   My.Adr: a structure of the addresses that your layer names (classes, functions); My.Txt K t: a structure (Prop) of the equations over K;
   My.txt_mk : {K} {implicit addresses ..} (e1 : nsIn K mainGlobals "law" = some (some (.ref f))) (e2 : K.lookup f = some ⟨oc, od, .func (fnOf "law" "law" params body scope dV kV doc pm an cdv ct), sl⟩) (e3 : codeIn K cdv "law" = true) .. : ∃ t, My.Txt K t
set_option maxRecDepth 100000 in
set_option maxHeartbeats 0 in
theorem PySem.Challenge.cw_LID_holds : PySem.Challenge.rw_LID.Holds := by
  w_on; o_law; k_head; (case hw => w_witness2)
  k_fill
  refine L2.walk_of (l := PySem.Challenge.rw_LID) (n := 63) (k := 40) (x := "script") (CX := fun w => ..) (sp := fun _ => My.sp_law) rfl (by decide) rfl ⟨rfl, by decide, by decide⟩ (fun w h Y => PySem.W.kIn_of Y) ?F ?S ?C
  case F =>
    intro w mg fa h KX G hmg
    have T : ∃ t, My.Txt (L2.KOf KX) t := by
      dsimp only [L2.KOf]                          -- K must stand as «<heap const> w.params» for k_is
      refine' My.txt_mk ?e1 ?e2 ?e3 ..
      (case e1 => PySem.W.k_is)                    -- in the order: a name -> its address -> its object -> its parts
      (case e2 => PySem.W.k_is)
      ..
    obtain ⟨t, T⟩ := T
    have e0 := hmg.symm.trans (PySem.W.mg_of KX G T.law)
    cases e0                                       -- fa is the law's own address
    exact ⟨_, fun s u => .of_eq rfl, fun base kb nb => My.law_fn T kb nb⟩     -- if «.of_eq rfl» comes too early: refine' ⟨_, ?b, fun base kb nb => My.law_fn T kb nb⟩; exact fun s u => .of_eq rfl
  case S => exact fun w H a ns hl hO hS => ..
  case C => exact ..
(the tactic k_is has no namespace: write k_is) -/
namespace L2
open PySem PySem.Spec PyProof.Rows
def defArgs (s : Stmt) : Arguments := match s with
  | .FunctionDef _ a _ _ _ _ _ _ _ _ => a
  | _ => { posonlyargs := [], args := [], vararg := none, kwonlyargs := [], kw_defaults := [], kwarg := none, defaults := [] }
def defBody (s : Stmt) : List Stmt := match s with
  | .FunctionDef _ _ b _ _ _ _ _ _ _ => b
  | _ => []
def defScope (s : Stmt) : Scope := match s with
  | .FunctionDef _ _ _ _ _ _ sc _ _ _ => sc
  | _ => { kind := .function, names := [], isGenerator := false, isCoroutine := false }
abbrev E0 : XK := fun _ _ _ => False
structure Fun (K : PySem.W.Frag) (x qual : Str) (st : Stmt) (f : Addr) (fd : FuncData) : Prop where
  ex : ∃ (oc : Value) (od : Option Addr) (kV doc pm : Value) (an : Option Addr) (cdv ct : Value) (osl : Array (Option Value)),
    fd = PySem.W.fnOf x qual (defArgs st) (defBody st) (defScope st) .none kV doc pm an cdv ct ∧ K.lookup f = some ⟨oc, od, .func fd, osl⟩ ∧ PySem.W.codeIn K cdv qual = true
  kp : PySem.W.keepIn K (.ref f) = true
section
variable {P : Program} {w : World} {K : PySem.W.Frag} {mg : Str → Option Value} {base : Heap}
theorem Fun.binds {x qual : Str} {st : Stmt} {f : Addr} {fd : FuncData} {ps : List Str} (F : Fun K x qual st f fd)
    (h : ∀ (kV doc pm : Value) (an : Option Addr) (cdv ct : Value) (us : List Value), us.length = ps.length → bindArgs (PySem.W.fnOf x qual (defArgs st) (defBody st) (defScope st) .none kV doc pm an cdv ct) ⟨us, []⟩ = pure (ps.zip us)) : Binds K fd ps [] := by
  obtain ⟨oc, od, kV, doc, pm, an, cdv, ct, osl, rfl, lk, hcd⟩ := F.ex
  exact .all (h kV doc pm an cdv ct)
theorem fun_mk {x qual : Str} {st : Stmt} {f : Addr} {oc : Value} {od an : Option Addr} {osl : Array (Option Value)} {kV doc pm cdv ct : Value} (l : K.lookup f = some ⟨oc, od, .func (PySem.W.fnOf x qual (defArgs st) (defBody st) (defScope st) .none kV doc pm an cdv ct), osl⟩)
    (c : PySem.W.codeIn K cdv qual = true) (k : PySem.W.keepIn K (.ref f) = true) : Fun K x qual st f (PySem.W.fnOf x qual (defArgs st) (defBody st) (defScope st) .none kV doc pm an cdv ct) := ⟨⟨oc, od, kV, doc, pm, an, cdv, ct, osl, rfl, l, c⟩, k⟩
end
theorem small1000 {n : Nat} (h : n ≤ 1000) : n < sizeLine := Nat.lt_of_le_of_lt h (by decide)
section
variable {X : Cx}
theorem pv (i : Nat) {x : Str} {pos : Pos} (hN : X.N[i]? = some x := by rfl) (hv : Vis X.env.scope x := by first | exact Or.inl rfl | exact Or.inr (Or.inl rfl) | exact Or.inr (Or.inr rfl)) (hd : (x == ("__debug__" : Str)) = false := by decide)
    (hcd : (x == ("__classdict__" : Str)) = false := by decide) : PE X (.Name x pos) (tVar i) := pe_var hN hv hd hcd
end
def Same (H H' : Hp) : Prop := ∀ b o, H b = some o → H' b = some o
theorem Same.refl (H : Hp) : Same H H := fun _ _ h => h
theorem Same.trans {H H1 H2 : Hp} (a : Same H H1) (b : Same H1 H2) : Same H H2 := fun c o h => b c o (a c o h)
theorem Same.free {H H' : Hp} (e : Same H H') {l : Addr} (h : H' l = Option.none) : H l = Option.none := by
  cases q : H l with
  | none => rfl
  | some o =>
    rw [e l o q] at h
    cases h
theorem Same.seq {K : PySem.W.Frag} {H H' : Hp} {a : Addr} {xs : List V} (e : Same H H') (h : SqL K H a xs) : SqL K H' a xs := by
  rcases h with (h | ⟨o, h⟩) | h
  · exact .inl (.inl (e _ _ h))
  · exact .inl (.inr ⟨o, e _ _ h⟩)
  · exact .inr h
end L2
namespace L2
open PySem PySem.Spec PyProof.Rows
def Dic (h : Heap) (e : Addr) (dv : Option Addr) : Prop := ∃ ob ws, h.get? e = some ob ∧ ob.dict = dv ∧ ob.data = .fields ws ∧ ws[2]? = some Value.none
structure Rest (fs : List Addr) (x : Addr) (ex : Option Addr) (h h' : Heap) : Prop where
  out : ∀ b o, h.get? b = some o → b ≠ x → some b ≠ ex → b ∉ fs → h'.get? b = some o
  sl : ∀ b o, h.get? b = some o → b ≠ x → some b ≠ ex → ∃ z, h'.get? b = some { o with slots := z }
section
variable {M : Model} {A : Around} {E : Value → Shared → Prop} {s : Shared} {B : Heap} {env : Env} {outer : List Env} {L e : Addr}
theorem dict_mapF (f : Array Value → Array Value) (o : Obj) : (Obj.mapFields f o).dict = o.dict := by
  obtain ⟨c, d, dt, sl⟩ := o
  cases dt <;> rfl
theorem entry_made {ob : Obj} {ws : Array Value} {hd : Value} {had : Bool} {Q : Unit → Shared → Prop} (gf : A.frames = some (env :: outer)) (ff : s.heap.FunFrames B (env :: outer)) (ge : env.frame = some L)
    (o1 : s.heap.get? e = some ob) (o2 : ob.data = .fields ws) (o3 : 1 < ws.size)
    (k : ∀ (h' : Heap) (T : Addr) (oT : Obj) (ts : Array Value), h'.get? e = some (Obj.mapFields (·.setIfInBounds 1 (.ref T)) ob) → T ≠ e → s.heap.get? T = none → h'.get? T = some oT → oT.data = .fields ts → ts[3]? = some (rawInt L) →
      Rest (frs (env :: outer)) e none s.heap h' → Q () { s with heap := h' }) :
    wpAny M A (do let a ← frameOf env; let pl ← entryPlaceOf L had; let b ← EntryCells.newEntry hd a .none (rawInt L) .none pl; setField (.ref e) 1 b) Q E s := by
  have en : e ∉ frs (env :: outer) := fun m => by
    obtain ⟨_, o, q, n⟩ := ff.mem m
    rw [o1] at q; cases q
    exact n ws o2
  refine wpAny_bind (wpAny_frameOf_fun gf ff ge fun h1 so => wpAny_bind (wpAny_entryPlaceOf fun pl place => ?_))
  unfold EntryCells.newEntry newFields
  refine wpAny_bind (wpAny_newObj_type ?_ (place.sizeOk5 _ _ _ _ _))
  have q1 : h1.get? e = some ob := (so.2.1 e en).trans o1
  have q2 := fun oT => Heap.get?_push_of_some (h := h1) oT q1
  refine wpAny_setField (q2 _) o2 o3 ?_
  refine k _ h1.objs.size _ _ ?_ (Nat.ne_of_gt (Heap.lt_size q1)) (Heap.get?_none_of_le (by rw [so.1]; exact Nat.le_refl _)) ((Heap.get?_update_other _ _ (Nat.ne_of_lt (Heap.lt_size q1))).trans (Heap.get?_push_size h1 rfl)) rfl ?_ ?_
  · exact Heap.get?_update_self _ (q2 _) (Obj.isFreed_of_fields (Obj.data_mapFields o2 _))
  · rcases place with rfl | ⟨_, _, _, _, _, _, _, rfl⟩ <;> simp
  · refine ⟨fun b o q n _ nf => ?_, fun b o q n _ => ?_⟩
    · exact (Heap.get?_update_other _ _ (Ne.symm n)).trans (Heap.get?_push_of_some _ ((so.2.1 b nf).trans q))
    · obtain ⟨z, y⟩ := so.2.2 b o q
      exact ⟨z, (Heap.get?_update_other _ _ (Ne.symm n)).trans (Heap.get?_push_of_some _ y)⟩
theorem rest_fly {h h' : Heap} {ex : Option Addr} {l : List Env} (st : B.StaysIn h) (be : B.get? e = none) (bx : ∀ t, ex = some t → B.get? t = none) (ff : h.FunFrames B l) (hx : ∀ t o, ex = some t → h.get? t = some o → ∃ ts, o.data = .fields ts)
    (he : ∀ o, h.get? e = some o → ∃ ts, o.data = .fields ts) (r : Rest (frs l) e ex h h') : B.StaysIn h' ∧ h'.FunFrames B l ∧ h.UpToSlots h' := by
  have up : h.UpToSlots h' := fun b o q nd => r.sl b o q (fun z => by subst z; obtain ⟨ts, y⟩ := he o q; exact nd ts y) fun z => by obtain ⟨ts, y⟩ := hx b o z.symm q; exact nd ts y
  refine ⟨fun b o q => r.out b o (st b o q) (fun z => by rw [z, be] at q; cases q) (fun z => by rw [bx b z.symm] at q; cases q) (fun m => by rw [(ff.mem m).1] at q; cases q), ff.of_keeps fun b o q nd => ?_, up⟩
  obtain ⟨z, y⟩ := up b o q nd
  exact ⟨_, y, rfl⟩
theorem note_first {ob : Obj} {ws : Array Value} {a0 : Value} {Q : Unit → Shared → Prop} (gf : A.frames = some (env :: outer)) (ge : env.frame = some L) (ff : s.heap.FunFrames B (env :: outer)) (st : B.StaysIn s.heap) (be : B.get? e = none)
    (o1 : s.heap.get? e = some ob) (o2 : ob.data = .fields ws) (o3 : ws[1]? = some .none) (o4 : ws[0]? = some a0) (o5 : ws[2]? = some Value.none)
    (k : ∀ h', Heap.HeldW B (env :: outer) e ob.cls a0 L h' → Dic h' e ob.dict → s.heap.UpToSlots h' → Q () { s with heap := h' }) : wpAny M A (noteFrame (.ref e) env) Q E s := by
  have z1 : 1 < ws.size := (Array.getElem?_eq_some_iff.mp o3).1
  unfold noteFrame
  simp only [ge]
  refine wpAny_bind (wpAny_field o1 o2 o3 ?_)
  rw [if_neg (by decide)]
  refine entry_made gf ff ge o1 o2 z1 fun h' T oT ts e1 e2 e3 e4 e5 e6 r => ?_
  obtain ⟨k1, k2, k3⟩ := rest_fly (ex := none) st be (by intro _ z; cases z) ff (by intro _ _ z; cases z) (fun o q => by rw [o1] at q; cases q; exact ⟨ws, o2⟩) r
  refine k h' ⟨k1, be, k2, _, _, T, oT, ts, e1, ⟨Obj.cls_mapFields _ _, ?_⟩, Obj.data_mapFields o2 _, by simp [z1], ?_, e2, e4, e5, e6⟩ ⟨_, _, e1, dict_mapF _ _, Obj.data_mapFields o2 _, by rw [Array.getElem?_setIfInBounds_ne (by decide)]; exact o5⟩ k3
  · rw [Array.getElem?_setIfInBounds_ne (by decide)]; exact o4
  · cases q : B.get? T with
    | none => rfl
    | some o => rw [st T o q] at e3; cases e3
theorem note_next {cls a0 : Value} {dv : Option Addr} {Q : Unit → Shared → Prop} (gf : A.frames = some (env :: outer)) (ge : env.frame = some L) (fl : Heap.FlyingW B (env :: outer) e cls a0 s.heap) (dc : Dic s.heap e dv)
    (k : ∀ h', Heap.HeldW B (env :: outer) e cls a0 L h' → Dic h' e dv → s.heap.UpToSlots h' → Q () { s with heap := h' }) : wpAny M A (noteFrame (.ref e) env) Q E s := by
  obtain ⟨st, be, ff, ob, ws, T, oT, ts, o1, ⟨rfl, o4⟩, o2, o3, bT, nT, t1, t2, t3⟩ := fl
  obtain ⟨ob', ws', q, rfl, d5, o5⟩ := dc
  rw [o1] at q; cases q
  rw [o2] at d5; cases d5
  have z1 : 1 < ws.size := (Array.getElem?_eq_some_iff.mp o3).1
  unfold noteFrame
  simp only [ge]
  refine wpAny_bind (wpAny_field o1 o2 o3 ?_)
  rw [if_pos (by simp)]
  refine wpAny_bind (wpAny_field t1 t2 t3 ?_)
  rw [if_neg (by simp [rawInt])]
  refine wpAny_bind (wpAny_setField t1 t2 (Array.getElem?_eq_some_iff.mp t3).1 ?_)
  have r0 : Rest (frs (env :: outer)) e (some T) s.heap (s.heap.update T (Obj.mapFields (·.setIfInBounds 3 Value.none))) :=
    ⟨fun b o q _ n _ => (Heap.get?_update_other _ _ fun z => n (by rw [z])).trans q, fun b o q _ n => ⟨o.slots, (Heap.get?_update_other _ _ fun z => n (by rw [z])).trans q⟩⟩
  obtain ⟨s1, s2, s3⟩ := rest_fly st be (fun t z => by cases z; exact bT) ff (fun t o z q => by cases z; rw [t1] at q; cases q; exact ⟨ts, t2⟩) (fun o q => by rw [o1] at q; cases q; exact ⟨ws, o2⟩) r0
  have o1' : (s.heap.update T (Obj.mapFields (·.setIfInBounds 3 Value.none))).get? e = some ob := (Heap.get?_update_other _ _ nT).trans o1
  refine entry_made (s := { s with heap := _ }) gf s2 ge o1' o2 z1 fun h' T' oT' ts' e1 e2 e3 e4 e5 e6 r => ?_
  obtain ⟨k1, k2, k3⟩ := rest_fly (ex := none) s1 be (by intro _ z; cases z) s2 (by intro _ _ z; cases z) (fun o q => by have := o1'.symm.trans q; cases this; exact ⟨ws, o2⟩) r
  refine k h' ⟨k1, be, k2, _, _, T', oT', ts', e1, ⟨Obj.cls_mapFields _ _, ?_⟩, Obj.data_mapFields o2 _, by simp [z1], ?_, e2, e4, e5, e6⟩ ⟨_, _, e1, dict_mapF _ _, Obj.data_mapFields o2 _, by rw [Array.getElem?_setIfInBounds_ne (by decide)]; exact o5⟩ (s3.trans k3)
  · rw [Array.getElem?_setIfInBounds_ne (by decide)]; exact o4
  · cases q : B.get? T' with
    | none => rfl
    | some o => have := (s1 T' o q).symm.trans e3; cases this
theorem lands_dic {l : List Env} {cls a0 v : Value} {dv : Option Addr} {Q : Unit → Shared → Prop} (fl : B.StaysIn s.heap ∧ B.get? e = none ∧ s.heap.FunFrames B l ∧ s.heap.TracedAtW B e cls a0 v) (dc : Dic s.heap e dv)
    (k : ∀ h', Heap.FlyingW B l e cls a0 h' → Dic h' e dv → s.heap.UpToSlots h' → Q () { s with heap := h' }) : wpAny M A (setFlight (.ref e) none) Q E s := by
  obtain ⟨st, be, ff, ob, ws, T, oT, ts, o1, oc, o2, o3, bT, nT, t1, t2, t3⟩ := fl
  have z3 : 3 < ts.size := (Array.getElem?_eq_some_iff.mp t3).1
  unfold setFlight
  refine wpAny_bind (wpAny_field o1 o2 o3 ?_)
  rw [if_pos (by simp)]
  refine wpAny_setField t1 t2 z3 ?_
  have r0 : Rest (frs l) e (some T) s.heap (s.heap.update T (Obj.mapFields (·.setIfInBounds 3 ((none : Option Addr).elim Value.none fun f => rawInt f)))) :=
    ⟨fun b o q _ n _ => (Heap.get?_update_other _ _ fun z => n (by rw [z])).trans q, fun b o q _ n => ⟨o.slots, (Heap.get?_update_other _ _ fun z => n (by rw [z])).trans q⟩⟩
  obtain ⟨s1, s2, s3⟩ := rest_fly st be (fun t z => by cases z; exact bT) ff (fun t o z q => by cases z; rw [t1] at q; cases q; exact ⟨ts, t2⟩) (fun o q => by rw [o1] at q; cases q; exact ⟨ws, o2⟩) r0
  have o1' := (Heap.get?_update_other s.heap (Obj.mapFields (·.setIfInBounds 3 ((none : Option Addr).elim Value.none fun f => rawInt f))) nT).trans o1
  refine k _ ⟨s1, be, s2, ob, ws, T, _, _, o1', oc, o2, o3, bT, nT, Heap.get?_update_self _ t1 (Obj.isFreed_of_fields (Obj.data_mapFields t2 _)), Obj.data_mapFields t2 _, by simp [z3]⟩ ?_ s3
  obtain ⟨ob', ws', q, d, d5, o5⟩ := dc
  rw [o1] at q; cases q
  exact ⟨ob, ws', o1', d, d5, o5⟩
theorem leaves_next {cls a0 : Value} {dv : Option Addr} {Q : Unit → Shared → Prop} (gf : A.frames = some (env :: outer)) (ge : env.frame = some L) (fl : Heap.FlyingW B (env :: outer) e cls a0 s.heap) (dc : Dic s.heap e dv)
    (k : ∀ h', Heap.FlyingW B outer e cls a0 h' → Dic h' e dv → s.heap.UpToSlots h' → Q () { s with heap := h' }) : wpAny M A (leaving env (.ref e)) Q E s := by
  unfold leaving
  refine wpAny_bind (note_next gf ge fl dc fun h1 x1 d1 u1 => lands_dic x1 d1 fun h2 x2 d2 u2 => ?_)
  obtain ⟨y1, y2, ⟨_, _, y3⟩, y4⟩ := x2
  exact k h2 ⟨y1, y2, y3, y4⟩ d2 (u1.trans u2)
theorem leaves_first {ob : Obj} {ws : Array Value} {a0 : Value} {Q : Unit → Shared → Prop} (gf : A.frames = some (env :: outer)) (ge : env.frame = some L) (ff : s.heap.FunFrames B (env :: outer)) (st : B.StaysIn s.heap) (be : B.get? e = none)
    (o1 : s.heap.get? e = some ob) (o2 : ob.data = .fields ws) (o3 : ws[1]? = some .none) (o4 : ws[0]? = some a0) (o5 : ws[2]? = some Value.none)
    (k : ∀ h', Heap.FlyingW B outer e ob.cls a0 h' → Dic h' e ob.dict → s.heap.UpToSlots h' → Q () { s with heap := h' }) : wpAny M A (leaving env (.ref e)) Q E s := by
  unfold leaving
  refine wpAny_bind (note_first gf ge ff st be o1 o2 o3 o4 o5 fun h1 x1 d1 u1 => lands_dic x1 d1 fun h2 x2 d2 u2 => ?_)
  obtain ⟨y1, y2, ⟨_, _, y3⟩, y4⟩ := x2
  exact k h2 ⟨y1, y2, y3, y4⟩ d2 (u1.trans u2)
theorem lands_againD {l : List Env} {cls a0 : Value} {dv : Option Addr} {Q : Unit → Shared → Prop} (fl : Heap.FlyingW B l e cls a0 s.heap) (dc : Dic s.heap e dv)
    (k : ∀ h', Heap.FlyingW B l e cls a0 h' → Dic h' e dv → s.heap.UpToSlots h' → Q () { s with heap := h' }) : wpAny M A (setFlight (.ref e) none) Q E s := lands_dic (v := .none) fl dc k
end
end L2
namespace L2
open PySem PySem.Spec PyProof.Rows
theorem ObjOk.there {P : Program} {w : World} {H : Hp} {h : Heap} {a : Addr} {o : HO} (x : ObjOk P w H h a o) : ∃ ob, h.get? a = some ob := by
  cases o with
  | lst xs => obtain ⟨_, _, _, _, q⟩ := x; exact ⟨_, q⟩
  | tup xs => obtain ⟨_, _, _, ob, q, _⟩ := x; exact ⟨ob, q⟩
  | dK kvs => obtain ⟨_, _, _, _, ob, _, _, q, _⟩ := x; exact ⟨ob, q⟩
  | dT kvs => obtain ⟨_, _, _, _, ob, _, _, q, _⟩ := x; exact ⟨ob, q⟩
  | set S n => obtain ⟨ob, _, _, _, q, _⟩ := x; exact ⟨ob, q⟩
  | ins C dx fs => obtain ⟨_, _, _, q, _⟩ := x; exact ⟨_, q⟩
  | own y => exact x
  | xd fs => obtain ⟨_, ⟨ob, _, _, q, _⟩, _⟩ := x; exact ⟨ob, q⟩
  | rng lo hi => obtain ⟨_, _, _, q⟩ := x; exact ⟨_, q⟩
  | frz ob u => obtain ⟨q, _⟩ := x; exact ⟨_, q⟩
  | tbl ps => exact ⟨_, x⟩
  | met f y => exact ⟨_, x⟩
  | ext φ => obtain ⟨_, q, _⟩ := x; exact q
theorem HOk.there {P : Program} {w : World} {H : Hp} {h : Heap} {a : Addr} (k : HOk P w H h) (n : H a ≠ none) : ∃ ob, h.get? a = some ob := by
  cases e : H a with
  | none => exact absurd e n
  | some o => exact (k a o e).there
structure Flown (P : Program) (w : World) (outer : List Env) (H : Hp) (s : Shared) (H' : Hp) (s' : Shared) (B : Heap) (e : Addr) (cls a0 : Value) (dv : Option Addr) : Prop where
  os : s'.os = s.os
  bare : AllBare s'.gens
  un : Un (frs outer) [] H H' s.heap s'.heap
  hok : HOk P w H' s'.heap
  fly : Heap.FlyingW B outer e cls a0 s'.heap
  cond : ∀ b o, s'.heap.get? b = some o → b ∉ frs outer → ((∃ o', s.heap.get? b = some o') ∨ H' b ≠ none) → B.get? b = some o
  frf : ∀ b ∈ frs outer, H' b = none
  dic : Dic s'.heap e dv
def CXe (P : Program) (w : World) : CXT := fun outer H s E ev s' => ∃ (e : Addr) (cls a0 : Value) (dv : Option Addr) (H' : Hp) (B : Heap), ev = .ref e ∧ Flown P w outer H s H' s' B e cls a0 dv ∧ E cls dv H'
theorem fly_notframe {B : Heap} {l : List Env} {e : Addr} {cls a0 : Value} {h : Heap} (x : Heap.FlyingW B l e cls a0 h) : e ∉ frs l := fun hm => by
  obtain ⟨_, _, f3, oe, vs, T, oT, ts, he, _, hd, _⟩ := x
  obtain ⟨_, o, ho, hn⟩ := f3.mem hm
  rw [he] at ho; cases ho
  exact hn vs hd
section
variable {P : Program} {w : World} {outer : List Env} {H H' : Hp} {s s' : Shared} {B : Heap} {e : Addr} {cls a0 : Value} {dv : Option Addr} {h' : Heap}
theorem Flown.unh (F : Flown P w outer H s H' s' B e cls a0 dv) (k : B.StaysIn h') (u : s'.heap.UpToSlots h') : Un (frs outer) [] H H' s.heap h' where
  keep := fun b o q n hb hx => k b o (F.cond b o (F.un.keep b o q n hb hx) hb (.inl ⟨o, q⟩))
  slot := fun b o q n hb hx => by
    obtain ⟨sl, q1⟩ := F.un.slot b o q n hb hx
    obtain ⟨_, o2, q2, nd⟩ := F.fly.2.2.1.mem hb
    rw [q1] at q2; cases q2
    obtain ⟨sl', q3⟩ := u b _ q1 nd
    exact ⟨sl', q3⟩
  free := F.un.free
  there := fun b o q hx => by
    obtain ⟨o1, q1⟩ := F.un.there b o q hx
    by_cases hb : b ∈ frs outer
    · obtain ⟨_, o2, q2, nd⟩ := F.fly.2.2.1.mem hb
      rw [q1] at q2; cases q2
      obtain ⟨sl', q3⟩ := u b _ q1 nd
      exact ⟨_, q3⟩
    · exact ⟨o1, k b o1 (F.cond b o1 q1 hb (.inl ⟨o, q⟩))⟩
  tups := F.un.tups
  frzs := F.un.frzs
  tbls := F.un.tbls
theorem Flown.trk (F : Flown P w outer H s H' s' B e cls a0 dv) (k : B.StaysIn h') : ∀ b o, H' b ≠ none → s'.heap.get? b = some o → h'.get? b = some o := fun b o n q =>
  k b o (F.cond b o q (fun hb => n (F.frf b hb)) (.inr n))
theorem Flown.hokh (F : Flown P w outer H s H' s' B e cls a0 dv) (k : B.StaysIn h') : HOk P w H' h' := fun a o q =>
  (F.hok a o q).stay (fun b u hb z => F.trk k b u (by
    rcases hb with rfl | hb
    · rw [q]; exact fun z => nomatch z
    · rw [hb]; exact fun z => nomatch z) z) (fun _ z => z) fun _ _ z => z
theorem Flown.go (F : Flown P w outer H s H' s' B e cls a0 dv) (x : Heap.FlyingW B outer e cls a0 h') (u : s'.heap.UpToSlots h') (dc : Dic h' e dv) : Flown P w outer H s H' { s' with heap := h' } B e cls a0 dv where
  os := F.os
  bare := F.bare
  un := F.unh x.1 u
  hok := F.hokh x.1
  fly := x
  cond := fun b o q hb hc => by
    have back : ∀ o', s'.heap.get? b = some o' → B.get? b = some o := fun o' q' => by
      have z := F.cond b o' q' hb hc
      have z' := x.1 b o' z
      have q2 : h'.get? b = some o := q
      rw [z'] at q2; cases q2
      exact z
    rcases id hc with ⟨o1, q1⟩ | n
    · obtain ⟨o2, q2⟩ := F.un.there b o1 q1 (by simp)
      exact back o2 q2
    · obtain ⟨o2, q2⟩ := F.hok.there n
      exact back o2 q2
  frf := F.frf
  dic := dc
theorem Flown.enew (F : Flown P w outer H s H' s' B e cls a0 dv) : s.heap.get? e = none ∧ H' e = none := by
  have ne := fly_notframe F.fly
  obtain ⟨oe, q, _⟩ := F.fly.there
  constructor
  · cases z : s.heap.get? e with
    | none => rfl
    | some o => have := F.cond e oe q ne (.inl ⟨o, z⟩); rw [F.fly.2.1] at this; cases this
  · cases z : H' e with
    | none => rfl
    | some o => have := F.cond e oe q ne (.inr (by rw [z]; exact fun z => nomatch z)); rw [F.fly.2.1] at this; cases this
end
def excD (e : Addr) (cls : Value) (dv : Option Addr) : HO := .ext fun h => ∃ oe ws, h.get? e = some oe ∧ oe.cls = cls ∧ oe.data = .fields ws ∧ oe.dict = dv ∧ ws[2]? = some Value.none
theorem excD_ok {P : Program} {w : World} {H : Hp} {h : Heap} {e : Addr} {cls : Value} {dv : Option Addr} {oe : Obj} {ws : Array Value} (q : h.get? e = some oe) (c : oe.cls = cls) (d : oe.data = .fields ws) (y : oe.dict = dv) (cx : ws[2]? = some Value.none) : ObjOk P w H h e (excD e cls dv) :=
  ⟨⟨oe, ws, q, c, d, y, cx⟩, ⟨oe, q⟩, fun _ _ ⟨o, v, q, c, d, y, cx⟩ k => ⟨o, v, k o q, c, d, y, cx⟩⟩
section
variable {X : Cx} {pins : List (Addr × Obj)} {σ : St} {H H' : Hp} {s s' : Shared} {B : Heap} {e : Addr} {cls a0 : Value} {dv : Option Addr}
theorem Flown.inv (F : Flown X.prog X.w X.stack H s H' s' B e cls a0 dv) (I : Inv X pins σ H s) : Inv X pins σ (upd H' e (excD e cls dv)) s' := by
  obtain ⟨n1, n2⟩ := F.enew
  obtain ⟨oe, ws, he, hc, hd, _⟩ := F.fly.first
  obtain ⟨oe', ws', he', hdv, hd', hcx⟩ := F.dic
  rw [he] at he'; cases he'
  rw [hd] at hd'; cases hd'
  refine I.call' (ch := []) F.os ⟨F.un.keep, F.un.slot, fun b o q n hx => ?_, F.un.there, fun b xs q => ?_, fun b o u q => ?_, fun b ps q => ?_⟩ (fun b u q => ?_) F.bare (fun b z => absurd z (by simp))
  · rw [upd_ne (by rintro rfl; rw [n1] at q; cases q)]
    exact F.un.free b o q n hx
  · rw [upd_ne (by rintro rfl; have := F.un.tups _ _ q; rw [n2] at this; cases this)]
    exact F.un.tups b xs q
  · rw [upd_ne (by rintro rfl; have := F.un.frzs _ _ _ q; rw [n2] at this; cases this)]
    exact F.un.frzs b o u q
  · obtain ⟨m, z⟩ := F.un.tbls b ps q
    exact ⟨m, by rw [upd_ne (by rintro rfl; rw [n2] at z; cases z)]; exact z⟩
  · by_cases hb : b = e
    · subst hb
      rw [upd_same] at q; cases q
      exact excD_ok he hc hd hdv hcx
    · rw [upd_ne hb] at q
      exact (F.hok b u q).stay (fun _ _ _ z => z) (fun c z => by rw [upd_ne (ne_of_none z n2)]; exact z) fun c xs z => by rw [upd_ne (ne_of_none z n2)]; exact z
end
section
variable {P : Program} {w : World} {K : PySem.W.Frag} {mg : Str → Option Value} {base : Heap} {N : List Str} {qual : Str} {scope : Scope} {f : Addr} {cd : Value} {A : Around} {outer : List Env} {s : Shared} {H : Hp} {E : XK}
  {pins : List (Addr × Obj)} {σ : St} {H1 : Hp} {s1 : Shared}
theorem cx_frames (I : Inv (cxOf (CXe P w) P w K mg base N qual scope f cd A outer s H E) pins σ H1 s1) : (A.deeper (envOfC qual scope s.heap.objs.size f cd)).frames = some (envOfC qual scope s.heap.objs.size f cd :: outer) := I.ok.frames
theorem xe_core {e : Addr} {ob : Obj} {ws : Array Value} {a0 : Value} (gf : (A.deeper (envOfC qual scope s.heap.objs.size f cd)).frames = some (envOfC qual scope s.heap.objs.size f cd :: outer)) (os : s1.os = s.os) (bare : AllBare s1.gens) (un1 : Un (frs outer) [] H H1 s.heap s1.heap) (hok : HOk P w H1 s1.heap)
    (fr0 : s1.heap.FunFrames base (envOfC qual scope s.heap.objs.size f cd :: outer)) (free1 : ∀ b ∈ frs (envOfC qual scope s.heap.objs.size f cd :: outer), H1 b = none) (ge : s1.heap.get? e = some ob) (od : ob.data = .fields ws) (w1 : ws[1]? = some .none) (w0 : ws[0]? = some a0) (w2 : ws[2]? = some Value.none)
    (en : s.heap.get? e = none) (eH : H1 e = none) (q : E ob.cls ob.dict H1) :
    wpAny (model P w) (A.deeper (envOfC qual scope s.heap.objs.size f cd)) (leaving (envOfC qual scope s.heap.objs.size f cd) (.ref e)) (fun _ s'' => CXe P w outer H s E (.ref e) s'') (fun e' s'' => CXe P w outer H s E e' s'') s1 := by
  have fsE : frs (envOfC qual scope s.heap.objs.size f cd :: outer) = s.heap.objs.size :: frs outer := rfl
  have hin : ∀ env ∈ (envOfC qual scope s.heap.objs.size f cd :: outer), ∀ b, env.frame = some b → b ∈ e :: frs (envOfC qual scope s.heap.objs.size f cd :: outer) := fun env he b hb => List.mem_cons_of_mem _ (List.mem_filterMap.mpr ⟨env, he, hb⟩)
  refine leaves_first (B := PySem.W.hideAll s1.heap (e :: frs (envOfC qual scope s.heap.objs.size f cd :: outer))) (L := s.heap.objs.size) gf rfl (PySem.W.funFrames_hide fr0 hin) (fun b o z => PySem.W.of_hideAll _ z) (PySem.W.hideAll_none _ List.mem_cons_self) ge od w1 w0 w2 fun h2 fl dc up => ?_
  have inB : ∀ b o, s1.heap.get? b = some o → b ≠ e → b ∉ frs (envOfC qual scope s.heap.objs.size f cd :: outer) → (PySem.W.hideAll s1.heap (e :: frs (envOfC qual scope s.heap.objs.size f cd :: outer))).get? b = some o := fun b o z n1 n => PySem.W.hideAll_get _ z fun m => by
    rcases List.mem_cons.mp m with y | y
    · exact n1 y
    · exact n y
  have olde : ∀ b o, s.heap.get? b = some o → b ≠ e := fun b o z y => by rw [y, en] at z; cases z
  have old : ∀ b o, s.heap.get? b = some o → b ∉ frs outer → b ∉ frs (envOfC qual scope s.heap.objs.size f cd :: outer) := fun b o z n hm => by
    rw [fsE] at hm
    rcases List.mem_cons.mp hm with rfl | hm
    · exact absurd (Heap.lt_size z) (Nat.lt_irrefl _)
    · exact n hm
  have slots : ∀ b o, s1.heap.get? b = some o → b ∈ frs outer → ∃ sl, h2.get? b = some { o with slots := sl } := fun b o z hb => by
    obtain ⟨_, o2, q2, nd⟩ := fr0.mem (b := b) (by show b ∈ frs _; rw [fsE]; exact List.mem_cons_of_mem _ hb)
    rw [z] at q2; cases q2
    exact up b o z nd
  have keepT : ∀ b o, H1 b ≠ none → s1.heap.get? b = some o → h2.get? b = some o := fun b o n z => fl.1 b o (inB b o z (fun y => n (y ▸ eH)) fun hm => n (free1 b hm))
  refine ⟨e, ob.cls, a0, ob.dict, H1, _, rfl, ⟨os, bare, ⟨fun b o z n hb hx' => ?_, fun b o z n hb hx' => ?_, un1.free, fun b o z hx' => ?_, un1.tups, un1.frzs, un1.tbls⟩, fun a o z => ?_, fl, fun b o z hb hc => ?_, fun b hb => ?_, dc⟩, q⟩
  · exact fl.1 b o (inB b o (un1.keep b o z n hb hx') (olde b o z) (old b o z hb))
  · obtain ⟨sl, z1⟩ := un1.slot b o z n hb hx'
    obtain ⟨sl', z2⟩ := slots b _ z1 hb
    exact ⟨sl', z2⟩
  · obtain ⟨o1, z1⟩ := un1.there b o z hx'
    by_cases hb : b ∈ frs outer
    · obtain ⟨sl', z2⟩ := slots b _ z1 hb
      exact ⟨_, z2⟩
    · exact ⟨o1, fl.1 b o1 (inB b o1 z1 (olde b o z) (old b o z hb))⟩
  · refine (hok a o z).stay (fun b u hb y => keepT b u ?_ y) (fun _ y => y) fun _ _ y => y
    rcases hb with rfl | hb
    · rw [z]; exact fun y => nomatch y
    · rw [hb]; exact fun y => nomatch y
  · have back : ∀ o', s1.heap.get? b = some o' → b ≠ e → b ∉ frs (envOfC qual scope s.heap.objs.size f cd :: outer) → (PySem.W.hideAll s1.heap (e :: frs (envOfC qual scope s.heap.objs.size f cd :: outer))).get? b = some o := fun o' y ne nb => by
      have y1 := inB b o' y ne nb
      have y2 := fl.1 b o' y1
      have z2 : h2.get? b = some o := z
      rw [y2] at z2; cases z2
      exact y1
    rcases hc with ⟨o1, z1⟩ | n
    · obtain ⟨o2, z2⟩ := un1.there b o1 z1 (by simp)
      exact back o2 z2 (olde b o1 z1) (old b o1 z1 hb)
    · obtain ⟨o2, z2⟩ := hok.there n
      exact back o2 z2 (fun y => n (y ▸ eH)) fun hm => n (free1 b hm)
  · exact free1 b (by rw [fsE]; exact List.mem_cons_of_mem _ hb)
theorem xe_raise {h' : Heap} {e : Addr} {cls : Value} {vs : List Value} (I : Inv (cxOf (CXe P w) P w K mg base N qual scope f cd A outer s H E) pins σ H1 s1) (hx : Heap.MadeExcOf s1.heap h' e cls vs) (q : E cls none H1) :
    (cxOf (CXe P w) P w K mg base N qual scope f cd A outer s H E).xe (.ref e) { s1 with heap := h' } := by
  have un1 : Un (frs outer) [] H H1 s.heap s1.heap := I.base
  obtain ⟨t, ge, _, _⟩ := hx.there
  have new : ∀ b o, s1.heap.get? b = some o → b ≠ e := fun b o z y => by rw [y, hx.new] at z; cases z
  have eH : H1 e = none := by
    cases z : H1 e with
    | none => rfl
    | some o => obtain ⟨u, y⟩ := I.hok.there (a := e) (by rw [z]; exact fun y => nomatch y); rw [hx.new] at y; cases y
  refine xe_core (s1 := { s1 with heap := h' }) (w0 := rfl) (cx_frames I) I.os I.bare ⟨fun b o z n hb hx' => hx.keeps _ _ (un1.keep b o z n hb hx'), fun b o z n hb hx' => ?_, un1.free, fun b o z hx' => ?_, un1.tups, un1.frzs, un1.tbls⟩ (I.hok.kept hx.keeps)
    ((show s1.heap.FunFrames base (envOfC qual scope s.heap.objs.size f cd :: outer) from I.stack).of_keeps fun b o z _ => ⟨o, hx.keeps b o z, rfl⟩) I.stkFree ge rfl rfl (w2 := rfl) ?_ eH q
  · obtain ⟨sl, y⟩ := un1.slot b o z n hb hx'
    exact ⟨sl, hx.keeps _ _ y⟩
  · obtain ⟨o1, y⟩ := un1.there b o z hx'
    exact ⟨o1, hx.keeps _ _ y⟩
  · cases z : s.heap.get? e with
    | none => rfl
    | some o => obtain ⟨o1, y⟩ := un1.there e o z (by simp); rw [hx.new] at y; cases y
theorem xe_pass {ev : Value} {s' : Shared} (I : Inv (cxOf (CXe P w) P w K mg base N qual scope f cd A outer s H E) pins σ H1 s1) (h : CXe P w (envOfC qual scope s.heap.objs.size f cd :: outer) H1 s1 E ev s') :
    (cxOf (CXe P w) P w K mg base N qual scope f cd A outer s H E).xe ev s' := by
  obtain ⟨e, cls, a0, dv, H', B, rfl, F, q⟩ := h
  show wpAny (model P w) (A.deeper (envOfC qual scope s.heap.objs.size f cd)) (leaving (envOfC qual scope s.heap.objs.size f cd) (.ref e)) (fun _ s'' => CXe P w outer H s E (.ref e) s'') (fun e' s'' => CXe P w outer H s E e' s'') s'
  have fsE : frs (envOfC qual scope s.heap.objs.size f cd :: outer) = s.heap.objs.size :: frs outer := rfl
  have un1 : Un (frs outer) [] H H1 s.heap s1.heap := I.base
  have old : ∀ b o, s.heap.get? b = some o → b ∉ frs outer → b ∉ frs (envOfC qual scope s.heap.objs.size f cd :: outer) := fun b o z n hm => by
    rw [fsE] at hm
    rcases List.mem_cons.mp hm with rfl | hm
    · exact absurd (Heap.lt_size z) (Nat.lt_irrefl _)
    · exact n hm
  refine leaves_next (L := s.heap.objs.size) (cx_frames I) rfl F.fly F.dic fun h2 fl dc up => ?_
  have un2 := F.unh fl.1 up
  have sub : ∀ b, b ∈ frs outer → b ∈ frs (envOfC qual scope s.heap.objs.size f cd :: outer) := fun b hb => by rw [fsE]; exact List.mem_cons_of_mem _ hb
  refine ⟨e, cls, a0, dv, H', B, rfl, ⟨F.os.trans I.os, F.bare, ⟨fun b o z n hb hx' => ?_, fun b o z n hb hx' => ?_, fun b o z n hx' => ?_, fun b o z hx' => ?_, fun b xs z => F.un.tups b xs (un1.tups b xs z), fun b o u z => F.un.frzs b o u (un1.frzs b o u z), fun b ps z => ?_⟩, F.hokh fl.1, fl, fun b o z hb hc => ?_, fun b hb => F.frf b (sub b hb), dc⟩, q⟩
  · exact un2.keep b o (un1.keep b o z n hb hx') (un1.free b o z n hx') (old b o z hb) hx'
  · obtain ⟨sl, z1⟩ := un1.slot b o z n hb hx'
    obtain ⟨sl', z2⟩ := un2.slot b _ z1 (un1.free b o z n hx') (sub b hb) hx'
    exact ⟨sl', z2⟩
  · obtain ⟨o1, z1⟩ := un1.there b o z hx'
    exact F.un.free b o1 z1 (un1.free b o z n hx') hx'
  · obtain ⟨o1, z1⟩ := un1.there b o z hx'
    exact un2.there b o1 z1 hx'
  · obtain ⟨m1, z1⟩ := un1.tbls b ps z
    obtain ⟨m2, z2⟩ := F.un.tbls b _ z1
    exact ⟨m1 ++ m2, by rw [z2, Array.append_assoc]⟩
  · rcases hc with ⟨o1, z1⟩ | n
    · obtain ⟨o2, z2⟩ := un1.there b o1 z1 (by simp)
      exact (F.go (h' := h2) ⟨fl.1, fl.2.1, (F.fly.2.2.1.of_keeps fun c oc yc nd => by obtain ⟨sl, y⟩ := up c oc yc nd; exact ⟨_, y, rfl⟩), fl.2.2.2⟩ up dc).cond b o z (old b o1 z1 hb) (.inl ⟨o2, z2⟩)
    · refine (F.go (h' := h2) ⟨fl.1, fl.2.1, (F.fly.2.2.1.of_keeps fun c oc yc nd => by obtain ⟨sl, y⟩ := up c oc yc nd; exact ⟨_, y, rfl⟩), fl.2.2.2⟩ up dc).cond b o z (fun hm => n (F.frf b hm)) (.inr n)
end
theorem passE0 {P : Program} {w : World} {X : Cx} : Passes (CXe P w) X E0 := fun _ _ _ _ _ _ _ ⟨_, _, _, _, _, _, _, _, h⟩ => h.elim
theorem pass_cx {P : Program} {w : World} {K : PySem.W.Frag} {mg : Str → Option Value} {base : Heap} {N : List Str} {qual : Str} {scope : Scope} {f : Addr} {cd : Value} {A : Around} {outer : List Env} {s : Shared} {H : Hp} {E : XK} :
    Passes (CXe P w) (cxOf (CXe P w) P w K mg base N qual scope f cd A outer s H E) E := fun _ _ _ _ _ _ I h => xe_pass I h
end L2
namespace L2
open PySem PySem.Spec PyProof.Rows
theorem exc_obj {K : PySem.W.Frag} {h : Heap} {C : Addr} {bmB : List Value} {newId : String} (kin : K.In h) (yes : PySem.W.excIn K C bmB newId = true) :
    ∃ bm N nm q bs hdct sn sub ab col dd k0 k1 k2 k3 k5 mN, h.get? C = some (excClassObj nm q C N bs bm hdct sn sub ab col dd k0 k1 k2 k3 k5 newId) ∧ h.Ns N mN ∧ mN "__init__" = none ∧ OwnTail h bmB bm := by
  unfold PySem.W.excIn at yes
  split at yes
  case h_2 => cases yes
  case h_1 dict cdat slots found =>
    split at yes
    case h_2 => cases yes
    case h_1 C0 bm0 a0 a1 a2 a3 nid a5 em eslots =>
      simp only [Bool.and_eq_true, beq_iff_eq, Bool.not_eq_true'] at yes
      obtain ⟨⟨⟨⟨⟨y1, y2⟩, y3⟩, y4⟩, y5⟩, y6⟩ := yes
      subst y1 y2
      obtain ⟨f1, f2, f3, f4, f5, f6, f7, f8, f9, f10, f11⟩ := cdat
      dsimp only at em y3 y5 y6
      subst em y3
      obtain ⟨sl⟩ := slots
      dsimp only at eslots
      subst eslots
      have Nn := Heap.Ns.of_isNs (PySem.W.isNs_of_in kin y5)
      exact ⟨bm0, f4, f1, f5, f2, f6, f7, f8, f9, f10, dict, a0, a1, a2, a3, a5, _, kin _ _ found, Nn, PySem.W.ns_none_of kin Nn y6, PySem.W.tail_of_in kin y4⟩
def Raises (X : Cx) (E : XK) : Prop := ∀ (pins : List (Addr × Obj)) (σ : St) (H1 : Hp) (s1 : Shared) (h' : Heap) (e : Addr) (cls : Value) (vs : List Value), Inv X pins σ H1 s1 → Heap.MadeExcOf s1.heap h' e cls vs → E cls none H1 → X.xe (.ref e) { s1 with heap := h' }
theorem raises_cx {P : Program} {w : World} {K : PySem.W.Frag} {mg : Str → Option Value} {base : Heap} {N : List Str} {qual : Str} {scope : Scope} {f : Addr} {cd : Value} {A : Around} {outer : List Env} {s : Shared} {H : Hp} {E : XK} :
    Raises (cxOf (CXe P w) P w K mg base N qual scope f cd A outer s H E) E := fun _ _ _ _ _ _ _ _ I hx q => xe_raise I hx q
def vmro : List Value := [.type "ValueError", .type "Exception", .type "BaseException", .type "object"]
def ExcC (K : PySem.W.Frag) (C : Addr) : Prop := PySem.W.excIn K C vmro "ValueError.__new__" = true
def tRaise (C : Addr) (E : XK) (t : TA) : TS := fun _ σ H => t σ H fun vs H1 => vs.length ≤ sizeLine ∧ E (.ref C) none H1
theorem ps_raise {X : Cx} {E : XK} {x : Str} {C : Addr} {e : Expr} {es : List Expr} {t : TA} {np cpos pos : Pos} (hr : Raises X E) (hc : X.calm = true) (hg : Gl X x) (hm : X.mg x = some (.ref C)) (hC : ExcC X.K C) (ha : PA X (e :: es) t)
    (hdb : (x == ("__debug__" : Str)) = false := by decide) (he : starEach (e :: es) X.env = (false, eval e X.env) :: starEach es X.env := by rfl) (hpl : (backTo cpos (starEach es X.env)).any (·.1) = false := by rfl) :
    PS X (.Raise (some (.Call (.Name x np) (e :: es) [] cpos)) none pos) (tRaise C E t) := by
  intro pins s σ H D I h
  obtain ⟨bm, N, nm, q, bs, hdct, sn, sub, ab, col, dd, k0, k1, k2, k3, k5, mN, gC, gN, gi, gT⟩ := exc_obj I.mod.kin hC
  refine wpAny_Raise_call_subU (C := C) (nm := nm) (q := q) (N := N) (bs := bs) (bm := bm) (hdct := hdct) (sn := sn) (sub := sub) (ab := ab) (col := col) (dd := dd) (k0 := k0) (k1 := k1) (k2 := k2) (k3 := k3) (k5 := k5)
    PySem.F.excBase_ValueError (by decide +kernel) PySem.F.excBase_ValueError (mN := mN) (gT.hasType PySem.F.excBase_ValueError.hasBase) (I.ok.hd hc)
    (by rw [he]; show (false || (backTo cpos (starEach es X.env)).any (·.1)) = false; rw [hpl]; rfl) gi (ld_glob I hg hm ⟨rfl, ?_⟩ hdb)
  have hq := ha cpos pins s σ H _ I h
  rw [he] at hq ⊢
  refine Calls.evalArgs_plain (thn hq fun us s1 ⟨vs, H1, I1, r, z, y⟩ => ⟨rfl, by rw [← r.length]; exact z, I1.bk _ _ gC, gN.keeps I1.bk, gT.keeps I1.bk, fun h' e' hx => ?_⟩)
  exact hr pins σ H1 s1 h' e' _ us I1 hx y
def PassesS (CX : CXT) (X : Cx) (E : St → XK) : Prop := ∀ (pins : List (Addr × Obj)) (σ : St) (H : Hp) (s : Shared) (e : Value) (s' : Shared), Inv X pins σ H s → CX X.stack H s (E σ) e s' → X.xe e s'
def tCallS (sp : Sp) (dvs : List V) (E : St → XK) (t : TA) : TE := fun σ H Q => t σ H fun vs H1 => sp (vs ++ dvs) H1 Q (E σ)
section
variable {X : Cx} {CX : CXT} {k : Nat} {f : Addr} {fd : FuncData} {ps : List Str} {sp : Sp} {dvs : List V} {ds : List Value} {E : St → XK} {x : Str} {p pos : Pos} {e : Expr} {es : List Expr} {t : TA}
theorem pe_callS (F : FnOk X.prog X.w X.K X.mg X.base CX k f fd ps sp) (hr : Room k X.A) (hg : Gl X x) (hm : X.mg x = some (.ref f)) (hk : PySem.W.keepIn X.K (.ref f) = true) (hb : Binds X.K fd ps ds) (hd : Vals dvs ds) (hx : PassesS CX X E)
    (ha : PA X (e :: es) t) (hdb : (x == ("__debug__" : Str)) = false := by decide) (he : starEach (e :: es) X.env = (false, eval e X.env) :: starEach es X.env := by rfl) (hpl : (backTo pos (starEach es X.env)).any (·.1) = false := by rfl) :
    PE X (.Call (.Name x p) (e :: es) [] pos) (tCallS sp dvs E t) := by
  intro pins s σ H Q I h
  refine wpAny_Call_Name_kw (ld_glob I hg hm ?_ hdb)
  refine PySem.W.callWith_K (h₀ := X.base) I.ok.mod.kin hk (thn (ha pos pins s σ H _ I h) fun us s1 ⟨vs, H1, I1, r, q⟩ => ⟨I1.kIn, ?_⟩) he hpl
  have r2 : Vals (vs ++ dvs) (us ++ ds) := r.append hd
  have hl : (us ++ ds).length = ps.length := by rw [← r2.length]; exact F.len _ _ _ _ q
  refine wpAny_call (codeAny_mono (F.run X.A X.stack s1 H1 ⟨us, []⟩ (us ++ ds) (vs ++ dvs) Q (E σ) hr I1.env0 (hb s1 us I1.kIn hl) r2 q) fun r s' hq => ?_)
  cases r with
  | error ev => exact hx pins σ H1 s1 ev s' I1 hq
  | ok fl =>
    cases fl with
    | ret u => exact I1.after hq
    | next => exact False.elim hq
    | brk => exact False.elim hq
    | cont => exact False.elim hq
end
abbrev Cx.tr (X : Cx) (pins : List (Addr × Obj)) (xe : Value → Shared → Prop) : Cx := { X with pn := X.pn ++ pins, xe := xe }
abbrev Cx.su (X : Cx) (e : Addr) : Cx := { X with A := X.A.mark (some (.ref e)), calm := false, xe := fun _ _ => False }
section
variable {X : Cx} {pins pins' : List (Addr × Obj)} {σ : St} {H : Hp} {s : Shared} {xe : Value → Shared → Prop} {e : Addr}
theorem Cx.Ok.tr (ok : X.Ok) : (X.tr pins xe).Ok :=
  ⟨ok.mod, ok.kind, ok.glob, ok.blt, ok.above, ok.inj, ok.has, ok.cab, ok.hd, ok.frames, ok.stk, ok.exf, ok.bs, ok.bsz, ok.noex, ok.exfs, ok.funs, ok.frf⟩
theorem Inv.tr (I : Inv X pins σ H s) : Inv (X.tr pins xe) [] σ H s := ⟨I.ok.tr, I.os, I.bare, I.base, I.loc, I.cell, I.free, I.freeC, fun p hp => I.pin p (by
    have z : p ∈ (X.pn ++ pins) ++ [] := hp
    rw [List.append_nil] at z
    exact z), I.hok, I.len⟩
theorem Inv.untr (ok : X.Ok) (I : Inv (X.tr pins xe) pins' σ H s) : Inv X pins σ H s := ⟨ok, I.os, I.bare, I.base, I.loc, I.cell, I.free, I.freeC, fun p hp => I.pin p (List.mem_append_left _ hp), I.hok, I.len⟩
theorem Cx.Ok.su (ok : X.Ok) : (X.su e).Ok :=
  ⟨ok.mod, ok.kind, ok.glob, ok.blt, ok.above, ok.inj, ok.has, ok.cab, fun z => absurd z Bool.false_ne_true, ok.frames, ok.stk, ok.exf, ok.bs, ok.bsz, ok.noex, ok.exfs, ok.funs, ok.frf⟩
theorem Inv.su (I : Inv X pins σ H s) : Inv (X.su e) pins σ H s := ⟨I.ok.su, I.os, I.bare, I.base, I.loc, I.cell, I.free, I.freeC, I.pin, I.hok, I.len⟩
theorem Inv.unsu (ok : X.Ok) (I : Inv (X.su e) pins σ H s) : Inv X pins σ H s := ⟨ok, I.os, I.bare, I.base, I.loc, I.cell, I.free, I.freeC, I.pin, I.hok, I.len⟩
end
abbrev TH := Value → Option Addr → Ends → St → Hp → Prop
def PH (X : Cx) (hs : List ExceptHandler) (t : TH) : Prop := ∀ (pins : List (Addr × Obj)) (s1 s : Shared) (σ : St) (H1 H : Hp) (D : Ends) (B : Heap) (e : Addr) (cls a0 : Value) (dv : Option Addr), Inv X pins σ H1 s1 → Flown X.prog X.w X.stack H1 s1 H s B e cls a0 dv → t cls dv D σ H →
  wpAny (model X.prog X.w) X.A (handleBy (.ref e) X.env hs) (SP X pins D) X.xe s
def Ends.gone (D : Ends) (i : Nat) : Ends := ⟨fun σ H => D.nx (σ.set i none) H, D.rt, fun σ H => D.bk (σ.set i none) H, fun σ H => D.ct (σ.set i none) H⟩
theorem gone_ok {X : Cx} {pins : List (Addr × Obj)} {σ : St} {H : Hp} {s : Shared} {i : Nat} {n : Str} {pos : Pos} {E : Value → Shared → Prop} {Q : Unit → Shared → Prop} (I : Inv X pins σ H s) (hN : X.N.Nodup) (hi : X.N[i]? = some n) (hl : X.env.kindOf n = some .local)
    (h : ∀ s', Inv X pins (σ.set i none) H s' → Q () s') : wpAny (model X.prog X.w) X.A (do bindName X.env n .none; unbindBehindTheSuite X.env n pos) Q E s := by
  obtain ⟨m, hn, hv⟩ := id I.loc
  have hiσ : i < σ.length := by rw [I.len]; exact (List.getElem?_eq_some_iff.mp hi).1
  refine wpAny_nameGoes_keeps hl hn (by rw [I.ok.kind]; rfl) fun h' v hn' hs => h _ ?_
  have nL : ∀ b o, X.s₀.heap.get? b = some o → b ≠ X.env.locals := fun b o z => Nat.ne_of_lt (Nat.lt_of_lt_of_le (Heap.lt_size z) I.ok.above)
  refine ⟨I.ok, I.os, I.bare, ⟨fun b o z nn hb hx => ?_, fun b o z nn hb hx => ?_, I.base.free, fun b o z hx => ?_, I.base.tups, I.base.frzs, I.base.tbls⟩, ⟨_, hn', fun j y v' e1 e2 e3 => ?_⟩, fun y c z => ?_, I.free, I.freeC, fun p hp => ?_, fun b ob z => ?_, by simpa using I.len⟩
  · exact (hs.2 b (nL b o z)).trans (I.base.keep b o z nn hb hx)
  · obtain ⟨sl, q⟩ := I.base.slot b o z nn hb hx
    exact ⟨sl, (hs.2 b (nL b o z)).trans q⟩
  · obtain ⟨o', q⟩ := I.base.there b o z hx
    exact ⟨o', (hs.2 b (nL b o z)).trans q⟩
  · by_cases hj : j = i
    · subst hj
      rw [List.getElem?_set_self hiσ] at e2
      cases e2
    · rw [List.getElem?_set_ne (Ne.symm hj)] at e2
      obtain ⟨u', r', q⟩ := hv j y v' e1 e2 e3
      refine ⟨u', r', ?_⟩
      rcases q with ⟨k, z⟩ | ⟨k, c, z, y2⟩
      · have ny : y ≠ n := fun z => hj (nodup_ix hN e1 (z ▸ hi))
        exact .inl ⟨k, by simp [ny, z]⟩
      · exact .inr ⟨k, c, z, y2.sameBut hs (I.cne y c z)⟩
  · obtain ⟨w', y2⟩ := I.cell y c z
    exact ⟨w', y2.sameBut hs (I.cne y c z)⟩
  · obtain ⟨z, nn, ne, nf, d⟩ := I.pin p hp
    exact ⟨(hs.2 p.1 ne).trans z, nn, ne, nf, d⟩
  · refine (I.hok b ob z).stay (fun c w' hc q => (hs.2 c ?_).trans q) (fun _ q => q) fun _ _ q => q
    have fr := I.free
    rintro rfl
    rcases hc with rfl | hc
    · rw [fr] at z; cases z
    · rw [fr] at hc; cases hc
theorem exc_ty {X : Cx} {H H1 : Hp} {s s1 : Shared} {B : Heap} {e : Addr} {cls a0 : Value} {dv : Option Addr} (F : Flown X.prog X.w X.stack H1 s1 H s B e cls a0 dv) : PySem.W.Looks (model X.prog X.w) s.heap (typeOf (.ref e)) cls := by
  obtain ⟨oe, q, hc⟩ := F.fly.there
  subst hc
  exact (PySem.W.Looks.ld q).andThen .now
def tH (K : PySem.W.Frag) (c : Value) (i : Nat) (ts : TS) (th : TH) : TH := fun cls dv D σ H =>
  (PySem.W.exmOne K cls c = some true ∧ ∀ e, H e = none → ts (D.gone i) (σ.set i (some (.ref e))) (upd H e (excD e cls dv))) ∨ (PySem.W.exmOne K cls c = some false ∧ th cls dv D σ H)
theorem ph_as {X : Cx} {x n : Str} {c : Value} {i : Nat} {b₀ : Stmt} {suite : List Stmt} {rest : List ExceptHandler} {ts : TS} {th : TH} {np pos : Pos} (hN : X.N.Nodup) (hi : X.N[i]? = some n) (hl : X.env.scope.names.lookup n = some .local)
    (hc : ∀ (A : Around) (E : Value → Shared → Prop) (Q : Value → Shared → Prop) (pins : List (Addr × Obj)) (σ : St) (H : Hp) (s : Shared), Inv X pins σ H s → Q c s → wpAny (model X.prog X.w) A (eval (.Name x np) X.env) Q E s)
    (hsu : ∀ e, PSs (X.su e) (b₀ :: suite) ts) (hr : PH X rest th) : PH X (.ExceptHandler (some (.Name x np)) (some n) (b₀ :: suite) pos :: rest) (tH X.K c i ts th) := by
  intro pins s1 s σ H1 H D B e cls a0 dv I F h
  have I2 := F.inv I
  refine wpAny_handleBy_cons (codeAny_handlers_test (hc _ _ _ pins σ _ s I2 ?_)) (by intro q; cases q)
  rcases h with ⟨yes, hs⟩ | ⟨no, hs⟩
  · refine (PySem.W.exm_one I2.kIn (exc_ty F) yes).here ?_
    refine codeAny_handlers_suite_as ?_
    refine lands_againD F.fly F.dic fun h2 fl dc up => ?_
    have F3 := F.go fl up dc
    have I3 := F3.inv I
    refine store_ok (X := X.su e) (v := .ref e) I3.su hN hi (.inl hl) rfl (fun s4 I4 => ?_) (.inr hl)
    refine wpAny_mono (hsu e pins s4 _ _ _ I4 (hs e F.enew.2)) (fun f s5 q5 => ?_) fun _ _ z => False.elim z
    cases f with
    | next =>
      obtain ⟨σ5, H5, I5, q5⟩ := q5
      exact gone_ok (I5.unsu I.ok) hN hi hl fun s6 I6 => ⟨_, H5, I6, q5⟩
    | brk =>
      obtain ⟨σ5, H5, I5, q5⟩ := q5
      exact gone_ok (I5.unsu I.ok) hN hi hl fun s6 I6 => ⟨_, H5, I6, q5⟩
    | cont =>
      obtain ⟨σ5, H5, I5, q5⟩ := q5
      exact gone_ok (I5.unsu I.ok) hN hi hl fun s6 I6 => ⟨_, H5, I6, q5⟩
    | ret u =>
      obtain ⟨v5, σ5, H5, I5, r5, q5⟩ := q5
      exact gone_ok (I5.unsu I.ok) hN hi hl fun s6 I6 => ⟨v5, _, H5, I6, r5, q5⟩
  · refine (PySem.W.exm_one I2.kIn (exc_ty F) no).here ?_
    exact hr pins s1 s σ H1 H D B e cls a0 dv I F hs
def tHno : TH := fun _ _ _ _ _ => False
theorem ph_no {X : Cx} {hs : List ExceptHandler} : PH X hs tHno := fun _ _ _ _ _ _ _ _ _ _ _ _ _ _ h => h.elim
def tTry (tb : (St → XK) → TS) (th : TH) : TS := fun D σ H => tb (fun σ' cls dv H' => th cls dv D σ' H') D σ H
theorem ps_try {X : Cx} {body : List Stmt} {h0 : ExceptHandler} {hs : List ExceptHandler} {tb : (St → XK) → TS} {th : TH} {pos : Pos} (hst : X.stack = X.env :: X.outer) (hfr : X.env.frame = some X.env.locals)
    (hb : ∀ (pins : List (Addr × Obj)) (xe : Value → Shared → Prop) (E : St → XK), PassesS (CXe X.prog X.w) (X.tr pins xe) E → PSs (X.tr pins xe) body (tb E)) (hh : PH X (h0 :: hs) th) : PS X (.Try body (h0 :: hs) [] [] pos) (tTry tb th) := by
  intro pins s σ H D I h
  have pass : PassesS (CXe X.prog X.w) (X.tr pins fun ev s1 => wpAny (model X.prog X.w) X.A (noteFrame ev X.env) (fun _ s2 => wpAny (model X.prog X.w) X.A (setFlight ev none) (fun _ s3 => wpAny (model X.prog X.w) X.A (handleBy ev X.env (h0 :: hs)) (SP X pins D) X.xe s3) X.xe s2) X.xe s1)
      (fun σ' cls dv H' => th cls dv D σ' H') := by
    intro pins' σ' H' s' ev s'' I' hx
    obtain ⟨e, cls, a0, dv, H2, B, rfl, F, q⟩ := hx
    have F : Flown X.prog X.w X.stack H' s' H2 s'' B e cls a0 dv := F
    have fl0 := F.fly
    rw [hst] at fl0
    refine note_next (by rw [I.ok.frames, hst]) hfr fl0 F.dic fun h4 held dc4 up4 => ?_
    refine lands_dic held dc4 fun h5 fl5 dc5 up5 => ?_
    rw [← hst] at fl5
    exact hh pins s' _ σ' H' H2 D B e cls a0 dv (I'.untr I.ok) (F.go fl5 (up4.trans up5) dc5) q
  refine wpAny_Try_except (wpAny_mono (hb pins _ _ pass [] s σ H D I.tr h) (fun f s1 q1 => ?_) fun _ _ z => z)
  cases f with
  | next =>
    obtain ⟨σ1, H1, I1, q1⟩ := q1
    exact wpAny_execs_nil ⟨σ1, H1, I1.untr I.ok, q1⟩
  | brk => obtain ⟨σ1, H1, I1, q1⟩ := q1; exact ⟨σ1, H1, I1.untr I.ok, q1⟩
  | cont => obtain ⟨σ1, H1, I1, q1⟩ := q1; exact ⟨σ1, H1, I1.untr I.ok, q1⟩
  | ret u => obtain ⟨v1, σ1, H1, I1, r1, q1⟩ := q1; exact ⟨v1, σ1, H1, I1.untr I.ok, r1, q1⟩
end L2
namespace L2
open PySem PySem.Spec PyProof.Rows PySem.Builtin PySem.Builtin.ObjectAttr PySem.Builtin.Getset_descriptor PySem.W
structure XCls (K : Frag) (C : Addr) : Prop where
  ga : findIn K (.ref C) "__getattribute__" = some (some (.builtin "BaseException.__getattribute__"))
  gt : findIn K (.ref C) "__getattr__" = some none
  be : mroIn K C (.type "BaseException") = some true
  ob : mroIn K C (.type "object") = some true
  cl : findIn K (.ref C) "__class__" = some (some (.builtin "object.__class__"))
  gs : specialIn K (.builtin "object.__class__") "__get__" = some (some (.builtin "getset_descriptor.__get__"))
  tk : takesIn K (.builtin "object.__class__") = some true
  is : (clsIn K C).isSome = true
section
variable {prog : Program} {w : World} {A : Around} {E : Value → Shared → Prop} {s : Shared} {K : Frag} {x C : Addr} {ox : Obj} {od : Option Obj} {name : Str}
theorem exc_check {nameV : Value} {Q : Unit → Shared → Prop} (kin : K.In s.heap) (L : ∀ M : Model, Looks M s.heap (typeOf (.ref x)) (.ref C)) (c : XCls K C) (h : Q () s) : wpAny (model prog w) A (checkBuiltinCall "BaseException.__getattribute__" ⟨[.ref x, nameV], []⟩) Q E s := by
  obtain ⟨hh, g, d, t, os⟩ := s
  have hk : builtinKind "BaseException.__getattribute__" = some .slot := by decide +kernel
  have hsplit : splitId "BaseException.__getattribute__" = some ("BaseException", "__getattribute__") := by decide +kernel
  have ha := F.args_bexc_ga (.ref x) nameV
  have L0 := L (model prog w)
  have L1 : Looks (model prog w) hh (isInstance (.ref x) (.type "BaseException")) true := L0.andThen (looks_mroIn kin c.be)
  simp only [checkBuiltinCall, hk, hsplit]
  refine wpAny_bind (L1.at ?_)
  rw [if_neg (by decide)]
  exact wpAny_of_eq ha h
theorem exc_by {tk : Tok} {fill expr : Bool} {Q : Value → Shared → Prop} (kin : K.In s.heap) (L : ∀ M : Model, Looks M s.heap (typeOf (.ref x)) (.ref C)) (c : XCls K C)
    (h : wpAny (model prog w) A.in1 (Builtin.«object.__getattribute__» ⟨[.ref x, .str name tk], []⟩) (fun fin s' => match fin with | .done (.ret v) => handedIn v = true ∧ Q v s' | _ => False) (fun _ _ => False) s) :
    wpAny (model prog w) A (getAttrBy (.ref x) (.str name tk) fill expr) Q E s := by
  obtain ⟨hh, g, d, t, os⟩ := s
  have L0 := L (model prog w)
  have L1 := looks_findIn (M := model prog w) kin c.ga
  have L2 := looks_findIn (M := model prog w) kin c.gt
  unfold getAttrBy
  refine wpAny_holding (wpAny_bind (L0.at (wpAny_bind (L1.at ?_))))
  show wpAny _ _ (getAttrByItsOwn _ _ _ _ _ _) _ _ _
  unfold getAttrByItsOwn
  refine wpAny_bind ?_
  show wpAny _ _ (typeLookup (.ref C) "__getattr__") _ _ _
  refine L2.at ?_
  refine wpAny_bind (wpAny_attempt (wpAny_holding ?_))
  have e1 : callGetattribute (.ref x) (.str name tk) (.builtin "BaseException.__getattribute__") expr = boundAndCalled (.builtin "BaseException.__getattribute__") (.ref x) (.str name tk) := by
    unfold callGetattribute
    cases expr <;> rfl
  rw [e1]
  unfold boundAndCalled
  refine wpAny_bind (wpAny_of_eq (PySem.F.attr_ValueError.ga.bind _) ?_)
  refine wpAny_call (codeAny_call_builtin PySem.F.attr_ValueError.ga.plain F.entry_bexc_ga (exc_check (nameV := .str name tk) kin L c ?_))
  refine wpAny_mono h (fun fin s' z => ?_) fun _ _ z => False.elim z
  rcases fin with (_ | _ | _ | _) | _ <;> first | exact z.elim | skip
  exact handed_on z.1 z.2
theorem exc_find_cls {M : Model} {h : Heap} (kin : K.In h) (c : XCls K C) : Looks M h (find (.ref x) (.ref C) "__class__") (.bind (.builtin "getset_descriptor.__get__") (.builtin "object.__class__")) :=
  (looks_findIn kin c.cl).andThen ((show Looks M h (getOf (some (.builtin "object.__class__"))) (some (.builtin "getset_descriptor.__get__")) from looks_specialIn kin c.gs).andThen
    ((show Looks M h (dataDescriptor? (some (.builtin "object.__class__")) (some (.builtin "getset_descriptor.__get__"))) (some (_, _)) from (looks_takesIn kin c.tk).andThen .now).andThen (Looks.tag .now)))
theorem exc_cls_get {tp : Value} {R : Result → Shared → Prop} (kin : K.In s.heap) (L : ∀ M : Model, Looks M s.heap (typeOf (.ref x)) (.ref C)) (c : XCls K C) (q : R (.ok (.ret (.ref C))) s) :
    codeAny (model prog w) A (.call (.builtin "getset_descriptor.__get__") ⟨[.builtin "object.__class__", .ref x, tp], []⟩) R s := by
  obtain ⟨hh, g, dr, t, os⟩ := s
  have T0 := L (model prog w)
  have T1 := looks_mroIn (M := model prog w) kin c.ob
  refine codeAny_call_builtin KF.slot_gs.plain KF.entry_gs (KF.slot_gs.check _ _ _ _ _ _ _ _ KF.type_class (KF.args_gs _ _ _) ?_)
  unfold Builtin.«getset_descriptor.__get__» descrGet
  rw [dga_obj]
  refine wpAny_bind (wpAny_pure ?_)
  unfold descrGetter
  unfold descrCheckInstance descrNameAndClass isInstance
  simp only [KF.owner_class]
  repeat lk
  refine And.intro (Code.quiet_builtin _ (by decide +kernel)) (codeAny_builtin KF.entry_class ?_)
  unfold Builtin.«object.__class__»
  unfold shownTypeOf
  repeat lk
  exact q
theorem exc_ca {Q : Option Value → Shared → Prop} (kin : K.In s.heap) (L : ∀ M : Model, Looks M s.heap (typeOf (.ref x)) (.ref C)) (c : XCls K C) (q : Q (some (.ref C)) { s with toks := s.toks + 1 }) :
    wpAny (model prog w) A (getAttr? (.ref x) "__class__") Q E s := by
  unfold getAttr? getAttrBy?
  refine wpAny_bind (wpAny_mkText (wpAny_bind (wpAny_attempt ?_)))
  refine exc_by (s := { s with toks := s.toks + 1 }) kin L c ?_
  obtain ⟨hh, g, dr, t, os⟩ := s
  have T0 := L (model prog w)
  have T1 := exc_find_cls (x := x) (M := model prog w) kin c
  unfold Builtin.«object.__getattribute__»
  refine wpAny_bind (wpAny_pure (wpAny_bind (wpAny_pure (wpAny_bind (T0.at (wpAny_bind (T1.at ?_)))))))
  show wpAny _ _ (bindTo _ _ _ _) _ _ _
  unfold bindTo
  dsimp only
  refine wpAny_bind (wpAny_holding (wpAny_call (exc_cls_get (s := ⟨hh, g, dr, t + 1, os⟩) kin L c ?_)))
  exact wpAny_pure ⟨rfl, wpAny_pure q⟩
end
def excIs (e : Addr) (cls : Value) (h : Heap) : Prop := ∃ oe ws, h.get? e = some oe ∧ oe.cls = cls ∧ oe.data = .fields ws
theorem excIs.ty {M : Model} {e : Addr} {cls : Value} {h : Heap} (p : excIs e cls h) : Looks M h (typeOf (.ref e)) cls := by
  obtain ⟨oe, ws, q, hc, _⟩ := p
  subst hc
  exact (Looks.ld q).andThen .now
theorem kitx_exc {K : Frag} {e C : Addr} (c : XCls K C) : KitX K (.ref e) (.ref C) (excIs e (.ref C)) where
  ty := fun _ _ _ p => p.ty
  it := fun _ _ kin _ => by
    have z := c.is
    unfold clsIn at z
    split at z
    · rename_i ho
      intro A' Q' E' s' k q
      unfold isType loadHead
      exact wpAny_bind (wpAny_loadPart (k _ _ (kin _ _ ho)) (wpAny_pure q))
    · cases z
  ne := fun h tp dd its n sl kin htp => by
    refine Bool.eq_false_iff.mpr fun q => ?_
    have z := c.is
    cases Value.ref.inj (beq_iff_eq.mp q)
    unfold clsIn at z
    split at z
    · rename_i ho
      cases (kin _ _ ho).symm.trans htp
    · cases z
  ca := fun kin p k => exc_ca kin (fun M => p.ty) c k
inductive TyX (K : Frag) (H : Hp) : V → Value → Prop where
  | of {x : V} {t : Value} (h : TyOf K H x t) : TyX K H x t
  | exc {a C : Addr} {dv : Option Addr} (e : H a = some (excD a (.ref C) dv)) (c : XCls K C) : TyX K H (.ref a) (.ref C)
def clsV : V → Option Value
  | .ref C => some (.ref C)
  | .ty n => some (.type n)
  | _ => none
def rIsi (K : Frag) : List V → Hp → VK → Prop := fun xs H Q => ∃ x c cv t b, xs = [x, c] ∧ clsV c = some cv ∧ TyX K H x t ∧ kitOne K t cv = some b ∧ Q (.bl b) H
theorem call_isi {X : Cx} : CallR X (.builtin "isinstance") (rIsi X.K) := by
  intro pins s σ H xs us Q I r h
  obtain ⟨x, c, cv, t, b, rfl, hc, ty, hk, q⟩ := h
  obtain ⟨u, u', rfl, r1, r2⟩ := vals2 r
  have e2 : u' = cv := by
    cases c with
    | ref C => cases hc; exact r2
    | ty n => cases hc; exact r2
    | _ => cases hc
  subst e2
  have fin : ∀ tk, EP X pins σ Q (.bool b) { s with toks := tk } := fun tk => ⟨.bl b, H, I.tok tk, rfl, q⟩
  cases ty with
  | of z => exact isinst_ok I r1 z hk fin
  | @exc a C dv ea c =>
    cases (show u = Value.ref a from r1)
    obtain ⟨⟨oe, ws, p1, p2, p3, _⟩, _, _⟩ := (show ObjOk X.prog X.w H s.heap a (excD a (.ref C) dv) from I.hok a _ ea)
    exact kia_one (kitx_exc c) I.kIn ⟨oe, ws, p1, p2, p3⟩ hk (fun z => nomatch z) fin
end L2
namespace L2
open PySem PySem.Spec PyProof.Rows
structure RoomU (k : Nat) (A : Around) : Prop where
  dp : A.depth + 3 * k + 5 < recursionLimit
  un : A.units + 16 * k + 200 < cLine
theorem RoomU.deeper {k : Nat} {A : Around} (r : RoomU (k + 1) A) (env : Env) : RoomU k (A.deeper env) :=
  ⟨by have := r.dp; show A.depth + 1 + 3 * k + 5 < _; omega, by have := r.un; show A.units + 3 + 16 * k + 200 < _; omega⟩
theorem RoomU.depth {k : Nat} {A : Around} (r : RoomU k A) : A.depth < recursionLimit := by have := r.dp; omega
theorem Room.su {k : Nat} {X : Cx} {e : Addr} (r : Room k X.A) : RoomU k (X.su e).A := ⟨r.dp, r.un⟩
structure FnOkU (P : Program) (w : World) (K : PySem.W.Frag) (mg : Str → Option Value) (base : Heap) (CX : CXT) (k : Nat) (f : Addr) (fd : FuncData) (ps : List Str) (sp : Sp) : Prop where
  len : ∀ vs H Q E, sp vs H Q E → vs.length = ps.length
  run : ∀ (A : Around) (outer : List Env) (s : Shared) (H : Hp) (args : Args) (us : List Value) (vs : List V) (Q : VK) (E : XK), RoomU k A → Env0 P w K mg base A outer s H → BindsTo s fd args (ps.zip us) → Vals vs us → sp vs H Q E →
    codeAny (model P w) A (.call (.ref f) args) (CR CX outer P w H s Q E) s
def cxU (CX : CXT) (P : Program) (w : World) (K : PySem.W.Frag) (mg : Str → Option Value) (base : Heap) (N : List Str) (qual : Str) (scope : Scope) (f : Addr) (cd : Value) (A : Around) (outer : List Env) (s : Shared) (H : Hp) (E : XK) : Cx :=
  { cxOf CX P w K mg base N qual scope f cd A outer s H E with calm := false }
theorem inv_startU {CX : CXT} {P : Program} {w : World} {K : PySem.W.Frag} {mg : Str → Option Value} {base : Heap} {N ps : List Str} {qual : Str} {scope : Scope} {f : Addr} {cd : Value} {A : Around} {outer : List Env} {s s1 : Shared} {H : Hp} {E : XK} {us : List Value} {vs : List V}
    (S : FnScope N ps scope) (e0 : Env0 P w K mg base A outer s H) (hl : vs.length = ps.length) (r : Vals vs us)
    (x : InCallC s s.heap.objs.size (bindL (envOfC qual scope s.heap.objs.size f cd).kindOf (ps.zip us) fun _ => none) (cellsFrom (s.heap.objs.size + 1) scope.names []) (bindC (envOfC qual scope s.heap.objs.size f cd).kindOf (ps.zip us) fun _ => none) s1) :
    Inv (cxU CX P w K mg base N qual scope f cd A outer s H E) [] (start N vs) H s1 := by
  have hpl : ps.length ≤ N.length := by have := congrArg List.length S.pre; rw [List.length_take] at this; omega
  obtain ⟨h1, tk, rfl, hk⟩ := x.done
  have noA : ∀ b : Addr, b ∉ (cxU CX P w K mg base N qual scope f cd A outer s H E).ex := fun b z => absurd (show b ∈ ([] : List Addr) from z) (by simp)
  refine ⟨⟨e0.mod, S.kind, rfl, rfl, Nat.le_refl _, fun y z c h1 h2 => ?_, fun y hy => ?_, fun y c _ h => ?_, fun z => absurd z Bool.false_ne_true, Around.frames_deeper e0.frames, .inr ⟨rfl, rfl⟩, fun b z => absurd z (noA b), e0.bs, e0.bsz, fun b _ _ => noA b, fun b z => absurd z (noA b), e0.funs, e0.frf⟩,
    rfl, e0.bare, Un.kept hk, ⟨_, x.toInCall.ns, fun i y v h1 h2 h3 => ?_⟩, fun y c h => ⟨_, x.cell y c h⟩, e0.hok.fresh (Nat.le_refl _), fun y c h => ?_, fun p hp => absurd (show p ∈ ([] : List (Addr × Obj)) from hp) (by simp), e0.hok.kept hk, ?_⟩
  · exact name_of_addr x.apart (PySem.mem_of_lookup h1) (PySem.mem_of_lookup h2)
  · have hy : scope.names.lookup y = some .cell ∨ scope.names.lookup y = some .free := hy
    rcases hy with hy | hy
    · exact cell_has hy
    · exact absurd rfl (S.nofree _ (PySem.mem_of_lookup hy))
  · exact Nat.le_of_lt (x.above y c (PySem.mem_of_lookup h))
  · have hi : i < vs.length := by
      unfold start at h2
      by_cases hi : i < vs.length
      · exact hi
      · rw [List.getElem?_append_right (by simpa using hi)] at h2
        rw [List.getElem?_replicate] at h2
        split at h2 <;> cases h2
    have ha : vs[i]? = some v := by
      unfold start at h2
      rw [List.getElem?_append_left (by simpa using hi), List.getElem?_map] at h2
      cases e : vs[i]? with
      | none => rw [e] at h2; cases h2
      | some a => rw [e] at h2; cases h2; rfl
    obtain ⟨u, hu, rv⟩ := r.get ha
    have hp : ps[i]? = some y := by
      rw [← S.pre, List.getElem?_take_of_lt (by omega)]; exact h1
    have ndP : ps.Nodup := by rw [← S.pre]; exact S.nd.sublist (List.take_sublist _ _)
    refine ⟨u, rv, ?_⟩
    rcases S.par y (List.mem_of_getElem? hp) with k | k
    · exact .inl ⟨k, bindL_get ndP hp hu k⟩
    · obtain ⟨c, e⟩ := cell_has (n := s.heap.objs.size + 1) k
      refine .inr ⟨.inl k, c, e, ?_⟩
      have q := x.cell y c e
      rw [bindC_get ndP hp hu (by show scope.names.lookup y ≠ _; rw [k]; decide)] at q
      exact q
  · exact e0.hok.fresh (Nat.le_of_lt (x.above y c (PySem.mem_of_lookup h)))
  · unfold start
    show _ = N.length
    rw [List.length_append, List.length_map, List.length_replicate]
    omega
theorem fn_ofU {CX : CXT} {P : Program} {w : World} {K : PySem.W.Frag} {mg : Str → Option Value} {base : Heap} {k : Nat} {f : Addr} {name qual : Str} {params : Arguments} {body : List Stmt} {scope : Scope} {dV kV doc pm cdv ct oc : Value} {an od : Option Addr}
    {osl : Array (Option Value)} {N ps : List Str} {sp : Sp} (lk : K.lookup f = some ⟨oc, od, .func (PySem.W.fnOf name qual params body scope dV kV doc pm an cdv ct), osl⟩) (hcd : PySem.W.codeIn K cdv qual = true) (S : FnScope N ps scope)
    (len : ∀ vs H Q E, sp vs H Q E → vs.length = ps.length)
    (hbody : ∀ (A : Around) (outer : List Env) (s : Shared) (H : Hp) (vs : List V) (Q : VK) (E : XK), RoomU k (A.deeper (envOfC qual scope s.heap.objs.size f cdv)) → sp vs H Q E →
      ∃ t, PSs (cxU CX P w K mg base N qual scope f cdv A outer s H E) body t ∧ t { nx := fun _ H' => Q .non H', rt := Q } (start N vs) H) :
    FnOkU P w K mg base CX (k + 1) f (PySem.W.fnOf name qual params body scope dV kV doc pm an cdv ct) ps sp := by
  refine ⟨len, fun A outer s H args us vs Q E hr e0 hb r hsp => ?_⟩
  have hl := len _ _ _ _ hsp
  have KX : K.In s.heap := e0.mod.kin.keeps fun b o e => (e0.bs b o e).1
  have lim : s.heap.NoLimit := e0.mod.nolimit.keeps fun b o e => (e0.bs b o e).1
  have hkind : ∀ y ∈ ps.zip us, scope.names.lookup y.1 = some .local ∨ (scope.names.lookup y.1 = some .cell ∧ ((cellsFrom (s.heap.objs.size + 1) scope.names []).lookup y.1).isSome = true) := fun ⟨n, v⟩ hy => by
    rcases S.par n (List.of_mem_zip hy).1 with q | q
    · exact .inl q
    · exact .inr ⟨q, PySem.W.cellsFrom_some _ _ _ (.inl q)⟩
  refine codeAny_call_function hr.depth (KX _ _ lk) rfl S.co S.gen rfl (PySem.W.codeRec_of KX hcd) (hb _ _ _ _ ?_)
  refine wpAny_newFunctionEnv_cells S.kind hkind fun env he s1 x => ?_
  subst he
  refine ⟨lim.keeps x.toInCall.keep, codeAny_func ?_⟩
  obtain ⟨t, ht, hq⟩ := hbody A outer s H vs Q E (hr.deeper _) hsp
  have I : Inv (cxU CX P w K mg base N qual scope f cdv A outer s H E) [] (start N vs) H s1 := inv_startU S e0 hl r x
  refine wpAny_mono (ht [] s1 (start N vs) H _ I hq) (fun fl s' hs => ?_) fun e s' hs => hs
  have fin : ∀ {σ' : St} {H' : Hp} {v : V} {u : Value}, Inv (cxU CX P w K mg base N qual scope f cdv A outer s H E) [] σ' H' s' → RelV v u → Q v H' → CE outer P w H s Q u s' :=
    fun {σ' H' v u} J rv q => ⟨v, H', J.os, J.bare, J.base, J.hok, rv, q⟩
  cases fl with
  | ret u =>
    obtain ⟨v, σ', H', J, rv, q⟩ := hs
    exact fin J rv q
  | next =>
    obtain ⟨σ', H', J, q⟩ := hs
    exact fin (v := V.non) (u := Value.none) J rfl q
  | brk =>
    obtain ⟨_, _, _, q⟩ := hs
    exact False.elim q
  | cont =>
    obtain ⟨_, _, _, q⟩ := hs
    exact False.elim q
section
variable {X : Cx} {CX : CXT} {k : Nat} {f : Addr} {fd : FuncData} {ps : List Str} {sp : Sp} {dvs : List V} {ds : List Value} {E : XK} {x : Str} {p pos : Pos} {e : Expr} {es : List Expr} {t : TA}
theorem pe_callU (F : FnOkU X.prog X.w X.K X.mg X.base CX k f fd ps sp) (hr : RoomU k X.A) (hg : Gl X x) (hm : X.mg x = some (.ref f)) (hk : PySem.W.keepIn X.K (.ref f) = true) (hb : Binds X.K fd ps ds) (hd : Vals dvs ds) (hx : Passes CX X E)
    (ha : PA X (e :: es) t) (hdb : (x == ("__debug__" : Str)) = false := by decide) (he : starEach (e :: es) X.env = (false, eval e X.env) :: starEach es X.env := by rfl) (hpl : (backTo pos (starEach es X.env)).any (·.1) = false := by rfl) :
    PE X (.Call (.Name x p) (e :: es) [] pos) (tCall sp dvs E t) := by
  intro pins s σ H Q I h
  refine wpAny_Call_Name_kw (ld_glob I hg hm ?_ hdb)
  refine PySem.W.callWith_K (h₀ := X.base) I.ok.mod.kin hk (thn (ha pos pins s σ H _ I h) fun us s1 ⟨vs, H1, I1, r, q⟩ => ⟨I1.kIn, ?_⟩) he hpl
  have r2 : Vals (vs ++ dvs) (us ++ ds) := r.append hd
  have hl : (us ++ ds).length = ps.length := by rw [← r2.length]; exact F.len _ _ _ _ q
  refine wpAny_call (codeAny_mono (F.run X.A X.stack s1 H1 ⟨us, []⟩ (us ++ ds) (vs ++ dvs) Q E hr I1.env0 (hb s1 us I1.kIn hl) r2 q) fun r s' hq => ?_)
  cases r with
  | error ev => exact hx pins σ H1 s1 ev s' I1 hq
  | ok fl =>
    cases fl with
    | ret u => exact I1.after hq
    | next => exact False.elim hq
    | brk => exact False.elim hq
    | cont => exact False.elim hq
end
section
variable {P : Program} {w : World} {K : PySem.W.Frag} {mg : Str → Option Value} {base : Heap} {x qual : Str} {st : Stmt} {f : Addr} {fd : FuncData} {N ps : List Str} {k : Nat} {sp : Sp}
theorem Fun.okE (F : Fun K x qual st f fd) (S : FnScope N ps (defScope st)) (len : ∀ vs H Q E, sp vs H Q E → vs.length = ps.length)
    (hbody : ∀ (cdv : Value) (A : Around) (outer : List Env) (s : Shared) (H : Hp) (vs : List V) (Q : VK) (E : XK), Room k (A.deeper (envOfC qual (defScope st) s.heap.objs.size f cdv)) → sp vs H Q E →
      ∃ t, PSs (cxOf (CXe P w) P w K mg base N qual (defScope st) f cdv A outer s H E).nox (defBody st) t ∧ t { nx := fun _ H' => Q .non H', rt := Q } (start N vs) H) : FnOk P w K mg base (CXe P w) (k + 1) f fd ps sp := by
  obtain ⟨oc, od, kV, doc, pm, an, cdv, ct, osl, rfl, lk, hcd⟩ := F.ex
  refine fn_of lk hcd S len fun A outer s H vs Q E hr hsp => ?_
  obtain ⟨t, h, q⟩ := hbody cdv A outer s H vs Q E hr hsp
  exact ⟨t, h.nox, q⟩
theorem Fun.okX (F : Fun K x qual st f fd) (S : FnScope N ps (defScope st)) (len : ∀ vs H Q E, sp vs H Q E → vs.length = ps.length)
    (hbody : ∀ (cdv : Value) (A : Around) (outer : List Env) (s : Shared) (H : Hp) (vs : List V) (Q : VK) (E : XK), Room k (A.deeper (envOfC qual (defScope st) s.heap.objs.size f cdv)) → sp vs H Q E →
      ∃ t, PSs (cxOf (CXe P w) P w K mg base N qual (defScope st) f cdv A outer s H E) (defBody st) t ∧ t { nx := fun _ H' => Q .non H', rt := Q } (start N vs) H) : FnOk P w K mg base (CXe P w) (k + 1) f fd ps sp := by
  obtain ⟨oc, od, kV, doc, pm, an, cdv, ct, osl, rfl, lk, hcd⟩ := F.ex
  exact fn_of lk hcd S len fun A outer s H vs Q E hr hsp => hbody cdv A outer s H vs Q E hr hsp
theorem Fun.okU (F : Fun K x qual st f fd) (S : FnScope N ps (defScope st)) (len : ∀ vs H Q E, sp vs H Q E → vs.length = ps.length)
    (hbody : ∀ (cdv : Value) (A : Around) (outer : List Env) (s : Shared) (H : Hp) (vs : List V) (Q : VK) (E : XK), RoomU k (A.deeper (envOfC qual (defScope st) s.heap.objs.size f cdv)) → sp vs H Q E →
      ∃ t, PSs (cxU (CXe P w) P w K mg base N qual (defScope st) f cdv A outer s H E).nox (defBody st) t ∧ t { nx := fun _ H' => Q .non H', rt := Q } (start N vs) H) : FnOkU P w K mg base (CXe P w) (k + 1) f fd ps sp := by
  obtain ⟨oc, od, kV, doc, pm, an, cdv, ct, osl, rfl, lk, hcd⟩ := F.ex
  refine fn_ofU lk hcd S len fun A outer s H vs Q E hr hsp => ?_
  obtain ⟨t, h, q⟩ := hbody cdv A outer s H vs Q E hr hsp
  exact ⟨t, h.nox, q⟩
end
def Bd (n : Nat) (i : Int) : Prop := i.natAbs < 2 ^ n
theorem Bd.mono {m n : Nat} {i : Int} (h : Bd m i) (l : m ≤ n) : Bd n i := Nat.lt_of_lt_of_le h (Nat.pow_le_pow_right (by decide) l)
theorem Bd.mul {m n : Nat} {i j : Int} (h : Bd m i) (k : Bd n j) : Bd (m + n) (i * j) := by
  unfold Bd at *
  rw [Int.natAbs_mul, Nat.pow_add]
  exact Nat.mul_lt_mul'' h k
theorem Bd.add {n : Nat} {i j : Int} (h : Bd n i) (k : Bd n j) : Bd (n + 1) (i + j) := by
  unfold Bd at *
  have := Int.natAbs_add_le i j
  rw [Nat.pow_succ]
  omega
theorem Bd.neg {n : Nat} {i : Int} (h : Bd n i) : Bd n (-i) := by unfold Bd at *; rw [Int.natAbs_neg]; exact h
theorem Bd.le {n : Nat} {i j : Int} (h : Bd n i) (k : j.natAbs ≤ i.natAbs) : Bd n j := Nat.lt_of_le_of_lt k h
theorem Bd.log {n : Nat} {i : Int} (h : Bd n i) (z : i ≠ 0) : i.natAbs.log2 < n := (Nat.log2_lt (by omega)).mpr h
theorem Bd.bits {n : Nat} {i : Int} (h : Bd n i) : Builtin.Int.intBits i ≤ n := PySem.intBits_le_iff.mpr h
def CDivB (_ j : Int) : Prop := j ≠ 0 ∧ Bd 9000 j
def CMulB (i j : Int) : Prop := Bd 100000 i ∧ Bd 100000 j
theorem op_fdivB {X : Cx} : OpR X (binaryOp .FloorDiv) (rI CDivB fun i j => .int (i.fdiv j)) := opI fun _ _ _ _ _ _ _ hc q => floordiv_int hc.1 q (.inl (PyProof.noPylong_of_log2 (hc.2.log hc.1)))
theorem op_mulB {X : Cx} : OpR X (binaryOp .Mult) (rI CMulB fun i j => .int (i * j)) := opI fun _ _ _ _ _ _ _ hc q =>
  mul_int q (IntMulOk.of_bits (Nat.le_trans hc.1.bits (by decide)) (Nat.le_trans hc.2.bits (by decide)))
end L2
namespace L2
open PySem PySem.Spec PyProof.Rows
section
variable {prog : Program} {w : World} {A : Around} {R : Result → Shared → Prop} {s : Shared}
theorem comp_loop {elt target iter : Expr} {scope : Scope} {pos : Pos} {it acc : Value} {env : Env} (J : Nat → Shared → Prop)
    (turn : ∀ n s, J n s → wpAny (model prog w) A (pyNext it) (fun r s1 => match r with
      | none => R (.ok .next) s1
      | some v => wpAny (model prog w) A (letOwnedTupleGo target it v) (fun _ s2 => wpAny (model prog w) A (assign target env v) (fun _ s3 => wpAny (model prog w) A (eval elt env) (fun x s4 =>
          wpAny (model prog w) A (call (.builtin "list.append") [acc, x]) (fun _ s5 => ∃ m, m < n ∧ J m s5) (fun _ _ => False) s4) (fun _ _ => False) s3) (fun _ _ => False) s2) (fun _ _ => False) s1) (fun _ _ => False) s)
    (n : Nat) (h : J n s) : codeAny (model prog w) A (.compLoop (.ListComp elt [⟨target, iter, [], 0⟩] scope pos) 0 it acc env) R s := by
  refine codeAny_loop rfl J (fun n s hJ => ?_) n h
  show wpAny _ A ((compTurn (.ListComp elt [⟨target, iter, [], 0⟩] scope pos) 0 it acc env).onRaise (fun x => do noteFrame x env; theTreesLotGoes x)) _ _ s
  refine wpAny_noted ?_
  rw [compTurn_list1]
  have no : ∀ {P : Value → Shared → Prop} (a : Value) (b : Shared), (fun _ _ => False : Value → Shared → Prop) a b → P a b := fun _ _ z => False.elim z
  refine wpAny_bind (wpAny_standAt (wpAny_bind (wpAny_mono (turn n s hJ) (fun r s1 h1 => ?_) no)))
  cases r with
  | none => exact wpAny_pure h1
  | some v =>
    refine wpAny_bind (wpAny_mono h1 (fun _ s2 h2 => wpAny_bind (wpAny_mono h2 (fun _ s3 h3 => ?_) no)) no)
    exact wpAny_bind (wpAny_bind (wpAny_mono h3 (fun x s4 h4 => wpAny_bind (wpAny_mono h4 (fun _ s5 h5 => wpAny_pure (wpAny_pure ⟨rfl, h5⟩)) no)) no))
end
abbrev Cx.cp (X : Cx) (Nc : List Str) (scope : Scope) (cl : List (Str × Addr)) (C : Addr) (s₀ : Shared) (H₀ : Hp) (ex : List Addr) (pn : List (Addr × Obj)) : Cx :=
  { X with N := Nc, s₀ := s₀, H₀ := H₀, env := compEnvC scope cl C X.env, outer := X.stack, ex := ex, fn := fun _ => false, pn := pn, xe := fun _ _ => False }
def cσ (js : List (Option Nat)) (σ : St) : St := js.map fun o => o.bind fun j => (σ[j]?).join
def tComp (js : List (Option Nat)) (wi : TI) (g : TG) (te : TE) : TE := fun σ H Q => wi σ H fun J H1 => ∀ D, H1 D = none → ∃ W : Nat → Nat → List V → St → Hp → Prop, (∃ m, W 0 m [] (cσ js σ) (upd H1 D (.lst []))) ∧
  ∀ i m ys σc H, W i m ys σc H → (H D = some (.lst ys) ∧ J.stop i H ∧ Q (.ref D) H) ∨ (J.go i H ∧ ∀ x H', J.yld i H x H' → g x σc H' fun σ2 H2 => te σ2 H2 fun y H3 => H3 D = some (.lst ys) ∧ ys.length < sizeLine ∧ ∃ m', m' < m ∧ W (i + 1) m' (ys ++ [y]) σ2 (upd H3 D (.lst (ys ++ [y]))))
def PCo (X : Cx) (e : Expr) (scope : Scope) (iter : Expr) (t : TE) : Prop :=
  ∀ (pos : Pos) (use : Option (Value → Sem Unit)) (QQ : Value → Shared → Prop) (pins : List (Addr × Obj)) (s : Shared) (σ : St) (H : Hp) (Q : VK), Inv X pins σ H s → t σ H Q →
    (∀ (D C : Addr) (H5 : Hp) (s6 : Shared) (mC : Str → Option Value), Inv X pins σ H5 s6 → s6.heap.Ns C mC → FpOk X pins H5 C → Q (.ref D) H5 → compPost (model X.prog X.w) X.A X.xe use QQ (.ref D) C (.ok .next) s6) →
    wpAny (model X.prog X.w) X.A (comprehension e scope X.env pos (newList []) false (eval iter X.env) use) QQ X.xe s
theorem PCo.of {X : Cx} {e : Expr} {scope : Scope} {iter : Expr} {t t' : TE} (h : PCo X e scope iter t') (k : ∀ σ H Q, t σ H Q → t' σ H Q) : PCo X e scope iter t := fun pos use QQ pins s σ H Q I q fin => h pos use QQ pins s σ H Q I (k σ H Q q) fin
theorem PCo.pe {X : Cx} {elt iter tg : Expr} {scope : Scope} {pos : Pos} {t : TE} (h : PCo X (.ListComp elt [⟨tg, iter, [], 0⟩] scope pos) scope iter t) : PE X (.ListComp elt [⟨tg, iter, [], 0⟩] scope pos) t := by
  intro pins s σ H Q I q
  rw [eval_ListComp]
  exact h _ none (EP X pins σ Q) pins s σ H Q I q fun D C H5 s6 mC I7 hn fp qn => ⟨mC, hn, fun h8 sb => ⟨.ref D, H5, I7.turned (t' := s6.toks) (fun b o hb z => (sb.2 b hb).trans z) fp.1 fp.2.1 fp.2.2.2.1 fp.2.2.2.2.1 fp.2.2.2.2.2, rfl, qn⟩⟩
theorem PCo.ps {X : Cx} {elt iter tg : Expr} {scope : Scope} {cpos pos pos' : Pos} {t : TE} {i : Nat} {x : Str} (h : PCo X (.ListComp elt [⟨tg, iter, [], 0⟩] scope cpos) scope iter t) (hN : X.N.Nodup) (hi : X.N[i]? = some x) (hx : Loc X.env.scope x)
    (hsw : swapsWith (.ListComp elt [⟨tg, iter, [], 0⟩] scope cpos) (some (.Name x pos')) pos.line X.env = pure true := by rfl)
    (hf : X.fn x = true ∨ X.env.scope.names.lookup x = some .local := by first | exact .inl rfl | exact .inr rfl | assumption) : PS X (.Assign [.Name x pos'] (.ListComp elt [⟨tg, iter, [], 0⟩] scope cpos) pos) (tAsg t (gName i)) := by
  intro pins s σ H D0 I q
  rw [exec_Assign_Name_used _ _ _ _ hsw]
  refine wpAny_bind (wpAny_standAt (wpAny_bind ?_))
  show wpAny _ X.A (do let _ ← comprehension (.ListComp elt [⟨tg, iter, [], 0⟩] scope cpos) scope X.env _ (newList []) false (eval iter X.env) (some (assign (.Name x pos') X.env))) _ _ s
  refine wpAny_bind (wpAny_mono (h _ (some (assign (.Name x pos') X.env)) (fun _ s' => SP X pins D0 .next s') pins s σ H _ I q ?_) (fun _ s' hq => wpAny_pure (wpAny_pure hq)) fun _ _ e => e)
  intro D C H5 s6 mC I7 hn fp qn
  refine wpAny_assign_Name (store_ok2 (v := .ref D) I7 hN hi hx rfl (fun s8 I8 sb8 => ?_) hf)
  obtain ⟨a, sb, ha⟩ := sb8
  have hne : C ≠ a := by
    rcases ha with rfl | ha
    · exact fp.2.1
    · exact fun z => fp.2.2.2.2.1 _ _ ha z.symm
  refine ⟨mC, hn.sameBut sb hne, fun h9 sb9 => ⟨_, H5, ?_, qn⟩⟩
  exact I8.turned (t' := s8.toks) (fun b o hb z => (sb9.2 b hb).trans z) fp.1 fp.2.1 fp.2.2.2.1 fp.2.2.2.2.1 fp.2.2.2.2.2
theorem pe_comp {X : Cx} {elt iter tg : Expr} {scope : Scope} {cl : List (Str × Addr)} {Nc : List Str} {js : List (Option Nat)} {wi : TI} {g : TG} {te : TE} {pos : Pos} (hc : X.calm = true) (hi : PI X tg iter wi)
    (hg : ∀ C s₀ H₀ ex pn, PG (X.cp Nc scope cl C s₀ H₀ ex pn) tg g) (he : ∀ C s₀ H₀ ex pn, PE (X.cp Nc scope cl C s₀ H₀ ex pn) elt te)
    (hlen : js.length = Nc.length) (hcl1 : ∀ y c, cl.lookup y = some c → X.env.cells.lookup y = some c) (hcl2 : ∀ y, ((relabel scope X.env).names.lookup y = some .cell ∨ (relabel scope X.env).names.lookup y = some .free) → ∃ c, cl.lookup y = some c)
    (hjs : ∀ (i : Nat) (y : Str) (j : Nat), Nc[i]? = some y → js[i]? = some (some j) → X.N[j]? = some y ∧ Vis X.env.scope y ∧ X.env.kindOf y ≠ some .local ∧ ((relabel scope X.env).names.lookup y = some .cell ∨ (relabel scope X.env).names.lookup y = some .free) ∧ ∀ c, X.env.cells.lookup y = some c → cl.lookup y = some c)
    (hclos : closureFor scope X.env = pure cl) (hcell : ∀ y ∈ scope.names, y.2 ≠ .cell) (hkind : scope.kind = .function) (hnames : ∀ y ∈ scope.names, y.2 = .local → scope.names.lookup y.1 = some .local)
    (hs : ∀ x, foldedSetIterable iter X.env x = pure x := by intro _; rfl) : PCo X (.ListComp elt [⟨tg, iter, [], 0⟩] scope pos) scope iter (tComp js wi g te) := by
  intro pos0 use QQ pins s σ H Q I h fin
  refine wpAny_comprehension_free (use := use) rfl hs hclos hkind hnames (thn (hi pins s σ H _ I h) fun v s1 h1 => thn h1 fun itv s2 h2 => ?_)
  obtain ⟨it, fp, tn, J, H2, rfl, I2, T, st2, f2, R⟩ := h2
  refine wpAny_newObj_type (wpAny_newFunctionEnv hcell (by intro y hy; simp at hy) (fun h1 hns hsb => ?_) hkind)
  dsimp only at hns hsb ⊢
  have hf : H2 s2.heap.objs.size = none := I2.hok.fresh (Nat.le_refl _)
  obtain ⟨W, ⟨m0, w0⟩, turn⟩ := R s2.heap.objs.size hf
  -- D: the list; C: the block's names
  generalize eD : s2.heap.objs.size = D at *
  have I3 : Inv X pins σ (upd H2 D (.lst [])) { s2 with heap := s2.heap.push { cls := .type "list", dict := none, data := .seq ([] : List Value).toArray } } :=
    I2.laid (t' := s2.toks) (fun b u e => Heap.get?_push_of_some _ e) (by rw [eD]; exact Nat.le_refl _) ⟨Nat.zero_le _, [], 0, .nil, by rw [← eD]; exact Heap.get?_push_size _ rfl⟩
  generalize e3 : ({ s2 with heap := s2.heap.push { cls := .type "list", dict := none, data := .seq ([] : List Value).toArray } } : Shared) = s3 at I3
  have hp3 : s2.heap.push { cls := .type "list", dict := none, data := .seq ([] : List Value).toArray } = s3.heap := by rw [← e3]
  rw [hp3] at hns hsb ⊢
  generalize eC : s3.heap.objs.size = C at *
  have old : ∀ b o, s3.heap.get? b = some o → h1.get? b = some o := fun b o z => hsb.extBut b o (by rw [← eC]; exact Nat.ne_of_lt (Heap.lt_size z)) (Heap.get?_push_of_some _ z)
  have fpo : ∀ b ∈ fp, b < D := fun b hb => by
    obtain ⟨o, z, _⟩ := T.obj _ _ st2 b hb
    rw [← eD]; exact Heap.lt_size z
  have eCD : C = D + 1 := by rw [← eC, ← hp3, Heap.size_push, eD]
  have f3 : ∀ b ∈ fp, FpOk X pins (upd H2 D (.lst [])) b := fun b hb => ⟨by rw [upd_ne (Nat.ne_of_lt (fpo b hb))]; exact (f2 b hb).1, (f2 b hb).2⟩
  have okC : (X.cp Nc scope cl C s3 (upd H2 D (.lst [])) fp (X.pn ++ pins)).Ok := by
    have ok := I3.ok
    refine ⟨ok.mod, hkind, ok.glob, ok.blt, by rw [eC]; exact Nat.le_refl _, fun x y c a b => ok.inj x y c (hcl1 x c a) (hcl1 y c b), fun x hx => hcl2 x hx, fun x c z => absurd z Bool.false_ne_true, ok.hd, ok.frames, .inl rfl, fun b hb => ?_, fun b o z => I3.bs b o z, Nat.le_trans ok.bsz I3.sz, fun b o z hb => ?_, fun b hb hm => ?_, I3.stack, I3.stkFree⟩
    · exact ⟨by rw [eCD]; exact Nat.ne_of_lt (Nat.lt_succ_of_lt (fpo b hb)), fun x c z => (f3 b hb).2.2.2.2.1 x c (hcl1 x c z)⟩
    · rcases (f3 b hb).2.2.2.1 with y | y
      · exact ok.noex b o z y
      · exact absurd (Nat.lt_of_lt_of_le (Heap.lt_size z) (Nat.le_trans ok.bsz y)) (Nat.lt_irrefl _)
    · rcases List.mem_cons.mp (I3.stkSub b hm) with y | y
      · exact (f3 b hb).2.1 y
      · exact (f3 b hb).2.2.1 y
  have I4 : Inv (X.cp Nc scope cl C s3 (upd H2 D (.lst [])) fp (X.pn ++ pins)) [] (cσ js σ) (upd H2 D (.lst [])) { s2 with heap := h1, toks := s2.toks + ([] : List (Str × Value)).length } := by
    have os3 : s2.os = s3.os := by rw [← e3]
    have fC : upd H2 D (.lst []) C = none := I3.hok.fresh (by rw [eC]; exact Nat.le_refl _)
    refine ⟨okC, os3, I2.bare, Un.kept old, ⟨_, hns, fun i y v e1 e2 e3' => ?_⟩, fun y c z => ?_, fC, fun y c z => I3.freeC y c (hcl1 y c z), fun p hp => ?_, I3.hok.kept old, by rw [cσ, List.length_map]; exact hlen⟩
    · unfold cσ at e2
      rw [List.getElem?_map] at e2
      cases ej : js[i]? with
      | none => rw [ej] at e2; cases e2
      | some oj =>
        rw [ej] at e2
        cases oj with
        | none => cases e2
        | some j =>
          obtain ⟨a1, a2, a3, a4, a5⟩ := hjs i y j e1 ej
          have e2' : (σ[j]?).join = some v := Option.some.inj e2
          have e4 : σ[j]? = some (some v) := by
            cases q : σ[j]? with
            | none => rw [q] at e2'; cases e2'
            | some o => rw [q] at e2'; exact congrArg some e2'
          obtain ⟨m, hn, hl⟩ := I3.loc
          obtain ⟨u, r, l⟩ := hl j y v a1 e4 a2
          refine ⟨u, r, .inr ⟨a4, ?_⟩⟩
          rcases l with ⟨k, _⟩ | ⟨k, c, z, ⟨o, ho, hd⟩⟩
          · exact absurd k a3
          · exact ⟨c, a5 c z, o, old _ _ ho, hd⟩
    · obtain ⟨w', o, ho, hd⟩ := I3.cell y c (hcl1 y c z)
      exact ⟨w', o, old _ _ ho, hd⟩
    · have hp' : p ∈ X.pn ++ pins := by
        have z : p ∈ (X.pn ++ pins) ++ [] := hp
        rw [List.append_nil] at z; exact z
      obtain ⟨z, n, ne, nf, d⟩ := I3.pin p hp'
      refine ⟨old _ _ z, n, by rw [← eC]; exact Nat.ne_of_lt (Heap.lt_size z), fun hm => ?_, d⟩
      rcases List.mem_cons.mp (I3.stkSub p.1 hm) with y | y
      · exact ne y
      · exact nf y
  have st4 : tn 0 h1 := T.keep _ _ _ st2 fun b hb o z => old b o (by rw [← hp3]; exact Heap.get?_push_of_some _ z)
  have stat : ∀ {H' : Hp}, (∀ b ∈ fp, H' b = none) → ∀ b ∈ fp, FpOk (X.cp Nc scope cl C s3 (upd H2 D (.lst [])) fp (X.pn ++ pins)) [] H' b := fun hn b hb =>
    ⟨hn b hb, (okC.exf b hb).1, okC.exfs b hb, .inl hb, (okC.exf b hb).2 |> fun q x c z => q x c z, fun p hp => (f3 b hb).2.2.2.2.2 p (by
      have z : p ∈ (X.pn ++ pins) ++ [] := hp
      rw [List.append_nil] at z; exact z)⟩
  have loop : codeAny (model X.prog X.w) X.A (.compLoop (.ListComp elt [⟨tg, iter, [], 0⟩] scope pos) 0 (.ref it) (.ref D) (compEnvC scope cl C X.env)) (compPost (model X.prog X.w) X.A X.xe use QQ (.ref D) C) { s2 with heap := h1, toks := s2.toks + ([] : List (Str × Value)).length } := by
    refine comp_loop (fun n s' => ∃ i ys σc H', Inv (X.cp Nc scope cl C s3 (upd H2 D (.lst [])) fp (X.pn ++ pins)) [] σc H' s' ∧ tn i s'.heap ∧ (∀ b ∈ fp, H' b = none) ∧ W i n ys σc H') ?_ m0 ⟨0, [], _, _, I4, st4, fun b hb => (f3 b hb).1, w0⟩
    rintro n s5 ⟨i, ys, σ5, H5, I5, st5, fr5, w5⟩
    rcases turn i n ys σ5 H5 w5 with ⟨hD, stop, qn⟩ | ⟨go, step⟩
    · refine thn (T.done (X.cp Nc scope cl C s3 (upd H2 D (.lst [])) fp (X.pn ++ pins)) rfl rfl rfl hc i [] s5 σ5 H5 _ I5 (stat fr5) st5 stop) fun r s6 ⟨hr, I6⟩ => ?_
      subst hr
      obtain ⟨mC, hnC, _⟩ := id I6.loc
      have I7 : Inv X pins σ H5 s6 := I3.call' (ch := fp) I6.os I6.base I6.hok I6.bare fun b hb => ⟨(f3 b hb).2.2.2.1, (f3 b hb).2.1, (f3 b hb).2.2.2.2.1, (f3 b hb).2.2.2.2.2⟩
      have nC : s3.heap.objs.size ≤ C := by rw [eC]; exact Nat.le_refl _
      exact fin D C H5 s6 mC I7 hnC (I3.fpOk nC I6.free) qn
    · refine thn (T.item (X.cp Nc scope cl C s3 (upd H2 D (.lst [])) fp (X.pn ++ pins)) rfl rfl rfl hc i [] s5 σ5 H5 _ I5 (stat fr5) st5 go) fun r s6 ⟨u, hr, h6⟩ => ?_
      subst hr
      refine thn h6 fun _ s7 ⟨x, H7, I7, r7, y7, st7, fr7⟩ => ?_
      have I7' := I7.pinned (stat fr7) (T.obj _ _ st7)
      refine thn (hg C s3 _ fp _ _ s7 σ5 H7 x u _ I7' r7 (step x H7 y7)) fun _ s8 ⟨σ8, H8, I8, q8⟩ => ?_
      refine thn (he C s3 _ fp _ _ s8 σ8 H8 _ I8 q8) fun v9 s9 ⟨y9, H9, I9, r9, hD9, hz9, m9, lt9, w9⟩ => ?_
      refine thn (mt_append (X := X.cp Nc scope cl C s3 (upd H2 D (.lst [])) fp (X.pn ++ pins)) _ s9 σ8 H9 (.ref D) [y9] (.ref D) [v9] (fun _ H10 => H10 = upd H9 D (.lst (ys ++ [y9]))) I9 rfl (.cons r9 .nil) ⟨D, ys, y9, rfl, rfl, hD9, hz9, rfl⟩) fun v10 s10 ⟨_, H10, I10, _, e10⟩ => ?_
      subst e10
      refine ⟨m9, lt9, i + 1, ys ++ [y9], σ8, _, I10.unpinned, T.keep _ _ _ st7 fun b hb o z => (I10.pin (b, o) (List.mem_append_right _ (List.mem_append_right _ (mem_pinsAt hb z)))).1, fun b hb => ?_, w9⟩
      obtain ⟨o, z, d⟩ := T.obj _ _ st7 b hb
      exact (I10.pin (b, o) (List.mem_append_right _ (List.mem_append_right _ (mem_pinsAt hb z)))).2.1
  exact codeAny_compStart_list loop (T.self X.A 0 _ _ _ st4 loop)
end L2
namespace L2
open PySem PySem.Spec PyProof.Rows
inductive Dt where
  | non | bl (b : Bool) | int (i : Int) | str (x : Str) | tup (l : List Dt) | lst (l : List Dt)
mutual
def Rep (K : PySem.W.Frag) (H : Hp) : Dt → V → Prop
  | .non, v => v = .non
  | .bl b, v => v = .bl b
  | .int i, v => v = .int i
  | .str x, v => v = .str x
  | .tup l, v => ∃ a xs, v = .ref a ∧ SqT K H a xs ∧ Reps K H l xs
  | .lst l, v => ∃ a xs, v = .ref a ∧ SqL K H a xs ∧ Reps K H l xs
def Reps (K : PySem.W.Frag) (H : Hp) : List Dt → List V → Prop
  | [], xs => xs = []
  | d :: l, xs => ∃ x r, xs = x :: r ∧ Rep K H d x ∧ Reps K H l r
end
mutual
def Dt.sim : Dt → Dt → Bool
  | .non, .non => true
  | .bl _, .bl _ => true
  | .int _, .int _ => true
  | .str _, .str _ => true
  | .tup l, .tup m => Dt.sims l m
  | .lst l, .lst m => Dt.sims l m
  | _, _ => false
def Dt.sims : List Dt → List Dt → Bool
  | d :: l, e :: m => Dt.sim d e && Dt.sims l m
  | _, _ => true
end
mutual
def Dt.eqb : Dt → Dt → Bool
  | .non, .non => true
  | .bl a, .bl b => a == b
  | .int a, .int b => a == b
  | .str a, .str b => a == b
  | .tup l, .tup m => Dt.eqbs l m
  | .lst l, .lst m => Dt.eqbs l m
  | _, _ => false
def Dt.eqbs : List Dt → List Dt → Bool
  | [], [] => true
  | d :: l, e :: m => Dt.eqb d e && Dt.eqbs l m
  | _, _ => false
end
mutual
def Dt.dep : Dt → Nat
  | .tup l => Dt.deps l + 1
  | .lst l => Dt.deps l + 1
  | _ => 0
def Dt.deps : List Dt → Nat
  | [] => 0
  | d :: l => max (Dt.dep d) (Dt.deps l)
end
mutual
theorem Dt.eqb_refl : ∀ d : Dt, Dt.eqb d d = true
  | .non => rfl
  | .bl b => by simp [Dt.eqb]
  | .int i => by simp [Dt.eqb]
  | .str x => by simp [Dt.eqb]
  | .tup l => by rw [Dt.eqb]; exact Dt.eqbs_refl l
  | .lst l => by rw [Dt.eqb]; exact Dt.eqbs_refl l
theorem Dt.eqbs_refl : ∀ l : List Dt, Dt.eqbs l l = true
  | [] => rfl
  | d :: l => by rw [Dt.eqbs, Dt.eqb_refl d, Dt.eqbs_refl l]; rfl
end
mutual
theorem Dt.sim_refl : ∀ d : Dt, Dt.sim d d = true
  | .non => rfl
  | .bl b => rfl
  | .int i => rfl
  | .str x => rfl
  | .tup l => by rw [Dt.sim]; exact Dt.sims_refl l
  | .lst l => by rw [Dt.sim]; exact Dt.sims_refl l
theorem Dt.sims_refl : ∀ l : List Dt, Dt.sims l l = true
  | [] => rfl
  | d :: l => by rw [Dt.sims, Dt.sim_refl d, Dt.sims_refl l]; rfl
end
section
variable {X : Cx} {pins : List (Addr × Obj)} {σ : St} {H : Hp} {s : Shared}
theorem Inv.lt_inj (I : Inv X pins σ H s) {a : Addr} {xs ys : List V} (h : SqL X.K H a xs) (h' : SqT X.K H a ys) : False := by
  obtain ⟨its, _, ⟨ob, n, p, c', _⟩, _⟩ := I.list h
  obtain ⟨its', _, ⟨o, q, c, _⟩, _⟩ := I.tuple h'
  rw [p] at q
  cases q
  rw [c'] at c
  exact absurd c (by decide)
mutual
theorem Rep.inj (I : Inv X pins σ H s) : ∀ (d e : Dt) (v : V), Rep X.K H d v → Rep X.K H e v → d = e := by
  intro d e v h k
  match d, e with
  | .non, .non => rfl
  | .bl a, .bl b => simp only [Rep] at h k; subst h; cases k; rfl
  | .int a, .int b => simp only [Rep] at h k; subst h; cases k; rfl
  | .str a, .str b => simp only [Rep] at h k; subst h; cases k; rfl
  | .tup l, .tup m =>
    simp only [Rep] at h k
    obtain ⟨a, xs, rfl, s1, r1⟩ := h
    obtain ⟨b, ys, e, s2, r2⟩ := k
    cases e
    rw [I.tuple_inj s2 s1] at r2
    rw [Reps.inj I l m xs r1 r2]
  | .lst l, .lst m =>
    simp only [Rep] at h k
    obtain ⟨a, xs, rfl, s1, r1⟩ := h
    obtain ⟨b, ys, e, s2, r2⟩ := k
    cases e
    rw [I.list_inj s2 s1] at r2
    rw [Reps.inj I l m xs r1 r2]
  | .tup l, .lst m =>
    simp only [Rep] at h k
    obtain ⟨a, xs, rfl, s1, r1⟩ := h
    obtain ⟨b, ys, e, s2, r2⟩ := k
    cases e
    exact (I.lt_inj s2 s1).elim
  | .lst l, .tup m =>
    simp only [Rep] at h k
    obtain ⟨a, xs, rfl, s1, r1⟩ := h
    obtain ⟨b, ys, e, s2, r2⟩ := k
    cases e
    exact (I.lt_inj s1 s2).elim
  | .non, .bl _ | .non, .int _ | .non, .str _ | .bl _, .non | .bl _, .int _ | .bl _, .str _ | .int _, .non | .int _, .bl _ | .int _, .str _ | .str _, .non | .str _, .bl _ | .str _, .int _ => simp only [Rep] at h k; subst h; cases k
  | .non, .tup _ | .bl _, .tup _ | .int _, .tup _ | .str _, .tup _ | .non, .lst _ | .bl _, .lst _ | .int _, .lst _ | .str _, .lst _ => simp only [Rep] at h k; subst h; obtain ⟨b, ys, e, _⟩ := k; cases e
  | .tup _, .non | .tup _, .bl _ | .tup _, .int _ | .tup _, .str _ | .lst _, .non | .lst _, .bl _ | .lst _, .int _ | .lst _, .str _ => simp only [Rep] at h k; subst k; obtain ⟨b, ys, e, _⟩ := h; cases e
theorem Reps.inj (I : Inv X pins σ H s) : ∀ (l m : List Dt) (xs : List V), Reps X.K H l xs → Reps X.K H m xs → l = m := by
  intro l m xs h k
  match l, m with
  | [], [] => rfl
  | [], e :: m => simp only [Reps] at h k; subst h; obtain ⟨x, r, z, _⟩ := k; cases z
  | d :: l, [] => simp only [Reps] at h k; subst k; obtain ⟨x, r, z, _⟩ := h; cases z
  | d :: l, e :: m =>
    simp only [Reps] at h k
    obtain ⟨x, r, rfl, h1, h2⟩ := h
    obtain ⟨y, q, z, k1, k2⟩ := k
    cases z
    rw [Rep.inj I d e x h1 k1, Reps.inj I l m r h2 k2]
end
theorem Reps.len {K : PySem.W.Frag} {H : Hp} : ∀ {l : List Dt} {xs : List V}, Reps K H l xs → l.length = xs.length
  | [], xs, h => by simp only [Reps] at h; rw [h]; rfl
  | d :: l, xs, h => by
    simp only [Reps] at h
    obtain ⟨x, r, rfl, _, h2⟩ := h
    simp [Reps.len h2]
theorem Reps.at {K : PySem.W.Frag} {H : Hp} : ∀ {l : List Dt} {xs : List V} {j : Nat} {d : Dt}, Reps K H l xs → l[j]? = some d → ∃ x, xs[j]? = some x ∧ Rep K H d x
  | [], _, _, _, _, e => by simp at e
  | d0 :: l, xs, 0, d, h, e => by
    simp only [Reps] at h
    obtain ⟨x, r, rfl, h1, _⟩ := h
    simp at e; subst e
    exact ⟨x, rfl, h1⟩
  | d0 :: l, xs, j + 1, d, h, e => by
    simp only [Reps] at h
    obtain ⟨x, r, rfl, _, h2⟩ := h
    obtain ⟨y, e1, e2⟩ := Reps.at (j := j) h2 (by simpa using e)
    exact ⟨y, by simpa using e1, e2⟩
theorem Dt.deps_at : ∀ {l : List Dt} {j : Nat} {d : Dt}, l[j]? = some d → d.dep ≤ Dt.deps l
  | [], _, _, e => by simp at e
  | d0 :: l, 0, d, e => by simp at e; subst e; rw [Dt.deps]; exact Nat.le_max_left _ _
  | d0 :: l, j + 1, d, e => by rw [Dt.deps]; exact Nat.le_trans (Dt.deps_at (j := j) (by simpa using e)) (Nat.le_max_right _ _)
theorem Dt.sims_at : ∀ {l m : List Dt} {j : Nat} {d e : Dt}, Dt.sims l m = true → l[j]? = some d → m[j]? = some e → d.sim e = true
  | [], _, _, _, _, _, z, _ => by simp at z
  | _ :: _, [], _, _, _, _, _, z => by simp at z
  | d0 :: l, e0 :: m, 0, d, e, h, z1, z2 => by
    rw [Dt.sims] at h
    simp at z1 z2; subst z1 z2
    exact (Bool.and_eq_true_iff.mp h).1
  | d0 :: l, e0 :: m, j + 1, d, e, h, z1, z2 => by
    rw [Dt.sims] at h
    exact Dt.sims_at (j := j) (Bool.and_eq_true_iff.mp h).2 (by simpa using z1) (by simpa using z2)
theorem Dt.eqbs_all : ∀ {l m : List Dt}, l.length = m.length → Dt.eqbs l m = (List.range l.length).all fun j => match l[j]?, m[j]? with | some d, some e => d.eqb e | _, _ => true
  | [], [], _ => rfl
  | d :: l, e :: m, h => by
    have h' : l.length = m.length := by simpa using h
    rw [Dt.eqbs, Dt.eqbs_all h', List.length_cons, List.range_succ_eq_map, List.all_cons, List.all_map]
    rfl
theorem Dt.eqbs_len : ∀ {l m : List Dt}, l.length ≠ m.length → Dt.eqbs l m = false
  | [], [], h => absurd rfl h
  | [], _ :: _, _ => rfl
  | _ :: _, [], _ => rfl
  | d :: l, e :: m, h => by rw [Dt.eqbs, Dt.eqbs_len (by simpa using h), Bool.and_false]
def pairE (l m : List Dt) (j : Nat) : Bool := match l[j]?, m[j]? with | some d, some e => d.eqb e | _, _ => true
theorem items_at (I : Inv X pins σ H s) {k : Nat} {A : Around} {l m : List Dt} {xs ys : List V} {us vs : List Value}
    (ih : ∀ (A : Around) (d e : Dt) (x y : V) (u v : Value), d.dep ≤ k → A.units + k < cLine → d.sim e = true → Rep X.K H d x → Rep X.K H e y → RelV x u → RelV y v → SeqAt.EqAt A s u v (d.eqb e))
    (hd : Dt.deps l ≤ k) (hu : A.units + (k + 1) < cLine) (hs : Dt.sims l m = true) (r1 : Reps X.K H l xs) (r2 : Reps X.K H m ys) (v1 : Vals xs us) (v2 : Vals ys vs) :
    ∀ j (h1 : j < us.toArray.size) (h2 : j < vs.toArray.size), SeqAt.EqAt A.in1 s us.toArray[j] vs.toArray[j] (pairE l m j) := by
  intro j h1 h2
  have l1 : j < us.length := by simpa using h1
  have l2 : j < vs.length := by simpa using h2
  have n1 : l.length = us.length := r1.len.trans v1.length
  have n2 : m.length = vs.length := r2.len.trans v2.length
  obtain ⟨d, ed⟩ : ∃ d, l[j]? = some d := ⟨l[j], List.getElem?_eq_getElem (by omega)⟩
  obtain ⟨e, ee⟩ : ∃ e, m[j]? = some e := ⟨m[j], List.getElem?_eq_getElem (by omega)⟩
  obtain ⟨x, ex, rx⟩ := r1.at ed
  obtain ⟨y, ey, ry⟩ := r2.at ee
  obtain ⟨u, eu, ru⟩ := v1.get ex
  obtain ⟨v, ev, rv⟩ := v2.get ey
  have e1 : us.toArray[j] = u := by
    have := List.getElem?_eq_getElem l1
    rw [eu] at this
    simpa using (Option.some.inj this).symm
  have e2 : vs.toArray[j] = v := by
    have := List.getElem?_eq_getElem l2
    rw [ev] at this
    simpa using (Option.some.inj this).symm
  have ep : pairE l m j = d.eqb e := by unfold pairE; rw [ed, ee]
  rw [e1, e2, ep]
  exact ih A.in1 d e x y u v (Nat.le_trans (Dt.deps_at ed) hd) (by show A.units + 1 + k < cLine; omega) (Dt.sims_at hs ed ee) rx ry ru rv
theorem tup_b {l m : List Dt} {us vs : List Value} (n1 : l.length = us.length) (n2 : m.length = vs.length) : ((List.range (min us.toArray.size vs.toArray.size)).all (pairE l m) && us.toArray.size == vs.toArray.size) = Dt.eqbs l m := by
  have a1 : us.toArray.size = l.length := by simp [n1]
  have a2 : vs.toArray.size = m.length := by simp [n2]
  rw [a1, a2]
  by_cases h : l.length = m.length
  · rw [Dt.eqbs_all h, h, Nat.min_self]
    simp [pairE]
    rfl
  · rw [Dt.eqbs_len h, (beq_eq_false_iff_ne).mpr h, Bool.and_false]
theorem lst_b {l m : List Dt} {us vs : List Value} (n1 : l.length = us.length) (n2 : m.length = vs.length) (h : us.toArray.size = vs.toArray.size) : (List.range us.toArray.size).all (pairE l m) = Dt.eqbs l m := by
  have a1 : us.toArray.size = l.length := by simp [n1]
  have a2 : vs.toArray.size = m.length := by simp [n2]
  rw [Dt.eqbs_all (by omega), a1]
  rfl
theorem rc_tup (I : Inv X pins σ H s) {k : Nat} {A : Around} {l m : List Dt} {a b : Addr} {xs ys : List V}
    (ih : ∀ (A : Around) (d e : Dt) (x y : V) (u v : Value), d.dep ≤ k → A.units + k < cLine → d.sim e = true → Rep X.K H d x → Rep X.K H e y → RelV x u → RelV y v → SeqAt.EqAt A s u v (d.eqb e))
    (hd : Dt.deps l ≤ k) (hu : A.units + (k + 1) < cLine) (hs : Dt.sims l m = true) (q1 : SqT X.K H a xs) (q2 : SqT X.K H b ys) (r1 : Reps X.K H l xs) (r2 : Reps X.K H m ys) :
    SeqAt.RcAt A s (.ref a) (.ref b) (Dt.eqbs l m) ∧ SeqAt.RcNeAt A s (.ref a) (.ref b) (!Dt.eqbs l m) := by
  obtain ⟨us, v1, p1, _⟩ := I.tuple q1
  obtain ⟨vs, v2, p2, _⟩ := I.tuple q2
  have he := items_at I ih hd hu hs r1 r2 v1 v2
  rw [← tup_b (l := l) (m := m) (us := us) (vs := vs) (r1.len.trans v1.length) (r2.len.trans v2.length)]
  exact ⟨SeqAt.RcAt.tuples (show s.heap.IsTuple a us.toArray from p1) (show s.heap.IsTuple b vs.toArray from p2) (by omega) he, SeqAt.RcNeAt.tuples (show s.heap.IsTuple a us.toArray from p1) (show s.heap.IsTuple b vs.toArray from p2) (by omega) he⟩
theorem rc_lst (I : Inv X pins σ H s) {k : Nat} {A : Around} {l m : List Dt} {a b : Addr} {xs ys : List V}
    (ih : ∀ (A : Around) (d e : Dt) (x y : V) (u v : Value), d.dep ≤ k → A.units + k < cLine → d.sim e = true → Rep X.K H d x → Rep X.K H e y → RelV x u → RelV y v → SeqAt.EqAt A s u v (d.eqb e))
    (hd : Dt.deps l ≤ k) (hu : A.units + (k + 1) < cLine) (hs : Dt.sims l m = true) (q1 : SqL X.K H a xs) (q2 : SqL X.K H b ys) (r1 : Reps X.K H l xs) (r2 : Reps X.K H m ys) :
    SeqAt.RcAt A s (.ref a) (.ref b) (Dt.eqbs l m) ∧ SeqAt.RcNeAt A s (.ref a) (.ref b) (!Dt.eqbs l m) := by
  obtain ⟨us, v1, p1, _⟩ := I.list q1
  obtain ⟨vs, v2, p2, _⟩ := I.list q2
  have he := items_at I ih hd hu hs r1 r2 v1 v2
  by_cases hsz : us.toArray.size = vs.toArray.size
  · rw [← lst_b (l := l) (m := m) (us := us) (vs := vs) (r1.len.trans v1.length) (r2.len.trans v2.length) hsz]
    exact ⟨SeqAt.RcAt.lists p1.isList p2.isList hsz (by omega) he, SeqAt.RcNeAt.lists p1.isList p2.isList hsz (by omega) he⟩
  · have hl : l.length ≠ m.length := fun z => hsz (by
      have a1 := r1.len.trans v1.length
      have a2 := r2.len.trans v2.length
      simp; omega)
    rw [Dt.eqbs_len hl]
    exact ⟨SeqAt.RcAt.lists_lengths p1.isList p2.isList (by simpa using hsz) (by omega), SeqAt.RcNeAt.lists_lengths p1.isList p2.isList (by simpa using hsz) (by omega)⟩
theorem eq_at (I : Inv X pins σ H s) : ∀ (k : Nat) (A : Around) (d e : Dt) (x y : V) (u v : Value), d.dep ≤ k → A.units + k < cLine → d.sim e = true → Rep X.K H d x → Rep X.K H e y → RelV x u → RelV y v → SeqAt.EqAt A s u v (d.eqb e) := by
  intro k
  induction k with
  | zero =>
    intro A d e x y u v hd hu hs h1 h2 r1 r2
    match d, e with
    | .non, .non => simp only [Rep] at h1 h2; subst h1 h2; cases r1; cases r2; exact SeqAt.EqAt.same _
    | .bl a, .bl b => simp only [Rep] at h1 h2; subst h1 h2; cases r1; cases r2; exact SeqAt.EqAt.bool_bool a b
    | .int a, .int b => simp only [Rep] at h1 h2; subst h1 h2; obtain ⟨t, rfl⟩ := r1; obtain ⟨t', rfl⟩ := r2; exact SeqAt.EqAt.int_int a t b t'
    | .str a, .str b => simp only [Rep] at h1 h2; subst h1 h2; obtain ⟨t, rfl⟩ := r1; obtain ⟨t', rfl⟩ := r2; exact SeqAt.EqAt.str_str a t b t'
    | .tup l, _ => rw [Dt.dep] at hd; omega
    | .lst l, _ => rw [Dt.dep] at hd; omega
  | succ k ih =>
    intro A d e x y u v hd hu hs h1 h2 r1 r2
    match d, e with
    | .non, .non => simp only [Rep] at h1 h2; subst h1 h2; cases r1; cases r2; exact SeqAt.EqAt.same _
    | .bl a, .bl b => simp only [Rep] at h1 h2; subst h1 h2; cases r1; cases r2; exact SeqAt.EqAt.bool_bool a b
    | .int a, .int b => simp only [Rep] at h1 h2; subst h1 h2; obtain ⟨t, rfl⟩ := r1; obtain ⟨t', rfl⟩ := r2; exact SeqAt.EqAt.int_int a t b t'
    | .str a, .str b => simp only [Rep] at h1 h2; subst h1 h2; obtain ⟨t, rfl⟩ := r1; obtain ⟨t', rfl⟩ := r2; exact SeqAt.EqAt.str_str a t b t'
    | .tup l, .tup m =>
      have g1 := h1
      have g2 := h2
      simp only [Rep] at h1 h2
      obtain ⟨a, xs, rfl, q1, p1⟩ := h1
      obtain ⟨b, ys, rfl, q2, p2⟩ := h2
      cases r1; cases r2
      by_cases hab : a = b
      · subst hab
        rw [← Rep.inj I _ _ _ g1 g2, Dt.eqb_refl]
        exact SeqAt.EqAt.same _
      · rw [Dt.eqb]
        exact SeqAt.EqAt.of_refs hab (rc_tup I ih (by rw [Dt.dep] at hd; omega) hu (by rw [Dt.sim] at hs; exact hs) q1 q2 p1 p2).1
    | .lst l, .lst m =>
      have g1 := h1
      have g2 := h2
      simp only [Rep] at h1 h2
      obtain ⟨a, xs, rfl, q1, p1⟩ := h1
      obtain ⟨b, ys, rfl, q2, p2⟩ := h2
      cases r1; cases r2
      by_cases hab : a = b
      · subst hab
        rw [← Rep.inj I _ _ _ g1 g2, Dt.eqb_refl]
        exact SeqAt.EqAt.same _
      · rw [Dt.eqb]
        exact SeqAt.EqAt.of_refs hab (rc_lst I ih (by rw [Dt.dep] at hd; omega) hu (by rw [Dt.sim] at hs; exact hs) q1 q2 p1 p2).1
end
def rEqD (K : PySem.W.Frag) (ne : Bool) : R2 := fun x y H Q => ∃ d e, Rep K H d x ∧ Rep K H e y ∧ d.sim e = true ∧ 1 ≤ d.dep ∧ d.dep ≤ 60 ∧ Q (.bl (if ne then !d.eqb e else d.eqb e)) H
theorem eqD_at {X : Cx} {pins : List (Addr × Obj)} {σ : St} {H : Hp} {s : Shared} (I : Inv X pins σ H s) (hu : X.A.units + 64 < cLine) {d e : Dt} {x y : V} {u v : Value} (h1 : Rep X.K H d x) (h2 : Rep X.K H e y) (hs : d.sim e = true) (hd : 1 ≤ d.dep) (hd2 : d.dep ≤ 60) (r1 : RelV x u) (r2 : RelV y v) :
    SeqAt.RcAt X.A s u v (d.eqb e) ∧ SeqAt.RcNeAt X.A s u v (!d.eqb e) := by
  cases d with
  | tup l =>
    cases e with
    | tup m =>
      simp only [Rep] at h1 h2
      obtain ⟨a, xs, rfl, q1, p1⟩ := h1
      obtain ⟨b, ys, rfl, q2, p2⟩ := h2
      cases r1; cases r2
      rw [show Dt.eqb (.tup l) (.tup m) = Dt.eqbs l m from by rw [Dt.eqb]]
      have hd3 : Dt.deps l + 1 ≤ 60 := by rw [Dt.dep] at hd2; exact hd2
      exact rc_tup I (eq_at I (Dt.deps l)) (Nat.le_refl _) (by omega) (by rw [Dt.sim] at hs; exact hs) q1 q2 p1 p2
    | _ => exact absurd hs (by rw [Dt.sim] <;> simp)
  | lst l =>
    cases e with
    | lst m =>
      simp only [Rep] at h1 h2
      obtain ⟨a, xs, rfl, q1, p1⟩ := h1
      obtain ⟨b, ys, rfl, q2, p2⟩ := h2
      cases r1; cases r2
      rw [show Dt.eqb (.lst l) (.lst m) = Dt.eqbs l m from by rw [Dt.eqb]]
      have hd3 : Dt.deps l + 1 ≤ 60 := by rw [Dt.dep] at hd2; exact hd2
      exact rc_lst I (eq_at I (Dt.deps l)) (Nat.le_refl _) (by omega) (by rw [Dt.sim] at hs; exact hs) q1 q2 p1 p2
    | _ => exact absurd hs (by rw [Dt.sim] <;> simp)
  | non => exact absurd (show 1 ≤ 0 from hd) (by decide)
  | bl b => exact absurd (show 1 ≤ 0 from hd) (by decide)
  | int b => exact absurd (show 1 ≤ 0 from hd) (by decide)
  | str b => exact absurd (show 1 ≤ 0 from hd) (by decide)
theorem op_eqD {X : Cx} (hu : X.A.units + 64 < cLine) : OpR X (compareOp .Eq) (rEqD X.K false) := by
  intro pins s σ H x y v u Q I rx ry h
  obtain ⟨d, e, h1, h2, hs, hd, hd2, q⟩ := h
  exact (eqD_at I hu h1 h2 hs hd hd2 rx ry).1 _ _ _ _ ⟨.bl (d.eqb e), H, I, rfl, q⟩
theorem op_neD {X : Cx} (hu : X.A.units + 64 < cLine) : OpR X (compareOp .NotEq) (rEqD X.K true) := by
  intro pins s σ H x y v u Q I rx ry h
  obtain ⟨d, e, h1, h2, hs, hd, hd2, q⟩ := h
  exact (eqD_at I hu h1 h2 hs hd hd2 rx ry).2 _ _ _ _ ⟨.bl (!d.eqb e), H, I, rfl, q⟩
end L2
namespace L2
open PySem PySem.Spec PyProof.Rows
theorem rel_mem {scope : Scope} {env : Env} {y : Str} {k : NameKind} (h : (relabel scope env).names.lookup y = some k) (hk : k = .cell ∨ k = .free) (hc : ∀ p ∈ scope.names, p.2 ≠ .cell) : (y, NameKind.free) ∈ scope.names := by
  have m := PySem.mem_of_lookup h
  obtain ⟨⟨n, k'⟩, hm, e⟩ := List.mem_map.mp (show (y, k) ∈ scope.names.map _ from m)
  dsimp only at e
  split at e
  · rename_i q
    cases e
    have z : (k' == NameKind.free) = true := (Bool.and_eq_true_iff.mp (Bool.and_eq_true_iff.mp q).1).1
    rw [beq_iff_eq.mp z] at hm
    exact hm
  · cases e
    rcases hk with rfl | rfl
    · exact absurd rfl (hc _ hm)
    · exact hm
theorem pe_comp0 {X : Cx} {elt iter tg : Expr} {scope : Scope} (Nc : List Str) {wi : TI} {g : TG} {te : TE} {pos : Pos} (hc : X.calm = true) (hi : PI X tg iter wi)
    (hg : ∀ C s₀ H₀ ex pn, PG (X.cp Nc scope [] C s₀ H₀ ex pn) tg g) (he : ∀ C s₀ H₀ ex pn, PE (X.cp Nc scope [] C s₀ H₀ ex pn) elt te)
    (hnf : ∀ p ∈ scope.names, p.2 ≠ .free := by decide +kernel) (hcell : ∀ y ∈ scope.names, y.2 ≠ .cell := by decide +kernel) (hkind : scope.kind = .function := by rfl) (hnames : ∀ y ∈ scope.names, y.2 = .local → scope.names.lookup y.1 = some .local := by decide +kernel)
    (hs : ∀ x, foldedSetIterable iter X.env x = pure x := by intro _; rfl) : PCo X (.ListComp elt [⟨tg, iter, [], 0⟩] scope pos) scope iter (tComp (Nc.map fun _ => none) wi g te) :=
  pe_comp (cl := []) (Nc := Nc) hc hi hg he (by simp) (fun _ _ h => nomatch h) (fun y h => absurd rfl (hnf _ (h.elim (fun z => rel_mem z (.inl rfl) hcell) fun z => rel_mem z (.inr rfl) hcell)))
    (fun i y j _ h => by
      rw [List.getElem?_map] at h
      cases q : Nc[i]? with
      | none => rw [q] at h; cases h
      | some z => rw [q] at h; cases h) (closureFor_none hnf) hcell hkind hnames hs
theorem pe_comp1 {X : Cx} {elt iter tg : Expr} {scope : Scope} (Nl : List Str) (y : Str) (j : Nat) {c : Addr} {wi : TI} {g : TG} {te : TE} {pos : Pos} (hc : X.calm = true) (hi : PI X tg iter wi)
    (hg : ∀ C s₀ H₀ ex pn, PG (X.cp (Nl ++ [y]) scope [(y, c)] C s₀ H₀ ex pn) tg g) (he : ∀ C s₀ H₀ ex pn, PE (X.cp (Nl ++ [y]) scope [(y, c)] C s₀ H₀ ex pn) elt te)
    (hclos : closureFor scope X.env = pure [(y, c)]) (hy : X.env.cells.lookup y = some c) (hN : X.N[j]? = some y) (hk : X.env.kindOf y = some .cell) (hb : (relabel scope X.env).names.lookup y = some .cell)
    (h1 : ∀ p ∈ scope.names, p.2 = .free → p.1 = y := by decide +kernel) (hcell : ∀ y ∈ scope.names, y.2 ≠ .cell := by decide +kernel) (hkind : scope.kind = .function := by rfl) (hnames : ∀ y ∈ scope.names, y.2 = .local → scope.names.lookup y.1 = some .local := by decide +kernel)
    (hs : ∀ x, foldedSetIterable iter X.env x = pure x := by intro _; rfl) : PCo X (.ListComp elt [⟨tg, iter, [], 0⟩] scope pos) scope iter (tComp ((Nl.map fun _ => none) ++ [some j]) wi g te) := by
  have look : ∀ z d, List.lookup z [(y, c)] = some d → z = y ∧ d = c := fun z d h => by
    have m := PySem.mem_of_lookup h
    cases List.mem_singleton.mp m
    exact ⟨rfl, rfl⟩
  have self : List.lookup y [(y, c)] = some c := by simp
  refine pe_comp (cl := [(y, c)]) (Nc := Nl ++ [y]) hc hi hg he (by simp) (fun z d h => ?_) (fun z h => ?_) (fun i z j' e1 e2 => ?_) hclos hcell hkind hnames hs
  · obtain ⟨rfl, rfl⟩ := look z d h
    exact hy
  · have m := h.elim (fun q => rel_mem q (.inl rfl) hcell) fun q => rel_mem q (.inr rfl) hcell
    have e : z = y := h1 _ m rfl
    subst e
    exact ⟨c, self⟩
  · have hi : i = Nl.length := by
      by_cases hlt : i < Nl.length
      · rw [List.getElem?_append_left (by simpa using hlt), List.getElem?_map] at e2
        cases q : Nl[i]? with
        | none => rw [q] at e2; cases e2
        | some z => rw [q] at e2; cases e2
      · have := (List.getElem?_eq_some_iff.mp e1).1
        simp at this
        omega
    subst hi
    have a1 : (Nl ++ [y])[Nl.length]? = some y := by simp
    have a2 : ((Nl.map fun _ => (none : Option Nat)) ++ [some j])[Nl.length]? = some (some j) := by
      rw [List.getElem?_append_right (by simp)]
      simp
    rw [a1] at e1; cases e1
    rw [a2] at e2; cases e2
    exact ⟨hN, .inr (.inl hk), by rw [hk]; exact (fun q => nomatch q), .inl hb, fun d h => by rw [hy] at h; cases h; exact self⟩
structure Callee (P : Program) (w : World) (K : PySem.W.Frag) (mg : Str → Option Value) (base : Heap) (k : Nat) (x : Str) (ps : List Str) (sp : Sp) : Prop where
  ex : ∃ f fd, FnOk P w K mg base (CXe P w) k f fd ps sp ∧ mg x = some (.ref f) ∧ PySem.W.keepIn K (.ref f) = true ∧ Binds K fd ps []
structure CalleeU (P : Program) (w : World) (K : PySem.W.Frag) (mg : Str → Option Value) (base : Heap) (k : Nat) (x : Str) (ps : List Str) (sp : Sp) : Prop where
  ex : ∃ f fd, FnOkU P w K mg base (CXe P w) k f fd ps sp ∧ mg x = some (.ref f) ∧ PySem.W.keepIn K (.ref f) = true ∧ Binds K fd ps []
section
variable {X : Cx} {k : Nat} {sp : Sp} {ps : List Str} {x : Str} {p pos : Pos} {e : Expr} {es : List Expr} {t : TA}
theorem pe_c {E : XK} (G : Callee X.prog X.w X.K X.mg X.base k x ps sp) (hr : Room k X.A) (hx : Passes (CXe X.prog X.w) X E) (ha : PA X (e :: es) t) (hg : Gl X x := by rfl)
    (hdb : (x == ("__debug__" : Str)) = false := by decide) (he : starEach (e :: es) X.env = (false, eval e X.env) :: starEach es X.env := by rfl) (hpl : (backTo pos (starEach es X.env)).any (·.1) = false := by rfl) :
    PE X (.Call (.Name x p) (e :: es) [] pos) (tCall sp [] E t) := by
  obtain ⟨f, fd, F, m, kp, b⟩ := G.ex
  exact pe_call F hr hg m kp b .nil hx ha hdb he hpl
theorem pe_cS {E : St → XK} (G : Callee X.prog X.w X.K X.mg X.base k x ps sp) (hr : Room k X.A) (hx : PassesS (CXe X.prog X.w) X E) (ha : PA X (e :: es) t) (hg : Gl X x := by rfl)
    (hdb : (x == ("__debug__" : Str)) = false := by decide) (he : starEach (e :: es) X.env = (false, eval e X.env) :: starEach es X.env := by rfl) (hpl : (backTo pos (starEach es X.env)).any (·.1) = false := by rfl) :
    PE X (.Call (.Name x p) (e :: es) [] pos) (tCallS sp [] E t) := by
  obtain ⟨f, fd, F, m, kp, b⟩ := G.ex
  exact pe_callS F hr hg m kp b .nil hx ha hdb he hpl
theorem pe_cU {E : XK} (G : CalleeU X.prog X.w X.K X.mg X.base k x ps sp) (hr : RoomU k X.A) (hx : Passes (CXe X.prog X.w) X E) (ha : PA X (e :: es) t) (hg : Gl X x := by rfl)
    (hdb : (x == ("__debug__" : Str)) = false := by decide) (he : starEach (e :: es) X.env = (false, eval e X.env) :: starEach es X.env := by rfl) (hpl : (backTo pos (starEach es X.env)).any (·.1) = false := by rfl) :
    PE X (.Call (.Name x p) (e :: es) [] pos) (tCall sp [] E t) := by
  obtain ⟨f, fd, F, m, kp, b⟩ := G.ex
  exact pe_callU F hr hg m kp b .nil hx ha hdb he hpl
end
theorem np {P : Program} {w : World} {X : Cx} : Passes (CXe P w) X E0 := passE0
end L2
namespace L2
open PySem PySem.Spec PyProof.Rows
def tMo (t : TE) : TE := fun σ H Q => ∃ Q0 : VK, t σ H Q0 ∧ ∀ v H', Q0 v H' → Q v H'
theorem PE.mo {X : Cx} {e : Expr} {t : TE} (h : PE X e t) : PE X e (tMo t) := fun pins s σ H Q I ⟨Q0, h0, k⟩ =>
  thn (h pins s σ H Q0 I h0) fun u s1 ⟨v, H1, I1, r, q⟩ => ⟨v, H1, I1, r, k v H1 q⟩
def FR (n : Nat) (g : TG) (tb : TS) (D : Ends) (σ : St) (H : Hp) : Prop := ∃ Pv : Nat → St → Hp → Prop, Pv 0 σ H ∧ (∀ i σ H, i < n → Pv i σ H → g (.int i) σ H fun σ2 H2 => tb { D with nx := Pv (i + 1), ct := Pv (i + 1), bk := D.nx } σ2 H2) ∧ ∀ σ H, Pv n σ H → D.nx σ H
def tForR (te : TE) (g : TG) (tb : TS) : TS := fun D σ H => te σ H fun v H1 => ∃ j : Int, v = .int j ∧ -(2 ^ 62) ≤ j ∧ j < 2 ^ 62 ∧ FR j.toNat g tb D σ H1
section
variable {X : Cx} {tg a : Expr} {body : List Stmt} {te : TE} {g : TG} {tb : TS} {p pos pos' : Pos}
theorem pi_rangeM (hg : Gl X "range") (hm : X.mg "range" = none) (ha : PE X a te) (hs : starEach [a] X.env = [(false, eval a X.env)]) : PI X tg (.Call (.Name "range" p) [a] [] pos) (iRng1 (tCons (tMo te) tNil)) := pi_range1 hg hm (pa_cons ha.mo pa_nil (by rw [hs]; rfl)) hs
theorem ps_forR (hc : X.calm = true) (hp : PassesOwn (model X.prog X.w) X.A X.env X.xe) (hm : X.mg "range" = none) (ha : PE X a te) (hgt : PG X tg g) (hb : PSs X body tb) (hg : Gl X "range" := by rfl) (hs : starEach [a] X.env = [(false, eval a X.env)] := by rfl) :
    PS X (.For tg (.Call (.Name "range" p) [a] [] pos') body [] pos) (tForR te g tb) := by
  intro pins s σ H D I h
  refine ps_for hp hc (pi_rangeM hg hm ha hs) hgt hb (by intro _; rfl) pins s σ H D I ?_
  refine ⟨_, h, fun v H1 ⟨j, e, b1, b2, Pv, p0, pt, pd⟩ => ⟨j, by rw [e], b1, b2, ?_⟩⟩
  exact for_range (lo := 0) (n := j.toNat) Pv p0 (fun i σ' H' hi q => by rw [show (0 : Int) + (i : Int) = (i : Int) from Int.zero_add _]; exact pt i σ' H' hi q) pd
end
def FL (xs : List V) (at_ : Hp → Prop) (g : TG) (tb : TS) (D : Ends) (σ : St) (H : Hp) : Prop := ∃ Pv : Nat → St → Hp → Prop, Pv 0 σ H ∧ (∀ i σ H, i ≤ xs.length → Pv i σ H → at_ H) ∧ (∀ i x σ H, xs[i]? = some x → Pv i σ H → g x σ H fun σ2 H2 => tb { D with nx := Pv (i + 1), ct := Pv (i + 1), bk := D.nx } σ2 H2) ∧ ∀ σ H, Pv xs.length σ H → D.nx σ H
def tForL (K : PySem.W.Frag) (te : TE) (g : TG) (tb : TS) : TS := fun D σ H => te σ H fun v H1 => ∃ a xs, v = .ref a ∧ SqL K H1 a xs ∧ FL xs (fun H => SqL K H a xs) g tb D σ H1
def tForT (K : PySem.W.Frag) (te : TE) (g : TG) (tb : TS) : TS := fun D σ H => te σ H fun v H1 => ∃ a xs, v = .ref a ∧ SqT K H1 a xs ∧ FL xs (fun H => SqT K H a xs) g tb D σ H1
section
variable {X : Cx} {tg l : Expr} {body : List Stmt} {te : TE} {g : TG} {tb : TS} {p pos pos' : Pos}
theorem ps_forT (hc : X.calm = true) (hp : PassesOwn (model X.prog X.w) X.A X.env X.xe) (hl : PE X l te) (hgt : PG X tg g) (hb : PSs X body tb) (hs : ∀ x, foldedSetIterable l X.env x = pure x := by intro _; rfl) :
    PS X (.For tg l body [] pos) (tForT X.K te g tb) := by
  intro pins s σ H D I h
  refine ps_for hp hc (pi_tup hl.mo) hgt hb hs pins s σ H D I ?_
  refine ⟨_, h, fun v H1 ⟨a, xs, e, q, Pv, p0, pl, pt, pd⟩ => ⟨a, e, ⟨xs, q⟩, ?_⟩⟩
  exact for_tup (xs := xs) Pv p0 pl pt pd
end
def CO (n : Nat) (src : Nat → Hp → V → Prop) (st : Hp → Prop) (js : List (Option Nat)) (g : TG) (tl : TE) (σ : St) (H1 : Hp) (Q : VK) : Prop := ∀ D, H1 D = none → ∃ Pv : Nat → List V → St → Hp → Prop, Pv 0 [] (cσ js σ) (upd H1 D (.lst [])) ∧ (∀ i ys σc H, i ≤ n → Pv i ys σc H → st H) ∧
  (∀ i ys σc H x, i < n → Pv i ys σc H → src i H x → g x σc H fun σ2 H2 => tl σ2 H2 fun y H3 => H3 D = some (.lst ys) ∧ ys.length < sizeLine ∧ Pv (i + 1) (ys ++ [y]) σ2 (upd H3 D (.lst (ys ++ [y])))) ∧ ∀ ys σc H, Pv n ys σc H → H D = some (.lst ys) ∧ Q (.ref D) H
def tMoG (g : TG) : TG := fun v σ H Q => ∃ Q0 : St → Hp → Prop, g v σ H Q0 ∧ ∀ σ' H', Q0 σ' H' → Q σ' H'
theorem CO.run {n : Nat} {src : Nat → Hp → V → Prop} {st : Hp → Prop} {js : List (Option Nat)} {g : TG} {tl : TE} {σ : St} {H1 : Hp} {Q : VK} {J : It} (h : CO n src st js g tl σ H1 Q) (hgo : ∀ i H, i < n → st H → J.go i H) (hst : ∀ H, st H → J.stop n H) (hy : ∀ i H x H', i < n → st H → J.yld i H x H' → H' = H ∧ src i H x) :
    ∀ D, H1 D = none → ∃ W : Nat → Nat → List V → St → Hp → Prop, (∃ m, W 0 m [] (cσ js σ) (upd H1 D (.lst []))) ∧
    ∀ i m ys σc H, W i m ys σc H → (H D = some (.lst ys) ∧ J.stop i H ∧ Q (.ref D) H) ∨ (J.go i H ∧ ∀ x H', J.yld i H x H' → tMoG g x σc H' fun σ2 H2 => tMo tl σ2 H2 fun y H3 => H3 D = some (.lst ys) ∧ ys.length < sizeLine ∧ ∃ m', m' < m ∧ W (i + 1) m' (ys ++ [y]) σ2 (upd H3 D (.lst (ys ++ [y])))) := by
  intro D hD
  obtain ⟨Pv, p0, ps, pt, pd⟩ := h D hD
  refine ⟨fun i m ys σc H => m = n - i ∧ i ≤ n ∧ Pv i ys σc H, ⟨n, by simp, Nat.zero_le _, p0⟩, ?_⟩
  rintro i m ys σc H ⟨rfl, hi, p⟩
  have s0 := ps i ys σc H hi p
  by_cases hlt : i < n
  · refine .inr ⟨hgo i H hlt s0, fun x H' y => ?_⟩
    obtain ⟨rfl, hx⟩ := hy i H x H' hlt s0 y
    have z := pt i ys σc H' x hlt p hx
    exact ⟨_, z, fun σ2 H2 z2 => ⟨_, z2, fun y3 H3 ⟨a1, a2, a3⟩ => ⟨a1, a2, n - (i + 1), by omega, rfl, hlt, a3⟩⟩⟩
  · have e : i = n := by omega
    subst e
    obtain ⟨a1, a2⟩ := pd ys σc H p
    exact .inl ⟨a1, hst H s0, a2⟩
def tCoR (js : List (Option Nat)) (te : TE) (g : TG) (tl : TE) : TE := fun σ H Q => te σ H fun v H1 => ∃ j : Int, v = .int j ∧ -(2 ^ 62) ≤ j ∧ j < 2 ^ 62 ∧ CO j.toNat (fun i _ x => x = .int i) (fun _ => True) js g tl σ H1 Q
def tCoL (K : PySem.W.Frag) (js : List (Option Nat)) (te : TE) (g : TG) (tl : TE) : TE := fun σ H Q => te σ H fun v H1 => ∃ a xs, v = .ref a ∧ SqL K H1 a xs ∧ CO xs.length (fun i _ x => xs[i]? = some x) (fun H => SqL K H a xs) js g tl σ H1 Q
def tCoT (K : PySem.W.Frag) (js : List (Option Nat)) (te : TE) (g : TG) (tl : TE) : TE := fun σ H Q => te σ H fun v H1 => ∃ a xs, v = .ref a ∧ SqT K H1 a xs ∧ CO xs.length (fun i _ x => xs[i]? = some x) (fun H => SqT K H a xs) js g tl σ H1 Q
theorem PG.mo {X : Cx} {tg : Expr} {g : TG} (h : PG X tg g) : PG X tg (tMoG g) := fun pins s σ H v u Q I r ⟨Q0, h0, k⟩ =>
  thn (h pins s σ H v u Q0 I r h0) fun _ s1 ⟨σ1, H1, I1, q⟩ => ⟨σ1, H1, I1, k σ1 H1 q⟩
section
variable {X : Cx} {tg a elt : Expr} {te tl : TE} {g : TG} {p pos pos' : Pos} {scope : Scope} {cl : List (Str × Addr)} {Nc : List Str} {js : List (Option Nat)}
theorem coR (hm : X.mg "range" = none) (ha : PE X a te) (hp : ∀ (wi : TI), PI X tg (.Call (.Name "range" p) [a] [] pos') wi → PCo X (.ListComp elt [⟨tg, .Call (.Name "range" p) [a] [] pos', [], 0⟩] scope pos) scope (.Call (.Name "range" p) [a] [] pos') (tComp js wi (tMoG g) (tMo tl)))
    (hg : Gl X "range" := by rfl) (hs : starEach [a] X.env = [(false, eval a X.env)] := by rfl) : PCo X (.ListComp elt [⟨tg, .Call (.Name "range" p) [a] [] pos', [], 0⟩] scope pos) scope (.Call (.Name "range" p) [a] [] pos') (tCoR js te g tl) := by
  refine (hp _ (pi_rangeM hg hm ha hs)).of fun σ H Q h => ?_
  refine ⟨_, h, fun v H1 ⟨j, e, b1, b2, c⟩ => ⟨j, by rw [e], b1, b2, ?_⟩⟩
  refine CO.run (J := Itr 0 j.toNat) c (fun _ _ h _ => h) (fun _ _ => Nat.le_refl _) fun i H x H' _ _ y => ⟨y.1, ?_⟩
  rw [y.2, Int.zero_add]
theorem coL (ha : PE X a te) (hp : ∀ (wi : TI), PI X tg a wi → PCo X (.ListComp elt [⟨tg, a, [], 0⟩] scope pos) scope a (tComp js wi (tMoG g) (tMo tl))) : PCo X (.ListComp elt [⟨tg, a, [], 0⟩] scope pos) scope a (tCoL X.K js te g tl) := by
  refine (hp _ (pi_list ha.mo)).of fun σ H Q h => ?_
  refine ⟨_, h, fun v H1 ⟨b, xs, e, q, c⟩ => ⟨b, e, ⟨xs, q⟩, ?_⟩⟩
  refine CO.run (J := Itl X.K b) c (fun i H hi z => ⟨xs, xs[i], z, by simp [hi]⟩) (fun H z => ⟨xs, z, Nat.le_refl _⟩) fun i H x H' _ z y => ⟨y.1, y.2 xs z⟩
theorem coT (ha : PE X a te) (hp : ∀ (wi : TI), PI X tg a wi → PCo X (.ListComp elt [⟨tg, a, [], 0⟩] scope pos) scope a (tComp js wi (tMoG g) (tMo tl))) : PCo X (.ListComp elt [⟨tg, a, [], 0⟩] scope pos) scope a (tCoT X.K js te g tl) := by
  refine (hp _ (pi_tup ha.mo)).of fun σ H Q h => ?_
  refine ⟨_, h, fun v H1 ⟨b, xs, e, q, c⟩ => ⟨b, e, ⟨xs, q⟩, ?_⟩⟩
  refine CO.run (J := Itt X.K b) c (fun i H hi z => ⟨xs, xs[i], z, by simp [hi]⟩) (fun H z => ⟨xs, z, Nat.le_refl _⟩) fun i H x H' _ z y => ⟨y.1, y.2 xs z⟩
end
def WH (c : TT) (tb : TS) (D : Ends) (σ : St) (H : Hp) : Prop := ∃ (Pv : St → Hp → Prop) (μ : St → Hp → Nat), Pv σ H ∧ ∀ σ H, Pv σ H → c σ H fun b H1 => if b = true then tb { D with nx := fun σ' H' => Pv σ' H' ∧ μ σ' H' < μ σ H, ct := fun σ' H' => Pv σ' H' ∧ μ σ' H' < μ σ H, bk := D.nx } σ H1 else D.nx σ H1
def tMoT (t : TT) : TT := fun σ H Q => ∃ Q0 : Bool → Hp → Prop, t σ H Q0 ∧ ∀ v H', Q0 v H' → Q v H'
theorem PT.mo {X : Cx} {e : Expr} {t : TT} (h : PT X e t) : PT X e (tMoT t) := fun pins s σ H Q I ⟨Q0, h0, k⟩ => thn (h pins s σ H Q0 I h0) fun u s1 ⟨H1, I1, q⟩ => ⟨H1, I1, k u H1 q⟩
theorem ps_wh {X : Cx} {c : Expr} {body : List Stmt} {tc : TT} {tb : TS} {pos : Pos} (hp : PassesOwn (model X.prog X.w) X.A X.env X.xe) (hc : PT X c tc) (hb : PSs X body tb) : PS X (.While c body [] pos) (WH tc tb) := by
  intro pins s σ H D I ⟨Pv, μ, h0, hs⟩
  refine ps_while hp hc.mo hb pins s σ H D I (while_by Pv μ h0 (fun σ H q => ⟨_, hs σ H q, fun _ _ z => z⟩) fun σ H Q Q' k ⟨Q0, h0, k0⟩ => ⟨Q0, h0, fun b H1 z => k b H1 (k0 b H1 z)⟩)
end L2
namespace L2
open PySem PySem.Spec PyProof.Rows
theorem kit_int_int (K : PySem.W.Frag) : PySem.W.kitOne K (.type "int") (.type "int") = some true := by
  unfold PySem.W.kitOne
  rw [if_pos (by decide)]
theorem kit_tup_tup (K : PySem.W.Frag) : PySem.W.kitOne K (.type "tuple") (.type "tuple") = some true := by
  unfold PySem.W.kitOne
  rw [if_pos (by decide)]
theorem kit_int_bool (K : PySem.W.Frag) : PySem.W.kitOne K (.type "int") (.type "bool") = some false := by
  unfold PySem.W.kitOne
  rw [if_neg (by decide)]
  show (if PySem.W.kitMeta "bool" = true then (fastBuiltinMro "int").map (·.contains (.type "bool")) else none) = some false
  decide +kernel
section
variable {K : PySem.W.Frag} {H : Hp} {Q : VK}
theorem isi_ii {a : Int} (q : Q (.bl true) H) : rIsi K [.int a, .ty "int"] H Q := ⟨_, _, _, _, _, rfl, rfl, .of (.int a), kit_int_int K, q⟩
theorem isi_ib {a : Int} (q : Q (.bl false) H) : rIsi K [.int a, .ty "bool"] H Q := ⟨_, _, _, _, _, rfl, rfl, .of (.int a), kit_int_bool K, q⟩
theorem isi_x {a C : Addr} {c : V} {cv : Value} {b : Bool} {dv : Option Addr} (e : H a = some (excD a (.ref C) dv)) (x : XCls K C) (hc : clsV c = some cv) (k : PySem.W.kitOne K (.ref C) cv = some b) (q : Q (.bl b) H) : rIsi K [.ref a, c] H Q := ⟨_, _, _, _, _, rfl, hc, .exc e x, k, q⟩
end
theorem gcd_step {x y : Int} (hx : 0 ≤ x) (hy : 0 < y) : Int.gcd y (x % y) = Int.gcd x y := by
  obtain ⟨m, rfl⟩ := Int.eq_ofNat_of_zero_le hx
  obtain ⟨n, rfl⟩ := Int.eq_ofNat_of_zero_le (Int.le_of_lt hy)
  rw [← Int.natCast_emod]
  show Nat.gcd n (m % n) = Nat.gcd m n
  rw [Nat.gcd_comm n, ← Nat.gcd_rec, Nat.gcd_comm]
theorem gcd_end {x : Int} (hx : 0 ≤ x) : ((Int.gcd x 0 : Nat) : Int) = x := by
  rw [Int.gcd_zero_right]
  omega
theorem sz_le (n : Nat) (h : n ≤ 1000) : n ≤ sizeLine := Nat.le_of_lt (small1000 h)
theorem same_upd {H : Hp} {p : Addr} {o : HO} (h : H p = none) : Same H (upd H p o) := fun b u e => by rw [upd_ne (ne_of_none e h)]; exact e
theorem CO.pure1 {n : Nat} {src : Nat → Hp → V → Prop} {st : Hp → Prop} {js : List (Option Nat)} {tl : TE} {σ : St} {H1 : Hp} {Q : VK} (f : Nat → V) (hn : n ≤ 1000) (hst : ∀ H, Same H1 H → st H)
    (hel : ∀ i H x (R : VK), i < n → Same H1 H → src i H x → (∀ y H3, y = f i → Same H H3 → R y H3) → tl (some x :: cσ js σ) H R)
    (hq : ∀ D H, Same H1 H → H1 D = none → H D = some (.lst ((List.range n).map f)) → Q (.ref D) H) : CO n src st (none :: js) (gName 0) tl σ H1 Q := by
  intro D hD
  refine ⟨fun i ys σc H => (∃ r, σc = r :: cσ js σ) ∧ Same H1 H ∧ H D = some (.lst ys) ∧ ys = (List.range i).map f, ⟨⟨none, rfl⟩, same_upd hD, upd_same, rfl⟩, fun i ys σc H _ h => hst H h.2.1, ?_, ?_⟩
  · rintro i ys σc H x hi ⟨⟨r, rfl⟩, sm, hd, rfl⟩ hx
    refine hel i H x _ hi sm hx fun y H3 hy s3 => ?_
    refine ⟨s3 _ _ hd, small1000 (by simp; omega), ⟨_, rfl⟩, ?_, upd_same, ?_⟩
    · intro b o z
      rw [upd_ne (ne_of_none z hD)]
      exact s3 _ _ (sm _ _ z)
    · rw [hy, List.range_succ, List.map_append]
      rfl
  · rintro ys σc H ⟨_, sm, hd, rfl⟩
    exact ⟨hd, hq D H sm hD hd⟩
theorem neD_same {K : PySem.W.Frag} {H : Hp} {x y : V} {Q : VK} (d : Dt) (h1 : Rep K H d x) (h2 : Rep K H d y) (a : 1 ≤ d.dep) (b : d.dep ≤ 60) (q : Q (.bl false) H) : rEqD K true x y H Q := ⟨d, d, h1, h2, d.sim_refl, a, b, by rw [d.eqb_refl]; exact q⟩
theorem eqD_same {K : PySem.W.Frag} {H : Hp} {x y : V} {Q : VK} (d : Dt) (h1 : Rep K H d x) (h2 : Rep K H d y) (a : 1 ≤ d.dep) (b : d.dep ≤ 60) (q : Q (.bl true) H) : rEqD K false x y H Q := ⟨d, d, h1, h2, d.sim_refl, a, b, by rw [d.eqb_refl]; exact q⟩
theorem reps_bl {K : PySem.W.Frag} {H : Hp} : ∀ bs : List Bool, Reps K H (bs.map Dt.bl) (bs.map V.bl)
  | [] => by simp [Reps]
  | b :: bs => by
    simp only [List.map_cons, Reps]
    exact ⟨_, _, rfl, by simp only [Rep], reps_bl bs⟩
theorem deps_bl : ∀ bs : List Bool, Dt.deps (bs.map Dt.bl) = 0
  | [] => rfl
  | b :: bs => by rw [List.map_cons, Dt.deps, deps_bl bs]; rfl
theorem neD_bools {K : PySem.W.Frag} {H : Hp} {l l' : Addr} {bs : List Bool} {Q : VK} (h1 : H l = some (.lst (bs.map V.bl))) (h2 : H l' = some (.lst (bs.map V.bl))) (q : Q (.bl false) H) : rEqD K true (.ref l) (.ref l') H Q := by
  refine neD_same (.lst (bs.map Dt.bl)) ?_ ?_ ?_ ?_ q
  · simp only [Rep]; exact ⟨l, _, rfl, SqL.of h1, reps_bl bs⟩
  · simp only [Rep]; exact ⟨l', _, rfl, SqL.of h2, reps_bl bs⟩
  · rw [Dt.dep]; omega
  · rw [Dt.dep, deps_bl]; decide
theorem gcd_abs (a b : Int) : Int.gcd (if a < 0 then -a else a) (if b < 0 then -b else b) = Int.gcd a b := by
  split <;> split <;> simp
end L2
namespace Mt
structure Red (t b u v : Int) : Prop where
  pos : 1 ≤ v
  low : Int.gcd u v = 1
  eq : u * b = t * v
  ut : u.natAbs ≤ t.natAbs
  vb : v.natAbs ≤ b.natAbs
theorem red_mk {t b g u v : Int} (hg : g ≠ 0) (ht : t = g * u) (hb : b = g * v) (hv : 0 < v) (hc : Int.gcd u v = 1) : Red t b u v := by
  have h1 : 1 ≤ g.natAbs := by omega
  refine ⟨hv, hc, ?_, ?_, ?_⟩
  · rw [hb, ht, ← Int.mul_assoc, Int.mul_comm u g]
  · rw [ht, Int.natAbs_mul]
    exact Nat.le_mul_of_pos_left _ h1
  · rw [hb, Int.natAbs_mul]
    exact Nat.le_mul_of_pos_left _ h1
theorem gcd_parts {t b : Int} (hb : b ≠ 0) : ∃ u v : Int, t = (Int.gcd t b : Nat) * u ∧ b = (Int.gcd t b : Nat) * v ∧ Int.gcd u v = 1 ∧ 0 < Int.gcd t b := by
  have hp : 0 < Int.gcd t b := Int.gcd_pos_of_ne_zero_right t hb
  refine ⟨t / (Int.gcd t b : Nat), b / (Int.gcd t b : Nat), ?_, ?_, Int.gcd_ediv_gcd_ediv_gcd hp, hp⟩
  · exact (Int.mul_ediv_cancel' (Int.gcd_dvd_left t b)).symm
  · exact (Int.mul_ediv_cancel' (Int.gcd_dvd_right t b)).symm
theorem fdiv_part {x g u : Int} (hg : g ≠ 0) (h : x = g * u) : x.fdiv g = u := by rw [h, Int.mul_fdiv_cancel_left _ hg]
theorem red_pos {t b : Int} (hb : 0 < b) : Red t b (t.fdiv (Int.gcd t b : Nat)) (b.fdiv (Int.gcd t b : Nat)) := by
  obtain ⟨u, v, h1, h2, hc, hp⟩ := gcd_parts (t := t) (show b ≠ 0 by omega)
  have hg : ((Int.gcd t b : Nat) : Int) ≠ 0 := by omega
  rw [fdiv_part hg h1, fdiv_part hg h2]
  refine red_mk hg h1 h2 ?_ hc
  have hn : (0 : Int) < (Int.gcd t b : Nat) := by omega
  rcases Int.lt_trichotomy v 0 with z | z | z
  · have := Int.mul_neg_of_pos_of_neg hn z
    omega
  · rw [z, Int.mul_zero] at h2; omega
  · exact z
theorem gcd_le {t b : Int} (hb : b ≠ 0) : (Int.gcd t b) ≤ b.natAbs := by
  have h : (Int.gcd t b) ∣ b.natAbs := Nat.gcd_dvd_right _ _
  exact Nat.le_of_dvd (by omega) h
end Mt
namespace Mt
structure Fr (t b : Int) : Prop where
  pos : 1 ≤ b
  low : Int.gcd t b = 1
structure Is (t b u v : Int) : Prop where
  fr : Fr u v
  eq : u * b = t * v
theorem cop {a b : Int} : Int.gcd a b = 1 ↔ Nat.Coprime a.natAbs b.natAbs := Iff.rfl
theorem cop_mul_right {k a b : Int} (h1 : Int.gcd k a = 1) (h2 : Int.gcd k b = 1) : Int.gcd k (a * b) = 1 := by
  rw [cop, Int.natAbs_mul]
  exact Nat.Coprime.mul_right h1 h2
theorem cop_dvd_left {k l a : Int} (h : Int.gcd k a = 1) (d : l ∣ k) : Int.gcd l a = 1 := by
  rw [cop] at *
  exact Nat.Coprime.coprime_dvd_left (Int.natAbs_dvd_natAbs.mpr d) h
theorem cop_dvd_right {k l a : Int} (h : Int.gcd a k = 1) (d : l ∣ k) : Int.gcd a l = 1 := by
  rw [Int.gcd_comm] at *
  exact cop_dvd_left h d
theorem cop_add_mul {a b c : Int} (h : Int.gcd a c = 1) : Int.gcd (a + b * c) c = 1 := by
  rw [Int.gcd_eq_one_iff] at *
  intro k h1 h2
  refine h k ?_ h2
  have h3 : k ∣ b * c := Int.dvd_trans h2 ⟨b, Int.mul_comm b c⟩
  have := Int.dvd_sub h1 h3
  rw [Int.add_sub_cancel] at this
  exact this
theorem cop_mul_left {k a b : Int} (h1 : Int.gcd a k = 1) (h2 : Int.gcd b k = 1) : Int.gcd (a * b) k = 1 := by
  rw [Int.gcd_comm] at *
  exact cop_mul_right h1 h2
theorem parts {t b : Int} (hb : b ≠ 0) : ∃ u v g : Int, g = (Int.gcd t b : Nat) ∧ 0 < g ∧ t = g * u ∧ b = g * v ∧ Int.gcd u v = 1 ∧ t.fdiv g = u ∧ b.fdiv g = v := by
  obtain ⟨u, v, h1, h2, hc, hp⟩ := gcd_parts (t := t) hb
  have hg : ((Int.gcd t b : Nat) : Int) ≠ 0 := by omega
  exact ⟨u, v, _, rfl, by omega, h1, h2, hc, fdiv_part hg h1, fdiv_part hg h2⟩
theorem pos_of_mul {g v b : Int} (hg : 0 < g) (h : b = g * v) (hb : 0 < b) : 0 < v := by
  rcases Int.lt_trichotomy v 0 with z | z | z
  · have := Int.mul_neg_of_pos_of_neg hg z; omega
  · rw [z, Int.mul_zero] at h; omega
  · exact z
theorem le_mul1 {g v : Int} (hg : 0 < g) (hv : 0 < v) : g ≤ g * v := by
  have h : g * 1 ≤ g * v := Int.mul_le_mul_of_nonneg_left (by omega) (by omega)
  rw [Int.mul_one] at h
  exact h
theorem plus_ok {a0 a1 b0 b1 : Int} (ha : Fr a0 a1) (hb : Fr b0 b1) :
    let p : Int := (Int.gcd a1 b1 : Nat)
    let t := a0 * b1.fdiv p + b0 * a1.fdiv p
    let r : Int := (Int.gcd t p : Nat)
    Is (a0 * b1 + b0 * a1) (a1 * b1) (t.fdiv r) (a1.fdiv p * b1.fdiv r) ∧ 0 < p ∧ 0 < r ∧ p ≤ a1 ∧ p ≤ b1 ∧ r ≤ p ∧ (b1.fdiv p).natAbs ≤ b1.natAbs ∧ (a1.fdiv p).natAbs ≤ a1.natAbs ∧ (b1.fdiv r).natAbs ≤ b1.natAbs := by
  intro p t r
  have hb1 : b1 ≠ 0 := by have := hb.pos; omega
  obtain ⟨A, B, g, eg, hg, e1, e2, cAB, f1, f2⟩ := parts (t := a1) hb1
  have ep : p = g := eg.symm
  have et : t = a0 * B + b0 * A := by show a0 * b1.fdiv p + b0 * a1.fdiv p = _; rw [ep, f1, f2]
  have hp0 : p ≠ 0 := by omega
  obtain ⟨T, D, e, ee, he, g1, g2, cTD, k1, k2⟩ := parts (t := t) hp0
  have er : r = e := ee.symm
  have hA : 0 < A := pos_of_mul hg e1 (by have := ha.pos; omega)
  have hB : 0 < B := pos_of_mul hg e2 (by have := hb.pos; omega)
  have hD : 0 < D := pos_of_mul he g2 (by omega)
  -- b1 = e * (D * B)
  have e3 : b1 = e * (D * B) := by rw [e2, ← ep, g2, Int.mul_assoc]
  have f3 : b1.fdiv r = D * B := by rw [er]; exact fdiv_part (by omega) e3
  have f4 : a1.fdiv p = A := by rw [ep]; exact f1
  have f5 : t.fdiv r = T := by rw [er]; exact k1
  -- T is prime to A, B, D
  have cA : Int.gcd t A = 1 := by
    rw [et]
    refine cop_add_mul (cop_mul_left (cop_dvd_right ha.low ⟨g, by rw [Int.mul_comm]; exact e1⟩) ?_)
    rw [Int.gcd_comm]; exact cAB
  have cB : Int.gcd t B = 1 := by
    rw [et, Int.add_comm]
    exact cop_add_mul (cop_mul_left (cop_dvd_right hb.low ⟨g, by rw [Int.mul_comm]; exact e2⟩) cAB)
  have dT : T ∣ t := ⟨e, by rw [Int.mul_comm]; exact g1⟩
  refine ⟨⟨⟨?_, ?_⟩, ?_⟩, by omega, by omega, ?_, ?_, ?_, ?_, ?_, ?_⟩
  · rw [f3, f4]
    have := Int.mul_pos hA (Int.mul_pos hD hB)
    omega
  · rw [f3, f4, f5]
    exact cop_mul_right (cop_dvd_left cA dT) (cop_mul_right cTD (cop_dvd_left cB dT))
  · rw [f3, f4, f5]
    -- T * (a1 * b1) = (a0 * b1 + b0 * a1) * (A * (D * B))
    have q1 : a0 * b1 + b0 * a1 = g * (e * T) := by
      rw [← g1, et, e1, e2, Int.mul_add]
      congr 1
      · rw [← Int.mul_assoc, Int.mul_comm a0 g, Int.mul_assoc]
      · rw [← Int.mul_assoc, Int.mul_comm b0 g, Int.mul_assoc]
    rw [q1, e3, e1]
    simp only [Int.mul_assoc, Int.mul_comm, Int.mul_left_comm]
  · rw [ep, e1]
    exact le_mul1 (by omega) (by omega)
  · rw [ep, e2]
    exact le_mul1 (by omega) (by omega)
  · rw [er, g2]
    exact le_mul1 (by omega) (by omega)
  · rw [ep, f2, e2, Int.natAbs_mul]
    exact Nat.le_mul_of_pos_left _ (by omega)
  · rw [f4, e1, Int.natAbs_mul]
    exact Nat.le_mul_of_pos_left _ (by omega)
  · rw [f3, e3, Int.natAbs_mul e]
    exact Nat.le_mul_of_pos_left _ (by omega)
theorem times_ok {a0 a1 b0 b1 : Int} (ha : Fr a0 a1) (hb : Fr b0 b1) :
    let f : Int := (Int.gcd a0 b1 : Nat)
    let s : Int := (Int.gcd b0 a1 : Nat)
    Is (a0 * b0) (a1 * b1) (a0.fdiv f * b0.fdiv s) (a1.fdiv s * b1.fdiv f) ∧ 0 < f ∧ 0 < s ∧ f ≤ b1 ∧ s ≤ a1 ∧ (a0.fdiv f).natAbs ≤ a0.natAbs ∧ (b0.fdiv s).natAbs ≤ b0.natAbs ∧ (a1.fdiv s).natAbs ≤ a1.natAbs ∧ (b1.fdiv f).natAbs ≤ b1.natAbs := by
  intro f s
  obtain ⟨A, B, g, eg, hg, e1, e2, cAB, f1, f2⟩ := parts (t := a0) (b := b1) (by have := hb.pos; omega)
  obtain ⟨C, D, k, ek, hk, e3, e4, cCD, f3, f4⟩ := parts (t := b0) (b := a1) (by have := ha.pos; omega)
  have ef : f = g := eg.symm
  have es : s = k := ek.symm
  rw [ef, es, f1, f2, f3, f4]
  have hB : 0 < B := pos_of_mul hg e2 (by have := hb.pos; omega)
  have hD : 0 < D := pos_of_mul hk e4 (by have := ha.pos; omega)
  have dA : A ∣ a0 := ⟨g, by rw [Int.mul_comm]; exact e1⟩
  have dB : B ∣ b1 := ⟨g, by rw [Int.mul_comm]; exact e2⟩
  have dC : C ∣ b0 := ⟨k, by rw [Int.mul_comm]; exact e3⟩
  have dD : D ∣ a1 := ⟨k, by rw [Int.mul_comm]; exact e4⟩
  refine ⟨⟨⟨?_, ?_⟩, ?_⟩, hg, hk, ?_, ?_, ?_, ?_, ?_, ?_⟩
  · have := Int.mul_pos hD hB; omega
  · exact cop_mul_right (cop_mul_left (cop_dvd_left (cop_dvd_right ha.low dD) dA) cCD) (cop_mul_left cAB (cop_dvd_left (cop_dvd_right hb.low dB) dC))
  · rw [e1, e2, e3, e4]
    simp only [Int.mul_assoc, Int.mul_comm, Int.mul_left_comm]
  · rw [e2]; exact le_mul1 (by omega) (by omega)
  · rw [e4]; exact le_mul1 (by omega) (by omega)
  · rw [e1, Int.natAbs_mul]; exact Nat.le_mul_of_pos_left _ (by omega)
  · rw [e3, Int.natAbs_mul]; exact Nat.le_mul_of_pos_left _ (by omega)
  · rw [e4, Int.natAbs_mul]; exact Nat.le_mul_of_pos_left _ (by omega)
  · rw [e2, Int.natAbs_mul]; exact Nat.le_mul_of_pos_left _ (by omega)
theorem Red.is {t b u v : Int} (h : Red t b u v) : Is t b u v := ⟨⟨h.pos, h.low⟩, h.eq⟩
end Mt
namespace Mt
theorem Is.rat {t b u v : Int} (h : Is t b u v) (hb : b ≠ 0) : u = (Rat.divInt t b).num ∧ v = ((Rat.divInt t b).den : Int) := by
  have hv := h.fr.pos
  have hn : v.toNat ≠ 0 := by omega
  have hc : (v.toNat : Int) = v := Int.toNat_of_nonneg (by omega)
  have hco : u.natAbs.Coprime v.toNat := by
    have := h.fr.low
    have e : v.natAbs = v.toNat := by omega
    rw [cop, e] at this
    exact this
  have e1 := Rat.num_divInt_den ⟨u, v.toNat, hn, hco⟩
  dsimp only at e1
  rw [hc] at e1
  have e2 : Rat.divInt t b = Rat.divInt u v := (Rat.divInt_eq_divInt_iff hb (by omega)).mpr (by rw [h.eq])
  rw [e2, e1]
  exact ⟨rfl, hc.symm⟩
theorem Is.dvd {t b u v : Int} (h : Is t b u v) : v ∣ b ∧ u ∣ t := by
  have e := h.eq
  have c : Nat.Coprime u.natAbs v.natAbs := h.fr.low
  constructor
  · have d : v.natAbs ∣ u.natAbs * b.natAbs := by
      rw [← Int.natAbs_mul, e, Int.natAbs_mul]
      exact Nat.dvd_mul_left _ _
    exact Int.natAbs_dvd_natAbs.mp (c.symm.dvd_of_dvd_mul_left d)
  · have d : u.natAbs ∣ v.natAbs * t.natAbs := by
      rw [← Int.natAbs_mul, Int.mul_comm, ← e, Int.natAbs_mul]
      exact Nat.dvd_mul_right _ _
    exact Int.natAbs_dvd_natAbs.mp (c.dvd_of_dvd_mul_left d)
theorem fr_rat (a : Rat) : Fr a.num a.den := ⟨by have := a.den_nz; omega, by rw [cop]; exact a.reduced⟩
theorem den_pos (a : Rat) : (0 : Int) < a.den := by have := a.den_nz; omega
theorem den_ne (a : Rat) : (a.den : Int) ≠ 0 := by have := a.den_nz; omega
theorem rat_add (a b : Rat) : Rat.divInt (a.num * b.den + b.num * a.den) (a.den * b.den) = a + b := by
  rw [← Rat.divInt_add_divInt _ _ (den_ne a) (den_ne b), Rat.num_divInt_den, Rat.num_divInt_den]
theorem rat_mul (a b : Rat) : Rat.divInt (a.num * b.num) (a.den * b.den) = a * b := by
  rw [← Rat.divInt_mul_divInt, Rat.num_divInt_den, Rat.num_divInt_den]
theorem rat_is (t : Int) {b : Int} (hb : b ≠ 0) : (Rat.divInt t b).num * b = t * (Rat.divInt t b).den := by
  have h := Rat.num_divInt_den (Rat.divInt t b)
  exact ((Rat.divInt_eq_divInt_iff (den_ne _) hb).mp h)
theorem rat_isI (t : Int) {b : Int} (hb : b ≠ 0) : Is t b (Rat.divInt t b).num (Rat.divInt t b).den := ⟨fr_rat _, rat_is t hb⟩
theorem rat_le (t : Int) {b : Int} (hb : b ≠ 0) : (Rat.divInt t b).num.natAbs ≤ t.natAbs ∧ ((Rat.divInt t b).den : Int).natAbs ≤ b.natAbs := by
  obtain ⟨d1, d2⟩ := (rat_isI t hb).dvd
  refine ⟨?_, Nat.le_of_dvd (by omega) (Int.natAbs_dvd_natAbs.mpr d1)⟩
  by_cases ht : t = 0
  · have e := rat_is t hb
    rw [ht, Int.zero_mul] at e
    rcases Int.mul_eq_zero.mp e with z | z
    · rw [ht, z]; exact Nat.le_refl _
    · exact absurd z hb
  · exact Nat.le_of_dvd (by omega) (Int.natAbs_dvd_natAbs.mpr d2)
def Lat (D N : Nat) (q : Rat) : Prop := ∃ m : Int, q * ((D : Int) : Rat) = m ∧ m.natAbs ≤ N
theorem Lat.dvd {D N : Nat} {q : Rat} (h : Lat D N q) (hD : D ≠ 0) : q.den ∣ D ∧ q.num.natAbs ≤ N := by
  obtain ⟨m, e, hm⟩ := h
  have e2 : q = Rat.divInt m D := by
    rw [Rat.divInt_eq_div, ← e]
    have : ((D : Int) : Rat) ≠ 0 := by
      have : (D : Int) ≠ 0 := by omega
      exact fun z => this (Rat.intCast_inj.mp z)
    grind
  have hd : (D : Int) ≠ 0 := by omega
  have l := rat_le m hd
  have d := (rat_isI m hd).dvd.1
  rw [← e2] at l d
  exact ⟨Int.natCast_dvd_natCast.mp d, Nat.le_trans l.1 hm⟩
theorem Lat.le {D N : Nat} {q : Rat} (h : Lat D N q) (hD : D ≠ 0) : q.den ≤ D := Nat.le_of_dvd (by omega) (h.dvd hD).1
theorem Lat.add {D M N : Nat} {a b : Rat} (h : Lat D M a) (k : Lat D N b) : Lat D (M + N) (a + b) := by
  obtain ⟨m, e, hm⟩ := h
  obtain ⟨n, f, hn⟩ := k
  exact ⟨m + n, by rw [Rat.add_mul, e, f, Rat.intCast_add], by omega⟩
theorem Lat.neg {D M : Nat} {a : Rat} (h : Lat D M a) : Lat D M (-a) := by
  obtain ⟨m, e, hm⟩ := h
  exact ⟨-m, by rw [Rat.neg_mul, e, Rat.intCast_neg], by omega⟩
theorem Lat.mul {D E M N : Nat} {a b : Rat} (h : Lat D M a) (k : Lat E N b) : Lat (D * E) (M * N) (a * b) := by
  obtain ⟨m, e, hm⟩ := h
  obtain ⟨n, f, hn⟩ := k
  refine ⟨m * n, ?_, by rw [Int.natAbs_mul]; exact Nat.mul_le_mul hm hn⟩
  rw [Rat.intCast_mul, ← e, ← f, Int.natCast_mul, Rat.intCast_mul]
  grind
theorem Lat.mono {D M N : Nat} {a : Rat} (h : Lat D M a) (k : M ≤ N) : Lat D N a := by
  obtain ⟨m, e, hm⟩ := h
  exact ⟨m, e, Nat.le_trans hm k⟩
theorem Lat.zero {D N : Nat} : Lat D N 0 := ⟨0, by rw [Rat.zero_mul]; rfl, Nat.zero_le _⟩
theorem Lat.up {D E M : Nat} {a : Rat} (h : Lat D M a) : Lat (D * E) (M * E) a := by
  obtain ⟨m, e, hm⟩ := h
  refine ⟨m * E, ?_, by rw [Int.natAbs_mul]; exact Nat.mul_le_mul hm (Nat.le_refl _)⟩
  rw [Rat.intCast_mul, ← e, Int.natCast_mul, Rat.intCast_mul, Rat.mul_assoc]
theorem plus_rat (a b : Rat) :
    let p : Int := (Int.gcd a.den b.den : Nat)
    let t := a.num * (b.den : Int).fdiv p + b.num * (a.den : Int).fdiv p
    let r : Int := (Int.gcd t p : Nat)
    (t.fdiv r = (a + b).num ∧ (a.den : Int).fdiv p * (b.den : Int).fdiv r = ((a + b).den : Int)) ∧ 0 < p ∧ 0 < r ∧ p ≤ a.den ∧ p ≤ b.den ∧ r ≤ p ∧ ((b.den : Int).fdiv p).natAbs ≤ (b.den : Int).natAbs ∧ ((a.den : Int).fdiv p).natAbs ≤ (a.den : Int).natAbs ∧ ((b.den : Int).fdiv r).natAbs ≤ (b.den : Int).natAbs := by
  intro p t r
  have h := plus_ok (fr_rat a) (fr_rat b)
  refine ⟨?_, h.2⟩
  have z := h.1.rat (Int.mul_ne_zero (den_ne a) (den_ne b))
  rw [rat_add] at z
  exact z
theorem times_rat (a b : Rat) :
    let f : Int := (Int.gcd a.num b.den : Nat)
    let s : Int := (Int.gcd b.num a.den : Nat)
    (a.num.fdiv f * b.num.fdiv s = (a * b).num ∧ (a.den : Int).fdiv s * (b.den : Int).fdiv f = ((a * b).den : Int)) ∧ 0 < f ∧ 0 < s ∧ f ≤ b.den ∧ s ≤ a.den ∧ (a.num.fdiv f).natAbs ≤ a.num.natAbs ∧ (b.num.fdiv s).natAbs ≤ b.num.natAbs ∧ ((a.den : Int).fdiv s).natAbs ≤ (a.den : Int).natAbs ∧ ((b.den : Int).fdiv f).natAbs ≤ (b.den : Int).natAbs := by
  intro f s
  have h := times_ok (fr_rat a) (fr_rat b)
  refine ⟨?_, h.2⟩
  have z := h.1.rat (Int.mul_ne_zero (den_ne a) (den_ne b))
  rw [rat_mul] at z
  exact z
theorem inv_neg {b : Rat} (h : b.num < 0) : -(b.den : Int) = (b⁻¹).num ∧ -b.num = ((b⁻¹).den : Int) := by
  rw [Rat.inv_def]
  refine Is.rat ⟨⟨by omega, ?_⟩, by rw [Int.neg_mul, Int.mul_neg]⟩ (by omega)
  rw [Int.gcd_neg, Int.neg_gcd, Int.gcd_comm]
  exact (fr_rat b).low
theorem inv_pos {b : Rat} (h : 0 < b.num) : (b.den : Int) = (b⁻¹).num ∧ b.num = ((b⁻¹).den : Int) := by
  rw [Rat.inv_def]
  refine Is.rat ⟨⟨by omega, ?_⟩, rfl⟩ (by omega)
  rw [Int.gcd_comm]
  exact (fr_rat b).low
theorem low_pos {t b : Int} (h : 0 < b) : t.fdiv (Int.gcd t b : Nat) = (Rat.divInt t b).num ∧ b.fdiv (Int.gcd t b : Nat) = ((Rat.divInt t b).den : Int) := (red_pos h).is.rat (by omega)
theorem num_ne {b : Rat} (h : b ≠ 0) : b.num ≠ 0 := fun z => h (Rat.num_eq_zero.mp z)
theorem add_le (a b : Rat) : (a + b).num.natAbs ≤ (a.num * b.den + b.num * a.den).natAbs ∧ ((a + b).den : Int).natAbs ≤ ((a.den : Int) * b.den).natAbs := by
  rw [← rat_add]; exact rat_le _ (Int.mul_ne_zero (den_ne a) (den_ne b))
theorem mul_le (a b : Rat) : (a * b).num.natAbs ≤ (a.num * b.num).natAbs ∧ ((a * b).den : Int).natAbs ≤ ((a.den : Int) * b.den).natAbs := by
  rw [← rat_mul]; exact rat_le _ (Int.mul_ne_zero (den_ne a) (den_ne b))
end Mt
namespace L2
open PySem PySem.Spec PyProof.Rows
theorem Same.seqT {K : PySem.W.Frag} {H H' : Hp} {a : Addr} {xs : List V} (e : Same H H') (h : SqT K H a xs) : SqT K H' a xs := by
  rcases h with (h | ⟨o, h⟩) | h
  · exact .inl (.inl (e _ _ h))
  · exact .inl (.inr ⟨o, e _ _ h⟩)
  · exact .inr h
def frO (q : Rat) : HO := .tup [.int q.num, .int (q.den : Int)]
def Fq (K : PySem.W.Frag) (H : Hp) (p : Addr) (q : Rat) : Prop := SqT K H p [.int q.num, .int (q.den : Int)]
theorem Fq.of {K : PySem.W.Frag} {H : Hp} {p : Addr} {q : Rat} (h : H p = some (frO q)) : Fq K H p q := SqT.of h
theorem Fq.same {K : PySem.W.Frag} {H H' : Hp} {p : Addr} {q : Rat} (h : Fq K H p q) (e : Same H H') : Fq K H' p q := e.seqT h
def rFqI (K : PySem.W.Frag) : R2 := fun x y H Q => ∃ p a, x = .ref p ∧ Fq K H p a ∧ ((y = .int 0 ∧ Q (.int a.num) H) ∨ (y = .int 1 ∧ Q (.int (a.den : Int)) H))
theorem ix_fq {X : Cx} : IxR X (rFqI X.K) := by
  intro value slice pins s σ H x y v u Q I rx ry h hs
  obtain ⟨p, a, rfl, hq, ⟨rfl, q⟩ | ⟨rfl, q⟩⟩ := h
  · exact ix_tup value slice pins s σ H _ _ v u Q I rx ry ⟨p, _, 0, _, rfl, rfl, hq, rfl, q⟩ hs
  · exact ix_tup value slice pins s σ H _ _ v u Q I rx ry ⟨p, _, 1, _, rfl, rfl, hq, rfl, q⟩ hs
theorem frO_int (n : Int) : frO (n : Rat) = .tup [.int n, .int 1] := by simp [frO]
structure Sz (n : Nat) (q : Rat) : Prop where
  t : Bd n q.num
  b : Bd n (q.den : Int)
theorem Sz.mono {m n : Nat} {q : Rat} (h : Sz m q) (l : m ≤ n) : Sz n q := ⟨h.t.mono l, h.b.mono l⟩
theorem Sz.low {n : Nat} {t b : Int} (hb : b ≠ 0) (h1 : Bd n t) (h2 : Bd n b) : Sz n (Rat.divInt t b) := ⟨h1.le (Mt.rat_le t hb).1, h2.le (Mt.rat_le t hb).2⟩
theorem Sz.add {m n : Nat} {a b : Rat} (ha : Sz m a) (hb : Sz n b) : Sz (m + n + 1) (a + b) := by
  refine ⟨?_, ?_⟩
  · refine Bd.le ?_ (Mt.add_le a b).1
    have h1 := ha.t.mul hb.b
    have h2 := hb.t.mul ha.b
    rw [Nat.add_comm n m] at h2
    exact h1.add h2
  · refine Bd.le ?_ (Mt.add_le a b).2
    exact (ha.b.mul hb.b).mono (by omega)
theorem Sz.mul {m n : Nat} {a b : Rat} (ha : Sz m a) (hb : Sz n b) : Sz (m + n) (a * b) :=
  ⟨Bd.le (ha.t.mul hb.t) (Mt.mul_le a b).1, Bd.le (ha.b.mul hb.b) (Mt.mul_le a b).2⟩
theorem Sz.neg {n : Nat} {a : Rat} (h : Sz n a) : Sz n (-a) := ⟨by rw [Rat.neg_num]; exact h.t.neg, by rw [Rat.neg_den]; exact h.b⟩
theorem Sz.sub {m n : Nat} {a b : Rat} (ha : Sz m a) (hb : Sz n b) : Sz (m + n + 1) (a - b) := by rw [Rat.sub_eq_add_neg]; exact ha.add hb.neg
theorem Bd.dv {i j : Int} {n : Nat} (h : Bd n j) (z : j ≠ 0) (l : n ≤ 9000 := by decide) : CDivB i j := ⟨z, h.mono l⟩
theorem Bd.mu {i j : Int} {m n : Nat} (h : Bd m i) (k : Bd n j) (l : m ≤ 100000 := by decide) (l' : n ≤ 100000 := by decide) : CMulB i j := ⟨h.mono l, k.mono l'⟩
theorem tSeq_step {t u : TS} {D : Ends} {σ : St} {H : Hp} (h : ∀ N : St → Hp → Prop, (∀ σ H, u D σ H → N σ H) → t { D with nx := N } σ H) : tSeq t u D σ H := h (u D) fun _ _ z => z
end L2
namespace Mt
def cf (l : List Rat) (n : Nat) : Rat := l.getD n 0
def trim : List Rat → List Rat
  | [] => []
  | a :: l => if trim l = [] ∧ a = 0 then [] else a :: trim l
def NZ (l : List Rat) : Prop := l = [] ∨ cf l (l.length - 1) ≠ 0
theorem cf_nil (n : Nat) : cf [] n = 0 := by simp [cf]
theorem cf_zero (a : Rat) (l : List Rat) : cf (a :: l) 0 = a := by simp [cf]
theorem cf_succ (a : Rat) (l : List Rat) (n : Nat) : cf (a :: l) (n + 1) = cf l n := by simp [cf]
theorem cf_ge {l : List Rat} {n : Nat} (h : l.length ≤ n) : cf l n = 0 := by simp [cf, List.getD, List.getElem?_eq_none h]
theorem cf_at {l : List Rat} {n : Nat} {x : Rat} (h : l[n]? = some x) : cf l n = x := by simp [cf, List.getD, h]
theorem cf_lt {l : List Rat} {n : Nat} (h : n < l.length) : l[n]? = some (cf l n) := by simp [cf, List.getD, h]
theorem cf_trim : ∀ (l : List Rat) (n : Nat), cf (trim l) n = cf l n
  | [], n => rfl
  | a :: l, n => by
    rw [trim]
    split
    · rename_i h
      cases n with
      | zero => rw [cf_zero, cf_nil, h.2]
      | succ n => rw [cf_succ, cf_nil, ← cf_trim l n, h.1, cf_nil]
    · cases n with
      | zero => rw [cf_zero, cf_zero]
      | succ n => rw [cf_succ, cf_succ, cf_trim l n]
theorem NZ.cons {a : Rat} {l : List Rat} (h : NZ l) (k : ¬ (l = [] ∧ a = 0)) : NZ (a :: l) := by
  right
  rcases h with h | h
  · subst h
    simp only [List.length_cons, List.length_nil, Nat.zero_add, Nat.sub_self, cf_zero]
    intro z; exact k ⟨rfl, z⟩
  · cases l with
    | nil => exact absurd (cf_nil _) h
    | cons b r =>
      simp only [List.length_cons, Nat.add_sub_cancel] at *
      rw [cf_succ]; exact h
theorem NZ_trim : ∀ l : List Rat, NZ (trim l)
  | [] => .inl rfl
  | a :: l => by
    rw [trim]
    split
    · exact .inl rfl
    · rename_i h; exact (NZ_trim l).cons h
theorem NZ.len {l m : List Rat} (hl : NZ l) (h : ∀ n, cf l n = cf m n) : l.length ≤ m.length := by
  rcases hl with rfl | hl
  · exact Nat.zero_le _
  · rcases Nat.lt_or_ge m.length l.length with z | z
    · rw [h, cf_ge (by omega)] at hl
      exact absurd rfl hl
    · exact z
theorem NZ.ext {l m : List Rat} (hl : NZ l) (hm : NZ m) (h : ∀ n, cf l n = cf m n) : l = m := by
  have e : l.length = m.length := Nat.le_antisymm (hl.len h) (hm.len fun n => (h n).symm)
  refine List.ext_getElem? fun i => ?_
  rcases Nat.lt_or_ge i l.length with z | z
  · rw [cf_lt z, cf_lt (l := m) (by omega), h]
  · rw [List.getElem?_eq_none z, List.getElem?_eq_none (by omega)]
theorem trim_NZ {l : List Rat} (h : NZ l) : trim l = l := (NZ_trim l).ext h fun n => cf_trim l n
theorem trim_len (l : List Rat) : (trim l).length ≤ l.length := (NZ_trim l).len fun n => cf_trim l n
theorem cf_take {l : List Rat} {k n : Nat} : cf (l.take k) n = if n < k then cf l n else 0 := by
  split
  · rename_i h; simp [cf, List.getD, List.getElem?_take, h]
  · rename_i h; simp [cf, List.getD, List.getElem?_take, h]
theorem take_trim {l : List Rat} {k : Nat} (hk : k ≤ l.length) (h0 : ∀ i, k ≤ i → cf l i = 0) (h1 : k = 0 ∨ cf l (k - 1) ≠ 0) : l.take k = trim l := by
  refine NZ.ext ?_ (NZ_trim l) fun n => ?_
  · rcases h1 with rfl | h1
    · exact .inl rfl
    · rcases Nat.eq_zero_or_pos k with rfl | hp
      · exact .inl rfl
      · right
        rw [List.length_take, Nat.min_eq_left hk, cf_take, if_pos (by omega)]
        exact h1
  · rw [cf_take, cf_trim]
    split
    · rfl
    · rename_i h; rw [h0 n (by omega)]
def addL (f g : List Rat) : List Rat := (List.range (max f.length g.length)).map fun n => cf f n + cf g n
theorem cf_map_range (m : Nat) (F : Nat → Rat) (n : Nat) : cf ((List.range m).map F) n = if n < m then F n else 0 := by
  split
  · rename_i h; simp [cf, List.getD, h]
  · rename_i h; exact cf_ge (by simp; omega)
theorem cf_addL (f g : List Rat) (n : Nat) : cf (addL f g) n = cf f n + cf g n := by
  rw [addL, cf_map_range]
  split
  · rfl
  · rename_i h; rw [cf_ge (l := f) (by omega), cf_ge (l := g) (by omega)]; grind
theorem cf_map (F : Rat → Rat) (h0 : F 0 = 0) (f : List Rat) (n : Nat) : cf (f.map F) n = F (cf f n) := by
  rcases Nat.lt_or_ge n f.length with z | z
  · exact cf_at (by rw [List.getElem?_map, cf_lt z]; rfl)
  · rw [cf_ge (by simpa using z), cf_ge z, h0]
theorem map_cf (F : Rat → Rat) (f : List Rat) : (List.range f.length).map (fun i => F (cf f i)) = f.map F := by
  refine List.ext_getElem? fun i => ?_
  rw [List.getElem?_map, List.getElem?_map]
  rcases Nat.lt_or_ge i f.length with z | z
  · rw [List.getElem?_range z, cf_lt z]; rfl
  · rw [List.getElem?_eq_none z, List.getElem?_eq_none (by simpa using z)]; rfl
def padd (f g : List Rat) : List Rat := trim (addL f g)
def pscale (f : List Rat) (a : Rat) : List Rat := trim (f.map (· * a))
def psub (f g : List Rat) : List Rat := padd f (pscale g (-1))
theorem cf_padd (f g : List Rat) (n : Nat) : cf (padd f g) n = cf f n + cf g n := by rw [padd, cf_trim, cf_addL]
theorem cf_pscale (f : List Rat) (a : Rat) (n : Nat) : cf (pscale f a) n = cf f n * a := by rw [pscale, cf_trim, cf_map _ (Rat.zero_mul a)]
theorem cf_psub (f g : List Rat) (n : Nat) : cf (psub f g) n = cf f n - cf g n := by
  rw [psub, cf_padd, cf_pscale]; grind
theorem NZ_psub (f g : List Rat) : NZ (psub f g) := NZ_trim _
end Mt
namespace Mt
def mc : List Rat → List Rat → Nat → Rat
  | [], _, _ => 0
  | a :: _, g, 0 => a * cf g 0
  | a :: f, g, n + 1 => a * cf g (n + 1) + mc f g n
theorem mc_nil_left (g : List Rat) (n : Nat) : mc [] g n = 0 := by cases n <;> rfl
theorem mc_ext : ∀ (f : List Rat) {g h : List Rat} (_ : ∀ n, cf g n = cf h n) (n : Nat), mc f g n = mc f h n
  | [], _, _, _, n => by rw [mc_nil_left, mc_nil_left]
  | a :: f, g, h, e, 0 => by rw [mc, mc, e]
  | a :: f, g, h, e, n + 1 => by rw [mc, mc, e, mc_ext f e n]
theorem mc_nil_right : ∀ (f : List Rat) (n : Nat), mc f [] n = 0
  | [], n => mc_nil_left _ n
  | a :: f, 0 => by rw [mc, cf_nil]; grind
  | a :: f, n + 1 => by rw [mc, cf_nil, mc_nil_right f n]; grind
theorem mc_cons_right : ∀ (f : List Rat) (b : Rat) (g : List Rat) (n : Nat), mc f (b :: g) n = cf f n * b + (match n with | 0 => 0 | n + 1 => mc f g n)
  | [], b, g, 0 => by rw [mc_nil_left, cf_nil]; grind
  | [], b, g, n + 1 => by rw [mc_nil_left, cf_nil]; simp only [mc_nil_left]; grind
  | a :: f, b, g, 0 => by rw [mc, cf_zero, cf_zero]; grind
  | a :: f, b, g, n + 1 => by
    rw [mc, cf_succ, mc_cons_right f b g n, cf_succ]
    cases n with
    | zero => simp only [mc]; grind
    | succ n => simp only [mc]; grind
theorem mc_comm : ∀ (f g : List Rat) (n : Nat), mc f g n = mc g f n
  | [], g, n => by rw [mc_nil_left, mc_nil_right]
  | a :: f, g, 0 => by rw [mc, mc_cons_right]; grind
  | a :: f, g, n + 1 => by rw [mc, mc_cons_right, mc_comm f g n]; grind
def addAt (l : List Rat) (k : Nat) (x : Rat) : List Rat := l.set k (cf l k + x)
def rowIn (l : List Rat) (i : Nat) (a : Rat) (g : List Rat) (j : Nat) : List Rat := (List.range j).foldl (fun l j => addAt l (i + j) (a * cf g j)) l
def prodIn (f g : List Rat) (i : Nat) : List Rat := (List.range i).foldl (fun l i => rowIn l i (cf f i) g g.length) (List.replicate (f.length + g.length) 0)
theorem rowIn_zero (l : List Rat) (i : Nat) (a : Rat) (g : List Rat) : rowIn l i a g 0 = l := rfl
theorem rowIn_succ (l : List Rat) (i : Nat) (a : Rat) (g : List Rat) (j : Nat) : rowIn l i a g (j + 1) = addAt (rowIn l i a g j) (i + j) (a * cf g j) := by simp [rowIn, List.range_succ]
theorem prodIn_zero (f g : List Rat) : prodIn f g 0 = List.replicate (f.length + g.length) 0 := rfl
theorem prodIn_succ (f g : List Rat) (i : Nat) : prodIn f g (i + 1) = rowIn (prodIn f g i) i (cf f i) g g.length := by simp [prodIn, List.range_succ]
theorem addAt_len (l : List Rat) (k : Nat) (x : Rat) : (addAt l k x).length = l.length := by simp [addAt]
theorem rowIn_len (l : List Rat) (i : Nat) (a : Rat) (g : List Rat) : ∀ j, (rowIn l i a g j).length = l.length
  | 0 => rfl
  | j + 1 => by rw [rowIn_succ, addAt_len, rowIn_len l i a g j]
theorem prodIn_len (f g : List Rat) : ∀ i, (prodIn f g i).length = f.length + g.length
  | 0 => by simp [prodIn_zero]
  | i + 1 => by rw [prodIn_succ, rowIn_len, prodIn_len f g i]
theorem cf_addAt {l : List Rat} {k : Nat} (h : k < l.length) (x : Rat) (n : Nat) : cf (addAt l k x) n = if n = k then cf l n + x else cf l n := by
  split
  · rename_i e; subst e
    exact cf_at (by simp [addAt, h])
  · rename_i e
    simp only [cf, addAt, List.getD]
    rw [List.getElem?_set_ne (by omega)]
theorem cf_rowIn {l : List Rat} {i : Nat} (a : Rat) (g : List Rat) (n : Nat) : ∀ j, i + j ≤ l.length → cf (rowIn l i a g j) n = cf l n + (if i ≤ n ∧ n < i + j then a * cf g (n - i) else 0)
  | 0, _ => by rw [rowIn_zero, if_neg (by omega)]; grind
  | j + 1, h => by
    rw [rowIn_succ, cf_addAt (by rw [rowIn_len]; omega), cf_rowIn a g n j (by omega)]
    by_cases e : n = i + j
    · rw [if_pos e, if_neg (by omega), if_pos (by omega), show n - i = j by omega]; grind
    · rw [if_neg e]
      by_cases e2 : i ≤ n ∧ n < i + j
      · rw [if_pos e2, if_pos (by omega)]
      · rw [if_neg e2, if_neg (by omega)]
theorem cf_replicate (m n : Nat) : cf (List.replicate m 0) n = 0 := by
  rcases Nat.lt_or_ge n m with z | z
  · exact cf_at (by simp [z])
  · exact cf_ge (by simpa using z)
theorem mc_take_succ : ∀ (f g : List Rat) (i n : Nat), i < f.length → mc (f.take (i + 1)) g n = mc (f.take i) g n + (if i ≤ n then cf f i * cf g (n - i) else 0)
  | [], g, i, n, h => by simp at h
  | a :: f, g, 0, n, h => by
    rw [List.take_succ_cons, List.take_zero, List.take_zero, mc_nil_left, if_pos (by omega), cf_zero]
    cases n with
    | zero => simp only [mc, Nat.sub_self]; grind
    | succ n => simp only [mc, mc_nil_left, Nat.sub_zero]; grind
  | a :: f, g, i + 1, 0, h => by
    rw [List.take_succ_cons, List.take_succ_cons, mc, mc, if_neg (by omega)]; grind
  | a :: f, g, i + 1, n + 1, h => by
    simp only [List.length_cons] at h
    rw [List.take_succ_cons, List.take_succ_cons, mc, mc, mc_take_succ f g i n (by omega), cf_succ]
    by_cases e : i ≤ n
    · rw [if_pos e, if_pos (by omega), show n + 1 - (i + 1) = n - i by omega]; grind
    · rw [if_neg e, if_neg (by omega)]; grind
theorem cf_prodIn (f g : List Rat) (n : Nat) : ∀ i, i ≤ f.length → cf (prodIn f g i) n = mc (f.take i) g n
  | 0, _ => by rw [prodIn_zero, cf_replicate, List.take_zero, mc_nil_left]
  | i + 1, h => by
    rw [prodIn_succ, cf_rowIn _ _ _ _ (by rw [prodIn_len]; omega), cf_prodIn f g n i (by omega), mc_take_succ f g i n (by omega)]
    congr 1
    by_cases e : i ≤ n ∧ n < i + g.length
    · rw [if_pos e, if_pos e.1]
    · rw [if_neg e]
      split
      · rw [cf_ge (l := g) (by omega)]; grind
      · rfl
def pmul (f g : List Rat) : List Rat := trim (prodIn f g f.length)
theorem cf_pmul (f g : List Rat) (n : Nat) : cf (pmul f g) n = mc f g n := by rw [pmul, cf_trim, cf_prodIn f g n _ (Nat.le_refl _), List.take_length]
end Mt
namespace HT
open PySem PyProof.Rows
section
variable {prog : Program} {w : World} {A : Around} {E : Value → Shared → Prop} {s : Shared}
theorem getItem_tuple_all {t sl : Addr} {items : Array Value} {vl vu : Value} {lo hi : Option Int} {Q : Value → Shared → Prop} (ht : IsTup s.heap t items) (hs : s.heap.IsSliceOf sl vl vu .none) (pl : IsPart vl lo) (pu : IsPart vu hi)
    (hw : sIx items.size 0 lo = 0 ∧ sIx items.size items.size hi = items.size) (h : Q (.ref t) s) : wpAny (model prog w) A (getItem (.ref t) (.ref sl)) Q E s := by
  obtain ⟨os, hos, hcs, hds⟩ := id hs
  have hTs : s.TypeIs (.ref sl) "slice" := ⟨os, hos, hcs⟩
  unfold getItem
  try with_reducible refine wpAny_holding ?_
  first | refine wpAny_bind (wpAny_pure ?_) | skip
  refine wpAny_bind (wpAny_sequenceKey ht.typeIs (by decide) ?_)
  refine wpAny_bind (wpAny_callSpecial?_slot (name := Str.ofString "__getitem__") ht.typeIs PyProof.Rows.slot_tuple_getitem
    (wpAny_call_entry PyProof.Rows.slot_tuple_getitem ht.typeIs entry_tuple_getitem ?_ (args_tuple_getitem _ _)))
  show wpAny _ _ (Builtin.Tuple.tupleItemsOf (.ref t) >>= _) _ _ s
  refine wpAny_bind (tupleItemsOf_ ht ?_)
  refine wpAny_bind (wpAny_typeOf hTs ?_)
  rw [if_pos (by decide)]
  refine wpAny_bind (sliceApplied_gen hs pl pu ?_)
  have hyes : (((sIx items.size 0 lo : Nat) : Int) == 0 && (1 : Int) == 1 && (sIx items.size items.size hi - sIx items.size 0 lo) == items.size) = true := by
    rw [hw.1, hw.2]; simp
  show wpAny _ _ (if (((sIx items.size 0 lo : Nat) : Int) == 0 && (1 : Int) == 1 && (sIx items.size items.size hi - sIx items.size 0 lo) == items.size) = true then _ else _) _ _ s
  rw [if_pos hyes]
  refine wpAny_bind ?_
  unfold Builtin.Tuple.tupleIsExact
  refine wpAny_bind (wpAny_typeOf ht.typeIs (wpAny_pure ?_))
  rw [if_pos (by decide)]
  refine wpAny_bind (wpAny_rule ?_)
  exact wpAny_pure ⟨_, rfl, wpAny_pure h⟩
end
end HT
namespace L2
open PySem PySem.Spec PyProof.Rows
def rSlTA (K : PySem.W.Frag) : V → Option Int → Option Int → Hp → VK → Prop := fun x lo hi H Q => ∃ a xs, x = .ref a ∧ SqT K H a xs ∧ ∀ p H', Same H H' → SqT K H' p (cutV xs lo hi) → Q (.ref p) H'
theorem sl_tupA {X : Cx} : SlR X (rSlTA X.K) := by
  intro pins s σ H x v vl vu lo hi sl Q I rx hs pl pu h
  obtain ⟨a, xs, e, hx, q⟩ := h
  subst e
  by_cases hw : HT.sIx xs.length 0 lo = 0 ∧ HT.sIx xs.length xs.length hi = xs.length
  · cases rx
    obtain ⟨its, r, ht, hz⟩ := I.tuple hx
    have hlen : its.toArray.size = xs.length := by rw [List.size_toArray]; exact r.length.symm
    refine ⟨"tuple", _, PyProof.Rows.slot_tuple_getitem.lookup, ht.typeIs, ?_⟩
    refine HT.getItem_tuple_all ht hs pl pu (by rw [hlen]; exact hw) ⟨.ref a, H, I, rfl, q a H (Same.refl H) ?_⟩
    have e : cutV xs lo hi = xs := by unfold cutV; rw [hw.1, hw.2]; simp
    rw [e]; exact hx
  · exact sl_tup pins s σ H (.ref a) v vl vu lo hi sl Q I rx hs pl pu ⟨a, xs, rfl, hx, hw, fun p hp => q p _ (same_upd hp) (SqT.of upd_same)⟩
theorem cutV_to (xs : List V) (k : Nat) (h : k ≤ xs.length) : cutV xs none (some (k : Int)) = xs.take k := by
  unfold cutV
  rw [HT.sIx_none, HT.sIx_nat, Nat.min_eq_left h]
  simp
theorem cutV_from (xs : List V) (k : Nat) (h : k ≤ xs.length) : cutV xs (some (k : Int)) none = xs.drop k := by
  unfold cutV
  rw [HT.sIx_none, HT.sIx_nat, Nat.min_eq_left h, List.take_of_length_le (by simp)]
theorem atI_end {α : Type} {xs : List α} {v : α} (h : xs[xs.length - 1]? = some v) : atI xs (-1) = some v := by
  have hne : xs ≠ [] := by rintro rfl; simp at h
  have e := List.dropLast_concat_getLast hne
  rw [← e, atI_last]
  rw [List.getLast_eq_getElem hne]
  obtain ⟨h1, h2⟩ := List.getElem?_eq_some_iff.mp h
  exact congrArg some h2
theorem pe_comp2 {X : Cx} {elt iter tg : Expr} {scope : Scope} (Nl : List Str) (y1 : Str) (j1 : Nat) (y2 : Str) (j2 : Nat) {c1 c2 : Addr} {wi : TI} {g : TG} {te : TE} {pos : Pos} (hc : X.calm = true) (hi : PI X tg iter wi)
    (hg : ∀ C s₀ H₀ ex pn, PG (X.cp (Nl ++ [y1, y2]) scope [(y1, c1), (y2, c2)] C s₀ H₀ ex pn) tg g) (he : ∀ C s₀ H₀ ex pn, PE (X.cp (Nl ++ [y1, y2]) scope [(y1, c1), (y2, c2)] C s₀ H₀ ex pn) elt te)
    (hclos : closureFor scope X.env = pure [(y1, c1), (y2, c2)]) (hy1 : X.env.cells.lookup y1 = some c1) (hy2 : X.env.cells.lookup y2 = some c2) (hN1 : X.N[j1]? = some y1) (hN2 : X.N[j2]? = some y2)
    (hk1 : X.env.kindOf y1 = some .cell) (hk2 : X.env.kindOf y2 = some .cell) (hb1 : (relabel scope X.env).names.lookup y1 = some .cell) (hb2 : (relabel scope X.env).names.lookup y2 = some .cell)
    (hne : y2 ≠ y1 := by decide) (h1 : ∀ p ∈ scope.names, p.2 = .free → p.1 = y1 ∨ p.1 = y2 := by decide +kernel) (hcell : ∀ y ∈ scope.names, y.2 ≠ .cell := by decide +kernel) (hkind : scope.kind = .function := by rfl)
    (hnames : ∀ y ∈ scope.names, y.2 = .local → scope.names.lookup y.1 = some .local := by decide +kernel)
    (hs : ∀ x, foldedSetIterable iter X.env x = pure x := by intro _; rfl) : PCo X (.ListComp elt [⟨tg, iter, [], 0⟩] scope pos) scope iter (tComp ((Nl.map fun _ => none) ++ [some j1, some j2]) wi g te) := by
  have self1 : List.lookup y1 [(y1, c1), (y2, c2)] = some c1 := by simp
  have self2 : List.lookup y2 [(y1, c1), (y2, c2)] = some c2 := by
    rw [List.lookup_cons, show (y2 == y1) = false from beq_eq_false_iff_ne.mpr hne]; simp
  have look : ∀ z d, List.lookup z [(y1, c1), (y2, c2)] = some d → (z = y1 ∧ d = c1) ∨ (z = y2 ∧ d = c2) := fun z d h => by
    have m := PySem.mem_of_lookup h
    rcases List.mem_cons.mp m with q | q
    · cases q; exact .inl ⟨rfl, rfl⟩
    · cases List.mem_singleton.mp q; exact .inr ⟨rfl, rfl⟩
  refine pe_comp (cl := [(y1, c1), (y2, c2)]) (Nc := Nl ++ [y1, y2]) hc hi hg he (by simp) (fun z d h => ?_) (fun z h => ?_) (fun i z j' e1 e2 => ?_) hclos hcell hkind hnames hs
  · rcases look z d h with ⟨rfl, rfl⟩ | ⟨rfl, rfl⟩
    · exact hy1
    · exact hy2
  · have m := h.elim (fun q => rel_mem q (.inl rfl) hcell) fun q => rel_mem q (.inr rfl) hcell
    rcases h1 _ m rfl with e | e
    · have e : z = y1 := e
      subst e; exact ⟨c1, self1⟩
    · have e : z = y2 := e
      subst e; exact ⟨c2, self2⟩
  · have hi : i = Nl.length ∨ i = Nl.length + 1 := by
      by_cases hlt : i < Nl.length
      · rw [List.getElem?_append_left (by simpa using hlt), List.getElem?_map] at e2
        cases q : Nl[i]? with
        | none => rw [q] at e2; cases e2
        | some z => rw [q] at e2; cases e2
      · have := (List.getElem?_eq_some_iff.mp e1).1
        simp at this
        omega
    rcases hi with rfl | rfl
    · have a1 : (Nl ++ [y1, y2])[Nl.length]? = some y1 := by simp
      have a2 : ((Nl.map fun _ => (none : Option Nat)) ++ [some j1, some j2])[Nl.length]? = some (some j1) := by
        rw [List.getElem?_append_right (by simp)]; simp
      rw [a1] at e1; cases e1
      rw [a2] at e2; cases e2
      exact ⟨hN1, .inr (.inl hk1), by rw [hk1]; exact (fun q => nomatch q), .inl hb1, fun d h => by rw [hy1] at h; cases h; exact self1⟩
    · have a1 : (Nl ++ [y1, y2])[Nl.length + 1]? = some y2 := by
        rw [List.getElem?_append_right (by omega)]; simp
      have a2 : ((Nl.map fun _ => (none : Option Nat)) ++ [some j1, some j2])[Nl.length + 1]? = some (some j2) := by
        rw [List.getElem?_append_right (by simp)]; simp
      rw [a1] at e1; cases e1
      rw [a2] at e2; cases e2
      exact ⟨hN2, .inr (.inl hk2), by rw [hk2]; exact (fun q => nomatch q), .inl hb2, fun d h => by rw [hy2] at h; cases h; exact self2⟩
mutual
theorem Rep.same {K : PySem.W.Frag} {H H' : Hp} (e : Same H H') : ∀ (d : Dt) (v : V), Rep K H d v → Rep K H' d v := by
  intro d v h
  match d with
  | .non => simp only [Rep] at *; exact h
  | .bl _ => simp only [Rep] at *; exact h
  | .int _ => simp only [Rep] at *; exact h
  | .str _ => simp only [Rep] at *; exact h
  | .tup l => simp only [Rep] at *; obtain ⟨a, xs, rfl, s, r⟩ := h; exact ⟨a, xs, rfl, e.seqT s, Reps.same e l xs r⟩
  | .lst l => simp only [Rep] at *; obtain ⟨a, xs, rfl, s, r⟩ := h; exact ⟨a, xs, rfl, e.seq s, Reps.same e l xs r⟩
theorem Reps.same {K : PySem.W.Frag} {H H' : Hp} (e : Same H H') : ∀ (l : List Dt) (xs : List V), Reps K H l xs → Reps K H' l xs := by
  intro l xs h
  match l with
  | [] => simp only [Reps] at *; exact h
  | d :: l => simp only [Reps] at *; obtain ⟨x, r, rfl, h1, h2⟩ := h; exact ⟨x, r, rfl, Rep.same e d x h1, Reps.same e l r h2⟩
end
def frD (q : Rat) : Dt := .tup [.int q.num, .int (q.den : Int)]
def lstD (f : List Rat) : Dt := .lst (f.map frD)
theorem rep_fr {K : PySem.W.Frag} {H : Hp} {p : Addr} {q : Rat} (h : Fq K H p q) : Rep K H (frD q) (.ref p) := by
  simp only [frD, Rep, Reps]
  exact ⟨p, _, rfl, h, _, _, rfl, rfl, _, _, rfl, rfl, rfl⟩
theorem rep_fr' {K : PySem.W.Frag} {H : Hp} {v : V} {q : Rat} (h : Rep K H (frD q) v) : ∃ p, v = .ref p ∧ Fq K H p q := by
  simp only [frD, Rep, Reps] at h
  obtain ⟨p, xs, rfl, s, x, r, rfl, rfl, y, r2, rfl, rfl, rfl⟩ := h
  exact ⟨p, rfl, s⟩
theorem frD_eqb (a b : Rat) : (frD a).eqb (frD b) = decide (a = b) := by
  simp only [frD, Dt.eqb, Dt.eqbs, Bool.and_true]
  rw [Bool.eq_iff_iff]
  simp only [Bool.and_eq_true, beq_iff_eq, decide_eq_true_eq]
  constructor
  · rintro ⟨h1, h2⟩
    exact Rat.ext h1 (by omega)
  · rintro rfl; exact ⟨rfl, rfl⟩
theorem frD_sim (a b : Rat) : (frD a).sim (frD b) = true := by simp [frD, Dt.sim, Dt.sims]
theorem frD_dep (a : Rat) : (frD a).dep = 1 := by simp [frD, Dt.dep, Dt.deps]
theorem frDs_dep : ∀ f : List Rat, Dt.deps (f.map frD) ≤ 1
  | [] => by simp [Dt.deps]
  | a :: f => by rw [List.map_cons, Dt.deps, frD_dep]; exact Nat.max_le.mpr ⟨Nat.le_refl _, frDs_dep f⟩
section
variable {K : PySem.W.Frag} {H : Hp} {x y : V} {Q : VK}
theorem fr_cmp {ne : Bool} {a b : Rat} (h1 : Rep K H (frD a) x) (h2 : Rep K H (frD b) y) (q : Q (.bl (if ne then !decide (a = b) else decide (a = b))) H) : rEqD K ne x y H Q :=
  ⟨_, _, h1, h2, frD_sim a b, by rw [frD_dep]; decide, by rw [frD_dep]; decide, by rw [frD_eqb]; exact q⟩
end
def rIsiT (K : PySem.W.Frag) : List V → Hp → VK → Prop := fun xs H Q => ∃ a ys c cv b, xs = [.ref a, c] ∧ clsV c = some cv ∧ SqT K H a ys ∧ PySem.W.kitOne K (.type "tuple") cv = some b ∧ Q (.bl b) H
theorem call_isiT {X : Cx} : CallR X (.builtin "isinstance") (rIsiT X.K) := by
  intro pins s σ H xs us Q I r h
  obtain ⟨a, ys, c, cv, b, rfl, hc, hq, hk, q⟩ := h
  obtain ⟨u, u', rfl, r1, r2⟩ := vals2 r
  have e2 : u' = cv := by
    cases c with
    | ref C => cases hc; exact r2
    | ty n => cases hc; exact r2
    | _ => cases hc
  subst e2
  cases (show u = Value.ref a from r1)
  obtain ⟨its, _, ⟨o, h1, h2, _⟩, _⟩ := I.tuple hq
  exact PySem.W.kia_one PySem.W.kitx_tuple I.kIn ⟨o, h1, h2⟩ hk (fun z => nomatch z) fun tk => ⟨.bl b, H, I.tok tk, rfl, q⟩
theorem isi_sq {K : PySem.W.Frag} {H : Hp} {Q : VK} {a : Addr} {ys : List V} (h : SqT K H a ys) (q : Q (.bl true) H) : rIsiT K [.ref a, .ty "tuple"] H Q := ⟨a, ys, _, _, true, rfl, rfl, h, kit_tup_tup K, q⟩
def Frs (K : PySem.W.Frag) (H : Hp) (f : List Rat) (xs : List V) : Prop := Reps K H (f.map frD) xs
theorem SqT.updL {K : PySem.W.Frag} {H : Hp} {D p : Addr} {ys xs : List V} {o : HO} (hD : H D = some (.lst ys)) (h : SqT K H p xs) : SqT K (upd H D o) p xs := by
  rcases h with (h | ⟨u, h⟩) | h
  · exact .inl (.inl (by rw [upd_ne (by rintro rfl; rw [hD] at h; cases h)]; exact h))
  · exact .inl (.inr ⟨u, by rw [upd_ne (by rintro rfl; rw [hD] at h; cases h)]; exact h⟩)
  · exact .inr h
theorem Frs.same {K : PySem.W.Frag} {H H' : Hp} {f : List Rat} {xs : List V} (h : Frs K H f xs) (e : Same H H') : Frs K H' f xs := Reps.same e _ _ h
theorem Frs.nil {K : PySem.W.Frag} {H : Hp} : Frs K H [] [] := by simp [Frs, Reps]
theorem Frs.cons {K : PySem.W.Frag} {H : Hp} {q : Rat} {f : List Rat} {p : Addr} {xs : List V} (h : Fq K H p q) (k : Frs K H f xs) : Frs K H (q :: f) (.ref p :: xs) := by
  simp only [Frs, List.map_cons, Reps]
  exact ⟨_, _, rfl, rep_fr h, k⟩
theorem Frs.uncons {K : PySem.W.Frag} {H : Hp} {q : Rat} {f : List Rat} {xs : List V} (h : Frs K H (q :: f) xs) : ∃ p ys, xs = .ref p :: ys ∧ Fq K H p q ∧ Frs K H f ys := by
  simp only [Frs, List.map_cons, Reps] at h
  obtain ⟨x, r, rfl, h1, h2⟩ := h
  obtain ⟨p, rfl, h3⟩ := rep_fr' h1
  exact ⟨p, r, rfl, h3, h2⟩
theorem Frs.len {K : PySem.W.Frag} {H : Hp} {f : List Rat} {xs : List V} (h : Frs K H f xs) : f.length = xs.length := by
  have := Reps.len h
  simpa using this
theorem Frs.at {K : PySem.W.Frag} {H : Hp} {f : List Rat} {xs : List V} (h : Frs K H f xs) {j : Nat} (hj : j < f.length) : ∃ p, xs[j]? = some (.ref p) ∧ Fq K H p (Mt.cf f j) := by
  obtain ⟨x, e, r⟩ := Reps.at (d := frD (Mt.cf f j)) h (by rw [List.getElem?_map, Mt.cf_lt hj]; rfl)
  obtain ⟨p, rfl, q⟩ := rep_fr' r
  exact ⟨p, e, q⟩
theorem Frs.snoc {K : PySem.W.Frag} {H : Hp} {q : Rat} {p : Addr} : ∀ {f : List Rat} {xs : List V}, Frs K H f xs → Fq K H p q → Frs K H (f ++ [q]) (xs ++ [.ref p])
  | [], xs, h, k => by
    have e : xs = [] := by simpa [Frs, Reps] using h
    subst e
    exact Frs.cons k Frs.nil
  | a :: f, xs, h, k => by
    obtain ⟨r, ys, rfl, h1, h2⟩ := h.uncons
    exact Frs.cons h1 (Frs.snoc h2 k)
theorem Frs.updL {K : PySem.W.Frag} {H : Hp} {D : Addr} {ys : List V} {o : HO} (hD : H D = some (.lst ys)) : ∀ {f : List Rat} {xs : List V}, Frs K H f xs → Frs K (upd H D o) f xs
  | [], xs, h => by
    have e : xs = [] := by simpa [Frs, Reps] using h
    subst e
    exact Frs.nil
  | a :: f, xs, h => by
    obtain ⟨r, zs, rfl, h1, h2⟩ := h.uncons
    exact Frs.cons (SqT.updL hD h1) (Frs.updL hD h2)
theorem Frs.take {K : PySem.W.Frag} {H : Hp} : ∀ {f : List Rat} {xs : List V} (k : Nat), Frs K H f xs → Frs K H (f.take k) (xs.take k)
  | [], xs, k, h => by
    have e : xs = [] := by simpa [Frs, Reps] using h
    subst e
    simp only [List.take_nil]; exact Frs.nil
  | a :: f, xs, 0, h => by simp only [List.take_zero]; exact Frs.nil
  | a :: f, xs, k + 1, h => by
    obtain ⟨r, zs, rfl, h1, h2⟩ := h.uncons
    simp only [List.take_succ_cons]
    exact Frs.cons h1 (Frs.take k h2)
theorem Frs.drop {K : PySem.W.Frag} {H : Hp} : ∀ {f : List Rat} {xs : List V} (k : Nat), Frs K H f xs → Frs K H (f.drop k) (xs.drop k)
  | [], xs, k, h => by
    have e : xs = [] := by simpa [Frs, Reps] using h
    subst e
    simp only [List.drop_nil]; exact Frs.nil
  | a :: f, xs, 0, h => h
  | a :: f, xs, k + 1, h => by
    obtain ⟨r, zs, rfl, h1, h2⟩ := h.uncons
    simp only [List.drop_succ_cons]
    exact Frs.drop k h2
theorem Frs.append {K : PySem.W.Frag} {H : Hp} : ∀ {f g : List Rat} {xs ys : List V}, Frs K H f xs → Frs K H g ys → Frs K H (f ++ g) (xs ++ ys)
  | [], g, xs, ys, h, k => by
    have e : xs = [] := by simpa [Frs, Reps] using h
    subst e
    exact k
  | a :: f, g, xs, ys, h, k => by
    obtain ⟨r, zs, rfl, h1, h2⟩ := h.uncons
    exact Frs.cons h1 (Frs.append h2 k)
theorem Frs.set {K : PySem.W.Frag} {H : Hp} {q : Rat} {p : Addr} : ∀ {f : List Rat} {xs : List V} (k : Nat), Frs K H f xs → Fq K H p q → Frs K H (f.set k q) (xs.set k (.ref p))
  | [], xs, k, h, _ => by
    have e : xs = [] := by simpa [Frs, Reps] using h
    subst e
    exact Frs.nil
  | a :: f, xs, 0, h, z => by
    obtain ⟨r, zs, rfl, h1, h2⟩ := h.uncons
    exact Frs.cons z h2
  | a :: f, xs, k + 1, h, z => by
    obtain ⟨r, zs, rfl, h1, h2⟩ := h.uncons
    exact Frs.cons h1 (Frs.set k h2 z)
theorem Frs.replicate {K : PySem.W.Frag} {H : Hp} {q : Rat} {p : Addr} (h : Fq K H p q) : ∀ n, Frs K H (List.replicate n q) (List.replicate n (.ref p))
  | 0 => Frs.nil
  | n + 1 => Frs.cons h (Frs.replicate h n)
def Pl (K : PySem.W.Frag) (H : Hp) (p : Addr) (f : List Rat) : Prop := ∃ xs, SqT K H p xs ∧ Frs K H f xs
theorem Pl.same {K : PySem.W.Frag} {H H' : Hp} {p : Addr} {f : List Rat} (h : Pl K H p f) (e : Same H H') : Pl K H' p f := let ⟨xs, h1, h2⟩ := h; ⟨xs, e.seqT h1, h2.same e⟩
theorem Pl.updL {K : PySem.W.Frag} {H : Hp} {D p : Addr} {ys : List V} {o : HO} {f : List Rat} (hD : H D = some (.lst ys)) (h : Pl K H p f) : Pl K (upd H D o) p f := let ⟨xs, h1, h2⟩ := h; ⟨xs, h1.updL hD, h2.updL hD⟩
theorem Same.updL {H0 H : Hp} {D : Addr} {o : HO} (e : Same H0 H) (h : H0 D = none) : Same H0 (upd H D o) := fun b u z => by
  rw [upd_ne (ne_of_none z h)]; exact e b u z
theorem CO.frs {K : PySem.W.Frag} {n : Nat} {src : Nat → Hp → V → Prop} {st : Hp → Prop} {js : List (Option Nat)} {tl : TE} {σ : St} {H1 : Hp} {Q : VK} (F : Nat → Rat) (hn : n ≤ 1000) (hst : ∀ H, Same H1 H → st H)
    (hel : ∀ i H x (R : VK), i < n → Same H1 H → src i H x → (∀ r H3, Same H H3 → Fq K H3 r (F i) → R (.ref r) H3) → tl (some x :: cσ js σ) H R)
    (hq : ∀ D H xs, Same H1 H → H1 D = none → H D = some (.lst xs) → Frs K H ((List.range n).map F) xs → Q (.ref D) H) : CO n src st (none :: js) (gName 0) tl σ H1 Q := by
  intro D hD
  refine ⟨fun i ys σc H => (∃ r, σc = r :: cσ js σ) ∧ Same H1 H ∧ H D = some (.lst ys) ∧ Frs K H ((List.range i).map F) ys, ⟨⟨none, rfl⟩, same_upd hD, upd_same, Frs.nil⟩, fun i ys σc H _ h => hst H h.2.1, ?_, ?_⟩
  · rintro i ys σc H x hi ⟨⟨r, rfl⟩, sm, hd, hf⟩ hx
    refine hel i H x _ hi sm hx fun p H3 s3 hy => ?_
    have hl := hf.len
    refine ⟨s3 _ _ hd, small1000 (by simp at hl; omega), ⟨_, rfl⟩, (sm.trans s3).updL hD, upd_same, ?_⟩
    rw [List.range_succ, List.map_append]
    exact Frs.snoc (Frs.updL (s3 _ _ hd) (hf.same s3)) (SqT.updL (s3 _ _ hd) hy)
  · rintro ys σc H ⟨_, sm, hd, hf⟩
    exact ⟨hd, hq D H ys sm hD hd hf⟩
theorem Sz.zero {n : Nat} (h : 1 ≤ n) : Sz n (0 : Rat) := Sz.mono (m := 1) ⟨by show (_ : Nat) < _; decide, by show (_ : Nat) < _; decide⟩ h
theorem Pl.nil {K : PySem.W.Frag} {H : Hp} {p : Addr} (h : H p = some (.tup [])) : Pl K H p [] := ⟨[], SqT.of h, Frs.nil⟩
theorem rep_lst {K : PySem.W.Frag} {H : Hp} {p : Addr} {f : List Rat} {xs : List V} (h : H p = some (.lst xs)) (k : Frs K H f xs) : Rep K H (lstD f) (.ref p) := by
  simp only [lstD, Rep]
  exact ⟨p, xs, rfl, SqL.of h, k⟩
def frIn (K : PySem.W.Frag) (a : Addr) (t b : Int) : Bool := match K.lookup a with
  | some o => (match o.cls, o.data with
    | .type "tuple", .seq its _ => (match its.toList with | [.int x _, .int y _] => x == t && y == b | _ => false)
    | _, _ => false)
  | none => false
theorem frIn_sq {K : PySem.W.Frag} {a : Addr} {t b : Int} (h : frIn K a t b = true) (H : Hp) : SqT K H a [.int t, .int b] := by
  unfold frIn at h
  split at h
  · rename_i o e
    split at h
    · rename_i its n hc hd
      split at h
      · rename_i x tx y ty hl
        obtain ⟨h1, h2⟩ := Bool.and_eq_true_iff.mp h
        have h1 : x = t := by simpa using h1
        have h2 : y = b := by simpa using h2
        subst h1 h2
        refine .inr ⟨o, its, n, e, hc, hd, ?_, ?_⟩
        · have : its.size = 2 := by rw [← Array.length_toList, hl]; rfl
          rw [this]; exact sz_le 2 (by decide)
        · rw [hl]; exact .cons ⟨_, rfl⟩ (.cons ⟨_, rfl⟩ .nil)
      · cases h
    · cases h
  · cases h
end L2
namespace Mt
structure Ln (d n : Nat) (f : List Rat) : Prop where
  ex : ∃ D N : Nat, 0 < D ∧ D ≤ 2 ^ d ∧ N ≤ 2 ^ n ∧ ∀ k, Lat D N (cf f k)
theorem Ln.bits {d n : Nat} {f : List Rat} (h : Ln d n f) (k : Nat) : (cf f k).num.natAbs < 2 ^ (n + 1) ∧ ((cf f k).den : Int).natAbs < 2 ^ (d + 1) := by
  obtain ⟨D, N, h1, h2, h3, h4⟩ := h.ex
  have a := ((h4 k).dvd (by omega)).2
  have b := (h4 k).le (by omega)
  rw [Nat.pow_succ, Nat.pow_succ]
  constructor
  · have : 0 < 2 ^ n := Nat.two_pow_pos n
    omega
  · have : 0 < 2 ^ d := Nat.two_pow_pos d
    omega
theorem Ln.mono {d n d' n' : Nat} {f : List Rat} (h : Ln d n f) (hd : d ≤ d') (hn : n ≤ n') : Ln d' n' f := by
  obtain ⟨D, N, h1, h2, h3, h4⟩ := h.ex
  exact ⟨D, N, h1, Nat.le_trans h2 (Nat.pow_le_pow_right (by decide) hd), Nat.le_trans h3 (Nat.pow_le_pow_right (by decide) hn), h4⟩
theorem Lat.mc {D E N M : Nat} {g : List Rat} (k4 : ∀ k, Lat E M (cf g k)) : ∀ (f : List Rat) (_ : ∀ k, Lat D N (cf f k)) (n : Nat), Lat (D * E) (f.length * (N * M)) (mc f g n)
  | [], _, n => by rw [mc_nil_left]; exact Lat.zero
  | a :: f, h, 0 => by
    have := (h 0).mul (k4 0)
    rw [cf_zero] at this
    rw [Mt.mc]
    exact this.mono (Nat.le_mul_of_pos_left _ (by simp))
  | a :: f, h, n + 1 => by
    have z := (h 0).mul (k4 (n + 1))
    rw [cf_zero] at z
    rw [Mt.mc]
    have := z.add (Lat.mc k4 f (fun k => by have := h (k + 1); rw [cf_succ] at this; exact this) n)
    refine this.mono ?_
    rw [List.length_cons, Nat.succ_mul, Nat.add_comm]
    exact Nat.le_refl _
theorem Ln.pmul {d n e m l : Nat} {f g : List Rat} (h : Ln d n f) (k : Ln e m g) (hl : f.length ≤ 2 ^ l) : Ln (d + e) (l + (n + m)) (pmul f g) := by
  obtain ⟨D, N, h1, h2, h3, h4⟩ := h.ex
  obtain ⟨E, M, k1, k2, k3, k4⟩ := k.ex
  refine ⟨D * E, f.length * (N * M), Nat.mul_pos h1 k1, by rw [Nat.pow_add]; exact Nat.mul_le_mul h2 k2, ?_, fun i => by rw [cf_pmul]; exact Lat.mc k4 f h4 i⟩
  rw [Nat.pow_add, Nat.pow_add]
  exact Nat.mul_le_mul hl (Nat.mul_le_mul h3 k3)
theorem Ln.rowIn {d n e m l : Nat} {f g : List Rat} (h : Ln d n f) (k : Ln e m g) (hl : f.length ≤ 2 ^ l) {i j : Nat} (hi : i < f.length) (hj : j ≤ g.length) :
    Ln (d + e) (l + (n + m) + 1) (rowIn (prodIn f g i) i (cf f i) g j) := by
  obtain ⟨D, N, h1, h2, h3, h4⟩ := h.ex
  obtain ⟨E, M, k1, k2, k3, k4⟩ := k.ex
  refine ⟨D * E, f.length * (N * M) + N * M, Nat.mul_pos h1 k1, by rw [Nat.pow_add]; exact Nat.mul_le_mul h2 k2, ?_, fun p => ?_⟩
  · have a : f.length * (N * M) ≤ 2 ^ (l + (n + m)) := by rw [Nat.pow_add, Nat.pow_add]; exact Nat.mul_le_mul hl (Nat.mul_le_mul h3 k3)
    have b : N * M ≤ f.length * (N * M) := Nat.le_mul_of_pos_left _ (by omega)
    rw [Nat.pow_succ]
    omega
  · rw [cf_rowIn _ _ _ _ (by rw [prodIn_len]; omega), cf_prodIn f g p i (by omega)]
    have a : Lat (D * E) ((f.take i).length * (N * M)) (mc (f.take i) g p) := Lat.mc k4 (f.take i) (fun q => by
      rw [cf_take]
      split
      · exact h4 q
      · exact Lat.zero) p
    have a' := a.mono (N := f.length * (N * M)) (Nat.mul_le_mul (by rw [List.length_take]; omega) (Nat.le_refl _))
    refine a'.add ?_
    split
    · exact (h4 i).mul (k4 _)
    · exact Lat.zero
theorem Ln.pmulB {b c : Nat} {f g : List Rat} (h : Ln b b f) (k : Ln c c g) (hl : f.length ≤ 64) : Ln (b + c + 6) (b + c + 6) (Mt.pmul f g) := (h.pmul k (l := 6) hl).mono (by omega) (by omega)
theorem Ln.rowB {b c : Nat} {f g : List Rat} (h : Ln b b f) (k : Ln c c g) (hl : f.length ≤ 64) {i j : Nat} (hi : i < f.length) (hj : j ≤ g.length) : Ln (b + c + 7) (b + c + 7) (Mt.rowIn (prodIn f g i) i (cf f i) g j) := (h.rowIn k (l := 6) hl hi hj).mono (by omega) (by omega)
end Mt
namespace L2
open PySem PySem.Spec PyProof.Rows
section
variable {prog : Program} {w : World} {A : Around} {E : Value → Shared → Prop} {s : Shared}
theorem nx_tup {it l : Addr} {i : Nat} {xs : Array Value} {x : Value} {Q : Value → Shared → Prop} (p : s.heap.IsTupleIter it l i) (q : s.heap.IsTuple l xs) (e : xs[i]? = some x)
    (k : ∀ h', h'.IsTupleIter it l (i + 1) → Heap.SameBut it s.heap h' → Q x { s with heap := h' }) : wpAny (model prog w) A (Builtin.SmallTypes.nextOf (.ref it)) Q E s := by
  obtain ⟨oi, p1, p2, p3⟩ := id p
  obtain ⟨ol, q1, _, n, q2⟩ := q
  unfold Builtin.SmallTypes.nextOf
  refine wpAny_bind (wpAny_callSpecial?_slot (name := Str.ofString "__next__") p.typeIs PySem.F.slot_tuple_iterator_next (wpAny_call_entry PySem.F.slot_tuple_iterator_next p.typeIs PySem.F.entry_tuple_iterator_next ?_ (PySem.F.args_tuple_iterator_next_1 _)))
  refine wpAny_bind (m := field (.ref it) 0) (wpAny_field p1 p3 (x := .ref l) rfl ?_)
  show wpAny _ _ (if (Value.ref l == Value.none) = true then _ else _) _ _ s
  rw [if_neg (show ¬((Value.ref l == Value.none) = true) from Bool.false_ne_true)]
  refine wpAny_bind (m := field (.ref it) 1) (wpAny_field p1 p3 (x := .int i 0) rfl ?_)
  refine wpAny_bind (m := seqItems? (.ref l)) (wpAny_seqItems q1 q2 ?_)
  simp only [Int.toNat_natCast, e]
  refine wpAny_bind (wpAny_setField p1 p3 (by simp) (wpAny_pure ⟨x, rfl, wpAny_pure (k _ ⟨_, Heap.get?_update_self _ p1 (Obj.isFreed_of_fields (Obj.data_mapFields p3 _)), (Obj.cls_mapFields ..).trans p2, ?_⟩ (Heap.SameBut.update ..))⟩))
  rw [Obj.data_mapFields p3]; simp [rawInt]
theorem nx_tup_end {it l : Addr} {i : Nat} {xs : Array Value} {Q : Value → Shared → Prop} (hh : A.handled = none) (p : s.heap.IsTupleIter it l i) (q : s.heap.IsTuple l xs) (e : xs[i]? = none)
    (k : ∀ h' x, Heap.ExtBut it s.heap h' → (∃ o, h'.get? x = some o ∧ o.cls = .type "StopIteration") → E (.ref x) { s with heap := h' }) : wpAny (model prog w) A (Builtin.SmallTypes.nextOf (.ref it)) Q E s := by
  obtain ⟨oi, p1, p2, p3⟩ := id p
  obtain ⟨ol, q1, _, n, q2⟩ := q
  unfold Builtin.SmallTypes.nextOf
  refine wpAny_bind (wpAny_callSpecial?_slot (name := Str.ofString "__next__") p.typeIs PySem.F.slot_tuple_iterator_next (wpAny_call_entry PySem.F.slot_tuple_iterator_next p.typeIs PySem.F.entry_tuple_iterator_next ?_ (PySem.F.args_tuple_iterator_next_1 _)))
  refine wpAny_bind (m := field (.ref it) 0) (wpAny_field p1 p3 (x := .ref l) rfl ?_)
  show wpAny _ _ (if (Value.ref l == Value.none) = true then _ else _) _ _ s
  rw [if_neg (show ¬((Value.ref l == Value.none) = true) from Bool.false_ne_true)]
  refine wpAny_bind (m := field (.ref it) 1) (wpAny_field p1 p3 (x := .int i 0) rfl ?_)
  refine wpAny_bind (m := seqItems? (.ref l)) (wpAny_seqItems q1 q2 ?_)
  simp only [Int.toNat_natCast, e]
  refine wpAny_bind (wpAny_rule (wpAny_bind (wpAny_setField p1 p3 (by simp) ?_)))
  refine wpAny_bind (m := newExc (.type "StopIteration") []) ?_
  simp only [newExc, newTuple]
  refine wpAny_bind (wpAny_newObj_type ?_ (by size_fits))
  refine wpAny_bind (m := firstArgMember _ _) (wpAny_of_eq (a := Value.none) (by first | rfl | (simp only [firstArgMember]; rfl)) ?_)
  refine wpAny_newObj_type ?_ (by size_fits)
  simp only [raiseNew]
  refine wpAny_bind (wpAny_handled ?_)
  first | rw [show A.in1.handled = none from hh] | rw [hh]
  exact wpAny_bind (wpAny_pure (wpAny_throw (k _ _ (((Heap.SameBut.update ..).extBut.push _).push _) ⟨_, Heap.get?_push_size _ rfl, rfl⟩)))
theorem en_item {e it l : Addr} {i : Nat} {xs : Array Value} {x old : Value} {Q : Option Value → Shared → Prop} (ye : IsEnum s.heap e it i old) (yi : s.heap.IsTupleIter it l i) (yl : s.heap.IsTuple l xs) (yx : xs[i]? = some x) (ne : e ≠ it)
    (k : ∀ h', IsEnumOut h' e it ((i : Int) + 1) x s.heap.objs.size → h'.IsTupleIter it l (i + 1) → h'.get? s.heap.objs.size = some { cls := .type "tuple", data := .seq #[.int i s.toks, x] } →
      (∀ b o, b ≠ e → b ≠ it → s.heap.get? b = some o → h'.get? b = some o) → Q (some (.ref s.heap.objs.size)) { s with heap := h', toks := s.toks + 1 }) : wpAny (model prog w) A (pyNext (.ref e)) Q E s := by
  have ty : s.TypeIs (.ref e) "enumerate" := ⟨_, ye, rfl⟩
  obtain ⟨g0, gs, dr, tk, os⟩ := s
  unfold pyNext
  refine wpAny_bind (wpAny_attempt (wpAny_callSpecial?_slot (name := Str.ofString "__next__") ty PySem.F.slot_enumerate_next (wpAny_call_entry PySem.F.slot_enumerate_next ty PySem.F.entry_enumerate_next ?_ (PySem.F.args_enumerate_next_1 _))))
  refine wpAny_bind (m := field (.ref e) 2) (wpAny_field ye rfl (x := .ref it) rfl (wpAny_bind (nx_tup yi yl yx fun g1 yi1 b1 => ?_)))
  have b1 : Heap.SameBut it g0 g1 := b1
  have ye1 : IsEnum g1 e it i old := (b1.2 e ne).trans ye
  refine wpAny_bind (m := field (.ref e) 3) (wpAny_field ye1 rfl (x := rawInt i) rfl ?_)
  refine wpAny_bind (m := field (.ref e) 4) (wpAny_field ye1 rfl (x := .none) rfl ?_)
  refine wpAny_bind (m := mkInt (i : Int)) (wpAny_mkInt ?_)
  refine wpAny_bind (m := setField (.ref e) 3 (rawInt ((i : Int) + 1))) (wpAny_setField_rec ye1 (by simp) fun g2 ye2 b2 => ?_)
  have b2 : Heap.SameBut e g1 g2 := b2
  have ye2 : IsEnum g2 e it ((i : Int) + 1) old := ye2
  refine wpAny_bind (m := setField (.ref e) 4 .none) (wpAny_setField_rec ye2 (by simp) fun g3 ye3 b3 => ?_)
  have b3 : Heap.SameBut e g2 g3 := b3
  have ye3 : IsEnum g3 e it ((i : Int) + 1) old := ye3
  refine wpAny_bind (m := newTuple [.int i tk, x]) (wpAny_newTuple ?_)
  have sz : g3.objs.size = g0.objs.size := by rw [b3.1, b2.1, b1.1]
  have el : e < g0.objs.size := Heap.lt_size ye
  have yi3 : g3.IsTupleIter it l (i + 1) := (yi1.extBut b2.extBut (Ne.symm ne)).extBut b3.extBut (Ne.symm ne)
  have k3 : ∀ b o, b ≠ e → b ≠ it → g0.get? b = some o → g3.get? b = some o := fun b o z1 z2 z => b3.extBut b o z1 (b2.extBut b o z1 (b1.extBut b o z2 z))
  have ye4 : IsEnum (g3.push { cls := .type "tuple", data := .seq #[.int i tk, x] }) e it ((i : Int) + 1) old := Heap.get?_push_of_some _ ye3
  have t4 : (g3.push { cls := .type "tuple", data := .seq #[.int i tk, x] }).get? g0.objs.size = some { cls := .type "tuple", data := .seq #[.int i tk, x] } := by rw [← sz]; exact Heap.get?_push_size _ rfl
  have yi4 : (g3.push { cls := .type "tuple", data := .seq #[.int i tk, x] }).IsTupleIter it l (i + 1) := let ⟨o, z, r⟩ := yi3; ⟨o, Heap.get?_push_of_some _ z, r⟩
  have k4 : ∀ b o, b ≠ e → b ≠ it → g0.get? b = some o → (g3.push { cls := .type "tuple", data := .seq #[.int i tk, x] }).get? b = some o := fun b o z1 z2 z => Heap.get?_push_of_some _ (k3 b o z1 z2 z)
  rw [sz]
  generalize g3.push { cls := .type "tuple", data := .seq #[.int i tk, x] } = g4 at ye4 t4 yi4 k4 ⊢
  refine wpAny_bind (m := Builtin.SmallTypes.ownedTupleIsFree (.ref e)) ?_
  unfold Builtin.SmallTypes.ownedTupleIsFree
  refine wpAny_bind (wpAny_field ye4 rfl (x := .none) rfl (wpAny_pure ?_))
  simp only [if_true]
  refine wpAny_bind (wpAny_rule (wpAny_bind (wpAny_field ye4 rfl (x := old) rfl (wpAny_bind (wpAny_setField_rec ye4 (by simp) fun g5 ye5 b5 => ?_)))))
  have b5 : Heap.SameBut e g4 g5 := b5
  have ye5 : IsEnum g5 e it ((i : Int) + 1) x := ye5
  refine wpAny_bind (m := Builtin.SmallTypes.ownedTupleHandOut (.ref e) (.ref g0.objs.size)) ?_
  unfold Builtin.SmallTypes.ownedTupleHandOut
  refine wpAny_bind (wpAny_setField_rec ye5 (by simp) fun g6 ye6 b6 => ?_)
  have b6 : Heap.SameBut e g5 g6 := b6
  have ye6 : IsEnumOut g6 e it ((i : Int) + 1) x g0.objs.size := ye6
  refine wpAny_setField_rec ye6 (by simp) fun g7 ye7 b7 => ?_
  have b7 : Heap.SameBut e g6 g7 := b7
  have b57 : ∀ b o, b ≠ e → g4.get? b = some o → g7.get? b = some o := fun b o z1 z => b7.extBut b o z1 (b6.extBut b o z1 (b5.extBut b o z1 z))
  refine wpAny_bind (wpAny_letGo (wpAny_pure ⟨_, rfl, wpAny_pure (k g7 ye7 ?_ (b57 _ _ (Nat.ne_of_gt el) t4) fun b o z1 z2 z => b57 b o z1 (k4 b o z1 z2 z))⟩))
  obtain ⟨o, z, r⟩ := yi4
  exact ⟨o, b57 it o (Ne.symm ne) z, r⟩
theorem en_end {e it l : Addr} {i : Nat} {xs : Array Value} {old : Value} {Q : Option Value → Shared → Prop} (hh : A.handled = none) (ye : IsEnum s.heap e it i old) (yi : s.heap.IsTupleIter it l i) (yl : s.heap.IsTuple l xs) (yx : xs[i]? = none)
    (k : ∀ h', Heap.ExtBut it s.heap h' → Q none { s with heap := h' }) : wpAny (model prog w) A (pyNext (.ref e)) Q E s := by
  have ty : s.TypeIs (.ref e) "enumerate" := ⟨_, ye, rfl⟩
  unfold pyNext
  refine wpAny_bind (wpAny_attempt (wpAny_callSpecial?_slot (name := Str.ofString "__next__") ty PySem.F.slot_enumerate_next (wpAny_call_entry PySem.F.slot_enumerate_next ty PySem.F.entry_enumerate_next ?_ (PySem.F.args_enumerate_next_1 _))))
  refine wpAny_bind (m := field (.ref e) 2) (wpAny_field ye rfl (x := .ref it) rfl (wpAny_bind (nx_tup_end hh yi yl yx fun h' x z ⟨o, ho, hc⟩ => ?_)))
  exact wpAny_bind (wpAny_isInstance (T := "StopIteration") (b := true) ⟨o, ho, hc⟩ isSubtype_stop (wpAny_pure (k _ z)))
end
def itO (l : Addr) : Obj := { cls := .type "tuple_iterator", data := .fields #[.ref l, .int 0 0] }
def enO (it : Addr) : Obj := { cls := .type "enumerate", data := .fields #[.none, .bool false, .ref it, rawInt 0, .none, .none] }
theorem meets_enT (l : Addr) (its : Array Value) (n : Nat) (dd : Option Addr) (sl : Array (Option Value)) :
    Meets (Builtin.«enumerate.__new__» ⟨[.type "enumerate", .ref l], []⟩) (fun _ R s => s.heap.get? l = some { cls := .type "tuple", dict := dd, data := .seq its n, slots := sl } ∧
      R (.ok (.ret (.ref (s.heap.push (itO l)).objs.size))) { s with heap := (s.heap.push (itO l)).push (enO s.heap.objs.size) }) :=
  .of_wp fun prog w A R s h => by
    obtain ⟨g0, gs, dr, tk, os⟩ := s
    obtain ⟨yl, h⟩ := h
    have sub := sub_enumerate
    have yt : Heap.IsTuple (Shared.heap ⟨g0, gs, dr, tk, os⟩) l its := ⟨_, yl, rfl, n, rfl⟩
    wp_walk using AutoSeq1.wpAny_loadPart' yl
    refine wpAny_stack_any fun st => wpAny_pure ?_
    split
    · rename_i c _ _ _ _ _
      cases (c == Value.type "enumerate") <;> (wp_walk using AutoSeq1.wpAny_loadPart' yl, wpAny_pyIter_tuple yt; exact ⟨_, rfl, h⟩)
    · wp_walk using AutoSeq1.wpAny_loadPart' yl, wpAny_pyIter_tuple yt
      exact ⟨_, rfl, h⟩
section
variable {prog : Program} {w : World} {A : Around} {E : Value → Shared → Prop} {s : Shared}
theorem call_enT {l : Addr} {its : Array Value} {Q : Value → Shared → Prop} (yt : s.heap.IsTuple l its)
    (k : ∀ h', IsEnum h' (s.heap.objs.size + 1) s.heap.objs.size 0 .none → h'.IsTupleIter s.heap.objs.size l 0 → (∀ b o, s.heap.get? b = some o → h'.get? b = some o) → Q (.ref (s.heap.objs.size + 1)) { s with heap := h' }) :
    wpAny (model prog w) A (call (.type "enumerate") [.ref l]) Q E s := by
  obtain ⟨⟨c, dd, dt, sl⟩, yl, hc, n, hd⟩ := yt
  have hc : c = .type "tuple" := hc
  have hd : dt = .seq its n := hd
  subst hc hd
  refine callType_new PySem.F.called_enumerate (by decide) (PySem.F.typeCall_enumerate_1 _) (PySem.F.newCall_enumerate_1 _) (fun obj => PySem.F.args_object_init_2 obj _) PySem.F.entry_enumerate_new (meets_enT l its n dd sl) ⟨yl, ?_⟩
  have hz : (s.heap.push (itO l)).objs.size = s.heap.objs.size + 1 := Heap.size_push ..
  have ye : IsEnum ((s.heap.push (itO l)).push (enO s.heap.objs.size)) (s.heap.objs.size + 1) s.heap.objs.size 0 .none := by
    rw [← hz]
    exact Heap.get?_push_size _ rfl
  show _ ∧ _
  rw [hz]
  exact ⟨⟨_, ye, rfl⟩, k _ ye ⟨_, Heap.get?_push_of_some _ (Heap.get?_push_size _ rfl), rfl, rfl⟩ fun b o z => Heap.get?_push_of_some _ (Heap.get?_push_of_some _ z)⟩
end
theorem Inv.turnLaid {X : Cx} {pins : List (Addr × Obj)} {σ : St} {H : Hp} {s : Shared} {h' : Heap} {t' : Nat} {e it t : Addr} {o : HO} (I : Inv X pins σ H s) (k : ∀ b u, b ≠ e → b ≠ it → s.heap.get? b = some u → h'.get? b = some u) (fe : FpOk X pins H e) (fi : FpOk X pins H it)
    (hn : H t = none) (ht : s.heap.get? t = none) (new : ObjOk X.prog X.w (upd H t o) h' t o) : Inv X pins σ (upd H t o) { s with heap := h', toks := t' } := by
  have nt : ∀ b u, H b = some u → b ≠ t := fun b u z y => by rw [y, hn] at z; cases z
  have ne : ∀ b u, H b = some u → b ≠ e := fun b u z y => by rw [y, fe.1] at z; cases z
  have ni : ∀ b u, H b = some u → b ≠ it := fun b u z y => by rw [y, fi.1] at z; cases z
  have out : ∀ b, b ∉ [e, it] → b ≠ e ∧ b ≠ it := fun b z => ⟨fun y => z (by simp [y]), fun y => z (by simp [y])⟩
  refine I.step (g' := s.gens) (d' := s.drawn) (ch := [e, it]) (fun b hb => ?_) (fun b u _ _ hc z _ => k b u (out b hc).1 (out b hc).2 z) (fun b u _ _ hc z _ => ⟨u.slots, k b u (out b hc).1 (out b hc).2 z⟩) (fun b u hc z y => ?_)
    (fun b u hc z => ⟨u, k b u (out b hc).1 (out b hc).2 z⟩) (fun b xs z => ?_) (fun b u v z => ?_) (fun b ps z => ⟨#[], ?_⟩) (fun m hm => ?_) (fun b u z => ?_) I.bare
  · simp only [List.mem_cons, List.not_mem_nil, or_false] at hb
    rcases hb with rfl | rfl
    · exact ⟨fe.2.2.2.1, fe.2.1, fe.2.2.2.2.1, fe.2.2.2.2.2⟩
    · exact ⟨fi.2.2.2.1, fi.2.1, fi.2.2.2.2.1, fi.2.2.2.2.2⟩
  · rw [upd_ne (by rintro rfl; rw [ht] at z; cases z)]; exact y
  · rw [upd_ne (nt _ _ z)]; exact z
  · rw [upd_ne (nt _ _ z)]; exact z
  · rw [upd_ne (nt _ _ z), z]; simp
  · obtain ⟨u, es, ep, hu, r⟩ := hm
    exact ⟨u, es, ep, k _ u (Ne.symm fe.2.1) (Ne.symm fi.2.1) hu, r⟩
  · by_cases hb : b = t
    · subst hb
      rw [upd_same] at z
      cases z
      exact new
    · rw [upd_ne hb] at z
      refine (I.hok b u z).stay (fun c v hc q => ?_) (fun c q => by rw [upd_ne (nt _ _ q)]; exact q) fun c xs q => by rw [upd_ne (nt _ _ q)]; exact q
      rcases hc with y | y
      · subst y; exact k c v (ne _ _ z) (ni _ _ z) q
      · exact k c v (ne _ _ y) (ni _ _ y) q
def Ite (K : PySem.W.Frag) (a : Addr) : It :=
  ⟨fun i H => ∃ xs x, SqT K H a xs ∧ xs[i]? = some x, fun i H v H' => ∃ p, v = .ref p ∧ H p = none ∧ ∀ xs x, SqT K H a xs → xs[i]? = some x → H' = upd H p (.tup [.int i, x]), fun i H => ∃ xs, SqT K H a xs ∧ xs.length ≤ i⟩
theorem turn_enT {P : Program} {w : World} {K : PySem.W.Frag} {es : List Expr} {y1 : Nat} {tp : Pos} (a e it : Addr) (ne : e ≠ it) : Turn P w K (.Tuple es y1 tp) (Ite K a) [e, it] e (fun i h => (∃ old, IsEnum h e it i old) ∧ h.IsTupleIter it a i) where
  mem := by simp
  obj := fun i h st b hb => by
    simp only [List.mem_cons, List.not_mem_nil, or_false] at hb
    rcases hb with rfl | rfl
    · obtain ⟨⟨old, z⟩, _⟩ := st
      exact ⟨_, z, fun v q => by cases (show Data.fields _ = Data.cell v from q)⟩
    · obtain ⟨_, o, z, c, d⟩ := st
      exact ⟨o, z, fun v q => by rw [d] at q; cases q⟩
  keep := fun i h h' st k => by
    obtain ⟨⟨old, z⟩, o, y, r⟩ := st
    exact ⟨⟨old, k e (by simp) _ z⟩, o, k it (by simp) _ y, r⟩
  item := by
    intro X hP hw hK hc i pins s σ H E I hf st hg
    subst hP hw hK
    obtain ⟨xs, x, hq, hx⟩ := hg
    obtain ⟨its, rv, p, hz⟩ := I.tuple hq
    obtain ⟨u, hu, ru⟩ := rv.get hx
    obtain ⟨⟨old, ye⟩, yi⟩ := st
    refine en_item ye yi (show s.heap.IsTuple a its.toArray from p) (x := u) (by simpa using hu) ne fun h1 yo yi1 yt k1 => ⟨_, rfl, ?_⟩
    refine wpAny_letOwnedTupleGo_enum yo fun h2 ye2 b2 => ?_
    have b2 : Heap.SameBut e h1 h2 := b2
    have el : e < s.heap.objs.size := Heap.lt_size ye
    have tn : e ≠ s.heap.objs.size := Nat.ne_of_lt el
    have fr : H s.heap.objs.size = none := I.hok.fresh (Nat.le_refl _)
    have yt2 : h2.get? s.heap.objs.size = some { cls := .type "tuple", data := .seq #[.int i s.toks, u] } := b2.extBut _ _ (Ne.symm tn) yt
    have I2 : Inv X pins σ (upd H s.heap.objs.size (.tup [.int i, x])) { s with heap := h2, toks := s.toks + 1 } :=
      I.turnLaid (fun b o z1 z2 z => b2.extBut b o z1 (k1 b o z1 z2 z)) (hf e (by simp)) (hf it (by simp)) fr (Heap.get?_none_of_le (Nat.le_refl _))
        ⟨sz_le 2 (by decide), [.int i s.toks, u], .cons ⟨_, rfl⟩ (.cons ru .nil), ⟨_, yt2, rfl, _, rfl⟩⟩
    have hit : it ≠ s.heap.objs.size := by
      obtain ⟨o, z, _⟩ := yi
      exact Nat.ne_of_lt (Heap.lt_size z)
    refine ⟨.ref s.heap.objs.size, _, I2, rfl, ⟨_, rfl, fr, fun ys y hy hyi => ?_⟩, ⟨⟨_, ye2⟩, yi1.extBut b2.extBut (Ne.symm ne)⟩, fun b hb => ?_⟩
    · have exy := I.tuple_inj hy hq
      subst exy
      rw [hx] at hyi
      cases hyi
      rfl
    · have h0 := (hf b hb).1
      simp only [List.mem_cons, List.not_mem_nil, or_false] at hb
      rcases hb with rfl | rfl
      · rw [upd_ne tn]; exact h0
      · rw [upd_ne hit]; exact h0
  done := by
    intro X hP hw hK hc i pins s σ H E I hf st hg
    subst hP hw hK
    obtain ⟨xs, hq, hx⟩ := hg
    obtain ⟨its, rv, p, hz⟩ := I.tuple hq
    obtain ⟨⟨old, ye⟩, yi⟩ := st
    obtain ⟨f0, f1, f2, f3, f4, f5⟩ := hf it (by simp)
    have hl := rv.length
    exact en_end (I.ok.hd hc) ye yi (show s.heap.IsTuple a its.toArray from p) (by simp; omega) fun h' eb => ⟨rfl, I.turned (t' := s.toks) (fun b o hb z => eb b o hb z) f0 f1 f3 f4 f5⟩
  self := fun _ _ _ _ _ st h => by
    obtain ⟨⟨old, z⟩, _⟩ := st
    exact wpAny_pyIter_enum z h
section
variable {X : Cx} {es : List Expr} {y1 : Nat} {tp : Pos}
def iEn (K : PySem.W.Frag) (ta : TA) : TI := fun σ H R => ta σ H fun vs H1 => ∃ a, vs = [.ref a] ∧ (∃ xs, SqT K H1 a xs) ∧ R (Ite K a) H1
theorem pi_enT {a : Expr} {ta : TA} {p pos : Pos} (hg : Gl X "enumerate") (hm : X.mg "enumerate" = none) (ha : PA X [a] ta) (hs : starEach [a] X.env = [(false, eval a X.env)] := by rfl) : PI X (.Tuple es y1 tp) (.Call (.Name "enumerate" p) [a] [] pos) (iEn X.K ta) := by
  intro pins s σ H R I h
  refine Call_ (ld_blt I hg hm PyProof.Rows.boot_enumerate (PyProof.Rows.callWith_type1 (thn (ha pos pins s σ H _ I h) fun us s1 ⟨vs, H1, I1, r1, q1⟩ => ?_) hs rfl))
  obtain ⟨b, e, ⟨xs, hq⟩, q⟩ := q1
  subst e
  obtain ⟨u, rfl, rx⟩ := vals1 r1
  cases rx
  obtain ⟨its, rv, yt, hz⟩ := I1.tuple hq
  refine call_enT (show s1.heap.IsTuple b its.toArray from yt) fun h' ye yi kp => wpAny_pyIter_enum ye ?_
  refine ⟨s1.heap.objs.size + 1, [s1.heap.objs.size + 1, s1.heap.objs.size], _, _, H1, rfl, I1.kept (t' := s1.toks) kp, turn_enT b _ _ (Nat.succ_ne_self _), ⟨⟨_, ye⟩, yi⟩, fun c hc => ?_, q⟩
  simp only [List.mem_cons, List.not_mem_nil, or_false] at hc
  rcases hc with rfl | rfl
  · exact I1.fpOk (Nat.le_succ _) (I1.hok.fresh (Nat.le_succ _))
  · exact I1.fpOk (Nat.le_refl _) (I1.hok.fresh (Nat.le_refl _))
def FE (xs : List V) (at_ : Hp → Prop) (g : TG) (tb : TS) (D : Ends) (σ : St) (H : Hp) : Prop := ∃ Pv : Nat → St → Hp → Prop, Pv 0 σ H ∧ (∀ i σ H, i ≤ xs.length → Pv i σ H → at_ H) ∧
  (∀ i x σ H p, xs[i]? = some x → Pv i σ H → H p = none → g (.ref p) σ (upd H p (.tup [.int i, x])) fun σ2 H2 => tb { D with nx := Pv (i + 1), ct := Pv (i + 1), bk := D.nx } σ2 H2) ∧ ∀ σ H, Pv xs.length σ H → D.nx σ H
def tForE (K : PySem.W.Frag) (te : TE) (g : TG) (tb : TS) : TS := fun D σ H => te σ H fun v H1 => ∃ a xs, v = .ref a ∧ SqT K H1 a xs ∧ FE xs (fun H => SqT K H a xs) g tb D σ H1
theorem ps_forE {l : Expr} {body : List Stmt} {te : TE} {g : TG} {tb : TS} {p pos pos' : Pos} (hc : X.calm = true) (hp : PassesOwn (model X.prog X.w) X.A X.env X.xe) (hm : X.mg "enumerate" = none) (hl : PE X l te) (hgt : PG X (.Tuple es y1 tp) g) (hb : PSs X body tb)
    (hg : Gl X "enumerate" := by rfl) (hs : starEach [l] X.env = [(false, eval l X.env)] := by rfl) : PS X (.For (.Tuple es y1 tp) (.Call (.Name "enumerate" p) [l] [] pos') body [] pos) (tForE X.K te g tb) := by
  intro pins s σ H D I h
  refine ps_for hp hc (pi_enT hg hm (pa_cons hl.mo pa_nil (by rw [hs]; rfl)) hs) hgt hb (by intro _; rfl) pins s σ H D I ?_
  refine ⟨_, h, fun v H1 ⟨a, xs, e, q, Pv, p0, pl, pt, pd⟩ => ⟨a, by rw [e], ⟨xs, q⟩, ?_⟩⟩
  refine ⟨fun i m σ H => m = xs.length - i ∧ i ≤ xs.length ∧ Pv i σ H, ⟨xs.length, by simp, Nat.zero_le _, p0⟩, ?_⟩
  rintro i m σ H ⟨rfl, hi, z⟩
  have y := pl i σ H hi z
  by_cases hlt : i < xs.length
  · refine .inr ⟨⟨xs, xs[i], y, by simp [hlt]⟩, Pv (i + 1), fun σ' H' z' => ⟨xs.length - (i + 1), by omega, rfl, hlt, z'⟩, fun x H' yl => ?_⟩
    obtain ⟨t, rfl, ht, hu⟩ := yl
    have hx : xs[i]? = some xs[i] := by simp [hlt]
    rw [hu xs _ y hx]
    exact pt i _ σ H t hx z ht
  · have e : i = xs.length := by omega
    subst e
    exact .inl ⟨⟨xs, y, Nat.le_refl _⟩, pd σ H z⟩
end
section
variable {prog : Program} {w : World} {A : Around} {E : Value → Shared → Prop} {s : Shared}
end
section
variable {X : Cx} {tg : Expr}
def tForV (K : PySem.W.Frag) (te : TE) (g : TG) (tb : TS) : TS := fun D σ H => te σ H fun v H1 => ∃ a xs, v = .ref a ∧ SqT K H1 a xs ∧ FL xs.reverse (fun H => SqT K H a xs) g tb D σ H1
end
theorem Ln.sz {b : Nat} {f : List Rat} (h : Mt.Ln b b f) (k : Nat) : Sz (b + 1) (Mt.cf f k) := ⟨(h.bits k).1, (h.bits k).2⟩
theorem ixN_nat {n k : Nat} (h : k < n) : ixN n (k : Int) = some k := by
  simp [ixN]
  omega
end L2
namespace L2
open PySem PySem.Spec PyProof.Rows PySem.W
def excInit (K : Frag) (C fI : Addr) : Bool :=
  match K.lookup C with
  | some ⟨.type "type", _, .cls cd, sl⟩ =>
    (match cd.mro, sl.toList with
      | .ref D :: up, [_, _, _, _, some (.builtin n), _] => D == C && (n == "ValueError.__new__" && (!cd.hasDel && (tailIn K vmro up && (isFn K (.ref fI) && findIn K (.ref C) "__init__" == some (some (.ref fI))))))
      | _, _ => false)
  | _ => false
section
variable {prog : Program} {w : World} {A : Around} {E : Value → Shared → Prop} {h : Heap} {g : Array GenState} {d : Drawn} {t : Nat} {os : OsState}
variable {nm q : Str} {C N fI : Addr} {bs bm : List Value} {hdct : Bool} {sn : List Str} {sub : List Value} {ab : Bool} {col : Option Bool} {dd : Option Addr} {k0 k1 k2 k3 k5 : Option Value} {K : Frag} {us : List Value}
end
end L2
namespace L2
open PySem PySem.Spec PyProof.Rows PySem.W
def rawX (e : Addr) (cls : Value) (dv : Option Addr) : HO := .ext fun h => ∃ t : Addr, h.get? e = some { cls := cls, dict := dv, data := .fields #[.ref t, .none, .none, .none, .bool false, .none] }
def era (H : Hp) (e : Addr) : Hp := fun b => if b = e then none else H b
section
variable {M : Model} {A : Around} {E : Value → Shared → Prop} {env : Env}
variable {nm q : Str} {C N : Addr} {bs bm : List Value} {hdct : Bool} {sn : List Str} {sub : List Value} {ab : Bool} {col : Option Bool} {dd : Option Addr} {k0 k1 k2 k3 k5 : Option Value} {nid : String}
end
def tRaiseI (C : Addr) (sp : Sp) (E : XK) (t : TA) : TS := fun _ σ H => t σ H fun vs H1 => vs.length ≤ sizeLine ∧ ∀ e, H1 e = none →
  sp (.ref e :: vs) (upd H1 e (rawX e (.ref C) none)) (fun r H2 => r = .non ∧ ∃ dv, H2 e = some (rawX e (.ref C) dv) ∧ E (.ref C) dv (era H2 e)) E0
end L2
namespace L2
open PySem PySem.Spec PyProof.Rows PySem.W
section
variable {X : Cx} {pins : List (Addr × Obj)} {σ : St} {H : Hp} {s : Shared}
def tExcInit (K : Frag) (t : TA) : TE := fun σ H Q => t σ H fun vs H1 => ∃ a C fI dv x, vs = [.ref a, x] ∧ H1 a = some (rawX a (.ref C) dv) ∧ excInit K C fI = true ∧ Q .non H1
end
end L2
namespace L2
open PySem PySem.Spec PyProof.Rows PySem.W Builtin Builtin.ObjectAttr
def tFs (x : Str) (t : TE) : TE := fun σ H Q => t σ H fun v H1 => ∃ n : Int, v = .int n ∧ n.natAbs.log2 < 1920 ∧ (x ++ (toString n : Str)).length ≤ sizeLine ∧ Q (.str (x ++ (toString n : Str))) H1
def refsV : List Value → Bool
  | .ref _ :: r => refsV r
  | l => l == vmro
structure XAtt (K : Frag) (C : Addr) (f : Str) : Prop where
  sa : findIn K (.ref C) "__setattr__" = some (some (.builtin "object.__setattr__"))
  no : findIn K (.ref C) f = some none
  ob : mroIn K C (.type "object") = some true
  cl : (clsIn K C).any (fun cd => cd.hasDict && refsV cd.mro) = true
section
variable {prog : Program} {w : World} {A : Around} {E : Value → Shared → Prop} {s : Shared} {K : Frag} {x C t : Addr} {f : Str} {v : Value}
end
section
variable {X : Cx} {pins : List (Addr × Obj)} {σ : St} {H : Hp} {s : Shared}
end
def sXset (K : Frag) (ta tv : TE) (f : Str) : TS := fun D σ H => tv σ H fun y H1 => ta σ H1 fun x H2 => ∃ a C, x = .ref a ∧ H2 a = some (rawX a (.ref C) none) ∧ XAtt K C f ∧
  ∀ d, H2 d = none → d ≠ a → D.nx σ (upd (upd H2 a (rawX a (.ref C) (some d))) d (.xd [(f, y)]))
end L2
namespace L2
open PySem PySem.Spec PyProof.Rows PySem.W Builtin Builtin.ObjectAttr
structure XGet (K : Frag) (C : Addr) (f : Str) : Prop where
  x : XCls K C
  hd : hasDictIn K C = true
  no : findIn K (.ref C) f = some none
def tXget (K : Frag) (ta : TE) (f : Str) : TE := fun σ H Q => ta σ H fun x H1 => ∃ a C d fs v, x = .ref a ∧ H1 a = some (excD a (.ref C) (some d)) ∧ H1 d = some (.xd fs) ∧ XGet K C f ∧ fs.lookup f = some v ∧ Q v H1
end L2
namespace L2
open PySem PySem.Spec PyProof.Rows Builtin Builtin.Str
section
variable {X : Cx}
end
end L2
namespace L2
open PySem PySem.Spec PyProof.Rows
end L2
namespace L2
open PySem PySem.Spec PyProof.Rows
end L2
namespace L2
open PySem PySem.Spec PyProof.Rows
section
variable {X : Cx}
theorem bools_of : ∀ {bs : List Bool} {us : List Value}, Vals (bs.map V.bl) us → us = bs.map Value.bool
  | [], _, .nil => rfl
  | b :: bs, _, .cons e r => by rw [bools_of r, List.map_cons, show _ = Value.bool b from e]
def rAll : List V → Hp → VK → Prop := fun xs H Q => ∃ (l : Addr) (bs : List Bool), xs = [.ref l] ∧ H l = some (.lst (bs.map V.bl)) ∧ Q (.bl (bs.all id)) H
theorem call_all (hc : X.calm = true) : CallR X (.builtin "all") rAll := by
  rintro pins s σ H xs us Q I r ⟨l, bs, rfl, hl, q⟩
  obtain ⟨u, rfl, ru⟩ := vals1 r
  obtain rfl : u = Value.ref l := ru
  obtain ⟨_, its, n, hv, _, g⟩ := I.lstM hl
  obtain rfl := bools_of hv
  have il : s.heap.IsList l (bs.map Value.bool).toArray := ⟨_, g, rfl, _, rfl⟩
  refine call_all_walk (wpAny_pyIter_list il ?_)
  have ne : l ≠ s.heap.objs.size := Nat.ne_of_lt (Heap.lt_size g)
  refine ⟨s.heap.objs.size, _, _, _, _, _, fun i => bs.getD i true, rfl, Walks.list (show X.A.in1.handled = none from I.ok.hd hc) _ l ne (bs.map Value.bool).toArray, ⟨⟨_, Heap.get?_push_size _ rfl, rfl, rfl⟩, il.at fun o e => Heap.get?_push_of_some _ e⟩, fun i v s' Q' E' hP hQ => ?_, fun h' tk keep => ?_⟩
  · have hP : (bs.map Value.bool).toArray[i]? = some v := hP
    rw [List.getElem?_toArray, List.getElem?_map] at hP
    cases e : bs[i]? with
    | none => rw [e] at hP; cases hP
    | some b =>
      rw [e] at hP; cases hP
      have hQ : Q' (bs.getD i true) s' := hQ
      rw [show bs.getD i true = b by rw [List.getD_eq_getElem?_getD, e]; rfl] at hQ
      exact wpAny_pure hQ
  · refine ⟨.bl _, H, I.kept fun b o e => keep b o (fun m => ?_) (Heap.get?_push_of_some _ e), rfl, ?_⟩
    · obtain rfl : b = s.heap.objs.size := by simpa using m
      exact absurd (Heap.lt_size e) (Nat.lt_irrefl _)
    · have : (List.range (bs.map Value.bool).toArray.size).all (fun i => bs.getD i true) = bs.all id := by
        rw [List.size_toArray, List.length_map]
        rw [Bool.eq_iff_iff, List.all_eq_true, List.all_eq_true]
        constructor
        · intro h b hb
          obtain ⟨i, hi, rfl⟩ := List.mem_iff_getElem.mp hb
          have := h i (List.mem_range.mpr hi)
          rw [List.getD_eq_getElem?_getD, List.getElem?_eq_getElem hi] at this
          exact this
        · intro h i hi
          have hi := List.mem_range.mp hi
          rw [List.getD_eq_getElem?_getD, List.getElem?_eq_getElem hi]
          exact h _ (List.getElem_mem hi)
      rw [this]
      exact q
end
end L2
namespace L2
open PySem PySem.Spec PyProof.Rows Builtin Builtin.Str
section
variable {prog : Program} {w : World} {A : Around} {E : Value → Shared → Prop} {s : Shared} {it : Addr} {fp wr : List Addr} {G : Array GenState → Array GenState → Prop} {n : Nat} {P : Nat → Value → Prop} {St : Nat → Shared → Prop}
end
def tJoinRev (a : PySem.Str) (te : TE) : TE := fun σ H Q => te σ H fun x H1 => ∃ (l : Addr) (ts : List PySem.Str), x = .ref l ∧ H1 l = some (.lst (ts.map V.str)) ∧ JoinOk a ts.reverse = true ∧ Q (.str (Txt.join a ts.reverse)) H1
end L2
namespace Mt
open PySem PySem.NumText
end Mt
namespace L2
open PySem PySem.Spec PyProof.Rows
def FX (x : Str) (g : TG) (tb : TS) (D : Ends) (σ : St) (H : Hp) : Prop := ∃ Pv : Nat → St → Hp → Prop, Pv 0 σ H ∧ (∀ i c σ H, x.cps[i]? = some c → Pv i σ H → g (.str ⟨#[c]⟩) σ H fun σ2 H2 => tb { D with nx := Pv (i + 1), ct := Pv (i + 1), bk := D.nx } σ2 H2) ∧ ∀ σ H, Pv x.cps.size σ H → D.nx σ H
def tForX (te : TE) (g : TG) (tb : TS) : TS := fun D σ H => te σ H fun v H1 => ∃ x, v = .str x ∧ FX x g tb D σ H1
section
variable {X : Cx} {tg l a elt : Expr} {body : List Stmt} {te tl : TE} {g : TG} {tb : TS} {p pos pos' : Pos} {scope : Scope} {js : List (Option Nat)}
def tCoX (js : List (Option Nat)) (te : TE) (g : TG) (tl : TE) : TE := fun σ H Q => te σ H fun v H1 => ∃ x, v = .str x ∧ CO x.cps.size (fun i _ v => ∃ c, x.cps[i]? = some c ∧ v = .str ⟨#[c]⟩) (fun _ => True) js g tl σ H1 Q
theorem pe_globI {x : Str} {n : Int} (hm : ∃ t, X.mg x = some (.int n t)) (hg : Gl X x := by rfl) (hd : (x == ("__debug__" : Str)) = false := by decide) : PE X (.Name x pos) (tC (.int n)) := by
  obtain ⟨t, hm⟩ := hm
  exact pe_glob hg hm ⟨t, rfl⟩ hd
end
end L2
namespace L2
open PySem PySem.Spec PyProof.Rows
end L2
namespace Mt
def wk (L D s : Nat → Rat) (top h : Nat) : Rat := s h * L h + (if 0 < h then s (h - 1) else 0) + (if h + 1 < top then s (h + 1) * D h else 0)
def row (L D : Nat → Rat) (top i : Nat) : Nat → List Rat
  | 0 => (List.range top).map fun h => if h = i then 1 else 0
  | n + 1 => (List.range top).map fun h => wk L D (cf (row L D top i n)) top h
theorem row_len (L D : Nat → Rat) (top i : Nat) : ∀ n, (row L D top i n).length = top
  | 0 => by simp [row]
  | n + 1 => by simp [row]
abbrev sm (L D : Nat → Rat) (top i n j : Nat) : Rat := cf (row L D top i n) j
section
variable {L D : Nat → Rat} {top : Nat}
theorem sm_zero {i j : Nat} (h : j < top) : sm L D top i 0 j = if j = i then 1 else 0 := by rw [sm, row, cf_map_range, if_pos h]
theorem sm_ge {i n j : Nat} (h : top ≤ j) : sm L D top i n j = 0 := cf_ge (by rw [row_len]; exact h)
theorem sm_succ {i n j : Nat} (h : j < top) : sm L D top i (n + 1) j = wk L D (sm L D top i n) top j := by rw [sm, row, cf_map_range, if_pos h]
def Su (f : Nat → Rat) : Nat → Rat
  | 0 => 0
  | n + 1 => Su f n + f n
theorem Su_congr {f g : Nat → Rat} : ∀ {m : Nat}, (∀ h, h < m → f h = g h) → Su f m = Su g m
  | 0, _ => rfl
  | m + 1, e => by rw [Su, Su, Su_congr fun h hh => e h (by omega), e m (by omega)]
theorem Su_add (f g : Nat → Rat) : ∀ m, Su (fun h => f h + g h) m = Su f m + Su g m
  | 0 => by simp only [Su]; grind
  | m + 1 => by rw [Su, Su, Su, Su_add f g m]; grind
theorem Su_mul (f : Nat → Rat) (c : Rat) : ∀ m, Su (fun h => f h * c) m = Su f m * c
  | 0 => by simp only [Su]; grind
  | m + 1 => by rw [Su, Su, Su_mul f c m]; grind
theorem Su_zero : ∀ m, Su (fun _ => 0) m = 0
  | 0 => rfl
  | m + 1 => by rw [Su, Su_zero m]; grind
theorem Su_one (f : Nat → Rat) (j : Nat) : ∀ m, j < m → Su (fun h => f h * (if j = h then 1 else 0)) m = f j
  | 0, h => absurd h (Nat.not_lt_zero _)
  | m + 1, h => by
    rw [Su]
    by_cases e : j = m
    · subst e
      rw [if_pos rfl, Su_congr (g := fun _ => 0) (fun h hh => by rw [if_neg (by omega)]; grind), Su_zero]
      grind
    · rw [if_neg e, Su_one f j m (by omega)]
      grind
def pr (D : Nat → Rat) (i : Nat) : Nat → Rat
  | 0 => 1
  | n + 1 => pr D i n * D (i + n)
theorem far : ∀ (n i h : Nat), i + n < h → sm L D top i n h = 0
  | 0, i, h, e => by
    by_cases z : h < top
    · rw [sm_zero z, if_neg (by omega)]
    · exact sm_ge (by omega)
  | n + 1, i, h, e => by
    by_cases z : h < top
    · rw [sm_succ z]
      unfold wk
      rw [far n i h (by omega), far n i (h - 1) (by omega), far n i (h + 1) (by omega)]
      simp
      grind
    · exact sm_ge (by omega)
theorem straight (i : Nat) : ∀ n, i + n < top → sm L D top i n (i + n) = 1
  | 0, h => by rw [sm_zero (by omega), if_pos (by omega)]
  | n + 1, h => by
    rw [sm_succ h]
    unfold wk
    rw [far n i (i + (n + 1)) (by omega), far n i (i + (n + 1) + 1) (by omega), if_pos (by omega), show i + (n + 1) - 1 = i + n by omega, straight i n (by omega)]
    simp
    grind
end
theorem Lat.one : Lat 1 1 1 := ⟨1, by grind, by decide⟩
abbrev B0 : Nat := 27720
abbrev W0 : Nat := 2000001
abbrev Wg (q : Rat) : Prop := Lat B0 (999999 * B0) q
abbrev Gd (n : Nat) (q : Rat) : Prop := Lat (B0 ^ n) (W0 ^ n * B0 ^ n) q
theorem Gd.zero {n : Nat} : Gd n 0 := Lat.zero
theorem Gd.one : Gd 0 1 := Lat.one
theorem gd_step {n : Nat} {a b c d e : Rat} (ha : Gd n a) (hb : Wg b) (hc : Gd n c) (hd : Gd n d) (he : Wg e) :
    Lat (B0 ^ (n + 1)) (W0 ^ (n + 1) * B0 ^ (n + 1)) (a * b) ∧ Lat (B0 ^ (n + 1)) (W0 ^ (n + 1) * B0 ^ (n + 1)) (a * b + c) ∧ Lat (B0 ^ (n + 1)) (W0 ^ (n + 1) * B0 ^ (n + 1)) (d * e) ∧ Gd (n + 1) (a * b + c + d * e) := by
  have h1 : Lat (B0 ^ n * B0) (W0 ^ n * B0 ^ n * (999999 * B0)) (a * b) := ha.mul hb
  have h2 : Lat (B0 ^ n * B0) (W0 ^ n * B0 ^ n * B0) c := hc.up
  have h3 : Lat (B0 ^ n * B0) (W0 ^ n * B0 ^ n * (999999 * B0)) (d * e) := hd.mul he
  have e1 : W0 ^ (n + 1) * B0 ^ (n + 1) = W0 ^ n * B0 ^ n * (2000001 * B0) := by rw [Nat.pow_succ, Nat.pow_succ]; simp only [Nat.mul_comm, Nat.mul_left_comm, Nat.mul_assoc, W0]
  show _ ∧ _ ∧ _ ∧ Lat (B0 ^ (n + 1)) (W0 ^ (n + 1) * B0 ^ (n + 1)) _
  rw [e1, Nat.pow_succ B0 n]
  generalize W0 ^ n * B0 ^ n = X at h1 h2 h3 ⊢
  have l : ∀ x y : Nat, x ≤ y → X * (x * B0) ≤ X * (y * B0) := fun x y h => Nat.mul_le_mul_left _ (Nat.mul_le_mul_right _ h)
  have e2 : X * B0 = X * (1 * B0) := by rw [Nat.one_mul]
  rw [e2] at h2
  refine ⟨h1.mono (l _ _ (by decide)), (h1.add h2).mono ?_, h3.mono (l _ _ (by decide)), ((h1.add h2).add h3).mono ?_⟩
  · rw [← Nat.mul_add, ← Nat.add_mul]; exact l (999999 + 1) 2000001 (by decide)
  · rw [← Nat.mul_add, ← Nat.add_mul, ← Nat.mul_add, ← Nat.add_mul]; exact l (999999 + 1 + 999999) 2000001 (by decide)
theorem gd_wk {n : Nat} {L D s : Nat → Rat} {top h : Nat} (hL : ∀ h, Wg (L h)) (hD : ∀ h, Wg (D h)) (hs : ∀ h, Gd n (s h)) : Gd (n + 1) (wk L D s top h) := by
  unfold wk
  have z : Gd n 0 := Gd.zero
  have w : Wg 0 := Lat.zero
  have e0 : (0 : Rat) = 0 * 0 := by grind
  by_cases a : 0 < h <;> by_cases b : h + 1 < top
  · rw [if_pos a, if_pos b]; exact (gd_step (hs h) (hL h) (hs (h - 1)) (hs (h + 1)) (hD h)).2.2.2
  · rw [if_pos a, if_neg b, e0]; exact (gd_step (hs h) (hL h) (hs (h - 1)) z w).2.2.2
  · rw [if_neg a, if_pos b]; exact (gd_step (hs h) (hL h) z (hs (h + 1)) (hD h)).2.2.2
  · rw [if_neg a, if_neg b, show (0 : Rat) = 0 * 0 + 0 by grind]
    have := (gd_step (hs h) (hL h) z z w).2.2.2
    grind
theorem gd_sm {L D : Nat → Rat} {top i : Nat} (hL : ∀ h, Wg (L h)) (hD : ∀ h, Wg (D h)) : ∀ n j, Gd n (sm L D top i n j)
  | 0, j => by
    by_cases h : j < top
    · rw [sm_zero h]
      split
      · exact Gd.one
      · exact Gd.zero
    · rw [sm_ge (by omega)]; exact Gd.zero
  | n + 1, j => by
    by_cases h : j < top
    · rw [sm_succ h]; exact gd_wk hL hD (gd_sm hL hD n)
    · rw [sm_ge (by omega)]; exact Gd.zero
theorem wg_low {t b : Int} (h1 : 1 ≤ b) (h2 : b ≤ 12) (ht : t.natAbs ≤ 999999) : Wg (Rat.divInt t b) := by
  have hb : (b : Rat) ≠ 0 := by
    intro z
    have : b = 0 := by exact_mod_cast z
    omega
  have hc : ∃ c : Int, b * c = 27720 ∧ c.natAbs ≤ 27720 := by
    have : b = 1 ∨ b = 2 ∨ b = 3 ∨ b = 4 ∨ b = 5 ∨ b = 6 ∨ b = 7 ∨ b = 8 ∨ b = 9 ∨ b = 10 ∨ b = 11 ∨ b = 12 := by omega
    rcases this with rfl | rfl | rfl | rfl | rfl | rfl | rfl | rfl | rfl | rfl | rfl | rfl
    · exact ⟨27720, by decide, by decide⟩
    · exact ⟨13860, by decide, by decide⟩
    · exact ⟨9240, by decide, by decide⟩
    · exact ⟨6930, by decide, by decide⟩
    · exact ⟨5544, by decide, by decide⟩
    · exact ⟨4620, by decide, by decide⟩
    · exact ⟨3960, by decide, by decide⟩
    · exact ⟨3465, by decide, by decide⟩
    · exact ⟨3080, by decide, by decide⟩
    · exact ⟨2772, by decide, by decide⟩
    · exact ⟨2520, by decide, by decide⟩
    · exact ⟨2310, by decide, by decide⟩
  obtain ⟨c, e, hc⟩ := hc
  refine ⟨t * c, ?_, ?_⟩
  · have e2 : ((B0 : Int) : Rat) = (b : Rat) * (c : Rat) := by rw [← Rat.intCast_mul, e]; rfl
    rw [e2, Rat.divInt_eq_div, Rat.intCast_mul]
    grind
  · rw [Int.natAbs_mul]
    exact Nat.mul_le_mul ht hc
theorem wg_int {t : Int} (ht : t.natAbs ≤ 999999) : Wg (t : Rat) := ⟨t * 27720, by rw [Rat.intCast_mul]; rfl, by rw [Int.natAbs_mul]; exact Nat.mul_le_mul ht (Nat.le_refl _)⟩
theorem wg_cf {f : List Rat} (h : ∀ q ∈ f, Wg q) (n : Nat) : Wg (cf f n) := by
  by_cases e : n < f.length
  · have := cf_lt e
    exact h _ (List.mem_of_getElem? this)
  · rw [cf_ge (by omega)]; exact Lat.zero
theorem gd_mul {a b : Nat} {x y : Rat} (hx : Gd a x) (hy : Gd b y) : Gd (a + b) (x * y) := by
  have h : Lat (B0 ^ a * B0 ^ b) (W0 ^ a * B0 ^ a * (W0 ^ b * B0 ^ b)) (x * y) := hx.mul hy
  have e : W0 ^ (a + b) * B0 ^ (a + b) = W0 ^ a * B0 ^ a * (W0 ^ b * B0 ^ b) := by rw [Nat.pow_add, Nat.pow_add]; simp only [Nat.mul_comm, Nat.mul_left_comm, Nat.mul_assoc]
  show Lat (B0 ^ (a + b)) (W0 ^ (a + b) * B0 ^ (a + b)) (x * y)
  rw [e, Nat.pow_add]
  exact h
theorem wg_gd {q : Rat} (h : Wg q) : Gd 1 q := by
  show Lat (B0 ^ 1) (W0 ^ 1 * B0 ^ 1) q
  rw [Nat.pow_one, Nat.pow_one]
  exact h.mono (Nat.mul_le_mul_right _ (by decide))
theorem gd_pr {D : Nat → Rat} (hD : ∀ h, Wg (D h)) (i : Nat) : ∀ n, Gd n (pr D i n)
  | 0 => Gd.one
  | n + 1 => gd_mul (gd_pr hD i n) (wg_gd (hD _))
end Mt
namespace Mt
end Mt
namespace L2
open PySem PySem.Spec PyProof.Rows
section
variable {P : Program} {w : World} {K : PySem.W.Frag} {mg : Str → Option Value} {base : Heap} {x qual : Str} {st : Stmt} {f : Addr} {fd : FuncData} {N ps : List Str} {k : Nat} {sp : Sp} {dvs : List V}
end
section
variable {X : Cx} {k : Nat} {sp : Sp} {ps : List Str} {dvs : List V} {x : Str} {p pos : Pos} {e : Expr} {es : List Expr} {t : TA}
end
def FR2 (i : Int) (n : Nat) (g : TG) (tb : TS) (D : Ends) (σ : St) (H : Hp) : Prop := ∃ Pv : Nat → St → Hp → Prop, Pv 0 σ H ∧ (∀ m σ H, m < n → Pv m σ H → g (.int (i + m)) σ H fun σ2 H2 => tb { D with nx := Pv (m + 1), ct := Pv (m + 1), bk := D.nx } σ2 H2) ∧ ∀ σ H, Pv n σ H → D.nx σ H
def tForR2 (te te2 : TE) (g : TG) (tb : TS) : TS := fun D σ H => te σ H fun v H1 => te2 σ H1 fun v2 H2 => ∃ i : Int, v = .int i ∧ ∃ j : Int, v2 = .int j ∧ (-(2 ^ 62) ≤ i ∧ i < 2 ^ 62 ∧ -(2 ^ 62) ≤ j ∧ j < 2 ^ 62) ∧ FR2 i (j - i).toNat g tb D σ H2
section
variable {X : Cx} {tg a b : Expr} {body : List Stmt} {te te2 : TE} {g : TG} {tb : TS} {p pos pos' : Pos}
theorem ps_forR2 (hc : X.calm = true) (hp : PassesOwn (model X.prog X.w) X.A X.env X.xe) (hm : X.mg "range" = none) (ha : PE X a te) (hb2 : PE X b te2) (hgt : PG X tg g) (hb : PSs X body tb) (hg : Gl X "range" := by rfl)
    (hs : starEach [a, b] X.env = [(false, eval a X.env), (false, eval b X.env)] := by rfl) (hs2 : starEach [b] X.env = [(false, eval b X.env)] := by rfl) :
    PS X (.For tg (.Call (.Name "range" p) [a, b] [] pos') body [] pos) (tForR2 te te2 g tb) := by
  intro pins s σ H D I h
  refine ps_for hp hc (pi_range2 hg hm (pa_cons ha.mo (pa_cons hb2.mo pa_nil (by rw [hs2]; rfl)) (by rw [hs, hs2])) hs hs2) hgt hb (by intro _; rfl) pins s σ H D I ?_
  refine ⟨_, h, fun v H1 h2 => ⟨_, h2, fun v2 H2 ⟨i, e1, j, e2, bd, Pv, p0, pt, pd⟩ => ⟨i, j, by rw [e1, e2], bd, ?_⟩⟩⟩
  exact for_range (lo := i) (n := (j - i).toNat) Pv p0 pt pd
end
section
variable {X : Cx}
end
theorem CO.frsP {K : PySem.W.Frag} {n : Nat} {src : Nat → Hp → V → Prop} {st : Hp → Prop} {js : List (Option Nat)} {tl : TE} {σ : St} {H1 : Hp} {Q : VK} (P : Rat → Prop) (hn : n ≤ 1000) (hst : ∀ H, Same H1 H → st H)
    (hel : ∀ i H x (R : VK), i < n → Same H1 H → src i H x → (∀ r H3 q, Same H H3 → Fq K H3 r q → P q → R (.ref r) H3) → tl (some x :: cσ js σ) H R)
    (hq : ∀ D H xs f, Same H1 H → H1 D = none → H D = some (.lst xs) → Frs K H f xs → f.length = n → (∀ q ∈ f, P q) → Q (.ref D) H) : CO n src st (none :: js) (gName 0) tl σ H1 Q := by
  intro D hD
  refine ⟨fun i ys σc H => (∃ r, σc = r :: cσ js σ) ∧ Same H1 H ∧ H D = some (.lst ys) ∧ ∃ f, Frs K H f ys ∧ f.length = i ∧ ∀ q ∈ f, P q, ⟨⟨none, rfl⟩, same_upd hD, upd_same, [], Frs.nil, rfl, fun q hq => nomatch hq⟩, fun i ys σc H _ h => hst H h.2.1, ?_, ?_⟩
  · rintro i ys σc H x hi ⟨⟨r, rfl⟩, sm, hd, f, hf, lf, pf⟩ hx
    refine hel i H x _ hi sm hx fun p H3 q s3 hy hP => ?_
    have hl := hf.len
    refine ⟨s3 _ _ hd, small1000 (by omega), ⟨_, rfl⟩, (sm.trans s3).updL hD, upd_same, f ++ [q], Frs.snoc (Frs.updL (s3 _ _ hd) (hf.same s3)) (SqT.updL (s3 _ _ hd) hy), by simp [lf], ?_⟩
    intro q' hq'
    rcases List.mem_append.mp hq' with z | z
    · exact pf q' z
    · rw [List.mem_singleton.mp z]; exact hP
  · rintro ys σc H ⟨_, sm, hd, f, hf, lf, pf⟩
    exact ⟨hd, hq D H ys f sm hD hd hf lf pf⟩
end L2
namespace L2
open PySem PySem.Spec PyProof.Rows
section
variable {X : Cx}
end
end L2
namespace L2
open PySem PySem.Spec PyProof.Rows
def tVs (vs : List V) : TA := fun _ H Q => Q vs H
end L2
namespace L2
open PySem PySem.Spec PyProof.Rows
section
variable {X : Cx} {e a b : Expr} {es : List Expr} {te ta tb : TE} {t u : TS} {tx : TA} {st : Stmt} {rest body orelse : List Stmt} {pos : Pos}
end
end L2
namespace L2
open PySem PySem.Spec PyProof.Rows
end L2
namespace L2
open PySem PySem.Spec PyProof.Rows
section
variable {prog : Program} {w : World} {A : Around} {E : Value → Shared → Prop} {s : Shared}
end
end L2
namespace L2
open PySem PySem.Spec PyProof.Rows
section
variable {X : Cx} {es : List Expr} {y1 : Nat} {tp : Pos}
end
def CZ (xs ys : List V) (at_ : Hp → Prop) (js : List (Option Nat)) (g : TG) (tl : TE) (σ : St) (H1 : Hp) (Q : VK) : Prop := ∀ D, H1 D = none → ∃ Pv : Nat → List V → St → Hp → Prop, Pv 0 [] (cσ js σ) (upd H1 D (.lst [])) ∧ (∀ i zs σc H, i ≤ xs.length → Pv i zs σc H → at_ H) ∧
  (∀ i zs σc H x y t, xs[i]? = some x → ys[i]? = some y → Pv i zs σc H → H t = none → g (.ref t) σc (upd H t (.tup [x, y])) fun σ2 H2 => tl σ2 H2 fun v H3 => H3 D = some (.lst zs) ∧ zs.length < sizeLine ∧ Pv (i + 1) (zs ++ [v]) σ2 (upd H3 D (.lst (zs ++ [v])))) ∧
  ∀ zs σc H, Pv xs.length zs σc H → H D = some (.lst zs) ∧ Q (.ref D) H
def tCoZ (K : PySem.W.Frag) (js : List (Option Nat)) (te te2 : TE) (g : TG) (tl : TE) : TE := fun σ H Q => te σ H fun v H1 => te2 σ H1 fun v2 H2 => ∃ l, v = .ref l ∧ ∃ m, v2 = .ref m ∧ ∃ xs ys, SqT K H2 l xs ∧ SqL K H2 m ys ∧ xs.length = ys.length ∧ CZ xs ys (fun H => SqT K H l xs ∧ SqL K H m ys) js g tl σ H2 Q
section
variable {X : Cx} {es : List Expr} {y1 : Nat} {tp : Pos} {a b elt : Expr} {te te2 tl : TE} {g : TG} {p pos pos' : Pos} {scope : Scope} {js : List (Option Nat)}
end
end L2
namespace L2
open PySem PySem.Spec PyProof.Rows
section
variable {κ : Type} [DecidableEq κ]
def valV (kvs : List (κ × V)) (k : κ) : Option V := (kvs.find? fun kv => decide (kv.1 = k)).map (·.2)
def putK (kvs : List (κ × V)) (k : κ) (v : V) : List (κ × V) :=
  if (kvs.any fun kv => decide (kv.1 = k)) = true then kvs.map (fun kv => if kv.1 = k then (kv.1, v) else kv) else kvs ++ [(k, v)]
end
section
variable {P : Program} {w : World} {H : Hp} {h : Heap} {a : Addr}
end
def DGet (H : Hp) (a : Addr) (y : V) (r : Option V) : Prop :=
  (∃ kvs k, Rd H a (.dK kvs) ∧ y = kV k ∧ r = valV kvs k) ∨ ∃ kvs k b, Rd H a (.dT kvs) ∧ y = .ref b ∧ H b = some (.tup (k.map kV)) ∧ r = valV kvs k
def DPut (H : Hp) (a : Addr) (y v : V) (H' : Hp) : Prop :=
  (∃ kvs k, H a = some (.dK kvs) ∧ y = kV k ∧ kvs.length < sizeLine ∧ H' = upd H a (.dK (putK kvs k v))) ∨
  ∃ kvs k b, H a = some (.dT kvs) ∧ y = .ref b ∧ H b = some (.tup (k.map kV)) ∧ kvs.length < sizeLine ∧ H' = upd H a (.dT (putK kvs k v))
section
variable {X : Cx} {pins : List (Addr × Obj)} {σ : St} {H : Hp} {s : Shared} {a : Addr} {y v : V} {u r : Value} {o : Option V} {A : Around} {E : Value → Shared → Prop}
end
section
variable {X : Cx} {pins : List (Addr × Obj)} {σ : St} {H : Hp} {s : Shared} {a : Addr} {kvs : List (Key × V)} {k : Key} {u : Value} {A : Around} {E : Value → Shared → Prop}
end
def sDPut (td ty tv : TE) : TS := fun D σ H => tv σ H fun v H1 => td σ H1 fun x H2 => ty σ H2 fun y H3 => ∃ a H4, x = .ref a ∧ DPut H3 a y v H4 ∧ D.nx σ H4
section
variable {X : Cx} {o i e value : Expr} {pos pos' tpos : Pos} {td ty tv : TE}
end
def tDNewK : TE := fun _ H Q => ∀ p, H p = none → Q (.ref p) (upd H p (.dK []))
section
variable {X : Cx} {pos : Pos}
end
def tPairs : List (TE × TE) → St → Hp → (List (V × V) → Hp → Prop) → Prop
  | [], _, H, Q => Q [] H
  | (tk, tv) :: r, σ, H, Q => tk σ H fun x H1 => tv σ H1 fun y H2 => tPairs r σ H2 fun ps H3 => Q ((x, y) :: ps) H3
def mergeK (kvs more : List (Key × V)) : List (Key × V) := more.foldl (fun acc kv => putK acc kv.1 kv.2) kvs
def tDisp (trs : List (TE × TE)) : TE := fun σ H Q => ∀ p, H p = none → tPairs trs σ (upd H p (.dK [])) fun ps H2 => H2 p = some (.dK []) ∧ ∃ kvs : List (Key × V), ps = kvs.map (fun kv => (kV kv.1, kv.2)) ∧ kvs.length ≤ 15 ∧ Q (.ref p) (upd H2 p (.dK (mergeK [] kvs)))
def IsD (H : Hp) (a : Addr) : Prop := (∃ kvs, Rd H a (.dK kvs)) ∨ ∃ kvs, Rd H a (.dT kvs)
section
variable {X : Cx} {pins : List (Addr × Obj)} {σ : St} {H : Hp} {s : Shared} {a : Addr} {y d : V} {u r : Value} {o : Option V} {A : Around} {E : Value → Shared → Prop}
end
def tDGet2 (td ty tx : TE) : TE := fun σ H Q => td σ H fun x H1 => ∃ a, x = .ref a ∧ IsD H1 a ∧ ty σ H1 fun y H2 => tx σ H2 fun z H3 => ∃ o, DGet H3 a y o ∧ Q (o.getD z) H3
section
variable {X : Cx} {o e f : Expr} {apos cpos : Pos} {td ty tx : TE}
end
section
variable {X : Cx} {pins : List (Addr × Obj)} {σ : St} {H : Hp} {s : Shared} {a : Addr} {kvs : List (Key × V)} {A : Around} {E : Value → Shared → Prop}
end
section
variable {X : Cx} {pins : List (Addr × Obj)} {σ : St} {H : Hp} {s : Shared} {a : Addr} {y : V} {u : Value} {A : Around} {E : Value → Shared → Prop}
end
end L2
namespace L2
open PySem PySem.Spec PyProof.Rows
section
variable {X : Cx} {R : Addr} {kvs : List (Key × V)}
end
end L2
namespace L2
open PySem PySem.Spec PyProof.Rows
section
variable {prog : Program} {w : World} {A : Around} {E : Value → Shared → Prop} {s : Shared}
end
section
variable {prog : Program} {w : World} {A : Around} {E : Value → Shared → Prop} {s : Shared}
end
section
variable {X : Cx} {es : List Expr} {y1 : Nat} {tp : Pos}
end
end L2
namespace L2
open PySem
end L2
namespace L2
open PySem PySem.Spec PyProof.Rows PySem.W
end L2
namespace L2
open PySem PySem.Spec PyProof.Rows
section
variable {X : Cx} {R : Addr} {kvs : List (Key × V)} {tg : Expr}
def FK (kvs : List (Key × V)) (g : TG) (tb : TS) (D : Ends) (σ : St) (H : Hp) : Prop := ∃ Pv : Nat → St → Hp → Prop, Pv 0 σ H ∧
  (∀ i k v σ H, kvs[i]? = some (k, v) → Pv i σ H → g (kV k) σ H fun σ2 H2 => tb { D with nx := Pv (i + 1), ct := Pv (i + 1), bk := D.nx } σ2 H2) ∧ ∀ σ H, Pv kvs.length σ H → D.nx σ H
def tForK (R : Addr) (kvs : List (Key × V)) (te : TE) (g : TG) (tb : TS) : TS := fun D σ H => te σ H fun v H1 => v = .ref R ∧ FK kvs g tb D σ H1
end
end L2
namespace Mt
def l1 (a : Rat) : List Rat := trim [1, -a]
def sh (f : List Rat) (i k : Nat) : Rat := if i ≤ k then cf f (k - i) else 0
theorem mc_ext_left {f f' : List Rat} (e : ∀ n, cf f n = cf f' n) (g : List Rat) (n : Nat) : mc f g n = mc f' g n := by
  rw [mc_comm f g, mc_comm f' g, mc_ext g e]
theorem NZ.le {f : List Rat} (h : NZ f) {n : Nat} (z : ∀ k, n ≤ k → cf f k = 0) : f.length ≤ n := by
  rcases h with rfl | h
  · simp
  · rcases Nat.lt_or_ge n f.length with y | y
    · exact absurd (z _ (by omega)) h
    · exact y
abbrev A0 : Nat := 1000001 * B0
def Gp (n : Nat) (f : List Rat) : Prop := ∀ k, Lat (B0 ^ n) (A0 ^ n) (cf f k)
theorem Gp.nil {n : Nat} : Gp n [] := fun k => by rw [cf_nil]; exact Lat.zero
theorem Gp.sh {n : Nat} {f : List Rat} (h : Gp n f) (i k : Nat) : Lat (B0 ^ n) (A0 ^ n) (sh f i k) := by
  unfold Mt.sh
  split
  · exact h _
  · exact Lat.zero
theorem gp_one : Gp 0 [1] := fun k => by
  rcases k with _ | k
  · rw [cf_zero]; exact Lat.one
  · rw [cf_succ, cf_nil]; exact Lat.zero
theorem gp_one1 : Gp 1 [1] := fun k => by
  have h := (gp_one k).up (E := B0)
  simp only [Nat.pow_zero, Nat.one_mul] at h
  rw [Nat.pow_one, Nat.pow_one]
  exact h.mono (by decide)
theorem Gp.ln {n : Nat} {f : List Rat} (h : Gp n f) (hn : n ≤ 9) : Ln 320 320 f := by
  refine ⟨B0 ^ n, A0 ^ n, Nat.pow_pos (by decide), ?_, ?_, h⟩
  · exact Nat.le_trans (Nat.pow_le_pow_right (by decide) hn) (by decide +kernel)
  · exact Nat.le_trans (Nat.pow_le_pow_right (by decide) hn) (by decide +kernel)
theorem NZ_one : NZ [1] := .inr (by show cf [1] 0 ≠ 0; rw [cf_zero]; decide)
end Mt
namespace L2
open PySem PySem.Spec PyProof.Rows
end L2
namespace Mt
end Mt
namespace L2
open PySem PySem.Spec PyProof.Rows
end L2
namespace L2
open PySem PySem.Spec PyProof.Rows
section
variable {prog : Program} {w : World} {A : Around} {E : Value → Shared → Prop} {s : Shared}
end
def ExcAt (e0 : Addr) (H : Hp) : Prop := ∃ cls dv, H e0 = some (excD e0 cls dv)
section
variable {X : Cx} {tg : Expr}
def tCoRH (e0 : Addr) (js : List (Option Nat)) (te : TE) (g : TG) (tl : TE) : TE := fun σ H Q => te σ H fun v H1 => ∃ j : Int, v = .int j ∧ -(2 ^ 62) ≤ j ∧ j < 2 ^ 62 ∧ CO j.toNat (fun i _ x => x = .int i) (ExcAt e0) js g tl σ H1 Q
end
section
variable {X : Cx} {CX : CXT} {k : Nat} {f : Addr} {fd : FuncData} {ps : List Str}  {dvs : List V} {ds : List Value} {E : XK} {x : Str} {p pos : Pos} {e : Expr} {es : List Expr} {t : TA}
end
section
variable {P : Program} {w : World} {K : PySem.W.Frag} {mg : Str → Option Value} {base : Heap} {x qual : Str} {st : Stmt} {f : Addr} {fd : FuncData} {N ps : List Str} {k : Nat} {sp : Addr → Sp}
end
def tHE (K : PySem.W.Frag) (c : Value) (i : Nat) (ts : Addr → TS) (th : TH) : TH := fun cls dv D σ H =>
  (PySem.W.exmOne K cls c = some true ∧ ∀ e, H e = none → ts e (D.gone i) (σ.set i (some (.ref e))) (upd H e (excD e cls dv))) ∨ (PySem.W.exmOne K cls c = some false ∧ th cls dv D σ H)
end L2
namespace L2
open PySem PySem.Spec PyProof.Rows
def FZ (xs ys : List V) (at_ : Hp → Prop) (g : TG) (tb : TS) (D : Ends) (σ : St) (H : Hp) : Prop := ∃ Pv : Nat → St → Hp → Prop, Pv 0 σ H ∧ (∀ i σ H, i ≤ xs.length → Pv i σ H → at_ H) ∧
  (∀ i x y σ H t, xs[i]? = some x → ys[i]? = some y → Pv i σ H → H t = none → g (.ref t) σ (upd H t (.tup [x, y])) fun σ2 H2 => tb { D with nx := Pv (i + 1), ct := Pv (i + 1), bk := D.nx } σ2 H2) ∧ ∀ σ H, Pv xs.length σ H → D.nx σ H
def tForZ (K : PySem.W.Frag) (te te2 : TE) (g : TG) (tb : TS) : TS := fun D σ H => te σ H fun v H1 => te2 σ H1 fun v2 H2 => ∃ l, v = .ref l ∧ ∃ m, v2 = .ref m ∧ ∃ xs ys, SqT K H2 l xs ∧ SqL K H2 m ys ∧ xs.length ≤ ys.length ∧ FZ xs ys (fun H => SqT K H l xs ∧ SqL K H m ys) g tb D σ H2
section
variable {X : Cx} {es : List Expr} {y1 : Nat} {tp : Pos} {a b : Expr} {te te2 : TE} {g : TG} {tb : TS} {body : List Stmt} {p pos pos' : Pos}
end
end L2
namespace L2
open PySem PySem.Spec PyProof.Rows
theorem pe_comp3 {X : Cx} {elt iter tg : Expr} {scope : Scope} (Nl : List Str) (y1 : Str) (j1 : Nat) (y2 : Str) (j2 : Nat) (y3 : Str) (j3 : Nat) {c1 c2 c3 : Addr} {wi : TI} {g : TG} {te : TE} {pos : Pos} (hc : X.calm = true) (hi : PI X tg iter wi)
    (hg : ∀ C s₀ H₀ ex pn, PG (X.cp (Nl ++ [y1, y2, y3]) scope [(y1, c1), (y2, c2), (y3, c3)] C s₀ H₀ ex pn) tg g) (he : ∀ C s₀ H₀ ex pn, PE (X.cp (Nl ++ [y1, y2, y3]) scope [(y1, c1), (y2, c2), (y3, c3)] C s₀ H₀ ex pn) elt te)
    (hclos : closureFor scope X.env = pure [(y1, c1), (y2, c2), (y3, c3)]) (hy1 : X.env.cells.lookup y1 = some c1) (hy2 : X.env.cells.lookup y2 = some c2) (hy3 : X.env.cells.lookup y3 = some c3) (hN1 : X.N[j1]? = some y1) (hN2 : X.N[j2]? = some y2) (hN3 : X.N[j3]? = some y3)
    (hk1 : X.env.kindOf y1 = some .cell) (hk2 : X.env.kindOf y2 = some .cell) (hk3 : X.env.kindOf y3 = some .cell) (hb1 : (relabel scope X.env).names.lookup y1 = some .cell) (hb2 : (relabel scope X.env).names.lookup y2 = some .cell) (hb3 : (relabel scope X.env).names.lookup y3 = some .cell)
    (hne : y2 ≠ y1 := by decide) (hne3 : y3 ≠ y1 := by decide) (hne4 : y3 ≠ y2 := by decide) (h1 : ∀ p ∈ scope.names, p.2 = .free → p.1 = y1 ∨ p.1 = y2 ∨ p.1 = y3 := by decide +kernel) (hcell : ∀ y ∈ scope.names, y.2 ≠ .cell := by decide +kernel) (hkind : scope.kind = .function := by rfl)
    (hnames : ∀ y ∈ scope.names, y.2 = .local → scope.names.lookup y.1 = some .local := by decide +kernel)
    (hs : ∀ x, foldedSetIterable iter X.env x = pure x := by intro _; rfl) : PCo X (.ListComp elt [⟨tg, iter, [], 0⟩] scope pos) scope iter (tComp ((Nl.map fun _ => none) ++ [some j1, some j2, some j3]) wi g te) := by
  have self1 : List.lookup y1 [(y1, c1), (y2, c2), (y3, c3)] = some c1 := by simp
  have self2 : List.lookup y2 [(y1, c1), (y2, c2), (y3, c3)] = some c2 := by
    rw [List.lookup_cons, show (y2 == y1) = false from beq_eq_false_iff_ne.mpr hne]; simp
  have self3 : List.lookup y3 [(y1, c1), (y2, c2), (y3, c3)] = some c3 := by
    rw [List.lookup_cons, show (y3 == y1) = false from beq_eq_false_iff_ne.mpr hne3]
    simp only
    rw [List.lookup_cons, show (y3 == y2) = false from beq_eq_false_iff_ne.mpr hne4]; simp
  have look : ∀ z d, List.lookup z [(y1, c1), (y2, c2), (y3, c3)] = some d → (z = y1 ∧ d = c1) ∨ (z = y2 ∧ d = c2) ∨ (z = y3 ∧ d = c3) := fun z d h => by
    have m := PySem.mem_of_lookup h
    rcases List.mem_cons.mp m with q | q
    · cases q; exact .inl ⟨rfl, rfl⟩
    · rcases List.mem_cons.mp q with q | q
      · cases q; exact .inr (.inl ⟨rfl, rfl⟩)
      · cases List.mem_singleton.mp q; exact .inr (.inr ⟨rfl, rfl⟩)
  refine pe_comp (cl := [(y1, c1), (y2, c2), (y3, c3)]) (Nc := Nl ++ [y1, y2, y3]) hc hi hg he (by simp) (fun z d h => ?_) (fun z h => ?_) (fun i z j' e1 e2 => ?_) hclos hcell hkind hnames hs
  · rcases look z d h with ⟨rfl, rfl⟩ | ⟨rfl, rfl⟩ | ⟨rfl, rfl⟩
    · exact hy1
    · exact hy2
    · exact hy3
  · have m := h.elim (fun q => rel_mem q (.inl rfl) hcell) fun q => rel_mem q (.inr rfl) hcell
    rcases h1 _ m rfl with e | e | e
    · have e : z = y1 := e
      subst e; exact ⟨c1, self1⟩
    · have e : z = y2 := e
      subst e; exact ⟨c2, self2⟩
    · have e : z = y3 := e
      subst e; exact ⟨c3, self3⟩
  · have hi : i = Nl.length ∨ i = Nl.length + 1 ∨ i = Nl.length + 2 := by
      by_cases hlt : i < Nl.length
      · rw [List.getElem?_append_left (by simpa using hlt), List.getElem?_map] at e2
        cases q : Nl[i]? with
        | none => rw [q] at e2; cases e2
        | some z => rw [q] at e2; cases e2
      · have := (List.getElem?_eq_some_iff.mp e1).1
        simp at this
        omega
    rcases hi with rfl | rfl | rfl
    · have a1 : (Nl ++ [y1, y2, y3])[Nl.length]? = some y1 := by simp
      have a2 : ((Nl.map fun _ => (none : Option Nat)) ++ [some j1, some j2, some j3])[Nl.length]? = some (some j1) := by
        rw [List.getElem?_append_right (by simp)]; simp
      rw [a1] at e1; cases e1
      rw [a2] at e2; cases e2
      exact ⟨hN1, .inr (.inl hk1), by rw [hk1]; exact (fun q => nomatch q), .inl hb1, fun d h => by rw [hy1] at h; cases h; exact self1⟩
    · have a1 : (Nl ++ [y1, y2, y3])[Nl.length + 1]? = some y2 := by
        rw [List.getElem?_append_right (by omega)]; simp
      have a2 : ((Nl.map fun _ => (none : Option Nat)) ++ [some j1, some j2, some j3])[Nl.length + 1]? = some (some j2) := by
        rw [List.getElem?_append_right (by simp)]; simp
      rw [a1] at e1; cases e1
      rw [a2] at e2; cases e2
      exact ⟨hN2, .inr (.inl hk2), by rw [hk2]; exact (fun q => nomatch q), .inl hb2, fun d h => by rw [hy2] at h; cases h; exact self2⟩
    · have a1 : (Nl ++ [y1, y2, y3])[Nl.length + 2]? = some y3 := by
        rw [List.getElem?_append_right (by omega)]; simp
      have a2 : ((Nl.map fun _ => (none : Option Nat)) ++ [some j1, some j2, some j3])[Nl.length + 2]? = some (some j3) := by
        rw [List.getElem?_append_right (by simp)]; simp
      rw [a1] at e1; cases e1
      rw [a2] at e2; cases e2
      exact ⟨hN3, .inr (.inl hk3), by rw [hk3]; exact (fun q => nomatch q), .inl hb3, fun d h => by rw [hy3] at h; cases h; exact self3⟩
theorem lstD_dep (f : List Rat) : 1 ≤ (lstD f).dep ∧ (lstD f).dep ≤ 2 := by
  have a := frDs_dep f
  simp only [lstD, Dt.dep]
  omega
theorem CO.elsD {n : Nat} {src : Nat → Hp → V → Prop} {st : Hp → Prop} {js : List (Option Nat)} {tl : TE} {σ : St} {H1 : Hp} {Q : VK} (G : Addr → Nat → Hp → V → Prop) (gs : ∀ D i H H' x, Same H H' → G D i H x → G D i H' x)
    (gu : ∀ D i H ys o x, H D = some (.lst ys) → G D i H x → G D i (upd H D o) x) (hn : n ≤ 1000) (hst : ∀ H, Same H1 H → st H)
    (hel : ∀ D i H x (R : VK), i < n → Same H1 H → H1 D = none → (∃ ys, H D = some (.lst ys)) → src i H x → (∀ r H3, Same H H3 → G D i H3 r → R r H3) → tl (some x :: cσ js σ) H R)
    (hq : ∀ D H (xs : List V), Same H1 H → H1 D = none → H D = some (.lst xs) → xs.length = n → (∀ (j : Nat) (x : V), xs[j]? = some x → G D j H x) → Q (.ref D) H) : CO n src st (none :: js) (gName 0) tl σ H1 Q := by
  intro D hD
  refine ⟨fun i ys σc H => (∃ r, σc = r :: cσ js σ) ∧ Same H1 H ∧ H D = some (.lst ys) ∧ ys.length = i ∧ ∀ (j : Nat) (x : V), ys[j]? = some x → G D j H x, ⟨⟨none, rfl⟩, same_upd hD, upd_same, rfl, fun j x h => by simp at h⟩, fun i ys σc H _ h => hst H h.2.1, ?_, ?_⟩
  · rintro i ys σc H x hi ⟨⟨r, rfl⟩, sm, hd, ly, hf⟩ hx
    refine hel D i H x _ hi sm hD ⟨ys, hd⟩ hx fun p H3 s3 hy => ?_
    refine ⟨s3 _ _ hd, small1000 (by omega), ⟨_, rfl⟩, (sm.trans s3).updL hD, upd_same, by simp [ly], fun j x z => ?_⟩
    refine gu D j H3 ys _ x (s3 _ _ hd) ?_
    rcases Nat.lt_or_ge j ys.length with l | l
    · rw [List.getElem?_append_left l] at z
      exact gs D j H H3 x s3 (hf j x z)
    · rw [List.getElem?_append_right l] at z
      have j0 : j = i := by
        rcases Nat.lt_or_ge (j - ys.length) 1 with y | y
        · omega
        · rw [List.getElem?_eq_none (by simpa using y)] at z; cases z
      subst j0
      rw [ly, Nat.sub_self] at z
      simp at z
      subst z
      exact hy
  · rintro ys σc H ⟨_, sm, hd, ly, hf⟩
    exact ⟨hd, hq D H ys sm hD hd ly hf⟩
end L2
namespace L2
open PySem PySem.Spec PyProof.Rows Builtin
section
variable {prog : Program} {w : World} {A : Around}
end
section
variable {prog : Program} {w : World} {A : Around} {E : Value → Shared → Prop} {s : Shared}
end
section
variable {prog : Program} {w : World} {A : Around} {s : Shared} {R : Result → Shared → Prop} {r l : Addr} {xs : Array Value}
end
section
variable {prog : Program} {w : World} {A : Around} {s : Shared} {R : Result → Shared → Prop}
variable {it : Addr} {fp wr : List Addr} {G : Array GenState → Array GenState → Prop} {n : Nat} {P : Nat → Value → Prop} {St : Nat → Shared → Prop}
end
section
variable {prog : Program} {w : World} {A : Around} {E : Value → Shared → Prop} {s : Shared}
variable {it : Addr} {fp wr : List Addr} {G : Array GenState → Array GenState → Prop} {n : Nat} {P : Nat → Value → Prop} {St : Nat → Shared → Prop}
end
section
variable {prog : Program} {w : World} {A : Around} {E : Value → Shared → Prop} {s : Shared} {r l : Addr} {xs : Array Value}
end
section
variable {X : Cx}
def tListRev (K : PySem.W.Frag) (te : TE) : TE := fun σ H Q => te σ H fun x H1 => ∃ a xs, x = .ref a ∧ (SqT K H1 a xs ∨ SqL K H1 a xs) ∧ ∀ l, H1 l = none → Q (.ref l) (upd H1 l (.lst xs.reverse))
end
end L2
namespace Mt
def dot (ms f : List Rat) : Rat := Su (fun n => cf f n * cf ms n) f.length
theorem Su_more (F : Nat → Rat) {n : Nat} (h : ∀ i, n ≤ i → F i = 0) : ∀ k, Su F (n + k) = Su F n
  | 0 => rfl
  | k + 1 => by rw [← Nat.add_assoc, Su, Su_more F h k, h _ (by omega)]; grind
end Mt
namespace Mt
def x1 (l : Rat) : List Rat := trim [-l, 1]
def nx2 (l d : Rat) (f g : List Rat) : List Rat := psub (pmul (x1 l) f) (pscale g d)
def rpf (L D : Nat → Rat) : Nat → List Rat
  | 0 => [1]
  | 1 => nx2 (L 0) 0 [1] []
  | n + 2 => nx2 (L (n + 1)) (D n) (rpf L D (n + 1)) (rpf L D n)
def rp (L D : List Rat) (n : Nat) : List Rat := rpf (cf L) (cf D) n
theorem mc_x1 (l : Rat) (f : List Rat) (k : Nat) : mc (x1 l) f k = sh f 1 k - l * cf f k := by
  rw [x1, mc_ext_left (f' := [-l, 1]) (fun n => cf_trim _ n)]
  rcases k with _ | k
  · simp only [mc, sh]; grind
  · rcases k with _ | k
    · simp only [mc, sh]; grind
    · simp only [mc, sh, Nat.add_sub_cancel]
      rw [if_pos (by omega)]; grind
theorem cf_nx2 (l d : Rat) (f g : List Rat) (k : Nat) : cf (nx2 l d f g) k = sh f 1 k - l * cf f k - d * cf g k := by
  rw [nx2, cf_psub, cf_pmul, cf_pscale, mc_x1]; grind
theorem NZ_nx2 (l d : Rat) (f g : List Rat) : NZ (nx2 l d f g) := NZ_psub _ _
theorem gp_nx2 {n : Nat} {l d : Rat} {f g : List Rat} (hf : Gp (n + 1) f) (hg : Gp n g) (hl : Wg l) (hd : Wg d) : Gp (n + 2) (nx2 l d f g) := by
  intro k
  rw [cf_nx2]
  have h1 : Lat (B0 ^ (n + 1) * B0) (A0 ^ (n + 1) * B0) (sh f 1 k) := (hf.sh 1 k).up
  have h2 : Lat (B0 * B0 ^ (n + 1)) (999999 * B0 * A0 ^ (n + 1)) (l * cf f k) := hl.mul (hf k)
  have h3 : Lat (B0 * B0 ^ n * B0) (999999 * B0 * A0 ^ n * B0) (d * cf g k) := (hd.mul (hg k)).up
  rw [show B0 * B0 ^ (n + 1) = B0 ^ (n + 1) * B0 from Nat.mul_comm _ _] at h2
  rw [show B0 * B0 ^ n = B0 ^ (n + 1) by rw [Nat.pow_succ, Nat.mul_comm]] at h3
  rw [Rat.sub_eq_add_neg, Rat.sub_eq_add_neg, show B0 ^ (n + 2) = B0 ^ (n + 1) * B0 from Nat.pow_succ ..]
  refine ((h1.add h2.neg).add h3.neg).mono ?_
  rw [show A0 ^ (n + 2) = A0 ^ (n + 1) * A0 from Nat.pow_succ .., show A0 ^ (n + 1) = A0 ^ n * A0 from Nat.pow_succ ..]
  generalize A0 ^ n = X
  simp only [A0, B0]
  omega
theorem gp_x1 {a : Rat} (h : Wg a) : Gp 1 (x1 a) := fun k => by
  rw [x1, cf_trim]
  rcases k with _ | _ | k
  · rw [cf_zero, Nat.pow_one, Nat.pow_one]; exact h.neg.mono (by decide)
  · exact gp_one1 0
  · rw [cf_succ, cf_succ, cf_nil]; exact Lat.zero
theorem rp_one_cf (L D : List Rat) (k : Nat) : cf (rp L D 1) k = cf (x1 (cf L 0)) k := by
  show cf (nx2 (cf L 0) 0 [1] []) k = _
  rw [cf_nx2, x1, cf_trim, cf_nil]
  rcases k with _ | _ | k
  · rw [sh, if_neg (by omega), cf_zero, cf_zero]; grind
  · rw [sh, if_pos (by omega), cf_succ, cf_succ, cf_nil, cf_zero]; grind
  · rw [sh, if_pos (by omega), cf_succ, cf_succ, cf_succ, cf_nil, cf_nil, show k + 1 + 1 - 1 = k + 1 by omega, cf_succ, cf_nil]; grind
theorem rp_one (L D : List Rat) : rp L D 1 = x1 (cf L 0) := (NZ_nx2 _ _ _ _).ext (NZ_trim _) (rp_one_cf L D)
theorem x1_is (a : Rat) : x1 a = [-a, 1] := trim_NZ (.inr (by show cf [-a, 1] 1 ≠ 0; rw [cf_succ, cf_zero]; decide))
theorem gp_rp {L D : List Rat} (hL : ∀ h, Wg (cf L h)) (hD : ∀ h, Wg (cf D h)) : ∀ n, Gp n (rp L D n)
  | 0 => gp_one
  | 1 => by rw [rp_one]; exact gp_x1 (hL 0)
  | n + 2 => gp_nx2 (gp_rp hL hD (n + 1)) (gp_rp hL hD n) (hL _) (hD _)
theorem NZ_rp (L D : List Rat) : ∀ n, NZ (rp L D n)
  | 0 => NZ_one
  | 1 => NZ_nx2 _ _ _ _
  | _ + 2 => NZ_nx2 _ _ _ _
theorem rp_top (L D : List Rat) : ∀ n, cf (rp L D n) n = 1 ∧ ∀ k, n < k → cf (rp L D n) k = 0
  | 0 => ⟨rfl, fun k h => by obtain ⟨m, rfl⟩ : ∃ m, k = m + 1 := ⟨k - 1, by omega⟩; show cf [1] (m + 1) = 0; rw [cf_succ, cf_nil]⟩
  | 1 => by
    rw [rp_one, x1_is]
    refine ⟨rfl, fun k h => ?_⟩
    obtain ⟨m, rfl⟩ : ∃ m, k = m + 2 := ⟨k - 2, by omega⟩
    rw [cf_succ, cf_succ, cf_nil]
  | n + 2 => by
    have a := rp_top L D (n + 1)
    have b := rp_top L D n
    have e : ∀ k, cf (rp L D (n + 2)) k = sh (rp L D (n + 1)) 1 k - cf L (n + 1) * cf (rp L D (n + 1)) k - cf D n * cf (rp L D n) k := fun k => cf_nx2 _ _ _ _ k
    constructor
    · rw [e, sh, if_pos (by omega), show n + 2 - 1 = n + 1 by omega, a.1, a.2 _ (by omega), b.2 _ (by omega)]; grind
    · intro k h
      rw [e, sh, if_pos (by omega), a.2 _ (by omega), a.2 _ (by omega), b.2 _ (by omega)]; grind
theorem rp_len (L D : List Rat) (n : Nat) : (rp L D n).length = n + 1 := by
  have h := rp_top L D n
  have a : (rp L D n).length ≤ n + 1 := (NZ_rp L D n).le fun k hk => h.2 k (by omega)
  rcases Nat.lt_or_ge n (rp L D n).length with z | z
  · omega
  · have := h.1
    rw [cf_ge z] at this
    exact absurd this (by decide)
end Mt
namespace Mt
section
variable (L D : List Rat) (T : Nat)
abbrev mu (n : Nat) : Rat := sm (cf L) (cf D) T 0 n 0
def Lx (f : List Rat) (n : Nat) : Rat := Su (fun k => cf f k * mu L D T (k + n)) f.length
variable {L D T}
theorem Lx_ge {f : List Rat} {n N : Nat} (h : f.length ≤ N) : Lx L D T f n = Su (fun k => cf f k * mu L D T (k + n)) N := by
  obtain ⟨m, rfl⟩ : ∃ m, N = f.length + m := ⟨N - f.length, by omega⟩
  rw [Lx, Su_more]
  intro i hi
  rw [cf_ge hi, Rat.zero_mul]
theorem Su_sh (f : List Rat) (F : Nat → Rat) : ∀ N, Su (fun k => sh f 1 k * F k) (N + 1) = Su (fun k => cf f k * F (k + 1)) N
  | 0 => by rw [Su, Su, Su, sh, if_neg (by omega)]; grind
  | N + 1 => by rw [Su, Su_sh f F N, Su, sh, if_pos (by omega), Nat.add_sub_cancel]
theorem Lx_rec {f g h : List Rat} {l d : Rat} (e : ∀ k, cf h k = sh f 1 k - l * cf f k - d * cf g k) (n : Nat) : Lx L D T h n = Lx L D T f (n + 1) - l * Lx L D T f n - d * Lx L D T g n := by
  obtain ⟨N, h1, h2, h3⟩ : ∃ N, f.length ≤ N ∧ g.length ≤ N ∧ h.length ≤ N := ⟨f.length + g.length + h.length, by omega, by omega, by omega⟩
  rw [Lx_ge (f := h) (N := N + 1) (by omega), Lx_ge (f := f) (n := n + 1) h1, Lx_ge (f := f) (n := n) (N := N + 1) (by omega), Lx_ge (f := g) (N := N + 1) (by omega)]
  have e1 : Su (fun k => cf h k * mu L D T (k + n)) (N + 1) = Su (fun k => sh f 1 k * mu L D T (k + n)) (N + 1) + Su (fun k => (cf f k * mu L D T (k + n)) * -l) (N + 1) + Su (fun k => (cf g k * mu L D T (k + n)) * -d) (N + 1) := by
    rw [← Su_add, ← Su_add]
    refine Su_congr fun k _ => ?_
    rw [e]; grind
  rw [e1, Su_mul, Su_mul, Su_sh f (fun k => mu L D T (k + n)) N]
  have e2 : Su (fun k => cf f k * mu L D T (k + 1 + n)) N = Su (fun k => cf f k * mu L D T (k + (n + 1))) N := Su_congr fun k _ => by rw [show k + 1 + n = k + (n + 1) by omega]
  rw [e2]
  grind
def smz (L D : List Rat) (T i n j : Nat) : Rat := if j < T then sm (cf L) (cf D) T i n j else 0
theorem smz_last (i n j : Nat) (hj : j + 1 < T) : smz L D T i (n + 1) (j + 1) = smz L D T i n (j + 1) * cf L (j + 1) + smz L D T i n j + smz L D T i n (j + 2) * cf D (j + 1) := by
  unfold smz
  rw [if_pos hj, if_pos hj, if_pos (show j < T by omega), sm_succ hj]
  unfold wk
  rw [if_pos (by omega), show j + 1 - 1 = j by omega, show j + 1 + 1 = j + 2 by omega]
  split <;> grind
theorem smz_first (i n : Nat) (h : 0 < T) : smz L D T i (n + 1) 0 = smz L D T i n 0 * cf L 0 + smz L D T i n 1 * cf D 0 := by
  unfold smz
  rw [if_pos h, if_pos h, sm_succ h]
  unfold wk
  rw [if_neg (by omega), show (0 : Nat) + 1 = 1 by omega]
  split <;> grind
theorem Lx_row {P : Nat → List Rat} {i : Nat} (hT : 0 < T) (h0 : ∀ n, Lx L D T (P 0) n = smz L D T i n 0) (h1 : ∀ k, cf (P 1) k = sh (P 0) 1 k - cf L 0 * cf (P 0) k) (h2 : ∀ j k, cf (P (j + 2)) k = sh (P (j + 1)) 1 k - cf L (j + 1) * cf (P (j + 1)) k - cf D j * cf (P j) k) : ∀ j, j ≤ T → ∀ n, Lx L D T (P j) n = smz L D T i n j * pr (cf D) 0 j
  | 0, _, n => by rw [h0, pr]; grind
  | 1, hj, n => by
    rw [Lx_rec (f := P 0) (g := P 0) (l := cf L 0) (d := 0) (fun k => by rw [h1]; grind) n, h0, h0, smz_first i n hT, pr, pr, Nat.zero_add]
    grind
  | j + 2, hj, n => by
    have a := Lx_row hT h0 h1 h2 (j + 1) (by omega)
    have b := Lx_row hT h0 h1 h2 j (by omega)
    rw [Lx_rec (f := P (j + 1)) (g := P j) (h2 j) n, a, a, b, smz_last i n j (by omega)]
    have p1 : pr (cf D) 0 (j + 1) = pr (cf D) 0 j * cf D j := by rw [pr, Nat.zero_add]
    have p2 : pr (cf D) 0 (j + 2) = pr (cf D) 0 (j + 1) * cf D (j + 1) := by rw [pr, Nat.zero_add]
    rw [p2, p1]
    grind
theorem rp_one_rec (k : Nat) : cf (rp L D 1) k = sh (rp L D 0) 1 k - cf L 0 * cf (rp L D 0) k := by
  show cf (nx2 (cf L 0) 0 [1] []) k = _
  rw [cf_nx2, cf_nil]
  show _ = sh [1] 1 k - cf L 0 * cf [1] k
  grind
theorem rp_rec (j k : Nat) : cf (rp L D (j + 2)) k = sh (rp L D (j + 1)) 1 k - cf L (j + 1) * cf (rp L D (j + 1)) k - cf D j * cf (rp L D j) k := cf_nx2 _ _ _ _ k
theorem Lx_rp (hT : 0 < T) (j n : Nat) (hj : j ≤ T) : Lx L D T (rp L D j) n = smz L D T 0 n j * pr (cf D) 0 j := by
  refine Lx_row (P := rp L D) (i := 0) hT (fun n => ?_) rp_one_rec rp_rec j hj n
  show Su (fun k => cf [1] k * mu L D T (k + n)) 1 = _
  rw [Su, Su, cf_zero, Nat.zero_add]
  unfold smz
  rw [if_pos hT]
  grind
end
end Mt
namespace Mt
end Mt
namespace L2
open PySem PySem.Spec PyProof.Rows
section
variable {X : Cx} {k : Nat} {sp : Sp} {ps : List Str} {x : Str} {p pos : Pos}
end
end L2
namespace L2
open PySem PySem.Spec PyProof.Rows Builtin
section
variable {X : Cx}
def rCatA (K : PySem.W.Frag) : R2 := fun x y H Q => ∃ a b xs ys, x = .ref a ∧ y = .ref b ∧ SqT K H a xs ∧ SqT K H b ys ∧ xs.length + ys.length ≤ sizeLine ∧
  (xs = [] → Q (.ref b) H) ∧ (xs ≠ [] → ys = [] → Q (.ref a) H) ∧ (xs ≠ [] → ys ≠ [] → ∀ p, H p = none → Q (.ref p) (upd H p (.tup (xs ++ ys))))
theorem op_catA : OpR X (binaryOp .Add) (rCatA X.K) := by
  intro pins s σ H x y v u Q I rx ry h
  obtain ⟨a, b, xs, ys, rfl, rfl, ha, hb, hz, q0, q1, q2⟩ := h
  by_cases hx : xs = []
  · cases rx
    cases ry
    obtain ⟨its, r1, p1, _⟩ := I.tuple ha
    obtain ⟨its2, r2, p2, _⟩ := I.tuple hb
    obtain ⟨⟨cls, dd, data, sl⟩, ho, hc, n, hd⟩ := id p1
    obtain ⟨⟨cls2, dd2, data2, sl2⟩, ho2, hc2, n2, hd2⟩ := id p2
    simp only at hc hd hc2 hd2
    subst hc hd hc2 hd2
    have e0 : its = [] := r1.nil_iff.mpr hx
    exact concat_meets ⟨_, ho, rfl⟩ ⟨_, ho2, rfl⟩ noFill_tuple_add seq_tuple_add PySem.F.slot_tuple_add PySem.F.entry_tuple_add (PySem.F.args_tuple_add_2 _ _)
      (PyProof.Rows.tuple_addW0 a b its.toArray its2.toArray n n2 dd dd2 sl sl2 (by simp [e0])) ⟨ho, ho2, ⟨.ref b, H, I, rfl, q0 hx⟩⟩
  · exact op_catT pins s σ H (.ref a) (.ref b) v u Q I rx ry ⟨a, b, xs, ys, rfl, rfl, ha, hb, hx, hz, q1 hx, q2 hx⟩
end
end L2
namespace Mt
theorem gd_up {n m : Nat} {q : Rat} (h : Gd n q) (hm : n ≤ m) : Gd m q := by
  obtain ⟨c, rfl⟩ : ∃ c, m = n + c := ⟨m - n, by omega⟩
  have a : Lat (B0 ^ n * B0 ^ c) (W0 ^ n * B0 ^ n * B0 ^ c) q := h.up
  show Lat (B0 ^ (n + c)) (W0 ^ (n + c) * B0 ^ (n + c)) q
  rw [Nat.pow_add B0, Nat.pow_add W0]
  refine a.mono ?_
  rw [Nat.mul_assoc]
  exact Nat.mul_le_mul_right _ (Nat.le_mul_of_pos_right _ (Nat.pow_pos (by decide)))
theorem lat_dotG {A B C E : Nat} {ms f : List Rat} (hf : ∀ n, Lat A B (cf f n)) (hm : ∀ n, Lat C E (cf ms n)) : ∀ i, Lat (A * C) (i * (B * E)) (Su (fun n => cf f n * cf ms n) i)
  | 0 => Lat.zero
  | i + 1 => by
    rw [Su, Nat.add_mul, Nat.one_mul]
    exact (lat_dotG hf hm i).add ((hf i).mul (hm i))
end Mt
namespace L2
theorem Ln.dot {b c : Nat} {f ms : List Rat} (h : Mt.Ln b b f) (k : Mt.Ln c c ms) {i : Nat} (hi : i ≤ 64) : Sz (b + c + 8) (Mt.Su (fun n => Mt.cf f n * Mt.cf ms n) i) := by
  obtain ⟨D, N, h1, h2, h3, h4⟩ := h.ex
  obtain ⟨E, M, k1, k2, k3, k4⟩ := k.ex
  have l := Mt.lat_dotG h4 k4 i
  have e := l.dvd (by have := Nat.mul_pos h1 k1; omega)
  have d1 := Nat.le_of_dvd (Nat.mul_pos h1 k1) e.1
  have d2 : D * E ≤ 2 ^ (b + c) := by rw [Nat.pow_add]; exact Nat.mul_le_mul h2 k2
  have n2 : i * (N * M) ≤ 2 ^ (b + c + 6) := by
    rw [Nat.pow_add, Nat.pow_add, Nat.mul_comm i]
    exact Nat.mul_le_mul (Nat.mul_le_mul h3 k3) hi
  have p1 : 2 ^ (b + c) < 2 ^ (b + c + 8) := Nat.pow_lt_pow_right (by decide) (by omega)
  have p2 : 2 ^ (b + c + 6) < 2 ^ (b + c + 8) := Nat.pow_lt_pow_right (by decide) (by omega)
  exact ⟨show (_ : Nat) < _ by omega, show (_ : Nat) < _ by show ((_ : Nat) : Int).natAbs < _; omega⟩
end L2
namespace L2
open PySem PySem.Spec PyProof.Rows
section
variable {X : Cx} {tg : Expr}
def tForVL (K : PySem.W.Frag) (te : TE) (g : TG) (tb : TS) : TS := fun D σ H => te σ H fun v H1 => ∃ a xs, v = .ref a ∧ SqL K H1 a xs ∧ FL xs.reverse (fun H => SqL K H a xs) g tb D σ H1
end
section
variable {X : Cx} {es : List Expr} {y1 : Nat} {tp : Pos}
end
def tForZL (K : PySem.W.Frag) (te te2 : TE) (g : TG) (tb : TS) : TS := fun D σ H => te σ H fun v H1 => te2 σ H1 fun v2 H2 => ∃ l, v = .ref l ∧ ∃ m, v2 = .ref m ∧ ∃ xs ys, SqL K H2 l xs ∧ SqL K H2 m ys ∧ xs.length ≤ ys.length ∧ FZ xs ys (fun H => SqL K H l xs ∧ SqL K H m ys) g tb D σ H2
section
variable {X : Cx} {es : List Expr} {y1 : Nat} {tp : Pos} {a b : Expr} {te te2 : TE} {g : TG} {tb : TS} {body : List Stmt} {p pos pos' : Pos}
end
end L2
namespace L2
open PySem PySem.Spec PyProof.Rows
section
variable {X : Cx}
noncomputable def isFr (K : PySem.W.Frag) (H : Hp) (q : Rat) (u : Value) : Bool := @decide (∃ p, u = .ref p ∧ Fq K H p q) (Classical.propDecidable _)
theorem isFr_is {pins : List (Addr × Obj)} {s : Shared} {σ : St} {H : Hp} {p : Addr} {q a : Rat} (I : Inv X pins σ H s) (h : Fq X.K H p a) : isFr X.K H q (.ref p) = decide (a = q) := by
  unfold isFr
  by_cases e : a = q
  · subst e
    rw [@decide_eq_true _ (Classical.propDecidable _) (show ∃ p', (Value.ref p) = .ref p' ∧ Fq X.K H p' a from ⟨p, rfl, h⟩), decide_eq_true rfl]
  · rw [decide_eq_false (show ¬ a = q from e)]
    refine @decide_eq_false _ (Classical.propDecidable _) ?_
    rintro ⟨p', e', h'⟩
    cases e'
    have := I.tuple_inj h h'
    injection this with z1 z2
    injection z1 with z1
    injection z2 with z2 _
    injection z2 with z2
    exact e (Rat.ext z1 (by omega))
theorem frs_eqAt {pins : List (Addr × Obj)} {s : Shared} {σ : St} {H : Hp} {p : Addr} {q : Rat} {f : List Rat} {xs : List V} {its : List Value} (I : Inv X pins σ H s) (A : Around) (hu : A.units + 2 < cLine) (hp : Fq X.K H p q) (hf : Frs X.K H f xs) (r : Vals xs its) :
    ∀ y, y ∈ its → SeqAt.EqAt A s y (.ref p) (isFr X.K H q y) := by
  induction f generalizing xs its with
  | nil =>
    have := hf.len
    cases r with
    | nil => intro y hy; cases hy
    | cons _ _ => simp at this
  | cons a f ih =>
    obtain ⟨pa, ys, rfl, ha, hf'⟩ := hf.uncons
    cases r with
    | cons r1 r2 =>
      intro y hy
      rcases List.mem_cons.mp hy with rfl | hy
      · cases r1
        rw [isFr_is I ha, ← frD_eqb]
        exact eq_at I 1 A _ _ _ _ _ _ (by rw [frD_dep]; decide) (by omega) (frD_sim a q) (rep_fr ha) (rep_fr hp) rfl rfl
      · exact ih hf' r2 y hy
theorem any_frs {pins : List (Addr × Obj)} {s : Shared} {σ : St} {H : Hp} {q : Rat} {f : List Rat} {xs : List V} {its : List Value} (I : Inv X pins σ H s) (hf : Frs X.K H f xs) (r : Vals xs its) : its.any (isFr X.K H q) = decide (q ∈ f) := by
  induction f generalizing xs its with
  | nil =>
    have := hf.len
    cases r with
    | nil => simp
    | cons _ _ => simp at this
  | cons a f ih =>
    obtain ⟨pa, ys, rfl, ha, hf'⟩ := hf.uncons
    cases r with
    | cons r1 r2 =>
      cases r1
      rw [List.any_cons, isFr_is I ha, ih hf' r2]
      by_cases e : a = q
      · subst e; simp
      · have : ¬ q = a := fun z => e z.symm
        simp [e, this]
end
end L2
namespace Mt
section
variable {L D : List Rat} {T : Nat}
theorem smz_up {h : Nat} (hh : h < T) : smz L D T 0 h h = 1 := by
  rw [smz, if_pos hh]
  have := straight (L := cf L) (D := cf D) (top := T) 0 h (by omega)
  rw [Nat.zero_add] at this
  exact this
theorem smz_sum : ∀ h, h < T → smz L D T 0 (h + 1) h = Su (cf L) (h + 1)
  | 0, hh => by
    rw [smz_first 0 0 hh, smz_up hh, Su, Su]
    have : smz L D T 0 0 1 = 0 := by
      rw [smz]
      split
      · exact far 0 0 1 (by omega)
      · rfl
    rw [this]; grind
  | h + 1, hh => by
    have e : Su (cf L) (h + 1 + 1) = Su (cf L) (h + 1) + cf L (h + 1) := rfl
    rw [smz_last 0 (h + 1) h hh, smz_up hh, smz_sum h (by omega), e]
    have : smz L D T 0 (h + 1) (h + 2) = 0 := by
      rw [smz]
      split
      · exact far (h + 1) 0 (h + 2) (by omega)
      · rfl
    rw [this]; grind
theorem cf_drop (f : List Rat) (h k : Nat) : cf (f.drop h) k = cf f (k + h) := by
  unfold cf
  rw [List.getD_eq_getElem?_getD, List.getElem?_drop, List.getD_eq_getElem?_getD, Nat.add_comm]
theorem dot_drop {ms : List Rat} (f : List Rat) (h : Nat) (hm : ∀ k, k < f.length + h → cf ms k = mu L D T k) : dot (ms.drop h) f = Lx L D T f h := by
  rw [dot, Lx]
  exact Su_congr fun k hk => by rw [cf_drop, hm (k + h) (by omega)]
theorem back_prod {h : Nat} (hh : h < T) : Lx L D T (rp L D h) h = pr (cf D) 0 h := by rw [Lx_rp (by omega) h h (by omega), smz_up hh]; grind
theorem back_sum {h : Nat} (hh : h < T) : Lx L D T (rp L D h) (h + 1) = Su (cf L) (h + 1) * pr (cf D) 0 h := by rw [Lx_rp (by omega) h (h + 1) (by omega), smz_sum h hh]
end
end Mt
namespace L2
open PySem PySem.Spec PyProof.Rows
section
variable {X : Cx} {pins : List (Addr × Obj)} {σ : St} {H : Hp} {s : Shared} {a : Addr} {o : Obj} {kvs : List (Key × V)}
end
section
variable {X : Cx} {tg : Expr}
def FD (a : Addr) (o : Obj) (kvs : List (Key × V)) (g : TG) (tb : TS) (D : Ends) (σ : St) (H : Hp) : Prop := ∃ Pv : Nat → St → Hp → Prop, Pv 0 σ (upd H a (.frz o (.dK kvs))) ∧ (∀ i σ H, Pv i σ H → H a = some (.frz o (.dK kvs))) ∧
  (∀ i k v σ H bk, kvs[i]? = some (k, v) → (∀ σ H, H a = some (.frz o (.dK kvs)) → D.nx σ (upd H a (.dK kvs)) → bk σ H) → Pv i σ H → g (kV k) σ H fun σ2 H2 => tb { D with nx := Pv (i + 1), ct := Pv (i + 1), bk := bk } σ2 H2) ∧
  ∀ σ H, Pv kvs.length σ H → D.nx σ (upd H a (.dK kvs))
def tForD (te : TE) (g : TG) (tb : TS) : TS := fun D σ H => te σ H fun v H1 => ∃ a kvs, v = .ref a ∧ H1 a = some (.dK kvs) ∧ ∀ o, FD a o kvs g tb D σ H1
end
end L2
namespace L2
open PySem PySem.Spec PyProof.Rows
section
variable {prog : Program} {w : World} {A : Around} {R : Result → Shared → Prop} {s : Shared}
end
def FrOk (X : Cx) (scope : Scope) : List (Str × Nat × Addr) → Prop
  | [] => True
  | p :: r => X.env.cells.lookup p.1 = some p.2.2 ∧ X.N[p.2.1]? = some p.1 ∧ X.env.kindOf p.1 = some .cell ∧ (relabel scope X.env).names.lookup p.1 = some .cell ∧ FrOk X scope r
theorem FrOk.mem {X : Cx} {scope : Scope} : ∀ {fr : List (Str × Nat × Addr)}, FrOk X scope fr → ∀ p ∈ fr, X.env.cells.lookup p.1 = some p.2.2 ∧ X.N[p.2.1]? = some p.1 ∧ X.env.kindOf p.1 = some .cell ∧ (relabel scope X.env).names.lookup p.1 = some .cell
  | _ :: _, h, p, hp => by
    rcases List.mem_cons.mp hp with rfl | hp
    · exact ⟨h.1, h.2.1, h.2.2.1, h.2.2.2.1⟩
    · exact FrOk.mem h.2.2.2.2 p hp
theorem look_fr {fr : List (Str × Nat × Addr)} {z : Str} {d : Addr} (h : List.lookup z (fr.map fun p => (p.1, p.2.2)) = some d) : ∃ p ∈ fr, p.1 = z ∧ p.2.2 = d := by
  have m := PySem.mem_of_lookup h
  obtain ⟨p, hp, e⟩ := List.mem_map.mp m
  cases e
  exact ⟨p, hp, rfl, rfl⟩
theorem look_self : ∀ {fr : List (Str × Nat × Addr)}, (fr.map (·.1)).Nodup → ∀ p ∈ fr, List.lookup p.1 (fr.map fun p => (p.1, p.2.2)) = some p.2.2
  | q :: r, nd, p, hp => by
    rw [List.map_cons] at nd
    obtain ⟨n1, n2⟩ := List.nodup_cons.mp nd
    rcases List.mem_cons.mp hp with rfl | hp
    · simp
    · have ne : p.1 ≠ q.1 := fun e => n1 (by rw [← e]; exact List.mem_map.mpr ⟨p, hp, rfl⟩)
      rw [List.map_cons, List.lookup_cons, show (p.1 == q.1) = false from beq_eq_false_iff_ne.mpr ne]
      exact look_self n2 p hp
def COI (n : Nat) (src : Nat → Hp → V → Prop) (st : Hp → Prop) (js : List (Option Nat)) (g : TG) (tc : TT) (tl : TE) (σ : St) (H1 : Hp) (Q : VK) : Prop := ∀ D, H1 D = none → ∃ Pv : Nat → List V → St → Hp → Prop, Pv 0 [] (cσ js σ) (upd H1 D (.lst [])) ∧ (∀ i ys σc H, i ≤ n → Pv i ys σc H → st H) ∧
  (∀ i ys σc H x, i < n → Pv i ys σc H → src i H x → g x σc H fun σ2 H2 => tc σ2 H2 fun b H2b => if b = true then tl σ2 H2b fun y H3 => H3 D = some (.lst ys) ∧ ys.length < sizeLine ∧ Pv (i + 1) (ys ++ [y]) σ2 (upd H3 D (.lst (ys ++ [y]))) else Pv (i + 1) ys σ2 H2b) ∧ ∀ ys σc H, Pv n ys σc H → H D = some (.lst ys) ∧ Q (.ref D) H
section
variable {X : Cx} {tg a elt cnd : Expr} {te tl : TE} {tc : TT} {g : TG} {p pos pos' : Pos} {scope : Scope} {js : List (Option Nat)}
def tCoRI (js : List (Option Nat)) (te : TE) (g : TG) (tc : TT) (tl : TE) : TE := fun σ H Q => te σ H fun v H1 => ∃ j : Int, v = .int j ∧ -(2 ^ 62) ≤ j ∧ j < 2 ^ 62 ∧ COI j.toNat (fun i _ x => x = .int i) (fun _ => True) js g tc tl σ H1 Q
def tCoLI (K : PySem.W.Frag) (js : List (Option Nat)) (te : TE) (g : TG) (tc : TT) (tl : TE) : TE := fun σ H Q => te σ H fun v H1 => ∃ a xs, v = .ref a ∧ SqL K H1 a xs ∧ COI xs.length (fun i _ x => xs[i]? = some x) (fun H => SqL K H a xs) js g tc tl σ H1 Q
def tCoKI (R : Addr) (kvs : List (Key × V)) (js : List (Option Nat)) (te : TE) (g : TG) (tc : TT) (tl : TE) : TE := fun σ H Q => te σ H fun v H1 => v = .ref R ∧ COI kvs.length (fun i _ x => ∃ k v, kvs[i]? = some (k, v) ∧ x = kV k) (fun _ => True) js g tc tl σ H1 Q
end
end L2
namespace Mt
theorem php : ∀ (N M : Nat) (F : Nat → Nat), (∀ x, x < M → F x < N) → N < M → ∃ x y, x < y ∧ y < M ∧ F x = F y
  | 0, M, F, h, l => absurd (h 0 l) (by omega)
  | N + 1, M, F, h, l => by
    by_cases e : ∃ x, x < M - 1 ∧ F x = F (M - 1)
    · obtain ⟨x, hx, ex⟩ := e
      exact ⟨x, M - 1, hx, by omega, ex⟩
    have ne : ∀ x, x < M - 1 → F x ≠ F (M - 1) := fun x hx z => e ⟨x, hx, z⟩
    obtain ⟨x, y, h1, h2, h3⟩ := php N (M - 1) (fun x => if F (M - 1) < F x then F x - 1 else F x) (fun x hx => by
      have := h x (by omega)
      have := h (M - 1) (by omega)
      have := ne x hx
      split <;> omega) (by omega)
    refine ⟨x, y, h1, by omega, ?_⟩
    have := ne x (by omega)
    have := ne y (by omega)
    split at h3 <;> split at h3 <;> omega
def dg (b j x : Nat) : Nat := x / b ^ j % b
theorem dg_succ (b j x : Nat) : dg b (j + 1) x = dg b j (x / b) := by
  rw [dg, dg, Nat.pow_succ, Nat.mul_comm, Nat.div_div_eq_div_mul]
theorem dg_inj {b : Nat} (hb : 0 < b) : ∀ (n x y : Nat), x < b ^ n → y < b ^ n → (∀ j, j < n → dg b j x = dg b j y) → x = y
  | 0, x, y, hx, hy, _ => by simp at hx hy; omega
  | n + 1, x, y, hx, hy, h => by
    have e : x / b = y / b := dg_inj hb n (x / b) (y / b) (Nat.div_lt_of_lt_mul (by rw [Nat.mul_comm, ← Nat.pow_succ]; exact hx)) (Nat.div_lt_of_lt_mul (by rw [Nat.mul_comm, ← Nat.pow_succ]; exact hy)) fun j hj => by
      rw [← dg_succ, ← dg_succ]; exact h (j + 1) (by omega)
    have e0 := h 0 (by omega)
    simp only [dg, Nat.pow_zero, Nat.div_one] at e0
    have a := Nat.div_add_mod x b
    have c := Nat.div_add_mod y b
    rw [e, e0] at a
    omega
def enc (W : Nat) (y : Nat → Nat) : Nat → Nat
  | 0 => 0
  | h + 1 => enc W y h + y h * W ^ h
theorem enc_lt {W : Nat} {y : Nat → Nat} : ∀ {h : Nat}, (∀ i, i < h → y i < W) → enc W y h < W ^ h
  | 0, _ => by simp [enc]
  | h + 1, k => by
    have a := enc_lt (W := W) (y := y) (h := h) fun i hi => k i (by omega)
    have b : (y h + 1) * W ^ h ≤ W * W ^ h := Nat.mul_le_mul_right _ (k h (by omega))
    rw [Nat.add_mul, Nat.one_mul] at b
    rw [enc, Nat.pow_succ, Nat.mul_comm _ W]
    omega
theorem enc_inj {W : Nat} {y z : Nat → Nat} : ∀ {h : Nat}, (∀ i, i < h → y i < W) → (∀ i, i < h → z i < W) → enc W y h = enc W z h → ∀ i, i < h → y i = z i
  | 0, _, _, _, i, hi => absurd hi (by omega)
  | h + 1, ky, kz, e, i, hi => by
    have ay := enc_lt (W := W) (y := y) (h := h) fun i hi => ky i (by omega)
    have az := enc_lt (W := W) (y := z) (h := h) fun i hi => kz i (by omega)
    rw [enc, enc] at e
    have W0 : 0 < W ^ h := by omega
    have ey : (enc W y h + y h * W ^ h) / W ^ h = y h := by rw [Nat.add_mul_div_right _ _ W0, Nat.div_eq_of_lt ay, Nat.zero_add]
    have ez : (enc W z h + z h * W ^ h) / W ^ h = z h := by rw [Nat.add_mul_div_right _ _ W0, Nat.div_eq_of_lt az, Nat.zero_add]
    rw [e, ez] at ey
    rcases Nat.lt_or_ge i h with l | l
    · refine enc_inj (fun i hi => ky i (by omega)) (fun i hi => kz i (by omega)) ?_ i l
      rw [ey] at e
      omega
    · obtain rfl : i = h := by omega
      exact ey.symm
def sI (f : Nat → Int) : Nat → Int
  | 0 => 0
  | n + 1 => sI f n + f n
theorem sI_sub (f g : Nat → Int) : ∀ n, sI (fun j => f j - g j) n = sI f n - sI g n
  | 0 => rfl
  | n + 1 => by rw [sI, sI, sI, sI_sub f g n]; omega
theorem sI_bd {f : Nat → Int} {N : Nat} (h : ∀ j, (f j).natAbs ≤ N) : ∀ n, (sI f n).natAbs ≤ n * N
  | 0 => by simp [sI]
  | n + 1 => by
    have a := sI_bd h n
    have b := h n
    rw [sI, Nat.add_mul, Nat.one_mul]
    omega
theorem siegel {a : Nat → Nat → Int} {A h n : Nat} (hA : 0 < A) (ha : ∀ i j, (a i j).natAbs ≤ A) (hn : h < n) :
    ∃ c : Nat → Int, (∃ j, j < n ∧ c j ≠ 0) ∧ (∀ j, (c j).natAbs ≤ (2 * n * A) ^ h) ∧ ∀ i, i < h → sI (fun j => a i j * c j) n = 0 := by
  obtain ⟨B, eB⟩ : ∃ B, B = (2 * n * A) ^ h := ⟨_, rfl⟩
  have nA : 1 ≤ n * A := Nat.mul_pos (by omega) hA
  obtain ⟨C, eC⟩ : ∃ C, C = n * (A * B) := ⟨_, rfl⟩
  have dl : ∀ j x, dg (B + 1) j x ≤ B := fun j x => Nat.le_of_lt_succ (Nat.mod_lt _ (by omega))
  have yb : ∀ i x, (sI (fun j => a i j * (dg (B + 1) j x : Int)) n).natAbs ≤ C := fun i x => by
    rw [eC]
    refine sI_bd (fun j => ?_) n
    rw [Int.natAbs_mul, Int.natAbs_natCast]
    exact Nat.mul_le_mul (ha i j) (dl j x)
  have lt : (2 * C + 1) ^ h < (B + 1) ^ n := by
    have l1 : 2 * C + 1 ≤ 2 * n * A * (B + 1) := by
      rw [eC, Nat.mul_add, Nat.mul_one, ← Nat.mul_assoc, ← Nat.mul_assoc]
      have : 2 * n * A = 2 * (n * A) := Nat.mul_assoc ..
      omega
    refine Nat.lt_of_le_of_lt (Nat.pow_le_pow_left l1 h) ?_
    rw [Nat.mul_pow, ← eB]
    refine Nat.lt_of_lt_of_le (Nat.mul_lt_mul_of_pos_right (Nat.lt_succ_self B) (Nat.pow_pos (by omega))) ?_
    rw [← Nat.pow_add_one']
    exact Nat.pow_le_pow_right (by omega) hn
  have wl : ∀ x i, ((sI (fun j => a i j * (dg (B + 1) j x : Int)) n) + C).toNat < 2 * C + 1 := fun x i => by
    have := yb i x
    omega
  obtain ⟨x, y, xy, yM, e⟩ := php ((2 * C + 1) ^ h) ((B + 1) ^ n) (fun x => enc (2 * C + 1) (fun i => ((sI (fun j => a i j * (dg (B + 1) j x : Int)) n) + C).toNat) h) (fun x _ => enc_lt fun i _ => wl x i) lt
  have eq := enc_inj (fun i _ => wl x i) (fun i _ => wl y i) e
  refine ⟨fun j => (dg (B + 1) j x : Int) - (dg (B + 1) j y : Int), ?_, fun j => ?_, fun i hi => ?_⟩
  · apply Classical.byContradiction
    intro z
    have : x = y := dg_inj (b := B + 1) (by omega) n x y (by omega) yM fun j hj => by
      apply Classical.byContradiction
      intro ne
      exact z ⟨j, hj, by show (dg (B + 1) j x : Int) - (dg (B + 1) j y : Int) ≠ 0; omega⟩
    omega
  · rw [← eB]
    show ((dg (B + 1) j x : Int) - (dg (B + 1) j y : Int)).natAbs ≤ B
    have := dl j x
    have := dl j y
    omega
  · have e1 := eq i hi
    have b1 := yb i x
    have b2 := yb i y
    have : sI (fun j => a i j * ((dg (B + 1) j x : Int) - (dg (B + 1) j y : Int))) n = sI (fun j => a i j * (dg (B + 1) j x : Int)) n - sI (fun j => a i j * (dg (B + 1) j y : Int)) n := by
      rw [← sI_sub]
      congr 1
      funext j
      rw [Int.mul_sub]
    rw [this]
    omega
theorem Su_swap (F : Nat → Nat → Rat) (m : Nat) : ∀ n, Su (fun i => Su (fun j => F i j) m) n = Su (fun j => Su (fun i => F i j) n) m
  | 0 => by rw [Su]; exact (Su_zero m).symm
  | n + 1 => by
    rw [Su, Su_swap F m n, ← Su_add]
    exact Su_congr fun j _ => by rw [Su]
def lf (ms p : List Rat) (l : Nat) : Rat := Su (fun n => cf p n * cf ms (n + l)) p.length
theorem lf_dot (ms p : List Rat) (l : Nat) : dot (ms.drop l) p = lf ms p l := Su_congr fun n _ => by rw [cf_drop]
theorem lf_up (ms p : List Rat) (l : Nat) {N : Nat} (h : p.length ≤ N) : Su (fun n => cf p n * cf ms (n + l)) N = lf ms p l := by
  obtain ⟨k, rfl⟩ : ∃ k, N = p.length + k := ⟨N - p.length, by omega⟩
  exact Su_more _ (fun i hi => by rw [cf_ge hi, Rat.zero_mul]) k
theorem lf_nx2 (ms f g : List Rat) (a b : Rat) (l : Nat) : lf ms (nx2 a b f g) l = lf ms f (l + 1) - a * lf ms f l - b * lf ms g l := by
  obtain ⟨N, h1, h2, h3⟩ : ∃ N, (nx2 a b f g).length ≤ N + 1 ∧ f.length ≤ N ∧ g.length ≤ N := ⟨(nx2 a b f g).length + f.length + g.length, by omega, by omega, by omega⟩
  rw [← lf_up ms _ l h1, ← lf_up ms f (l + 1) h2, ← lf_up ms f l (show f.length ≤ N + 1 by omega), ← lf_up ms g l (show g.length ≤ N + 1 by omega)]
  have e : ∀ n, cf (nx2 a b f g) n * cf ms (n + l) = (sh f 1 n * cf ms (n + l) + cf f n * cf ms (n + l) * (-a)) + cf g n * cf ms (n + l) * (-b) := fun n => by rw [cf_nx2]; grind
  rw [Su_congr fun n _ => e n, Su_add, Su_add, Su_mul, Su_mul, Su_sh f (fun n => cf ms (n + l)) N]
  have e2 : Su (fun k => cf f k * cf ms (k + 1 + l)) N = Su (fun k => cf f k * cf ms (k + (l + 1))) N := Su_congr fun k _ => by rw [show k + 1 + l = k + (l + 1) by omega]
  rw [e2]
  grind
structure Mo (ms p : List Rat) (i : Nat) : Prop where
  len : p.length = i + 1
  top : cf p i = 1
  orth : ∀ l, l < i → lf ms p l = 0
theorem Mo.su {ms p : List Rat} {i : Nat} (h : Mo ms p i) (l : Nat) {d : Nat} (hd : i < d) : Su (fun n => cf p n * cf ms (n + l)) d = lf ms p l := lf_up ms p l (by rw [h.len]; omega)
theorem only {ms : List Rat} {p : Nat → List Rat} {i : Nat} (hp : ∀ j, j < i → Mo ms (p j) j) (nz : ∀ j, j < i → lf ms (p j) j ≠ 0) {q : Nat → Rat}
    (hq : ∀ l, l < i → Su (fun n => q n * cf ms (n + l)) i = 0) : ∀ t n, n < i → i ≤ n + t → q n = 0
  | 0, n, h1, h2 => absurd h1 (by omega)
  | t + 1, d, h1, h2 => by
    rcases Nat.lt_or_ge d (i - t) with z | z
    · have ab : ∀ n, n < i → d < n → q n = 0 := fun n h3 h4 => only hp nz hq t n h3 (by omega)
      have e1 : Su (fun l => Su (fun n => cf (p d) l * (q n * cf ms (n + l))) i) (d + 1) = 0 := by
        rw [Su_congr (g := fun _ => 0) fun l hl => ?_, Su_zero]
        rw [Su_congr (g := fun n => q n * cf ms (n + l) * cf (p d) l) fun n _ => Rat.mul_comm .., Su_mul, hq l (by omega), Rat.zero_mul]
      rw [← Su_swap] at e1
      have e2 : ∀ n, n < i → Su (fun l => cf (p d) l * (q n * cf ms (n + l))) (d + 1) = q n * lf ms (p d) n := fun n _ => by
        rw [← (hp d h1).su n (show d < d + 1 by omega), Rat.mul_comm (q n), ← Su_mul]
        exact Su_congr fun l _ => by rw [Nat.add_comm n l]; grind
      rw [Su_congr e2] at e1
      have e3 : ∀ n, n < i → q n * lf ms (p d) n = q n * lf ms (p d) n * (if d = n then 1 else 0) := fun n hn => by
        by_cases y : d = n
        · rw [if_pos y, Rat.mul_one]
        rw [if_neg y, Rat.mul_zero]
        rcases Nat.lt_or_ge n d with x | x
        · rw [(hp d h1).orth n x, Rat.mul_zero]
        · rw [ab n hn (by omega), Rat.zero_mul]
      rw [Su_congr e3, Su_one (fun n => q n * lf ms (p d) n) d i h1] at e1
      exact (Rat.mul_eq_zero.mp e1).resolve_right (nz d h1)
    · exact only hp nz hq t d h1 (by omega)
theorem Mo.uniq {ms : List Rat} {p : Nat → List Rat} {i : Nat} (hp : ∀ j, j < i → Mo ms (p j) j) (nz : ∀ j, j < i → lf ms (p j) j ≠ 0) {r : List Rat} (hr : Mo ms r i)
    {c : Nat → Rat} (hc : ∀ l, l < i → Su (fun n => c n * cf ms (n + l)) (i + 1) = 0) {n : Nat} (hn : n ≤ i) : cf r n * c i = c n := by
  have h := only hp nz (q := fun n => c n - cf r n * c i) (fun l hl => by
    have e1 := hc l hl
    have e2 := hr.orth l hl
    rw [← hr.su l (show i < i + 1 by omega)] at e2
    have e : Su (fun n => (c n - cf r n * c i) * cf ms (n + l)) (i + 1) = 0 := by
      rw [Su_congr (g := fun n => c n * cf ms (n + l) + cf r n * cf ms (n + l) * (-c i)) fun n _ => by grind, Su_add, Su_mul, e1, e2]
      grind
    rw [Su, hr.top] at e
    grind) i
  rcases Nat.lt_or_ge n i with z | z
  · have := h n z (by omega)
    grind
  · obtain rfl : n = i := by omega
    rw [hr.top, Rat.one_mul]
theorem su_sI {f : Nat → Rat} {g : Nat → Int} : ∀ {m : Nat}, (∀ h, h < m → f h = g h) → Su f m = (sI g m : Int)
  | 0, _ => rfl
  | m + 1, h => by rw [Su, sI, su_sI fun i hi => h i (by omega), h m (by omega), Rat.intCast_add]
theorem Mo.small {ms : List Rat} {p : Nat → List Rat} {i A : Nat} {d0 : Int} {M : Nat → Int} (hp : ∀ j, j < i → Mo ms (p j) j) (nz : ∀ j, j < i → lf ms (p j) j ≠ 0) {r : List Rat} (hr : Mo ms r i)
    (hd : d0 ≠ 0) (hA : 0 < A) (hM : ∀ n, cf ms n * (d0 : Rat) = (M n : Rat)) (bM : ∀ n, (M n).natAbs ≤ A) :
    ∃ c : Nat → Int, c i ≠ 0 ∧ (∀ n, (c n).natAbs ≤ (2 * (i + 1) * A) ^ i) ∧ (∀ n, n ≤ i → cf r n * (c i : Rat) = (c n : Rat)) ∧ ∀ l, lf ms r l * ((c i * d0 : Int) : Rat) = (sI (fun n => M (n + l) * c n) (i + 1) : Int) := by
  have d0' : (d0 : Rat) ≠ 0 := fun z => hd (by exact_mod_cast z)
  obtain ⟨c, ⟨j, hj, cj⟩, cb, ce⟩ := siegel (a := fun l n => M (n + l)) (h := i) (n := i + 1) hA (fun _ _ => bM _) (by omega)
  have key : ∀ l, Su (fun n => (c n : Rat) * cf ms (n + l)) (i + 1) * (d0 : Rat) = (sI (fun n => M (n + l) * c n) (i + 1) : Int) := fun l => by
    rw [← Su_mul]
    refine su_sI fun n _ => ?_
    rw [Rat.intCast_mul, ← hM]
    grind
  have un := fun n (hn : n ≤ i) => Mo.uniq hp nz hr (c := fun n => (c n : Rat)) (fun l hl => by
    have := key l
    rw [ce l hl] at this
    exact (Rat.mul_eq_zero.mp this).resolve_right d0') hn
  refine ⟨c, fun z => cj ?_, cb, un, fun l => ?_⟩
  · have := un j (by omega)
    rw [z] at this
    have t : ((c j : Int) : Rat) = 0 := by rw [← this]; show cf r j * (0 : Rat) = 0; rw [Rat.mul_zero]
    exact_mod_cast t
  · rw [← key l, ← hr.su l (show i < i + 1 by omega), Rat.intCast_mul, ← Rat.mul_assoc, ← Su_mul]
    congr 1
    refine Su_congr fun n hn => ?_
    rw [← un n (by omega)]
    grind
structure Bf (ms g : List Rat) (i : Nat) (s q : Rat) : Prop where
  none : i = 0 → g = [] ∧ s = 0
  some : ∀ j, i = j + 1 → Mo ms g j ∧ lf ms g j = q ∧ s * q = lf ms g i
theorem Bf.len {ms g : List Rat} {i : Nat} {s q : Rat} (h : Bf ms g i s q) : g.length ≤ i := by
  rcases i with _ | j
  · rw [(h.none rfl).1]; exact Nat.le_refl _
  · rw [(h.some j rfl).1.len]; exact Nat.le_refl _
theorem Mo.step {ms f g : List Rat} {i : Nat} {s t q u : Rat} (hf : Mo ms f i) (hg : Bf ms g i s q) (q0 : q ≠ 0) (hu : lf ms f i = u) (ht : t * u = lf ms f (i + 1)) : Mo ms (nx2 (t - s) (u / q) f g) (i + 1) := by
  have gz : ∀ k, i ≤ k → cf g k = 0 := fun k hk => cf_ge (by have := hg.len; omega)
  have fz : ∀ k, i < k → cf f k = 0 := fun k hk => cf_ge (by rw [hf.len]; omega)
  have top : cf (nx2 (t - s) (u / q) f g) (i + 1) = 1 := by
    rw [cf_nx2, sh, if_pos (by omega), Nat.add_sub_cancel, hf.top, fz _ (by omega), gz _ (by omega)]; grind
  refine ⟨?_, top, fun l hl => ?_⟩
  · have a : (nx2 (t - s) (u / q) f g).length ≤ i + 2 := (NZ_nx2 _ _ _ _).le fun k hk => by
      rw [cf_nx2, sh, if_pos (by omega), fz _ (by omega), fz _ (by omega), gz _ (by omega)]; grind
    rcases Nat.lt_or_ge (i + 1) (nx2 (t - s) (u / q) f g).length with z | z
    · omega
    · rw [cf_ge z] at top
      exact absurd top (by decide)
  · rw [lf_nx2]
    rcases Nat.lt_or_ge l i with z | z
    · obtain ⟨j, rfl⟩ : ∃ j, i = j + 1 := ⟨i - 1, by omega⟩
      obtain ⟨mg, eq, _⟩ := hg.some j rfl
      rw [hf.orth l z]
      rcases Nat.lt_or_ge l j with y | y
      · rw [hf.orth (l + 1) (by omega), mg.orth l y]; grind
      · obtain rfl : l = j := by omega
        rw [hu, eq, Rat.div_def, Rat.mul_assoc, Rat.inv_mul_cancel q q0]; grind
    · obtain rfl : l = i := by omega
      rw [hu, ← ht]
      rcases l with _ | j
      · obtain ⟨rfl, rfl⟩ := hg.none rfl
        have : lf ms [] 0 = 0 := rfl
        rw [this]; grind
      · obtain ⟨mg, eq, es⟩ := hg.some j rfl
        rw [← es, Rat.div_def]
        have : u * q⁻¹ * (s * q) = u * s * (q⁻¹ * q) := by grind
        rw [this, Rat.inv_mul_cancel q q0]; grind
theorem Mo.one {ms : List Rat} : Mo ms [1] 0 := ⟨rfl, rfl, fun l hl => absurd hl (by omega)⟩
theorem Su_front (F : Nat → Rat) : ∀ n, Su F (n + 1) = F 0 + Su (fun k => F (k + 1)) n
  | 0 => by rw [Su, Su, Su]; grind
  | n + 1 => by rw [Su, Su_front F n, Su]; grind
theorem ext_cf {f g : List Rat} (l : f.length = g.length) (h : ∀ n, n < f.length → cf f n = cf g n) : f = g := by
  refine List.ext_getElem l fun n h1 h2 => ?_
  have a := h n h1
  unfold cf at a
  rw [List.getD_eq_getElem?_getD, List.getD_eq_getElem?_getD, List.getElem?_eq_getElem h1, List.getElem?_eq_getElem h2] at a
  exact a
theorem Mo.eq {ms : List Rat} {p : Nat → List Rat} {i : Nat} (hp : ∀ j, j < i → Mo ms (p j) j) (nz : ∀ j, j < i → lf ms (p j) j ≠ 0) {r q : List Rat} (hr : Mo ms r i) (hq : Mo ms q i) : r = q := by
  refine ext_cf (by rw [hr.len, hq.len]) fun n hn => ?_
  rw [hr.len] at hn
  have := Mo.uniq hp nz hr (c := cf q) (fun l hl => by rw [hq.su l (show i < i + 1 by omega)]; exact hq.orth l hl) (n := n) (by omega)
  rw [hq.top, Rat.mul_one] at this
  exact this
end Mt
namespace L2
open PySem PySem.Spec PyProof.Rows
section
variable {X : Cx} {es : List Expr} {y1 : Nat} {tp : Pos} {a b elt : Expr} {te te2 tl : TE} {g : TG} {p pos pos' : Pos} {scope : Scope} {js : List (Option Nat)}
end
section
variable {X : Cx}
def rInFT (K : PySem.W.Frag) (neg : Bool) : R2 := fun x y H Q => ∃ p l xs f q, x = .ref p ∧ y = .ref l ∧ SqT K H l xs ∧ Frs K H f xs ∧ Fq K H p q ∧ Q (.bl (if neg then !decide (q ∈ f) else decide (q ∈ f))) H
end
section
variable {X : Cx} {tg a b elt : Expr} {te te2 tl : TE} {g : TG} {p pos pos' : Pos} {scope : Scope} {js : List (Option Nat)}
end
end L2
namespace Mt
def sg (k : Nat) : Rat := if k % 2 = 0 then 1 else -1
theorem sg_succ (k : Nat) : sg (k + 1) = -sg k := by
  unfold sg
  by_cases h : k % 2 = 0
  · rw [if_pos h, if_neg (by omega)]
  · rw [if_neg h, if_pos (by omega)]; grind
def sk (k j : Nat) : Nat := if j < k then j else j + 1
def det : Nat → (Nat → Nat → Rat) → Rat
  | 0, _ => 1
  | n + 1, a => Su (fun k => sg k * a 0 k * det n (fun i j => a (i + 1) (sk k j))) (n + 1)
theorem det_succ (n : Nat) (a : Nat → Nat → Rat) : det (n + 1) a = Su (fun k => sg k * a 0 k * det n (fun i j => a (i + 1) (sk k j))) (n + 1) := rfl
theorem det_congr : ∀ {n : Nat} {a b : Nat → Nat → Rat}, (∀ i, i < n → ∀ j, j < n → a i j = b i j) → det n a = det n b
  | 0, _, _, _ => rfl
  | n + 1, a, b, h => by
    rw [det_succ, det_succ]
    refine Su_congr fun k hk => ?_
    rw [h 0 (by omega) k hk, det_congr (n := n) (b := fun i j => b (i + 1) (sk k j)) fun i hi j hj => h (i + 1) (by omega) (sk k j) (by unfold sk; split <;> omega)]
def sr (a : Nat → Nat → Rat) (r : Nat) (v : Nat → Rat) : Nat → Nat → Rat := fun i j => if i = r then v j else a i j
theorem det_row : ∀ (n r : Nat) (a : Nat → Nat → Rat) (u v : Nat → Rat) (c : Rat), r < n → det n (sr a r fun j => u j + c * v j) = det n (sr a r u) + c * det n (sr a r v)
  | 0, r, _, _, _, _, h => absurd h (by omega)
  | n + 1, 0, a, u, v, c, _ => by
    rw [det_succ, det_succ, det_succ, Rat.mul_comm c, ← Su_mul, ← Su_add]
    refine Su_congr fun k _ => ?_
    have e : ∀ w : Nat → Rat, (fun i j => sr a 0 w (i + 1) (sk k j)) = fun i j => a (i + 1) (sk k j) := fun w => by
      funext i j; unfold sr; rw [if_neg (by omega)]
    have f : ∀ w : Nat → Rat, sr a 0 w 0 k = w k := fun w => by unfold sr; rw [if_pos rfl]
    rw [e, e, e, f, f, f]
    grind
  | n + 1, r + 1, a, u, v, c, h => by
    rw [det_succ, det_succ, det_succ, Rat.mul_comm c, ← Su_mul, ← Su_add]
    refine Su_congr fun k _ => ?_
    have e : ∀ w : Nat → Rat, (fun i j => sr a (r + 1) w (i + 1) (sk k j)) = sr (fun i j => a (i + 1) (sk k j)) r fun j => w (sk k j) := fun w => by
      funext i j; unfold sr
      by_cases z : i = r
      · rw [if_pos (by omega), if_pos z]
      · rw [if_neg (by omega), if_neg z]
    have f : ∀ w : Nat → Rat, sr a (r + 1) w 0 k = a 0 k := fun w => by unfold sr; rw [if_neg (by omega)]
    rw [e, e, e, f, f, f, det_row n r _ (fun j => u (sk k j)) (fun j => v (sk k j)) c (by omega)]
    grind
def sw (r : Nat) (a : Nat → Nat → Rat) : Nat → Nat → Rat := fun i j => a (if i = r then r + 1 else if i = r + 1 then r else i) j
theorem Su_pairs (G : Nat → Nat → Rat) : ∀ N, Su (fun k => Su (fun l => G k l) N) (N + 1) = Su (fun l => Su (fun k => G k l + G (l + 1) k) (l + 1)) N
  | 0 => by rw [Su, Su, Su, Su]; grind
  | N + 1 => by
    have e : Su (fun l => Su (fun k => G k l + G (l + 1) k) (l + 1)) (N + 1) = Su (fun l => Su (fun k => G k l + G (l + 1) k) (l + 1)) N + Su (fun k => G k N + G (N + 1) k) (N + 1) := rfl
    have e2 : Su (fun k => Su (fun l => G k l) (N + 1)) (N + 1 + 1) = Su (fun k => Su (fun l => G k l) N + G k N) (N + 1) + Su (fun l => G (N + 1) l) (N + 1) := rfl
    rw [e, e2, Su_add, Su_pairs G N, Su_add]
    grind
theorem sk_sk {k l j : Nat} (h : k ≤ l) : sk k (sk l j) = sk (l + 1) (sk k j) := by
  unfold sk
  repeat' split
  all_goals omega
theorem det_two (n : Nat) (a : Nat → Nat → Rat) : det (n + 2) a = Su (fun l => Su (fun k => sg k * sg l * (a 0 k * a 1 (l + 1) - a 0 (l + 1) * a 1 k) * det n (fun i j => a (i + 2) (sk k (sk l j)))) (l + 1)) (n + 1) := by
  rw [det_succ, Su_congr (g := fun k => Su (fun l => sg k * sg l * (a 0 k * a 1 (sk k l)) * det n (fun i j => a (i + 2) (sk k (sk l j)))) (n + 1)) fun k _ => ?_, Su_pairs]
  · refine Su_congr fun l _ => Su_congr fun k hk => ?_
    have e1 : sk k l = l + 1 := by unfold sk; rw [if_neg (by omega)]
    have e2 : sk (l + 1) k = k := by unfold sk; rw [if_pos (by omega)]
    have e3 : (fun i j => a (i + 2) (sk (l + 1) (sk k j))) = fun i j => a (i + 2) (sk k (sk l j)) := by
      funext i j; rw [sk_sk (k := k) (l := l) (j := j) (by omega)]
    rw [e1, e2, e3, sg_succ]
    grind
  · rw [det_succ, Rat.mul_comm, ← Su_mul]
    exact Su_congr fun l _ => by grind
theorem det_sw : ∀ (n r : Nat) (a : Nat → Nat → Rat), r + 1 < n → det n (sw r a) = -det n a
  | 0, _, _, h => absurd h (by omega)
  | 1, _, _, h => absurd h (by omega)
  | n + 2, 0, a, _ => by
    have m : -det (n + 2) a = det (n + 2) a * (-1) := by grind
    rw [m, det_two, det_two, ← Su_mul]
    refine Su_congr fun l _ => ?_
    rw [← Su_mul]
    refine Su_congr fun k _ => ?_
    have e : (fun i j => sw 0 a (i + 2) (sk k (sk l j))) = fun i j => a (i + 2) (sk k (sk l j)) := by
      funext i j; unfold sw; rw [if_neg (by omega), if_neg (by omega)]
    have f0 : ∀ j, sw 0 a 0 j = a 1 j := fun j => by unfold sw; rw [if_pos rfl]
    have f1 : ∀ j, sw 0 a 1 j = a 0 j := fun j => by unfold sw; rw [if_neg (by omega), if_pos (by omega)]
    rw [e, f0, f0, f1, f1]
    grind
  | n + 2, r + 1, a, h => by
    have m : -det (n + 2) a = det (n + 2) a * (-1) := by grind
    rw [m, det_succ, det_succ, ← Su_mul]
    refine Su_congr fun k _ => ?_
    have e : (fun i j => sw (r + 1) a (i + 1) (sk k j)) = sw r fun i j => a (i + 1) (sk k j) := by
      funext i j; unfold sw
      by_cases z : i = r
      · rw [if_pos (by omega), if_pos z]
      rw [if_neg (by omega), if_neg z]
      by_cases y : i = r + 1
      · rw [if_pos (by omega), if_pos y]
      · rw [if_neg (by omega), if_neg y]
    have f : sw (r + 1) a 0 k = a 0 k := by unfold sw; rw [if_neg (by omega), if_neg (by omega)]
    rw [e, f, det_sw (n + 1) r _ (by omega)]
    grind
theorem det_eq_rows {n : Nat} : ∀ (d r : Nat) (a : Nat → Nat → Rat), r + d + 1 < n → (∀ j, j < n → a r j = a (r + d + 1) j) → det n a = 0
  | 0, r, a, h, e => by
    have s := det_sw n r a (by omega)
    have t : det n (sw r a) = det n a := det_congr fun i _ j hj => by
      unfold sw
      by_cases z : i = r
      · rw [if_pos z, z]; exact (e j hj).symm
      rw [if_neg z]
      by_cases y : i = r + 1
      · rw [if_pos y, y]; exact e j hj
      · rw [if_neg y]
    grind
  | d + 1, r, a, h, e => by
    have s := det_sw n (r + d + 1) a (by omega)
    have t := det_eq_rows (n := n) d r (sw (r + d + 1) a) (by omega) fun j hj => by
      have e1 : sw (r + d + 1) a r j = a r j := by unfold sw; rw [if_neg (show ¬ r = r + d + 1 by omega), if_neg (show ¬ r = r + d + 1 + 1 by omega)]
      have e2 : sw (r + d + 1) a (r + d + 1) j = a (r + d + 2) j := by unfold sw; rw [if_pos rfl]
      rw [e1, e2]; exact e j hj
    grind
theorem det_same {n r s : Nat} {a : Nat → Nat → Rat} (hr : r < n) (hs : s < n) (ne : r ≠ s) (e : ∀ j, j < n → a r j = a s j) : det n a = 0 := by
  rcases Nat.lt_or_gt_of_ne ne with z | z
  · exact det_eq_rows (s - r - 1) r a (by omega) fun j hj => by rw [show r + (s - r - 1) + 1 = s by omega]; exact e j hj
  · exact det_eq_rows (r - s - 1) s a (by omega) fun j hj => by rw [show s + (r - s - 1) + 1 = r by omega]; exact (e j hj).symm
theorem sr_self (a : Nat → Nat → Rat) (r : Nat) : sr a r (a r) = a := by
  funext i j; unfold sr
  by_cases z : i = r
  · rw [if_pos z, z]
  · rw [if_neg z]
theorem det_addrow {n r s : Nat} (a : Nat → Nat → Rat) (c : Rat) (hr : r < n) (hs : s < n) (ne : r ≠ s) : det n (sr a r fun j => a r j + c * a s j) = det n a := by
  have z : det n (sr a r (a s)) = 0 := det_same hr hs ne fun j _ => by unfold sr; rw [if_pos rfl, if_neg (Ne.symm ne)]
  rw [det_row n r a (a r) (a s) c hr, sr_self, z]
  grind
theorem det_zcol : ∀ {n : Nat} {a : Nat → Nat → Rat}, 0 < n → (∀ i, i < n → a i 0 = 0) → det n a = 0
  | 0, _, h, _ => absurd h (by omega)
  | n + 1, a, _, h => by
    rw [det_succ, Su_congr (g := fun _ => 0) fun k hk => ?_, Su_zero]
    rcases k with _ | k
    · rw [h 0 (by omega)]; grind
    · have : det n (fun i j => a (i + 1) (sk (k + 1) j)) = 0 := det_zcol (by omega) fun i hi => by
        have : sk (k + 1) 0 = 0 := by unfold sk; rw [if_pos (by omega)]
        rw [this]; exact h (i + 1) (by omega)
      rw [this, Rat.mul_zero]
theorem det_front {n : Nat} {a : Nat → Nat → Rat} (h : ∀ i, 0 < i → i < n + 1 → a i 0 = 0) : det (n + 1) a = a 0 0 * det n (fun i j => a (i + 1) (j + 1)) := by
  rw [det_succ, Su_front, Su_congr (g := fun _ => 0) fun k hk => ?_, Su_zero]
  · have : (fun i j => a (i + 1) (sk 0 j)) = fun i j => a (i + 1) (j + 1) := by funext i j; unfold sk; rw [if_neg (by omega)]
    rw [this]
    show 1 * _ * _ + 0 = _
    grind
  · have : det n (fun i j => a (i + 1) (sk (k + 1) j)) = 0 := det_zcol (by omega) fun i hi => by
      have : sk (k + 1) 0 = 0 := by unfold sk; rw [if_pos (by omega)]
      rw [this]; exact h (i + 1) (by omega) (by omega)
    rw [this, Rat.mul_zero]
def el (a : Nat → Nat → Rat) (c : Nat → Rat) (m : Nat) : Nat → Nat → Rat := fun i j => if 0 < i ∧ i ≤ m then a i j + c i * a 0 j else a i j
def fact : Nat → Nat
  | 0 => 1
  | n + 1 => (n + 1) * fact n
def sch (a : Nat → Nat → Rat) : Nat → Nat → Rat := fun i j => a (i + 1) (j + 1) - a (i + 1) 0 * a 0 (j + 1) / a 0 0
def pv : Nat → (Nat → Nat → Rat) → Rat
  | 0, _ => 1
  | t + 1, a => a 0 0 * pv t (sch a)
end Mt
namespace Mt
def prN (f : Nat → Nat) : Nat → Nat
  | 0 => 1
  | n + 1 => prN f n * f n
theorem prN_bd {f : Nat → Nat} {d : Nat} (h : ∀ j, 0 < f j ∧ f j ≤ 2 ^ d) : ∀ n, 0 < prN f n ∧ prN f n ≤ 2 ^ (d * n)
  | 0 => ⟨Nat.one_pos, Nat.one_le_two_pow⟩
  | n + 1 => by
    have a := prN_bd h n
    refine ⟨Nat.mul_pos a.1 (h n).1, ?_⟩
    rw [prN, Nat.mul_add, Nat.mul_one, Nat.pow_add]
    exact Nat.mul_le_mul a.2 (h n).2
theorem prN_front (f : Nat → Nat) : ∀ n, prN f (n + 1) = f 0 * prN (fun i => f (i + 1)) n
  | 0 => by show 1 * f 0 = f 0 * 1; omega
  | n + 1 => by
    rw [prN, prN_front f n, prN, Nat.mul_assoc]
theorem lat_sg {D N k : Nat} {q : Rat} (h : Lat D N q) : Lat D N (sg k * q) := by
  unfold sg
  split
  · rw [Rat.one_mul]; exact h
  · obtain ⟨m, e, b⟩ := h
    refine ⟨-m, ?_, by rw [Int.natAbs_neg]; exact b⟩
    rw [Rat.intCast_neg, ← e]; grind
theorem lat_Su {D N : Nat} {f : Nat → Rat} : ∀ {m : Nat}, (∀ k, k < m → Lat D N (f k)) → Lat D (m * N) (Su f m)
  | 0, _ => by rw [Su]; exact Lat.zero
  | m + 1, h => by
    rw [Su, Nat.add_mul, Nat.one_mul]
    exact (lat_Su fun k hk => h k (by omega)).add (h m (by omega))
theorem det_term {n N k : Nat} {a : Nat → Nat → Rat} {Dr : Nat → Nat} (hk : Lat (Dr 0) N (a 0 k)) (hd : Lat (prN (fun i => Dr (i + 1)) n) (fact n * N ^ n) (det n (fun i j => a (i + 1) (sk k j)))) :
    Lat (prN Dr (n + 1)) (fact n * N ^ (n + 1)) (sg k * a 0 k * det n (fun i j => a (i + 1) (sk k j))) := by
  have e : fact n * N ^ (n + 1) = N * (fact n * N ^ n) := by rw [Nat.pow_succ]; simp only [Nat.mul_comm, Nat.mul_left_comm, Nat.mul_assoc]
  rw [prN_front, e]
  exact (lat_sg hk).mul hd
theorem det_lat : ∀ {n N : Nat} {a : Nat → Nat → Rat} {Dr : Nat → Nat}, (∀ i, i < n → ∀ j, j < n → Lat (Dr i) N (a i j)) → Lat (prN Dr n) (fact n * N ^ n) (det n a)
  | 0, _, _, _, _ => by show Lat 1 (1 * 1) 1; exact Lat.one
  | n + 1, N, a, Dr, h => by
    rw [det_succ, fact, Nat.mul_assoc]
    exact lat_Su fun k hk => det_term (h 0 (by omega) k hk) (det_lat fun i hi j hj => h (i + 1) (by omega) (sk k j) (by unfold sk; split <;> omega))
theorem sk_list {α : Type} (G : Nat → α) {n k : Nat} (hk : k < n + 1) : ((List.range (n + 1)).map G).take k ++ ((List.range (n + 1)).map G).drop (k + 1) = (List.range n).map fun j => G (sk k j) := by
  refine List.ext_getElem (by simp; omega) fun j h1 h2 => ?_
  have hj : j < n := by simpa using h2
  simp only [List.getElem_map, List.getElem_range]
  unfold sk
  by_cases z : j < k
  · rw [List.getElem_append_left (by simp; omega), if_pos z]
    simp
  · rw [List.getElem_append_right (by simp; omega), if_neg z]
    simp only [List.getElem_drop, List.getElem_map, List.getElem_range, List.length_take, List.length_map, List.length_range]
    congr 1
    omega
end Mt
namespace L2
open PySem PySem.Spec PyProof.Rows
theorem wpAny_newFunctionEnvC {M : Model} {A : Around} {E : Value → Shared → Prop} {s : Shared} {scope : Scope} {globals : Addr} {closure : List (Str × Addr)} {qual : Str} {func : Option Addr} {code : Value} {outer : Env} {builtins : Addr} {Q : Env → Shared → Prop}
    (hQ : Q (newEnv scope s.heap.objs.size globals (cellsFrom (s.heap.objs.size + 1) scope.names closure) qual func code (some outer) builtins) { s with heap := pushCells (s.heap.push { cls := .type "dict", data := .dict #[] }) scope.names }) :
    wpAny M A (newFunctionEnv scope globals closure [] qual func code (some outer) builtins) Q E s := by
  simp only [newFunctionEnv, Option.isSome_some, if_true]
  refine wpAny_bind (wpAny_alloc ?_)
  refine wpAny_bind (wpAny_layCells _ (fun name kind cells => by cases hkc : kind == NameKind.cell <;> simp [hkc]) _ _ _ _ ?_)
  rw [show ({ s with heap := s.heap.push { cls := .type "dict", data := .dict #[] } } : Shared).heap.objs.size = s.heap.objs.size + 1 from Heap.size_push ..]
  rw [List.forIn_nil]
  exact wpAny_bind (wpAny_pure (wpAny_pure hQ))
abbrev Cx.cpC (X : Cx) (k : Str) (Nc : List Str) (scope : Scope) (cl : List (Str × Addr)) (C : Addr) (s₀ : Shared) (H₀ : Hp) (ex : List Addr) (pn : List (Addr × Obj)) : Cx :=
  { X with N := Nc, s₀ := s₀, H₀ := H₀, env := compEnvC scope ((k, C + 1) :: cl) C X.env, outer := X.stack, ex := ex, fn := fun y => y == k, pn := pn, xe := fun _ _ => False }
theorem pe_compC {X : Cx} {k : Str} {elt iter tg : Expr} {scope : Scope} {cl : List (Str × Addr)} {Nc : List Str} {js : List (Option Nat)} {wi : TI} {g : TG} {te : TE} {pos : Pos} (hc : X.calm = true) (hi : PI X tg iter wi)
    (hg : ∀ C s₀ H₀ ex pn, PG (X.cpC k Nc scope cl C s₀ H₀ ex pn) tg g) (he : ∀ C s₀ H₀ ex pn, PE (X.cpC k Nc scope cl C s₀ H₀ ex pn) elt te)
    (hlen : js.length = Nc.length) (hcl1 : ∀ y c, cl.lookup y = some c → X.env.cells.lookup y = some c) (hcl2 : ∀ y, ((relabel scope X.env).names.lookup y = some .cell ∨ (relabel scope X.env).names.lookup y = some .free) → y = k ∨ ∃ c, cl.lookup y = some c)
    (hjs : ∀ (i : Nat) (y : Str) (j : Nat), Nc[i]? = some y → js[i]? = some (some j) → X.N[j]? = some y ∧ Vis X.env.scope y ∧ X.env.kindOf y ≠ some .local ∧ y ≠ k ∧ ((relabel scope X.env).names.lookup y = some .cell ∨ (relabel scope X.env).names.lookup y = some .free) ∧ ∀ c, X.env.cells.lookup y = some c → cl.lookup y = some c)
    (hclos : closureFor scope X.env = pure cl) (hcf : ∀ a acc, cellsFrom a scope.names acc = (k, a) :: acc) (hpc : ∀ h, pushCells h scope.names = h.push { cls := .type "cell", data := .cell none }) (hkind : scope.kind = .function) (hnames : ∀ y ∈ scope.names, y.2 = .local → scope.names.lookup y.1 = some .local)
    (hs : ∀ x, foldedSetIterable iter X.env x = pure x := by intro _; rfl) : PCo X (.ListComp elt [⟨tg, iter, [], 0⟩] scope pos) scope iter (tComp js wi g te) := by
  intro pos0 use QQ pins s σ H Q I h fin
  refine wpAny_comprehension_free (use := use) rfl hs hclos hkind hnames (thn (hi pins s σ H _ I h) fun v s1 h1 => thn h1 fun itv s2 h2 => ?_)
  obtain ⟨it, fp, tn, J, H2, rfl, I2, T, st2, f2, R⟩ := h2
  refine wpAny_newObj_type (wpAny_newFunctionEnvC ?_)
  dsimp only
  rw [hcf, hpc]
  have hns : Heap.Ns (((s2.heap.push { cls := .type "list", dict := none, data := .seq ([] : List Value).toArray }).push { cls := .type "dict", data := .dict #[] }).push { cls := .type "cell", data := .cell none }) (s2.heap.push { cls := .type "list", dict := none, data := .seq ([] : List Value).toArray }).objs.size (fun _ => none) := (Heap.Ns.new (s2.heap.push { cls := .type "list", dict := none, data := .seq ([] : List Value).toArray }) (.type "dict")).keeps (fun b o e => Heap.get?_push_of_some _ e)
  have hold : ∀ b o, (s2.heap.push { cls := .type "list", dict := none, data := .seq ([] : List Value).toArray }).get? b = some o → (((s2.heap.push { cls := .type "list", dict := none, data := .seq ([] : List Value).toArray }).push { cls := .type "dict", data := .dict #[] }).push { cls := .type "cell", data := .cell none }).get? b = some o := fun b o z => Heap.get?_push_of_some _ (Heap.get?_push_of_some _ z)
  have hcel : (((s2.heap.push { cls := .type "list", dict := none, data := .seq ([] : List Value).toArray }).push { cls := .type "dict", data := .dict #[] }).push { cls := .type "cell", data := .cell none }).IsCell ((s2.heap.push { cls := .type "list", dict := none, data := .seq ([] : List Value).toArray }).objs.size + 1) none := by
    rw [← Heap.size_push (s2.heap.push { cls := .type "list", dict := none, data := .seq ([] : List Value).toArray }) { cls := .type "dict", data := .dict #[] }]
    exact ⟨_, Heap.get?_push_size _ rfl, rfl⟩
  generalize ((s2.heap.push { cls := .type "list", dict := none, data := .seq ([] : List Value).toArray }).push { cls := .type "dict", data := .dict #[] }).push { cls := .type "cell", data := .cell none } = h1 at hns hold hcel ⊢
  have hf : H2 s2.heap.objs.size = none := I2.hok.fresh (Nat.le_refl _)
  obtain ⟨W, ⟨m0, w0⟩, turn⟩ := R s2.heap.objs.size hf
  -- D: the list; C: the block's names
  generalize eD : s2.heap.objs.size = D at *
  have I3 : Inv X pins σ (upd H2 D (.lst [])) { s2 with heap := s2.heap.push { cls := .type "list", dict := none, data := .seq ([] : List Value).toArray } } :=
    I2.laid (t' := s2.toks) (fun b u e => Heap.get?_push_of_some _ e) (by rw [eD]; exact Nat.le_refl _) ⟨Nat.zero_le _, [], 0, .nil, by rw [← eD]; exact Heap.get?_push_size _ rfl⟩
  generalize e3 : ({ s2 with heap := s2.heap.push { cls := .type "list", dict := none, data := .seq ([] : List Value).toArray } } : Shared) = s3 at I3
  have hp3 : s2.heap.push { cls := .type "list", dict := none, data := .seq ([] : List Value).toArray } = s3.heap := by rw [← e3]
  rw [hp3] at hns hold hcel ⊢
  generalize eC : s3.heap.objs.size = C at *
  have old : ∀ b o, s3.heap.get? b = some o → h1.get? b = some o := hold
  have lk : ∀ y c, List.lookup y ((k, C + 1) :: cl) = some c → (y = k ∧ c = C + 1) ∨ (y ≠ k ∧ cl.lookup y = some c) := fun y c z => by
    rw [List.lookup_cons] at z
    by_cases q : y = k
    · rw [show (y == k) = true from beq_iff_eq.mpr q] at z
      cases z
      exact .inl ⟨q, rfl⟩
    · rw [show (y == k) = false from beq_eq_false_iff_ne.mpr q] at z
      exact .inr ⟨q, z⟩
  have lo : ∀ y c, cl.lookup y = some c → c < C := fun y c z => by
    obtain ⟨w', o, ho, hd⟩ := I3.cell y c (hcl1 y c z)
    rw [← eC]; exact Heap.lt_size ho
  have fpo : ∀ b ∈ fp, b < D := fun b hb => by
    obtain ⟨o, z, _⟩ := T.obj _ _ st2 b hb
    rw [← eD]; exact Heap.lt_size z
  have eCD : C = D + 1 := by rw [← eC, ← hp3, Heap.size_push, eD]
  have f3 : ∀ b ∈ fp, FpOk X pins (upd H2 D (.lst [])) b := fun b hb => ⟨by rw [upd_ne (Nat.ne_of_lt (fpo b hb))]; exact (f2 b hb).1, (f2 b hb).2⟩
  have okC : (X.cpC k Nc scope cl C s3 (upd H2 D (.lst [])) fp (X.pn ++ pins)).Ok := by
    have ok := I3.ok
    refine ⟨ok.mod, hkind, ok.glob, ok.blt, by rw [eC]; exact Nat.le_refl _, fun x y c a b => ?inj, fun x hx => ?has, fun x c z q => ?cab, ok.hd, ok.frames, .inl rfl, fun b hb => ?_, fun b o z => I3.bs b o z, Nat.le_trans ok.bsz I3.sz, fun b o z hb => ?_, fun b hb hm => ?_, I3.stack, I3.stkFree⟩
    case inj =>
      rcases lk x c a with ⟨e1, e2⟩ | ⟨n1, a'⟩
      · rcases lk y c b with ⟨e3, e4⟩ | ⟨n2, b'⟩
        · rw [e1, e3]
        · have := lo y c b'
          rw [e2] at this
          exact absurd this (Nat.not_lt.mpr (Nat.le_succ C))
      · rcases lk y c b with ⟨e3, e4⟩ | ⟨n2, b'⟩
        · have := lo x c a'
          rw [e4] at this
          exact absurd this (Nat.not_lt.mpr (Nat.le_succ C))
        · exact ok.inj x y c (hcl1 x c a') (hcl1 y c b')
    case has =>
      rcases hcl2 x hx with e | ⟨c, hc'⟩
      · exact ⟨C + 1, by show List.lookup x ((k, C + 1) :: cl) = _; rw [e, List.lookup_cons, show (k == k) = true from beq_iff_eq.mpr rfl]⟩
      · by_cases q : x = k
        · exact ⟨C + 1, by show List.lookup x ((k, C + 1) :: cl) = _; rw [q, List.lookup_cons, show (k == k) = true from beq_iff_eq.mpr rfl]⟩
        · exact ⟨c, by show List.lookup x ((k, C + 1) :: cl) = _; rw [List.lookup_cons, show (x == k) = false from beq_eq_false_iff_ne.mpr q]; exact hc'⟩
    case cab =>
      rcases lk x c q with ⟨e1, e2⟩ | ⟨n1, a'⟩
      · rw [e2, eC]; exact Nat.le_succ C
      · exact absurd (beq_iff_eq.mp z) n1
    · refine ⟨by show b ≠ C; rw [eCD]; exact Nat.ne_of_lt (Nat.lt_succ_of_lt (fpo b hb)), fun x c z => ?_⟩
      rcases lk x c z with ⟨e1, e2⟩ | ⟨n1, a'⟩
      · rw [e2, eCD]; exact Nat.ne_of_gt (Nat.lt_succ_of_lt (Nat.lt_succ_of_lt (fpo b hb)))
      · exact (f3 b hb).2.2.2.2.1 x c (hcl1 x c a')
    · rcases (f3 b hb).2.2.2.1 with y | y
      · exact ok.noex b o z y
      · exact absurd (Nat.lt_of_lt_of_le (Heap.lt_size z) (Nat.le_trans ok.bsz y)) (Nat.lt_irrefl _)
    · rcases List.mem_cons.mp (I3.stkSub b hm) with y | y
      · exact (f3 b hb).2.1 y
      · exact (f3 b hb).2.2.1 y
  have I4 : Inv (X.cpC k Nc scope cl C s3 (upd H2 D (.lst [])) fp (X.pn ++ pins)) [] (cσ js σ) (upd H2 D (.lst [])) { s2 with heap := h1 } := by
    have os3 : s2.os = s3.os := by rw [← e3]
    have fC : upd H2 D (.lst []) C = none := I3.hok.fresh (by rw [eC]; exact Nat.le_refl _)
    refine ⟨okC, os3, I2.bare, Un.kept old, ⟨_, hns, fun i y v e1 e2 e3' => ?_⟩, fun y c z => ?_, fC, fun y c z => ?frc, fun p hp => ?_, I3.hok.kept old, by rw [cσ, List.length_map]; exact hlen⟩
    · unfold cσ at e2
      rw [List.getElem?_map] at e2
      cases ej : js[i]? with
      | none => rw [ej] at e2; cases e2
      | some oj =>
        rw [ej] at e2
        cases oj with
        | none => cases e2
        | some j =>
          obtain ⟨a1, a2, a3, ak, a4, a5⟩ := hjs i y j e1 ej
          have e2' : (σ[j]?).join = some v := Option.some.inj e2
          have e4 : σ[j]? = some (some v) := by
            cases q : σ[j]? with
            | none => rw [q] at e2'; cases e2'
            | some o => rw [q] at e2'; exact congrArg some e2'
          obtain ⟨m, hn, hl⟩ := I3.loc
          obtain ⟨u, r, l⟩ := hl j y v a1 e4 a2
          refine ⟨u, r, .inr ⟨a4, ?_⟩⟩
          rcases l with ⟨kq, _⟩ | ⟨kq, c, z, ⟨o, ho, hd⟩⟩
          · exact absurd kq a3
          · exact ⟨c, by show List.lookup y ((k, C + 1) :: cl) = _; rw [List.lookup_cons, show (y == k) = false from beq_eq_false_iff_ne.mpr ak]; exact a5 c z, o, old _ _ ho, hd⟩
    case frc =>
      rcases lk y c z with ⟨e1, e2⟩ | ⟨n1, a'⟩
      · rw [e2]; exact I3.hok.fresh (by rw [eC]; exact Nat.le_succ C)
      · exact I3.freeC y c (hcl1 y c a')
    · rcases lk y c z with ⟨e1, e2⟩ | ⟨n1, a'⟩
      · rw [e2]; exact ⟨none, hcel⟩
      · obtain ⟨w', o, ho, hd⟩ := I3.cell y c (hcl1 y c a')
        exact ⟨w', o, old _ _ ho, hd⟩
    · have hp' : p ∈ X.pn ++ pins := by
        have z : p ∈ (X.pn ++ pins) ++ [] := hp
        rw [List.append_nil] at z; exact z
      obtain ⟨z, n, ne, nf, d⟩ := I3.pin p hp'
      refine ⟨old _ _ z, n, by rw [← eC]; exact Nat.ne_of_lt (Heap.lt_size z), fun hm => ?_, d⟩
      rcases List.mem_cons.mp (I3.stkSub p.1 hm) with y | y
      · exact ne y
      · exact nf y
  have st4 : tn 0 h1 := T.keep _ _ _ st2 fun b hb o z => old b o (by rw [← hp3]; exact Heap.get?_push_of_some _ z)
  have stat : ∀ {H' : Hp}, (∀ b ∈ fp, H' b = none) → ∀ b ∈ fp, FpOk (X.cpC k Nc scope cl C s3 (upd H2 D (.lst [])) fp (X.pn ++ pins)) [] H' b := fun hn b hb =>
    ⟨hn b hb, (okC.exf b hb).1, okC.exfs b hb, .inl hb, (okC.exf b hb).2 |> fun q x c z => q x c z, fun p hp => (f3 b hb).2.2.2.2.2 p (by
      have z : p ∈ (X.pn ++ pins) ++ [] := hp
      rw [List.append_nil] at z; exact z)⟩
  have loop : codeAny (model X.prog X.w) X.A (.compLoop (.ListComp elt [⟨tg, iter, [], 0⟩] scope pos) 0 (.ref it) (.ref D) (compEnvC scope ((k, C + 1) :: cl) C X.env)) (compPost (model X.prog X.w) X.A X.xe use QQ (.ref D) C) { s2 with heap := h1 } := by
    refine comp_loop (fun n s' => ∃ i ys σc H', Inv (X.cpC k Nc scope cl C s3 (upd H2 D (.lst [])) fp (X.pn ++ pins)) [] σc H' s' ∧ tn i s'.heap ∧ (∀ b ∈ fp, H' b = none) ∧ W i n ys σc H') ?_ m0 ⟨0, [], _, _, I4, st4, fun b hb => (f3 b hb).1, w0⟩
    rintro n s5 ⟨i, ys, σ5, H5, I5, st5, fr5, w5⟩
    rcases turn i n ys σ5 H5 w5 with ⟨hD, stop, qn⟩ | ⟨go, step⟩
    · refine thn (T.done (X.cpC k Nc scope cl C s3 (upd H2 D (.lst [])) fp (X.pn ++ pins)) rfl rfl rfl hc i [] s5 σ5 H5 _ I5 (stat fr5) st5 stop) fun r s6 ⟨hr, I6⟩ => ?_
      subst hr
      obtain ⟨mC, hnC, _⟩ := id I6.loc
      have I7 : Inv X pins σ H5 s6 := I3.call' (ch := fp) I6.os I6.base I6.hok I6.bare fun b hb => ⟨(f3 b hb).2.2.2.1, (f3 b hb).2.1, (f3 b hb).2.2.2.2.1, (f3 b hb).2.2.2.2.2⟩
      have nC : s3.heap.objs.size ≤ C := by rw [eC]; exact Nat.le_refl _
      exact fin D C H5 s6 mC I7 hnC (I3.fpOk nC I6.free) qn
    · refine thn (T.item (X.cpC k Nc scope cl C s3 (upd H2 D (.lst [])) fp (X.pn ++ pins)) rfl rfl rfl hc i [] s5 σ5 H5 _ I5 (stat fr5) st5 go) fun r s6 ⟨u, hr, h6⟩ => ?_
      subst hr
      refine thn h6 fun _ s7 ⟨x, H7, I7, r7, y7, st7, fr7⟩ => ?_
      have I7' := I7.pinned (stat fr7) (T.obj _ _ st7)
      refine thn (hg C s3 _ fp _ _ s7 σ5 H7 x u _ I7' r7 (step x H7 y7)) fun _ s8 ⟨σ8, H8, I8, q8⟩ => ?_
      refine thn (he C s3 _ fp _ _ s8 σ8 H8 _ I8 q8) fun v9 s9 ⟨y9, H9, I9, r9, hD9, hz9, m9, lt9, w9⟩ => ?_
      refine thn (mt_append (X := X.cpC k Nc scope cl C s3 (upd H2 D (.lst [])) fp (X.pn ++ pins)) _ s9 σ8 H9 (.ref D) [y9] (.ref D) [v9] (fun _ H10 => H10 = upd H9 D (.lst (ys ++ [y9]))) I9 rfl (.cons r9 .nil) ⟨D, ys, y9, rfl, rfl, hD9, hz9, rfl⟩) fun v10 s10 ⟨_, H10, I10, _, e10⟩ => ?_
      subst e10
      refine ⟨m9, lt9, i + 1, ys ++ [y9], σ8, _, I10.unpinned, T.keep _ _ _ st7 fun b hb o z => (I10.pin (b, o) (List.mem_append_right _ (List.mem_append_right _ (mem_pinsAt hb z)))).1, fun b hb => ?_, w9⟩
      obtain ⟨o, z, d⟩ := T.obj _ _ st7 b hb
      exact (I10.pin (b, o) (List.mem_append_right _ (List.mem_append_right _ (mem_pinsAt hb z)))).2.1
  exact codeAny_compStart_list loop (T.self X.A 0 _ _ _ st4 loop)
theorem pe_compCN {X : Cx} {elt iter tg : Expr} {scope : Scope} (k : Str) (fr : List (Str × Nat × Addr)) {wi : TI} {g : TG} {te : TE} {pos : Pos} (hc : X.calm = true) (hi : PI X tg iter wi)
    (hg : ∀ C s₀ H₀ ex pn, PG (X.cpC k ([k] ++ fr.map (·.1)) scope (fr.map fun p => (p.1, p.2.2)) C s₀ H₀ ex pn) tg g)
    (he : ∀ C s₀ H₀ ex pn, PE (X.cpC k ([k] ++ fr.map (·.1)) scope (fr.map fun p => (p.1, p.2.2)) C s₀ H₀ ex pn) elt te)
    (hclos : closureFor scope X.env = pure (fr.map fun p => (p.1, p.2.2))) (hall : FrOk X scope fr)
    (nd : (fr.map (·.1)).Nodup) (h1 : ∀ p ∈ scope.names, p.2 = .free → p.1 ∈ fr.map (·.1)) (h2 : ∀ p ∈ scope.names, p.2 = .cell → p.1 = k) (hkf : k ∉ fr.map (·.1))
    (hcf : ∀ a acc, cellsFrom a scope.names acc = (k, a) :: acc) (hpc : ∀ h, pushCells h scope.names = h.push { cls := .type "cell", data := .cell none }) (hkind : scope.kind = .function := by rfl)
    (hnames : ∀ y ∈ scope.names, y.2 = .local → scope.names.lookup y.1 = some .local := by decide +kernel)
    (hs : ∀ x, foldedSetIterable iter X.env x = pure x := by intro _; rfl) : PCo X (.ListComp elt [⟨tg, iter, [], 0⟩] scope pos) scope iter (tComp ([none] ++ fr.map fun p => some p.2.1) wi g te) := by
  refine pe_compC (k := k) (cl := fr.map fun p => (p.1, p.2.2)) (Nc := [k] ++ fr.map (·.1)) hc hi hg he (by simp) (fun z d h => ?_) (fun z h => ?_) (fun i z j' e1 e2 => ?_) hclos hcf hpc hkind hnames hs
  · obtain ⟨p, hp, rfl, rfl⟩ := look_fr h
    exact (hall.mem p hp).1
  · have m : ∃ q, (z, q) ∈ scope.names ∧ (q = .free ∨ q = .cell) := by
      have mm : ∀ q', (relabel scope X.env).names.lookup z = some q' → ∃ q, (z, q) ∈ scope.names ∧ (q = q' ∨ (q = .free ∧ q' = .cell)) := fun q' hq => by
        have := PySem.mem_of_lookup hq
        obtain ⟨⟨n0, k0⟩, hm, e⟩ := List.mem_map.mp this
        dsimp only at e
        split at e
        · rename_i hh
          cases e
          refine ⟨k0, hm, .inr ⟨?_, rfl⟩⟩
          simp at hh
          exact hh.1.1
        · cases e
          exact ⟨_, hm, .inl rfl⟩
      rcases h with h | h
      · obtain ⟨q, hm, e | ⟨e, _⟩⟩ := mm _ h
        · exact ⟨q, hm, .inr e⟩
        · exact ⟨q, hm, .inl e⟩
      · obtain ⟨q, hm, e | ⟨e, _⟩⟩ := mm _ h
        · exact ⟨q, hm, .inl e⟩
        · exact ⟨q, hm, .inl e⟩
    obtain ⟨q, hm, e | e⟩ := m
    · right
      obtain ⟨p, hp, e'⟩ := List.mem_map.mp (h1 _ hm e)
      have e' : p.1 = z := e'
      subst e'
      exact ⟨p.2.2, look_self nd p hp⟩
    · left
      exact h2 _ hm e
  · rcases i with _ | i
    · cases e2
    · have e1 : (fr.map (·.1))[i]? = some z := e1
      have e2 : (fr.map fun p => some p.2.1)[i]? = some (some j') := e2
      rw [List.getElem?_map] at e1 e2
      cases q : fr[i]? with
      | none => rw [q] at e1; cases e1
      | some p =>
        rw [q] at e1 e2
        have hp : p ∈ fr := List.mem_of_getElem? q
        have e1 : p.1 = z := by simpa using e1
        have e2 : p.2.1 = j' := by simpa using e2
        subst e1 e2
        obtain ⟨a1, a2, a3, a4⟩ := hall.mem p hp
        exact ⟨a2, .inr (.inl a3), by rw [a3]; exact (fun q => nomatch q), fun e => hkf (by rw [← e]; exact List.mem_map.mpr ⟨p, hp, rfl⟩), .inl a4, fun d h => by rw [a1] at h; cases h; exact look_self nd p hp⟩
end L2
namespace Mt
theorem det_addrows {n r : Nat} (a : Nat → Nat → Rat) (c : Nat → Rat) (hr : r < n) : ∀ m, m ≤ r → det n (sr a r fun j => a r j + Su (fun l => c l * a l j) m) = det n a
  | 0, _ => by
    have e : (fun j => a r j + Su (fun l => c l * a l j) 0) = a r := by funext j; rw [Su]; grind
    rw [e, sr_self]
  | m + 1, h => by
    rw [← det_addrows a c hr m (by omega), ← det_addrow (sr a r fun j => a r j + Su (fun l => c l * a l j) m) (c m) (r := r) (s := m) hr (by omega) (by omega)]
    refine det_congr fun i _ j _ => ?_
    unfold sr
    by_cases z : i = r
    · rw [if_pos z, if_pos z]
      dsimp only
      rw [if_pos rfl, if_neg (show ¬ m = r by omega), Su]
      grind
    · rw [if_neg z, if_neg z, if_neg z]
theorem det_tri {n : Nat} {a b : Nat → Nat → Rat} {T : Nat → Nat → Rat} (h : ∀ i, i < n → ∀ j, j < n → b i j = a i j + Su (fun l => T i l * a l j) i) : det n b = det n a := by
  have key : ∀ t, t ≤ n → det n (fun i j => if i < t then a i j else b i j) = det n b := fun t => by
    induction t with
    | zero => intro _; exact det_congr fun i _ j _ => by rw [if_neg (by omega)]
    | succ t ih =>
      intro ht
      rw [← ih (by omega), ← det_addrows (fun i j => if i < t + 1 then a i j else b i j) (T t) (r := t) (by omega) t (Nat.le_refl _)]
      refine det_congr fun i hi j hj => ?_
      unfold sr
      by_cases z : i = t
      · subst z
        rw [if_pos rfl, if_neg (show ¬ i < i by omega), h i hi j hj]
        dsimp only
        rw [if_pos (show i < i + 1 by omega)]
        congr 1
        exact Su_congr fun l hl => by rw [if_pos (show l < i + 1 by omega)]
      · rw [if_neg z]
        dsimp only
        by_cases y : i < t
        · rw [if_pos y, if_pos (by omega)]
        · rw [if_neg y, if_neg (by omega)]
  rw [← key n (Nat.le_refl _)]
  exact det_congr fun i hi j _ => by rw [if_pos hi]
def prF (f : Nat → Rat) : Nat → Rat
  | 0 => 1
  | n + 1 => prF f n * f n
theorem prF_front (f : Nat → Rat) : ∀ n, prF f (n + 1) = f 0 * prF (fun i => f (i + 1)) n
  | 0 => by show 1 * f 0 = f 0 * 1; grind
  | n + 1 => by rw [prF, prF_front f n, prF, Rat.mul_assoc]
theorem det_upper : ∀ {n : Nat} {b : Nat → Nat → Rat}, (∀ i, i < n → ∀ j, j < i → b i j = 0) → det n b = prF (fun i => b i i) n
  | 0, _, _ => rfl
  | n + 1, b, h => by
    rw [det_front fun i h0 hi => h i hi 0 h0, prF_front, det_upper fun i hi j hj => h (i + 1) (by omega) (j + 1) (by omega)]
theorem hankel {ms : List Rat} {p : Nat → List Rat} {n : Nat} (hp : ∀ i, i < n → Mo ms (p i) i) : det n (fun i j => cf ms (i + j)) = prF (fun i => lf ms (p i) i) n := by
  have e : det n (fun i j => lf ms (p i) j) = det n (fun i j => cf ms (i + j)) := det_tri (T := fun i l => cf (p i) l) fun i hi j _ => by
    rw [← (hp i hi).su j (show i < i + 1 by omega), Su, (hp i hi).top, Rat.one_mul, Rat.add_comm]
  rw [← e, det_upper fun i hi j hj => (hp i hi).orth j hj]
theorem prF_congr {f g : Nat → Rat} : ∀ {n : Nat}, (∀ i, i < n → f i = g i) → prF f n = prF g n
  | 0, _ => rfl
  | n + 1, h => by rw [prF, prF, prF_congr fun i hi => h i (by omega), h n (by omega)]
end Mt
namespace Mt
theorem told_back {ms L D : List Rat} {k : Nat} (hP : ∀ i, i ≤ k → lf ms (rp L D i) i = pr (cf D) 0 i) (hS : ∀ i, i ≤ k → lf ms (rp L D i) (i + 1) = Su (cf L) (i + 1) * pr (cf D) 0 i) :
    ∀ n, n < 2 * k + 2 → cf ms n = mu L D (k + 1) n := by
  intro n
  induction n using Nat.strongRecOn with
  | _ n ih =>
    intro hn
    obtain ⟨i, l, e, h, hi⟩ : ∃ i l, i + l = n ∧ (l = i ∨ l = i + 1) ∧ i ≤ k := ⟨n / 2, n - n / 2, by omega, by omega, by omega⟩
    have e1 : lf ms (rp L D i) l = Lx L D (k + 1) (rp L D i) l := by
      rcases h with h | h
      · rw [h, hP i hi, back_prod (by omega)]
      · rw [h, hS i hi, back_sum (by omega)]
    unfold lf Lx at e1
    rw [rp_len, Su, Su, (rp_top L D i).1] at e1
    have e2 : Su (fun j => cf (rp L D i) j * cf ms (j + l)) i = Su (fun j => cf (rp L D i) j * mu L D (k + 1) (j + l)) i := Su_congr fun j hj => by rw [ih (j + l) (by omega) (by omega)]
    rw [e2, e] at e1
    grind
theorem nx_rp (L D : List Rat) (i : Nat) : nx2 (cf L i) (cf (1 :: D) i) (rp L D i) (if i = 0 then [] else rp L D (i - 1)) = rp L D (i + 1) := by
  rcases i with _ | i
  · rw [if_pos rfl]
    refine (NZ_nx2 _ _ _ _).ext (NZ_rp L D 1) fun k => ?_
    show _ = cf (nx2 (cf L 0) 0 [1] []) k
    rw [cf_nx2, cf_nx2, cf_nil]
    show _ = sh [1] 1 k - cf L 0 * cf [1] k - 0 * 0
    rw [Rat.mul_zero, Rat.mul_zero]
    rfl
  · rw [if_neg (by omega), cf_succ, Nat.add_sub_cancel]
    rfl
theorem told_rp {L D : List Rat} {p : Nat → List Rat} {k : Nat} (h0 : p 0 = [1]) (hs : ∀ j, j < k → p (j + 1) = nx2 (cf L j) (cf (1 :: D) j) (p j) (if j = 0 then [] else p (j - 1))) : ∀ j, j ≤ k → p j = rp L D j := by
  intro j
  induction j using Nat.strongRecOn with
  | _ j ih =>
    intro hj
    rcases j with _ | j
    · exact h0
    · rw [hs j (by omega), ih j (by omega) (by omega), ← nx_rp L D j]
      congr 1
      by_cases z : j = 0
      · rw [if_pos z, if_pos z]
      · rw [if_neg z, if_neg z, ih (j - 1) (by omega) (by omega)]
theorem prF_cons (d : Rat) (D : List Rat) : ∀ j, prF (cf (d :: D)) (j + 1) = d * pr (cf D) 0 j
  | 0 => by show 1 * cf (d :: D) 0 = d * 1; rw [cf_zero]; grind
  | j + 1 => by
    rw [prF, prF_cons d D j, pr, cf_succ, Nat.zero_add]
    grind
theorem told_all {ms L D : List Rat} {p : Nat → List Rat} {k : Nat} (h0 : p 0 = [1]) (hs : ∀ j, j < k + 1 → p (j + 1) = nx2 (cf L j) (cf (1 :: D) j) (p j) (if j = 0 then [] else p (j - 1)))
    (hP : ∀ j, j ≤ k → lf ms (p j) j = prF (cf (1 :: D)) (j + 1)) (hS : ∀ j, j ≤ k → lf ms (p j) (j + 1) = Su (cf L) (j + 1) * lf ms (p j) j) : ∀ n, n < 2 * k + 2 → cf ms n = mu L D (k + 1) n := by
  have e := told_rp h0 hs
  have hP' : ∀ j, j ≤ k → lf ms (rp L D j) j = pr (cf D) 0 j := fun j hj => by
    rw [← e j (by omega), hP j hj, prF_cons, Rat.one_mul]
  refine told_back hP' fun j hj => ?_
  have := hS j hj
  rw [e j (by omega), hP' j hj] at this
  exact this
end Mt
namespace Mt
theorem mu_next {L D : List Rat} {T : Nat} (hT : 0 < T) (n : Nat) : mu L D T (T + n) = -Su (fun j => cf (rp L D T) j * mu L D T (j + n)) T := by
  have h := Lx_rp (L := L) (D := D) hT T n (Nat.le_refl _)
  have z : smz L D T 0 n T = 0 := by unfold smz; rw [if_neg (Nat.lt_irrefl T)]
  rw [z, Rat.zero_mul] at h
  unfold Lx at h
  rw [rp_len, Su, (rp_top L D T).1, Rat.one_mul] at h
  grind
theorem further {L D : List Rat} {T A B : Nat} {c : Nat → Int} {d0 : Int} (hT : 0 < T) (hB : 0 < B) (hc : ∀ j, j ≤ T → cf (rp L D T) j * (c T : Rat) = (c j : Rat)) (bc : ∀ j, (c j).natAbs ≤ B)
    (h0 : ∀ m, m < 2 * T → ∃ z : Int, mu L D T m * (d0 : Rat) = (z : Rat) ∧ z.natAbs ≤ A) :
    ∀ r m, m < 2 * T + r → ∃ z : Int, mu L D T m * ((d0 * c T ^ r : Int) : Rat) = (z : Rat) ∧ z.natAbs ≤ A * (T * B) ^ r
  | 0, m, hm => by
    obtain ⟨z, e, b⟩ := h0 m hm
    exact ⟨z, by rw [Int.pow_zero, Int.mul_one]; exact e, by rw [Nat.pow_zero, Nat.mul_one]; exact b⟩
  | r + 1, m, hm => by
    have ih := further hT hB hc bc h0 r
    have up : A * (T * B) ^ (r + 1) = A * (T * B) ^ r * (T * B) := by rw [Nat.pow_succ, Nat.mul_assoc]
    have ec : ((d0 * c T ^ (r + 1) : Int) : Rat) = ((d0 * c T ^ r : Int) : Rat) * (c T : Rat) := by rw [Int.pow_succ, ← Int.mul_assoc, Rat.intCast_mul]
    rcases Nat.lt_or_ge m (2 * T + r) with y | y
    · obtain ⟨z, e, b⟩ := ih m y
      refine ⟨z * c T, by rw [ec, ← Rat.mul_assoc, e, Rat.intCast_mul], ?_⟩
      rw [Int.natAbs_mul, up]
      exact Nat.mul_le_mul b (Nat.le_trans (bc T) (Nat.le_mul_of_pos_left _ hT))
    · obtain rfl : m = 2 * T + r := by omega
      have ch : ∀ j, ∃ z : Int, (j < T → mu L D T (j + (T + r)) * ((d0 * c T ^ r : Int) : Rat) = (z : Rat)) ∧ z.natAbs ≤ A * (T * B) ^ r := fun j => by
        by_cases hj : j < T
        · obtain ⟨z, e, b⟩ := ih (j + (T + r)) (by omega)
          exact ⟨z, fun _ => e, b⟩
        · exact ⟨0, fun q => absurd q hj, Nat.zero_le _⟩
      obtain ⟨Z, hz⟩ : ∃ Z : Nat → Int, ∀ j, (j < T → mu L D T (j + (T + r)) * ((d0 * c T ^ r : Int) : Rat) = (Z j : Rat)) ∧ (Z j).natAbs ≤ A * (T * B) ^ r := ⟨fun j => Classical.choose (ch j), fun j => Classical.choose_spec (ch j)⟩
      refine ⟨-sI (fun j => c j * Z j) T, ?_, ?_⟩
      · rw [show 2 * T + r = T + (T + r) by omega, mu_next hT, ec, Rat.intCast_neg, ← su_sI (f := fun j => cf (rp L D T) j * mu L D T (j + (T + r)) * (((d0 * c T ^ r : Int) : Rat) * (c T : Rat))) fun j hj => ?_, Su_mul]
        · grind
        · rw [Rat.intCast_mul (c j) (Z j), ← (hz j).1 hj, ← hc j (by omega)]; grind
      · rw [Int.natAbs_neg, up]
        refine Nat.le_trans (sI_bd (N := B * (A * (T * B) ^ r)) (fun j => ?_) T) ?_
        · rw [Int.natAbs_mul]; exact Nat.mul_le_mul (bc j) (hz j).2
        · rw [← Nat.mul_assoc, Nat.mul_comm]
          exact Nat.le_refl _
end Mt
namespace Mt
theorem lf_lx {ms L D : List Rat} {T h l : Nat} (hm : ∀ n, n < 2 * T → cf ms n = mu L D T n) (hl : h + l < 2 * T) : lf ms (rp L D h) l = Lx L D T (rp L D h) l := by
  unfold lf Lx
  refine Su_congr fun n hn => ?_
  rw [rp_len] at hn
  rw [hm (n + l) (by omega)]
theorem lf_pr {ms L D : List Rat} {T h : Nat} (hm : ∀ n, n < 2 * T → cf ms n = mu L D T n) (hh : h < T) : lf ms (rp L D h) h = pr (cf D) 0 h := by
  rw [lf_lx hm (by omega), Lx_rp (by omega) h h (by omega), smz_up hh, Rat.one_mul]
theorem sums_small {ms L D : List Rat} {T A B : Nat} {d0 : Int} {M : Nat → Int} (hp : ∀ j, j ≤ T → Mo ms (rp L D j) j) (nz : ∀ j, j < T → lf ms (rp L D j) j ≠ 0) (hm : ∀ n, n < 2 * T → cf ms n = mu L D T n)
    (hd : d0 ≠ 0) (hA : 0 < A) (hM : ∀ n, cf ms n * (d0 : Rat) = (M n : Rat)) (bM : ∀ n, (M n).natAbs ≤ A) (hB : (2 * (T + 1) * A) ^ T ≤ B) {n h : Nat} (hn : n < 2 * T) (hh : h < T) :
    ∃ t b : Int, b ≠ 0 ∧ sm (cf L) (cf D) T 0 n h * (b : Rat) = (t : Rat) ∧ t.natAbs ≤ T * (B * (A * (T * B) ^ (T - 1))) ∧ b.natAbs ≤ T * (A * B) * B ^ (T - 1) := by
  have hT : 0 < T := by omega
  have B0 : 0 < B := Nat.lt_of_lt_of_le (Nat.pow_pos (Nat.mul_pos (by omega) hA)) hB
  obtain ⟨c, c0, cb, ce, _⟩ := Mo.small (r := rp L D T) (fun j hj => hp j (by omega)) nz (hp T (Nat.le_refl _)) hd hA hM bM
  obtain ⟨e, e0, eb, ee, el⟩ := Mo.small (r := rp L D h) (fun j hj => hp j (by omega)) (fun j hj => nz j (by omega)) (hp h (by omega)) hd hA hM bM
  have cB : ∀ j, (c j).natAbs ≤ B := fun j => Nat.le_trans (cb j) hB
  have eB : ∀ j, (e j).natAbs ≤ B := fun j => Nat.le_trans (eb j) (Nat.le_trans (Nat.le_trans (Nat.pow_le_pow_left (Nat.mul_le_mul_right A (by omega)) h) (Nat.pow_le_pow_right (Nat.mul_pos (by omega) hA) (by omega))) hB)
  have fu := further (A := A) (d0 := d0) hT B0 ce cB (fun m hm' => ⟨M m, by rw [← hm m hm']; exact hM m, bM m⟩) (T - 1)
  have ch : ∀ j, ∃ z : Int, (j < h + 1 → mu L D T (j + n) * ((d0 * c T ^ (T - 1) : Int) : Rat) = (z : Rat)) ∧ z.natAbs ≤ A * (T * B) ^ (T - 1) := fun j => by
    by_cases hj : j < h + 1
    · obtain ⟨z, e, b⟩ := fu (j + n) (by omega)
      exact ⟨z, fun _ => e, b⟩
    · exact ⟨0, fun q => absurd q hj, Nat.zero_le _⟩
  obtain ⟨Z, hz⟩ : ∃ Z : Nat → Int, ∀ j, (j < h + 1 → mu L D T (j + n) * ((d0 * c T ^ (T - 1) : Int) : Rat) = (Z j : Rat)) ∧ (Z j).natAbs ≤ A * (T * B) ^ (T - 1) := ⟨fun j => Classical.choose (ch j), fun j => Classical.choose_spec (ch j)⟩
  have d0' : (d0 : Rat) ≠ 0 := fun z => hd (by exact_mod_cast z)
  have e0' : (e h : Rat) ≠ 0 := fun z => e0 (by exact_mod_cast z)
  have Y := el h
  have lp := lf_pr hm hh
  have y0 : sI (fun j => M (j + h) * e j) (h + 1) ≠ 0 := fun z => by
    rw [z, Rat.intCast_mul] at Y
    rcases Rat.mul_eq_zero.mp Y with y | y
    · exact nz h hh y
    · exact (Rat.mul_eq_zero.mp y).elim e0' d0'
  have cp : c T ^ (T - 1) ≠ 0 := Int.pow_ne_zero c0
  have lx := Lx_rp (L := L) (D := D) hT h n (by omega)
  unfold smz at lx
  rw [if_pos hh] at lx
  have x1 : Lx L D T (rp L D h) n * ((e h : Rat) * ((d0 * c T ^ (T - 1) : Int) : Rat)) = ((sI (fun j => e j * Z j) (h + 1) : Int) : Rat) := by
    unfold Lx
    rw [← Su_mul, rp_len]
    refine su_sI fun j hj => ?_
    rw [Rat.intCast_mul (e j) (Z j), ← (hz j).1 hj, ← ee j (by omega)]
    grind
  refine ⟨sI (fun j => e j * Z j) (h + 1), sI (fun j => M (j + h) * e j) (h + 1) * c T ^ (T - 1), Int.mul_ne_zero y0 cp, ?_, ?_, ?_⟩
  · rw [← x1, lx, ← lp, Rat.intCast_mul, ← Y, Rat.intCast_mul, Rat.intCast_mul]
    grind
  · refine Nat.le_trans (sI_bd (N := B * (A * (T * B) ^ (T - 1))) (fun j => ?_) (h + 1)) (Nat.mul_le_mul_right _ (by omega))
    rw [Int.natAbs_mul]
    exact Nat.mul_le_mul (eB j) (hz j).2
  · rw [Int.natAbs_mul, Int.natAbs_pow]
    refine Nat.mul_le_mul ?_ (Nat.pow_le_pow_left (cB T) _)
    refine Nat.le_trans (sI_bd (N := A * B) (fun j => ?_) (h + 1)) (Nat.mul_le_mul_right _ (by omega))
    rw [Int.natAbs_mul]
    exact Nat.mul_le_mul (bM _) (eB j)
theorem sums_same {ms L D L0 D0 : List Rat} {T : Nat} (hp : ∀ j, j ≤ T → Mo ms (rp L D j) j) (hp0 : ∀ j, j ≤ T → Mo ms (rp L0 D0 j) j) (nz : ∀ j, j < T → lf ms (rp L D j) j ≠ 0)
    (hm : ∀ n, n < 2 * T → cf ms n = mu L D T n) (hm0 : ∀ n, n < 2 * T → cf ms n = mu L0 D0 T n) {n h : Nat} (hh : h < T) : sm (cf L) (cf D) T 0 n h = sm (cf L0) (cf D0) T 0 n h := by
  have hT : 0 < T := by omega
  have er : ∀ j, j ≤ T → rp L D j = rp L0 D0 j := fun j hj => Mo.eq (fun i hi => hp i (by omega)) (fun i hi => nz i (by omega)) (hp j hj) (hp0 j hj)
  have em : ∀ m, mu L D T m = mu L0 D0 T m := fun m => by
    induction m using Nat.strongRecOn with
    | _ m ih =>
      rcases Nat.lt_or_ge m (2 * T) with y | y
      · rw [← hm m y, hm0 m y]
      · obtain ⟨l, rfl⟩ : ∃ l, m = T + l := ⟨m - T, by omega⟩
        rw [mu_next hT, mu_next hT, er T (Nat.le_refl _)]
        congr 1
        exact Su_congr fun j hj => by rw [ih (j + l) (by omega)]
  have e1 := Lx_rp (L := L) (D := D) hT h n (by omega)
  have e2 := Lx_rp (L := L0) (D := D0) hT h n (by omega)
  have e3 : Lx L D T (rp L D h) n = Lx L0 D0 T (rp L0 D0 h) n := by
    unfold Lx
    rw [er h (by omega)]
    exact Su_congr fun j _ => by rw [em]
  unfold smz at e1 e2
  rw [if_pos hh] at e1 e2
  have p1 := lf_pr hm hh
  have p2 := lf_pr hm0 hh
  have z := nz h hh
  rw [er h (by omega)] at p1 z
  rw [p2] at p1 z
  rw [e1, e2, ← p1] at e3
  have k1 : (sm (cf L) (cf D) T 0 n h - sm (cf L0) (cf D0) T 0 n h) * pr (cf D0) 0 h = 0 := by grind
  have := (Rat.mul_eq_zero.mp k1).resolve_right z
  grind
end Mt
namespace L2
open PySem PySem.Spec PyProof.Rows
section
variable {X : Cx}
theorem op_inFT (hu : X.A.units + 64 < cLine) : OpR X (compareOp .In) (rInFT X.K false) := by
  intro pins s σ H x y v u Q I rx ry h
  obtain ⟨p, l, xs, f, q, rfl, rfl, hl, hf, hp, k⟩ := h
  cases rx
  cases ry
  obtain ⟨its, r, pl, hz⟩ := I.tuple hl
  refine SeqAt.in_tupleAt (isFr X.K H q) pl (fun w hw => frs_eqAt I _ (by show X.A.units + 1 + 2 < cLine; omega) hp hf r w (by simpa using hw)) ⟨.bl _, H, I, rfl, ?_⟩
  rw [show its.toArray.any (isFr X.K H q) = its.any (isFr X.K H q) by simp, any_frs I hf r]
  exact k
end
end L2
namespace K26
open PySem L2
theorem cx_K {CX : CXT} {P : Program} {w : World} {K : PySem.W.Frag} {mg : Str → Option Value} {base : Heap} {N : List Str} {qual : Str} {scope : Scope} {f : Addr} {cd : Value} {A : Around} {outer : List Env} {s : Shared} {H : Hp} {E : XK} : (cxOf CX P w K mg base N qual scope f cd A outer s H E).K = K := rfl
theorem cxU_K {CX : CXT} {P : Program} {w : World} {K : PySem.W.Frag} {mg : Str → Option Value} {base : Heap} {N : List Str} {qual : Str} {scope : Scope} {f : Addr} {cd : Value} {A : Around} {outer : List Env} {s : Shared} {H : Hp} {E : XK} : (cxU CX P w K mg base N qual scope f cd A outer s H E).K = K := rfl
local macro_rules | `(tactic| walk_at "rd") => `(tactic| simp [tSeq, tIfS, tTest, tB, tOp, rI, rI0, rEq, rNe, scal, tVar, tC, tCB, tCons, tNil, tNext, tRet, tRetN, L2.start, rIxL, rIxT, rFqI, tAsg, gName, tUn, rU, tNot, tNotV, tAnd, tOr, tAndV, tOrV, tIf, tTup, tLst, tCall, tCallS, tDrop, tForR, tForT, tForL, tForE, tForV, gTup, gCons, gNil, gSub, rSetL, tRaise, tTry, tH, Ends.gone, cσ, CPow, tCoR, tCoL, tCoT, tCoX, tForX, tExcInit, tFs, sXset, tXget, tRaiseI, tJoinRev, tChain, rAll, tHno, cx_K, cxU_K, rIn, tSl, tNoPart, tPart, rAppend, tBM, tForR2, tBM0, rClear, rReverse, tPar, tVs, tCoZ, tCoRH, tHE, tListRev, tForZ, tForVL, tForZL, tForK, tForD, sDPut, tDGet2, tDNewK, tDisp, tPairs, tCoLI, tCoRI, tCoKI, tAugS, ipI, rRep, tBreak])
def top (i : Nat) : Stmt := PySem.Challenge.pw_heightfractions_k26_no_moments.main.body.getD i (.Pass ⟨0, 0, 0, 0⟩)
structure Tx (w : World) (K : PySem.W.Frag) (mg : Str → Option Value) (C_HeightError : Addr) (C_NOUGHT : Addr) (C_NoCount : Addr) (C_NoFamily : Addr) (C_NoFraction : Addr) (C_NoHistory : Addr) (C_NoLine : Addr) (C_NoMeeting : Addr) (C_NoMoments : Addr) (C_NoName : Addr) (C_NoNumber : Addr) (C_NoSeries : Addr) (C_NoText : Addr) (C_NoThing : Addr) (C_NoWay : Addr) (C_NoWeights : Addr) (C_ONE : Addr) (C_TooFar : Addr) (C_TooHigh : Addr) (C_TooMany : Addr) : Prop where
  b_ValueError : mg "ValueError" = none
  b_abs : mg "abs" = none
  b_all : mg "all" = none
  b_bool : mg "bool" = none
  b_enumerate : mg "enumerate" = none
  b_int : mg "int" = none
  b_isinstance : mg "isinstance" = none
  b_len : mg "len" = none
  b_list : mg "list" = none
  b_max : mg "max" = none
  b_min : mg "min" = none
  b_range : mg "range" = none
  b_tuple : mg "tuple" = none
  m_HeightError : mg "HeightError" = some (.ref C_HeightError)
  m_NOUGHT : mg "NOUGHT" = some (.ref C_NOUGHT)
  m_NoCount : mg "NoCount" = some (.ref C_NoCount)
  m_NoFamily : mg "NoFamily" = some (.ref C_NoFamily)
  m_NoFraction : mg "NoFraction" = some (.ref C_NoFraction)
  m_NoHistory : mg "NoHistory" = some (.ref C_NoHistory)
  m_NoLine : mg "NoLine" = some (.ref C_NoLine)
  m_NoMeeting : mg "NoMeeting" = some (.ref C_NoMeeting)
  m_NoMoments : mg "NoMoments" = some (.ref C_NoMoments)
  m_NoName : mg "NoName" = some (.ref C_NoName)
  m_NoNumber : mg "NoNumber" = some (.ref C_NoNumber)
  m_NoSeries : mg "NoSeries" = some (.ref C_NoSeries)
  m_NoText : mg "NoText" = some (.ref C_NoText)
  m_NoThing : mg "NoThing" = some (.ref C_NoThing)
  m_NoWay : mg "NoWay" = some (.ref C_NoWay)
  m_NoWeights : mg "NoWeights" = some (.ref C_NoWeights)
  m_ONE : mg "ONE" = some (.ref C_ONE)
  m_TooFar : mg "TooFar" = some (.ref C_TooFar)
  m_TooHigh : mg "TooHigh" = some (.ref C_TooHigh)
  m_TooMany : mg "TooMany" = some (.ref C_TooMany)
  nought : ∀ H, Fq K H C_NOUGHT 0
  one : ∀ H, Fq K H C_ONE 1
  x_TooFar : ExcC K C_TooFar
  x_NoMoments : ExcC K C_NoMoments
  x_NoFraction : ExcC K C_NoFraction
  g_MOSTM : ∃ t, mg "MOST_MOMENTS" = some (.int 16 t)
  xc : XCls K C_NoMoments
  ex : PySem.W.exmOne K (.ref C_NoMoments) (.ref C_HeightError) = some true
  k_ValueError : PySem.W.kitOne K (.ref C_NoMoments) (.type "ValueError") = some true
  k_NoFraction : PySem.W.kitOne K (.ref C_NoMoments) (.ref C_NoFraction) = some false
  k_TooMany : PySem.W.kitOne K (.ref C_NoMoments) (.ref C_TooMany) = some false
  k_TooFar : PySem.W.kitOne K (.ref C_NoMoments) (.ref C_TooFar) = some false
  k_NoNumber : PySem.W.kitOne K (.ref C_NoMoments) (.ref C_NoNumber) = some false
  k_NoWeights : PySem.W.kitOne K (.ref C_NoMoments) (.ref C_NoWeights) = some false
  k_NoSeries : PySem.W.kitOne K (.ref C_NoMoments) (.ref C_NoSeries) = some false
  k_NoMoments : PySem.W.kitOne K (.ref C_NoMoments) (.ref C_NoMoments) = some true
  k_NoFamily : PySem.W.kitOne K (.ref C_NoMoments) (.ref C_NoFamily) = some false
  k_NoMeeting : PySem.W.kitOne K (.ref C_NoMoments) (.ref C_NoMeeting) = some false
  k_NoThing : PySem.W.kitOne K (.ref C_NoMoments) (.ref C_NoThing) = some false
  k_NoLine : PySem.W.kitOne K (.ref C_NoMoments) (.ref C_NoLine) = some false
  k_NoText : PySem.W.kitOne K (.ref C_NoMoments) (.ref C_NoText) = some false
  k_NoWay : PySem.W.kitOne K (.ref C_NoMoments) (.ref C_NoWay) = some false
  k_TooHigh : PySem.W.kitOne K (.ref C_NoMoments) (.ref C_TooHigh) = some false
  k_NoHistory : PySem.W.kitOne K (.ref C_NoMoments) (.ref C_NoHistory) = some false
  k_NoCount : PySem.W.kitOne K (.ref C_NoMoments) (.ref C_NoCount) = some false
  k_NoName : PySem.W.kitOne K (.ref C_NoMoments) (.ref C_NoName) = some false
theorem bd_ten60 {g : Int} : CDivB g 1000000000000000000000000000000000000000000000000000000000000 := ⟨by decide, Bd.mono (m := 200) (by show (_ : Nat) < _; decide) (by decide)⟩
def spCell (K : PySem.W.Frag) : Sp := fun vs H Q _ => ∃ (a : Addr) (ns : List Int) (k : Int), vs = [.ref a, .int k] ∧ SqL K H a (ns.map V.int) ∧ 0 ≤ k ∧ ∀ c : Int, Q (.int c) H
def spStir : Sp := fun vs H Q _ => ∃ (c k : Int), vs = [.int c, .int k] ∧ 0 ≤ k ∧ k ≤ 1000 ∧ ∀ d : Int, 0 ≤ d → d < 1000000000000000000000000000000000000000000000000000000000000 → Q (.int d) H
def spDrawn (K : PySem.W.Frag) : Sp := fun vs H Q _ => ∃ (a : Addr) (ns : List Int) (k : Int), vs = [.ref a, .int k] ∧ SqL K H a (ns.map V.int) ∧ 0 ≤ k ∧ k ≤ 1000 ∧ ∀ d : Int, 0 ≤ d → d < 1000000000000000000000000000000000000000000000000000000000000 → Q (.int d) H
def spGcd : Sp := fun vs H Q _ => ∃ (a b : Int), vs = [.int a, .int b] ∧ Q (.int (Int.gcd a b : Nat)) H
def spWhole : Sp := fun vs H Q _ => ∃ (a : Int), vs = [.int a] ∧ Q (.bl true) H
def spLow : Sp := fun vs H Q _ => ∃ (t b : Int), vs = [.int t, .int b] ∧ 0 < b ∧ Bd 9000 b ∧ ∀ p, H p = none → Q (.ref p) (upd H p (frO (Rat.divInt t b)))
def spBin (K : PySem.W.Frag) (f : Rat → Rat → Rat) : Sp := fun vs H Q _ => ∃ (p q : Addr) (a b : Rat), vs = [.ref p, .ref q] ∧ Fq K H p a ∧ Fq K H q b ∧ Sz 4000 a ∧ Sz 4000 b ∧ ∀ r H', Same H H' → H r = none → H' r = some (frO (f a b)) → Q (.ref r) H'
def spOver (K : PySem.W.Frag) (C : Addr) : Sp := fun vs H Q E => ∃ (p q : Addr) (a b : Rat), vs = [.ref p, .ref q] ∧ Fq K H p a ∧ Fq K H q b ∧ Sz 4000 a ∧ Sz 4000 b ∧ (b = 0 → E (.ref C) none H) ∧ (b ≠ 0 → ∀ r H', Same H H' → H r = none → H' r = some (frO (a / b)) → Q (.ref r) H')
def spIsFq (K : PySem.W.Frag) : Sp := fun vs H Q _ => ∃ (p : Addr) (q : Rat), vs = [.ref p] ∧ Fq K H p q ∧ Q (.bl true) H
def spPolyOf (K : PySem.W.Frag) : Sp := fun vs H Q _ => ∃ (a : Addr) (xs : List V) (f : List Rat), vs = [.ref a] ∧ (SqL K H a xs ∨ SqT K H a xs) ∧ Frs K H f xs ∧ f.length ≤ 900 ∧ ∀ p H', Same H H' → Pl K H' p (Mt.trim f) → Q (.ref p) H'
def spNumAt (K : PySem.W.Frag) : Sp := fun vs H Q _ => ∃ (p : Addr) (f : List Rat) (n : Nat), vs = [.ref p, .int n] ∧ Pl K H p f ∧ ∀ r, Fq K H r (Mt.cf f n) → Q (.ref r) H
def spPP (K : PySem.W.Frag) (op : List Rat → List Rat → List Rat) : Sp := fun vs H Q _ => ∃ (p q : Addr) (f g : List Rat), vs = [.ref p, .ref q] ∧ Pl K H p f ∧ Pl K H q g ∧ f.length ≤ 400 ∧ g.length ≤ 400 ∧ (∀ n, Sz 3990 (Mt.cf f n)) ∧ (∀ n, Sz 3990 (Mt.cf g n)) ∧ ∀ r H', Same H H' → Pl K H' r (op f g) → Q (.ref r) H'
def spScaled (K : PySem.W.Frag) : Sp := fun vs H Q _ => ∃ (p q : Addr) (f : List Rat) (a : Rat), vs = [.ref p, .ref q] ∧ Pl K H p f ∧ Fq K H q a ∧ f.length ≤ 400 ∧ (∀ n, Sz 4000 (Mt.cf f n)) ∧ Sz 4000 a ∧ ∀ r H', Same H H' → Pl K H' r (Mt.pscale f a) → Q (.ref r) H'
def spDeg (K : PySem.W.Frag) : Sp := fun vs H Q _ => ∃ (p : Addr) (f : List Rat), vs = [.ref p] ∧ Pl K H p f ∧ Q (.int ((f.length : Int) - 1)) H
structure Ws (L D : List Rat) : Prop where
  l : ∀ q ∈ L, Mt.Wg q
  d : ∀ q ∈ D, Mt.Wg q
  n : L.length = D.length + 1
  m : D.length ≤ 7
theorem lat_sz {D N m : Nat} {q : Rat} (h : Mt.Lat D N q) (hD : 0 < D) (h1 : D < 2 ^ m) (h2 : N < 2 ^ m) : Sz m q := by
  have e := h.dvd (by omega)
  have l := Nat.le_of_dvd hD e.1
  exact ⟨show (_ : Nat) < _ by omega, show (_ : Nat) < _ by show ((q.den : Int)).natAbs < _; omega⟩
def spMulP (K : PySem.W.Frag) : Sp := fun vs H Q _ => ∃ (p q : Addr) (f g : List Rat) (b c : Nat), vs = [.ref p, .ref q] ∧ Pl K H p f ∧ Pl K H q g ∧ f.length ≤ 64 ∧ g.length ≤ 64 ∧ Mt.Ln b b f ∧ Mt.Ln c c g ∧ b + c + 20 ≤ 3990 ∧ ∀ r H', Same H H' → Pl K H' r (Mt.pmul f g) → Q (.ref r) H'
theorem len_pmul (f g : List Rat) : (Mt.pmul f g).length ≤ f.length + g.length := Nat.le_trans (Mt.trim_len _) (by rw [Mt.prodIn_len]; omega)
def oneHot (j : Nat) : List Bool := (List.range 18).map fun k => k == 0 || k == j
def spMarks (C : Addr) (j : Nat) : Sp := fun vs H Q _ => ∃ (e : Addr) (dv : Option Addr), vs = [.ref e] ∧ H e = some (excD e (.ref C) dv) ∧ ∀ l H', Same H H' → H l = none → H' l = some (.lst ((oneHot j).map V.bl)) → Q (.ref l) H'
def spOnly : Sp := fun vs H Q _ => ∃ (j : Nat), vs = [.int j] ∧ j < 18 ∧ ∀ l H', Same H H' → H l = none → H' l = some (.lst ((oneHot j).map V.bl)) → Q (.ref l) H'
def spFurG (K : PySem.W.Frag) : Sp := fun vs H Q _ => ∃ (pl pn pd pb : Addr) (l d : Rat) (f g : List Rat), vs = [.ref pl, .ref pn, .ref pd, .ref pb] ∧ Fq K H pl l ∧ Pl K H pn f ∧ Fq K H pd d ∧ Pl K H pb g ∧ Sz 2100 l ∧ Sz 2100 d ∧ f.length ≤ 30 ∧ g.length ≤ 30 ∧ Mt.Ln 920 920 f ∧ Mt.Ln 920 920 g ∧ ∀ r H', Same H H' → Pl K H' r (Mt.nx2 l d f g) → Q (.ref r) H'
structure Rw (ms : List Rat) (p : Nat → List Rat) (i : Nat) : Prop where
  mo : ∀ j, j ≤ i → Mt.Mo ms (p j) j
  nz : ∀ j, j < i → Mt.lf ms (p j) j ≠ 0
theorem div_low {x : Rat} {t b : Int} (hb : b ≠ 0) (e : x * (b : Rat) = (t : Rat)) : x = Rat.divInt t b := by
  have b0 : (b : Rat) ≠ 0 := fun z => hb (by exact_mod_cast z)
  rw [Rat.divInt_eq_div, ← e, Rat.div_def, Rat.mul_assoc, Rat.mul_inv_cancel _ b0, Rat.mul_one]
theorem Sz.quo {m n : Nat} {a b : Rat} (ha : Sz m a) (hb : Sz n b) : Sz (m + n) (a / b) := by
  by_cases z : b = 0
  · rw [z, Rat.div_def, Rat.inv_zero, Rat.mul_zero]
    have := (Mt.fr_rat a).pos
    have h := ha.b
    refine Sz.zero ?_
    rcases Nat.lt_or_ge 0 m with y | y
    · omega
    · obtain rfl : m = 0 := by omega
      have : ((a.den : Int)).natAbs < 2 ^ 0 := h
      omega
  · have e : a / b = Rat.divInt (a.num * b.den) (b.num * a.den) := by
      have bn : b.num * (a.den : Int) ≠ 0 := Int.mul_ne_zero (fun y => z (Rat.num_eq_zero.mp y)) (by have := a.den_pos; omega)
      refine div_low bn ?_
      have back : ∀ q : Rat, q * ((q.den : Int) : Rat) = ((q.num : Int) : Rat) := fun q => by
        have d0 : ((q.den : Int) : Rat) ≠ 0 := fun y => by
          have : (q.den : Int) = 0 := by exact_mod_cast y
          have := q.den_pos
          omega
        have e := Rat.num_divInt_den q
        rw [Rat.divInt_eq_div] at e
        generalize ((q.den : Int) : Rat) = d at *
        generalize ((q.num : Int) : Rat) = n at *
        grind
      have ea' := back a
      have eb' := back b
      rw [Rat.intCast_mul, Rat.intCast_mul, ← ea', ← eb', Rat.div_def]
      have : a * b⁻¹ * (b * ((b.den : Int) : Rat) * ((a.den : Int) : Rat)) = a * ((a.den : Int) : Rat) * ((b.den : Int) : Rat) * (b * b⁻¹) := by grind
      rw [this, Rat.mul_inv_cancel _ z, Rat.mul_one]
    rw [e]
    have bn : b.num * (a.den : Int) ≠ 0 := Int.mul_ne_zero (fun y => z (Rat.num_eq_zero.mp y)) (by have := a.den_pos; omega)
    exact Sz.low bn (ha.t.mul hb.b) (by rw [Nat.add_comm]; exact hb.t.mul ha.b)
theorem wd0 {l : Rat} (h : Sz 2100 l) : l.den < 2 ^ 2100 := by
  have : ((l.den : Int)).natAbs < 2 ^ 2100 := h.b
  rwa [Int.natAbs_natCast] at this
theorem rat_back (q : Rat) : q * ((q.den : Int) : Rat) = ((q.num : Int) : Rat) := by
  have d0 : ((q.den : Int) : Rat) ≠ 0 := fun y => by
    have : (q.den : Int) = 0 := by exact_mod_cast y
    have := q.den_pos
    omega
  have e := Rat.num_divInt_den q
  rw [Rat.divInt_eq_div] at e
  generalize ((q.den : Int) : Rat) = d at *
  generalize ((q.num : Int) : Rat) = n at *
  grind
theorem x1_lat {l : Rat} (h : Sz 2100 l) (k : Nat) : Mt.Lat l.den (2 ^ 2100) (Mt.cf (Mt.x1 l) k) := by
  rw [Mt.x1_is]
  rcases k with _ | _ | k
  · refine ⟨-l.num, ?_, by rw [Int.natAbs_neg]; exact Nat.le_of_lt h.t⟩
    rw [Mt.cf_zero, Rat.intCast_neg, ← rat_back]; grind
  · refine ⟨l.den, ?_, by rw [Int.natAbs_natCast]; exact Nat.le_of_lt (wd0 h)⟩
    rw [Mt.cf_succ, Mt.cf_zero, Rat.one_mul]
  · rw [Mt.cf_succ, Mt.cf_succ, Mt.cf_nil]; exact Mt.Lat.zero
structure Bs (ms : List Rat) (k : Nat) : Prop where
  lm : ∀ l, Mt.Ln 300 300 (ms.drop l)
  sm : ∀ p i, i ≤ k → Rw ms p i → Mt.Ln 400 400 (p i) ∧ (∀ l, l ≤ i + 1 → Sz 500 (Mt.lf ms (p i) l)) ∧ (Mt.lf ms (p i) i ≠ 0 → Sz 500 (Mt.lf ms (p i) (i + 1) / Mt.lf ms (p i) i))
theorem Ln.wide {b : Nat} {f : List Rat} (h : Mt.Ln b b f) {c : Nat} (hc : b ≤ c) : Mt.Ln c c f := h.mono hc hc
def odd26 (ms : List Rat) : Prop := ms.length % 2 = 1 ∨ ms.length < 2 ∨ 16 < ms.length ∨ Mt.cf ms 0 ≠ 1
def spChkX (K : PySem.W.Frag) (C : Addr) : Sp := fun vs H Q E => ∃ (m : Addr) (xs : List V) (ms : List Rat), vs = [.ref m] ∧ SqL K H m xs ∧ Frs K H ms xs ∧ ms.length ≤ 100 ∧ (odd26 ms → E (.ref C) none H) ∧ (¬ odd26 ms → ∀ H', Same H H' → Q .non H')
def spBackX (K : PySem.W.Frag) (C : Addr) : Sp := fun vs H Q E => ∃ (m : Addr) (xs : List V) (ms : List Rat), vs = [.ref m] ∧ SqL K H m xs ∧ Frs K H ms xs ∧ ms.length ≤ 100 ∧ (odd26 ms → E (.ref C) none H) ∧ (¬ odd26 ms → ∃ k, ms.length = 2 * k + 2 ∧ k ≤ 7 ∧ Mt.cf ms 0 = 1 ∧ Bs ms k ∧
  (∀ L D, Rw ms (Mt.rp L D) (k + 1) → (∀ n, n < 2 * k + 2 → Mt.cf ms n = Mt.mu L D (k + 1) n) → L.length = k + 1 → D.length = k → (∀ h, h < k → Mt.cf D h ≠ 0) → ∀ r a b H', Same H H' → H' r = some (.tup [.str "weights", .ref a, .ref b]) → Pl K H' a L → Pl K H' b D → Q (.ref r) H') ∧
  (∀ p i, i ≤ k → Rw ms p i → Mt.lf ms (p i) i = 0 → ∀ r a H', Same H H' → H' r = some (.tup [.str "barred", .int ((i : Int) + 1), .ref a]) → Pl K H' a (p i) → Q (.ref r) H'))
structure Mj (ms : List Rat) (d0 : Int) (M : Nat → Int) : Prop where
  d : d0 ≠ 0
  b : d0.natAbs ≤ 2 ^ 40
  e : ∀ n, Mt.cf ms n * (d0 : Rat) = (M n : Rat)
  m : ∀ n, (M n).natAbs ≤ 2 ^ 40
theorem Mj.ln {ms : List Rat} {d0 : Int} {M : Nat → Int} (h : Mj ms d0 M) (l : Nat) : Mt.Ln 40 40 (ms.drop l) :=
  ⟨d0.natAbs, 2 ^ 40, by have := h.d; omega, h.b, Nat.le_refl _, fun k => by
    rw [Mt.cf_drop]
    rcases Int.natAbs_eq d0 with z | z
    · exact ⟨M (k + l), by rw [← z]; exact h.e _, h.m _⟩
    · refine ⟨-M (k + l), ?_, by rw [Int.natAbs_neg]; exact h.m _⟩
      have e := h.e (k + l)
      have z2 : ((d0.natAbs : Int) : Rat) = -(d0 : Rat) := by rw [← Rat.intCast_neg]; congr 1; omega
      rw [z2, Rat.intCast_neg, ← e]
      grind⟩
theorem small_leJ {i : Nat} (h : i ≤ 8) : (2 * (i + 1) * 2 ^ 40) ^ i ≤ 2 ^ 354 := by
  have a : (2 * (i + 1) * 2 ^ 40) ^ i ≤ (2 * (8 + 1) * 2 ^ 40) ^ i := Nat.pow_le_pow_left (Nat.mul_le_mul_right _ (by omega)) i
  have b : (2 * (8 + 1) * 2 ^ 40) ^ i ≤ (2 * (8 + 1) * 2 ^ 40) ^ 8 := Nat.pow_le_pow_right (by decide) h
  have c : (2 * (8 + 1) * 2 ^ 40) ^ 8 ≤ 2 ^ 354 := by decide +kernel
  exact Nat.le_trans a (Nat.le_trans b c)
theorem Rw.smallJ {ms : List Rat} {d0 : Int} {M : Nat → Int} {p : Nat → List Rat} {i : Nat} (mi : Mj ms d0 M) (h : Rw ms p i) (hi : i ≤ 8) :
    Mt.Ln 400 400 (p i) ∧ (∀ l, Sz 500 (Mt.lf ms (p i) l)) ∧ (Mt.lf ms (p i) i ≠ 0 → ∀ l, Sz 500 (Mt.lf ms (p i) l / Mt.lf ms (p i) i)) := by
  obtain ⟨c, c0, cb, ce, cl⟩ := Mt.Mo.small (A := 2 ^ 40) (fun j hj => h.mo j (by omega)) h.nz (h.mo i (Nat.le_refl _)) mi.d (by decide) mi.e mi.m
  have sl := small_leJ hi
  have cb' : ∀ n, (c n).natAbs ≤ 2 ^ 354 := fun n => Nat.le_trans (cb n) sl
  have cd : c i * d0 ≠ 0 := Int.mul_ne_zero c0 mi.d
  have bd : (c i * d0).natAbs ≤ 2 ^ 354 * 2 ^ 40 := by rw [Int.natAbs_mul]; exact Nat.mul_le_mul (cb' i) mi.b
  have bn : ∀ l, (Mt.sI (fun n => M (n + l) * c n) (i + 1)).natAbs ≤ 9 * (2 ^ 40 * 2 ^ 354) := fun l => by
    refine Nat.le_trans (Mt.sI_bd (N := 2 ^ 40 * 2 ^ 354) (fun j => ?_) (i + 1)) (Nat.mul_le_mul_right _ (by omega))
    rw [Int.natAbs_mul]
    exact Nat.mul_le_mul (mi.m _) (cb' j)
  have n1 : 2 ^ 354 * 2 ^ 40 < 2 ^ 500 := by decide +kernel
  have n2 : 9 * (2 ^ 40 * 2 ^ 354) < 2 ^ 500 := by decide +kernel
  refine ⟨⟨(c i).natAbs, 2 ^ 354, Nat.pos_of_ne_zero (Int.natAbs_ne_zero.mpr c0), Nat.le_trans (cb' i) (by decide +kernel), by decide +kernel, fun n => ?_⟩, fun l => ?_, fun nz l => ?_⟩
  · rcases Nat.lt_or_ge i n with z | z
    · rw [Mt.cf_ge (by rw [(h.mo i (Nat.le_refl _)).len]; omega)]; exact Mt.Lat.zero
    have e := ce n z
    rcases Int.natAbs_eq (c i) with y | y
    · exact ⟨c n, by rw [← y]; exact e, cb' n⟩
    · refine ⟨-c n, ?_, by rw [Int.natAbs_neg]; exact cb' n⟩
      have z2 : (((c i).natAbs : Int) : Rat) = -(c i : Rat) := by rw [← Rat.intCast_neg]; congr 1; omega
      rw [z2, Rat.intCast_neg, ← e]
      grind
  · rw [div_low cd (cl l)]
    exact Sz.low cd (show (_ : Nat) < _ by exact Nat.lt_of_le_of_lt (bn l) n2) (show (_ : Nat) < _ by exact Nat.lt_of_le_of_lt bd n1)
  · have cdr : ((c i * d0 : Int) : Rat) ≠ 0 := fun z => cd (by exact_mod_cast z)
    have hn : Mt.sI (fun n => M (n + i) * c n) (i + 1) ≠ 0 := fun z => by
      have := cl i
      rw [z] at this
      exact (Rat.mul_eq_zero.mp this).elim nz cdr
    have e : Mt.lf ms (p i) l / Mt.lf ms (p i) i * ((Mt.sI (fun n => M (n + i) * c n) (i + 1) : Int) : Rat) = ((Mt.sI (fun n => M (n + l) * c n) (i + 1) : Int) : Rat) := by
      rw [← cl i, ← cl l, Rat.div_def]
      have : Mt.lf ms (p i) l * (Mt.lf ms (p i) i)⁻¹ * (Mt.lf ms (p i) i * ((c i * d0 : Int) : Rat)) = Mt.lf ms (p i) l * ((c i * d0 : Int) : Rat) * (Mt.lf ms (p i) i * (Mt.lf ms (p i) i)⁻¹) := by grind
      rw [this, Rat.mul_inv_cancel _ nz, Rat.mul_one]
    rw [div_low hn e]
    exact Sz.low hn (show (_ : Nat) < _ by exact Nat.lt_of_le_of_lt (bn l) n2) (show (_ : Nat) < _ by exact Nat.lt_of_le_of_lt (bn i) n2)
theorem bs_drawn {ms : List Rat} {d0 : Int} {M : Nat → Int} (mi : Mj ms d0 M) {k : Nat} (hk : k ≤ 7) : Bs ms k := ⟨fun l => Ln.wide (mi.ln l) (by decide), fun p i hi r => let ⟨a, b, c⟩ := r.smallJ mi (by omega); ⟨a, fun l _ => b l, fun z => c z _⟩⟩
theorem rp_ln {L D : List Rat} (h : Ws L D) {n : Nat} (hn : n ≤ 9) : Mt.Ln 320 320 (Mt.rp L D n) := (Mt.gp_rp (Mt.wg_cf h.l) (Mt.wg_cf h.d) n).ln hn
def momL (L D : List Rat) : List Rat := (List.range (2 * D.length + 2)).map fun n => Mt.sm (Mt.cf L) (Mt.cf D) (D.length + 1) 0 n 0
theorem momL_len (L D : List Rat) : (momL L D).length = 2 * D.length + 2 := by simp [momL]
theorem momL_at {L D : List Rat} {n : Nat} (h : n < 2 * D.length + 2) : Mt.cf (momL L D) n = Mt.sm (Mt.cf L) (Mt.cf D) (D.length + 1) 0 n 0 := by rw [momL, Mt.cf_map_range, if_pos h]
def spRuledG (K : PySem.W.Frag) (C : Addr) : Sp := fun vs H Q E => ∃ (m p : Addr) (xs : List V) (ms f : List Rat), vs = [.ref m, .ref p] ∧ SqL K H m xs ∧ Frs K H ms xs ∧ Pl K H p f ∧ f.length ≤ 40 ∧ (∀ n, Sz 1300 (Mt.cf ms n)) ∧ (∀ n, Sz 1300 (Mt.cf f n)) ∧ (∀ i, i ≤ f.length → Sz 3900 (Mt.Su (fun n => Mt.cf f n * Mt.cf ms n) i)) ∧ (ms.length < f.length → E (.ref C) none H) ∧ (f.length ≤ ms.length → ∀ r H', Same H H' → Fq K H' r (Mt.dot ms f) → Q (.ref r) H')
theorem lf_rp {L D : List Rat} {i l : Nat} (hi : i ≤ D.length + 1) (hl : i + l < 2 * D.length + 2) : Mt.lf (momL L D) (Mt.rp L D i) l = Mt.smz L D (D.length + 1) 0 l i * Mt.pr (Mt.cf D) 0 i := by
  rw [← Mt.lf_dot, Mt.dot_drop (L := L) (D := D) (T := D.length + 1) _ l (fun k hk => momL_at (by rw [Mt.rp_len] at hk; omega)), Mt.Lx_rp (by omega) i l hi]
theorem rp_mo {L D : List Rat} {i : Nat} (hi : i ≤ D.length + 1) : Mt.Mo (momL L D) (Mt.rp L D i) i := ⟨Mt.rp_len L D i, (Mt.rp_top L D i).1, fun l hl => by
  rw [lf_rp hi (by omega), Mt.smz]
  split
  · rw [Mt.far l 0 i (by omega), Rat.zero_mul]
  · rw [Rat.zero_mul]⟩
theorem bs_weights {L D : List Rat} (ws : Ws L D) (hk : D.length ≤ 3) : Bs (momL L D) D.length := by
  have pe : ∀ p i, i ≤ D.length → Rw (momL L D) p i → p i = Mt.rp L D i := fun p i hi r => Mt.Mo.eq (fun j hj => r.mo j (by omega)) r.nz (r.mo i (Nat.le_refl _)) (rp_mo (by omega))
  refine ⟨fun l => ?_, fun p i hi r => ?_⟩
  · refine ⟨Mt.B0 ^ 7, Mt.W0 ^ 7 * Mt.B0 ^ 7, by decide +kernel, by decide +kernel, by decide +kernel, fun q => ?_⟩
    show Mt.Gd 7 _
    rw [Mt.cf_drop]
    by_cases z : q + l < 2 * D.length + 2
    · rw [momL_at z]
      exact Mt.gd_up (Mt.gd_sm (Mt.wg_cf ws.l) (Mt.wg_cf ws.d) (q + l) 0) (by omega)
    · rw [Mt.cf_ge (by rw [momL_len]; omega)]
      exact Mt.Gd.zero
  · rw [pe p i hi r]
    have g : ∀ l, l ≤ i + 1 → Mt.Gd 8 (Mt.lf (momL L D) (Mt.rp L D i) l) := fun l hl => by
      rw [lf_rp (by omega) (by omega)]
      refine Mt.gd_up (Mt.gd_mul (a := l) (b := i) ?_ (Mt.gd_pr (Mt.wg_cf ws.d) 0 i)) (by omega)
      unfold Mt.smz
      split
      · exact Mt.gd_sm (Mt.wg_cf ws.l) (Mt.wg_cf ws.d) l i
      · exact Mt.Gd.zero
    have s8 : ∀ {q : Rat}, Mt.Gd 8 q → Sz 500 q := fun h => lat_sz (m := 500) h (Nat.pow_pos (by decide)) (by decide +kernel) (by decide +kernel)
    refine ⟨Ln.wide (rp_ln ws (by omega)) (by decide), fun l hl => s8 (g l hl), fun nz => ?_⟩
    have e1 := lf_rp (L := L) (D := D) (i := i) (l := i + 1) (by omega) (by omega)
    have e2 := lf_rp (L := L) (D := D) (i := i) (l := i) (by omega) (by omega)
    rw [Mt.smz_up (by omega), Rat.one_mul] at e2
    rw [e2] at nz
    rw [e1, e2, Rat.div_def, Rat.mul_assoc, Rat.mul_inv_cancel _ nz, Rat.mul_one]
    refine s8 (Mt.gd_up (n := i + 1) ?_ (by omega))
    unfold Mt.smz
    split
    · exact Mt.gd_sm (Mt.wg_cf ws.l) (Mt.wg_cf ws.d) (i + 1) i
    · exact Mt.Gd.zero
structure Wst (L D : List Rat) : Prop where
  n : L.length = D.length + 1
  m : D.length ≤ 7
  s : ∀ n h, n < 2 * D.length + 2 → Sz 700 (Mt.sm (Mt.cf L) (Mt.cf D) (D.length + 1) 0 n h)
  l : ∀ h, h < D.length + 1 → Sz 1500 (Mt.cf L h)
  d : ∀ h, h < D.length → Sz 1000 (Mt.cf D h)
theorem st_ws {L D : List Rat} (ws : Ws L D) (hk : D.length ≤ 3) : Wst L D :=
  ⟨ws.n, ws.m, fun n h hn => lat_sz (m := 700) (Mt.gd_up (m := 7) (Mt.gd_sm (Mt.wg_cf ws.l) (Mt.wg_cf ws.d) n h) (by omega)) (Nat.pow_pos (by decide)) (by decide +kernel) (by decide +kernel), fun h _ => lat_sz (m := 1500) (Mt.wg_cf ws.l h) (by decide) (by decide +kernel) (by decide +kernel), fun h _ => lat_sz (m := 1000) (Mt.wg_cf ws.d h) (by decide) (by decide +kernel) (by decide +kernel)⟩
theorem Rw.le {ms : List Rat} {p : Nat → List Rat} {i j : Nat} (h : Rw ms p i) (hj : j ≤ i) : Rw ms p j := ⟨fun l hl => h.mo l (by omega), fun l hl => h.nz l (by omega)⟩
theorem st_of {ms L D : List Rat} {k : Nat} (bs : Bs ms k) (r : Rw ms (Mt.rp L D) (k + 1)) (hm : ∀ n, n < 2 * k + 2 → Mt.cf ms n = Mt.mu L D (k + 1) n) (lL : L.length = k + 1) (lD : D.length = k) (hk : k ≤ 7) (s : ∀ n h, n < 2 * k + 2 → h < k + 1 → Sz 700 (Mt.sm (Mt.cf L) (Mt.cf D) (k + 1) 0 n h)) : Wst L D := by
  obtain rfl := lD
  have hm' : ∀ n, n < 2 * (D.length + 1) → Mt.cf ms n = Mt.mu L D (D.length + 1) n := fun n hn => hm n (by omega)
  have s' : ∀ n h, n < 2 * D.length + 2 → Sz 700 (Mt.sm (Mt.cf L) (Mt.cf D) (D.length + 1) 0 n h) := fun n h hn => by
    rcases Nat.lt_or_ge h (D.length + 1) with y | y
    · exact s n h hn y
    · rw [Mt.sm_ge y]; exact Sz.zero (by decide)
  have su : ∀ h, h ≤ D.length + 1 → Sz 700 (Mt.Su (Mt.cf L) h) := fun h hh => by
    rcases h with _ | h
    · exact Sz.zero (by decide)
    · rw [← Mt.smz_sum (L := L) (D := D) (T := D.length + 1) h (by omega), Mt.smz, if_pos (by omega)]
      exact s' _ _ (by omega)
  refine ⟨lL, hk, s', fun h hh => ?_, fun h hh => ?_⟩
  · have e : Mt.cf L h = Mt.Su (Mt.cf L) (h + 1) - Mt.Su (Mt.cf L) h := by rw [Mt.Su]; grind
    rw [e]
    exact ((su (h + 1) (by omega)).sub (su h (by omega))).mono (by decide)
  · have e1 := Mt.lf_pr (h := h) hm' (by omega)
    have e2 := Mt.lf_pr (h := h + 1) hm' (by omega)
    have z := r.nz h (by omega)
    rw [Mt.pr, Nat.zero_add, ← e1] at e2
    have e : Mt.cf D h = Mt.lf ms (Mt.rp L D (h + 1)) (h + 1) / Mt.lf ms (Mt.rp L D h) h := by
      rw [e2, Rat.mul_comm, Rat.div_def, Rat.mul_assoc, Rat.mul_inv_cancel _ z, Rat.mul_one]
    rw [e]
    exact Sz.quo ((bs.sm _ (h + 1) (by omega) (r.le (by omega))).2.1 _ (by omega)) ((bs.sm _ h (by omega) (r.le (by omega))).2.1 _ (by omega))
structure Mh (ms : List Rat) (d0 : Int) (M : Nat → Int) : Prop where
  d : d0 ≠ 0
  b : d0.natAbs ≤ 2 ^ 6
  e : ∀ n, Mt.cf ms n * (d0 : Rat) = (M n : Rat)
  m : ∀ n, (M n).natAbs ≤ 2 ^ 6
theorem Mh.mj {ms : List Rat} {d0 : Int} {M : Nat → Int} (h : Mh ms d0 M) : Mj ms d0 M := ⟨h.d, Nat.le_trans h.b (by decide), h.e, fun n => Nat.le_trans (h.m n) (by decide)⟩
theorem small_h {T : Nat} (h : T ≤ 8) : (2 * (T + 1) * 2 ^ 6) ^ T ≤ 2 ^ 82 := by
  have a : (2 * (T + 1) * 2 ^ 6) ^ T ≤ (2 * (8 + 1) * 2 ^ 6) ^ T := Nat.pow_le_pow_left (Nat.mul_le_mul_right _ (by omega)) T
  have b : (2 * (8 + 1) * 2 ^ 6) ^ T ≤ (2 * (8 + 1) * 2 ^ 6) ^ 8 := Nat.pow_le_pow_right (by decide) h
  have c : (2 * (8 + 1) * 2 ^ 6) ^ 8 ≤ 2 ^ 82 := by decide +kernel
  exact Nat.le_trans a (Nat.le_trans b c)
structure Bt (ms : List Rat) (k : Nat) : Prop where
  bs : Bs ms k
  st : ∀ L D, Rw ms (Mt.rp L D) (k + 1) → (∀ n, n < 2 * k + 2 → Mt.cf ms n = Mt.mu L D (k + 1) n) → L.length = k + 1 → D.length = k → Wst L D
theorem bt_drawn {ms : List Rat} {d0 : Int} {M : Nat → Int} (mh : Mh ms d0 M) {k : Nat} (hk : k ≤ 7) : Bt ms k := ⟨bs_drawn mh.mj hk, fun L D r hm lL lD => st_of (bs_drawn mh.mj hk) r hm lL lD hk fun n h hn hh => by
  obtain ⟨t, b, b0, e, bt, bb⟩ := Mt.sums_small (T := k + 1) (A := 2 ^ 6) (B := 2 ^ 82) r.mo r.nz (fun n hn => hm n (by omega)) mh.d (by decide) mh.e mh.m (small_h (by omega)) (n := n) (h := h) (by omega) hh
  rw [div_low b0 e]
  have k7 : k + 1 - 1 ≤ 7 := by omega
  have k8 : k + 1 ≤ 8 := by omega
  have t1 : (k + 1) * (2 ^ 82 * (2 ^ 6 * ((k + 1) * 2 ^ 82) ^ (k + 1 - 1))) ≤ 8 * (2 ^ 82 * (2 ^ 6 * (8 * 2 ^ 82) ^ 7)) :=
    Nat.mul_le_mul k8 (Nat.mul_le_mul_left _ (Nat.mul_le_mul_left _ (Nat.le_trans (Nat.pow_le_pow_left (Nat.mul_le_mul_right _ k8) _) (Nat.pow_le_pow_right (by decide) k7))))
  have t2 : (k + 1) * (2 ^ 6 * 2 ^ 82) * (2 ^ 82) ^ (k + 1 - 1) ≤ 8 * (2 ^ 6 * 2 ^ 82) * (2 ^ 82) ^ 7 := Nat.mul_le_mul (Nat.mul_le_mul_right _ k8) (Nat.pow_le_pow_right (by decide) k7)
  have c1 : 8 * (2 ^ 82 * (2 ^ 6 * (8 * 2 ^ 82) ^ 7)) < 2 ^ 700 := by decide +kernel
  have c2 : 8 * (2 ^ 6 * 2 ^ 82) * (2 ^ 82) ^ 7 < 2 ^ 700 := by decide +kernel
  exact Sz.low b0 (show (_ : Nat) < _ from Nat.lt_of_le_of_lt (Nat.le_trans bt t1) c1) (show (_ : Nat) < _ from Nat.lt_of_le_of_lt (Nat.le_trans bb t2) c2)⟩
theorem bt_weights {L0 D0 : List Rat} (ws : Ws L0 D0) (hk : D0.length ≤ 3) : Bt (momL L0 D0) D0.length := ⟨bs_weights ws hk, fun L D r hm lL lD => st_of (bs_weights ws hk) r hm lL lD (by omega) fun n h hn hh => by
  rw [Mt.sums_same (T := D0.length + 1) (L0 := L0) (D0 := D0) r.mo (fun j hj => rp_mo hj) r.nz (fun n hn => hm n (by omega)) (fun n hn => momL_at (by omega)) hh]
  exact (st_ws ws hk).s n h hn⟩
theorem mom_is {ms L D : List Rat} {k : Nat} (hm : ∀ n, n < 2 * k + 2 → Mt.cf ms n = Mt.mu L D (k + 1) n) (lm : ms.length = 2 * k + 2) (lD : D.length = k) : momL L D = ms := by
  obtain rfl := lD
  refine Mt.ext_cf (by rw [momL_len, lm]) fun n hn => ?_
  rw [momL_len] at hn
  rw [momL_at hn, hm n hn]
def Good (ms : List Rat) : Prop := ¬ odd26 ms → ∃ k, ms.length = 2 * k + 2 ∧ k ≤ 7 ∧ Mt.cf ms 0 = 1 ∧ Bt ms k
theorem good_odd {ms : List Rat} (h : ms.length % 2 = 1) : Good ms := fun n => absurd (.inl h) n
theorem good_weights {L D : List Rat} (ws : Ws L D) (hk : D.length ≤ 3) : Good (momL L D) := fun _ => ⟨D.length, momL_len L D, by omega, by rw [momL_at (by omega), Mt.sm_zero (by omega), if_pos rfl], bt_weights ws hk⟩
theorem mem_cf {P : Rat → Prop} {ms : List Rat} (h : ∀ q ∈ ms, P q) (h0 : P 0) (n : Nat) : P (Mt.cf ms n) := by
  rcases Nat.lt_or_ge n ms.length with y | y
  · have e : Mt.cf ms n = ms[n] := by
      unfold Mt.cf
      rw [List.getD_eq_getElem?_getD, List.getElem?_eq_getElem y]
      rfl
    rw [e]
    exact h _ (List.getElem_mem y)
  · rw [Mt.cf_ge y]; exact h0
theorem good_drawn {ms : List Rat} (h : ∀ q ∈ ms, Mt.Lat 6 54 q) : Good ms := fun n => by
  have n1 : ¬ ms.length % 2 = 1 := fun z => n (.inl z)
  have n2 : ¬ ms.length < 2 := fun z => n (.inr (.inl z))
  have n3 : ¬ 16 < ms.length := fun z => n (.inr (.inr (.inl z)))
  have n4 : Mt.cf ms 0 = 1 := Classical.byContradiction fun z => n (.inr (.inr (.inr z)))
  have ch : ∀ n, Mt.Lat 6 54 (Mt.cf ms n) := mem_cf h Mt.Lat.zero
  obtain ⟨M, hM⟩ : ∃ M : Nat → Int, ∀ n, Mt.cf ms n * (((6 : Nat) : Int) : Rat) = (M n : Rat) ∧ (M n).natAbs ≤ 54 := ⟨fun j => Classical.choose (ch j), fun j => Classical.choose_spec (ch j)⟩
  exact ⟨ms.length / 2 - 1, by omega, by omega, n4, bt_drawn (d0 := 6) (M := M) ⟨by decide, by decide, fun n => (hM n).1, fun n => Nat.le_trans (hM n).2 (by decide)⟩ (by omega)⟩
theorem lat6_int {t : Int} (h : t.natAbs ≤ 9) : Mt.Lat 6 54 (t : Rat) := ⟨t * 6, by rw [Rat.intCast_mul]; rfl, by omega⟩
theorem lat6_low {t b : Int} (h1 : 1 ≤ b) (h2 : b ≤ 3) (ht : t.natAbs ≤ 9) : Mt.Lat 6 54 (Rat.divInt t b) := by
  have hb : (b : Rat) ≠ 0 := fun z => by
    have : b = 0 := by exact_mod_cast z
    omega
  obtain ⟨c, hc, bc⟩ : ∃ c : Int, b * c = 6 ∧ c.natAbs ≤ 6 := by
    rcases (show b = 1 ∨ b = 2 ∨ b = 3 by omega) with rfl | rfl | rfl
    · exact ⟨6, by decide, by decide⟩
    · exact ⟨3, by decide, by decide⟩
    · exact ⟨2, by decide, by decide⟩
  refine ⟨t * c, ?_, ?_⟩
  · have e6 : (((6 : Nat) : Int) : Rat) = (b : Rat) * (c : Rat) := by rw [← Rat.intCast_mul, hc]; rfl
    rw [e6, Rat.divInt_eq_div, Rat.intCast_mul, Rat.div_def]
    have := Rat.mul_inv_cancel _ hb
    grind
  · rw [Int.natAbs_mul]
    exact Nat.mul_le_mul ht bc
theorem catP {K : PySem.W.Frag} {H : Hp} {x y : Addr} {f g : List Rat} {Q : VK} (hx : Pl K H x f) (hy : Pl K H y g) (lf : f.length ≤ 500) (lg : g.length ≤ 500) (q : ∀ z H', Same H H' → Pl K H' z (f ++ g) → Q (.ref z) H') : rCatA K (.ref x) (.ref y) H Q := by
  obtain ⟨us, hu, fu⟩ := id hx
  obtain ⟨vs, hv, fv⟩ := id hy
  have l1 := fu.len
  have l2 := fv.len
  refine ⟨x, y, us, vs, rfl, rfl, hu, hv, sz_le _ (by omega), fun z => ?_, fun _ z => ?_, fun _ _ p np => ?_⟩
  · obtain rfl : f = [] := List.eq_nil_of_length_eq_zero (by rw [l1, z]; rfl)
    exact q y H (Same.refl _) hy
  · obtain rfl : g = [] := List.eq_nil_of_length_eq_zero (by rw [l2, z]; rfl)
    exact q x H (Same.refl _) (by rw [List.append_nil]; exact hx)
  · have u := same_upd (o := .tup (us ++ vs)) np
    exact q p _ u ⟨_, SqT.of upd_same, Frs.append (fu.same u) (fv.same u)⟩
theorem cf_app_l {f g : List Rat} {h : Nat} (hh : h < f.length) : Mt.cf (f ++ g) h = Mt.cf f h := by
  unfold Mt.cf
  rw [List.getD_eq_getElem?_getD, List.getD_eq_getElem?_getD, List.getElem?_append_left hh]
theorem cf_app_e (f : List Rat) (q : Rat) : Mt.cf (f ++ [q]) f.length = q := by
  unfold Mt.cf
  rw [List.getD_eq_getElem?_getD, List.getElem?_append_right (Nat.le_refl _), Nat.sub_self]
  rfl
def spWb2 : Sp := fun vs H Q _ => ∃ (c w : Int), vs = [.int c, .int w] ∧ ∀ p q, H p = none → Mt.Wg q → Q (.ref p) (upd H p (frO q))
def spAreF (K : PySem.W.Frag) : Sp := fun vs H Q _ => ∃ (p : Addr) (f : List Rat), vs = [.ref p, .int f.length] ∧ Pl K H p f ∧ f.length ≤ 100 ∧ ∀ H', Same H H' → Q (.bl true) H'
def spLaw (K : PySem.W.Frag) : Sp := fun vs H Q _ => ∃ (a : Addr) (ns : List Int), vs = [.ref a] ∧ SqL K H a (ns.map V.int) ∧ ns.length ≤ 63 ∧ ∀ H', Q (.bl true) H'
theorem step3d {K : PySem.W.Frag} {C e l : Addr} {dv : Option Addr} {xs : List V} {H : Hp} {c1 c2 c3 : V} {v1 v2 v3 : Value} {b1 b2 b3 : Bool} {R : VK} (he : H e = some (excD e (.ref C) dv)) (hl : H l = some (.lst xs)) (hn : xs.length ≤ 100) (x : XCls K C)
    (d1 : clsV c1 = some v1) (k1 : PySem.W.kitOne K (.ref C) v1 = some b1) (d2 : clsV c2 = some v2) (k2 : PySem.W.kitOne K (.ref C) v2 = some b2) (d3 : clsV c3 = some v3) (k3 : PySem.W.kitOne K (.ref C) v3 = some b3)
    (h : ∀ l' H', Same H H' → H l' = none → H' e = some (excD e (.ref C) dv) → H' l' = some (.lst (xs ++ [.bl b1, .bl b2, .bl b3])) → R (.ref l') H') :
    rIsi K [.ref e, c1] H fun x1 H1 => rIsi K [.ref e, c2] H1 fun x2 H2 => rIsi K [.ref e, c3] H2 fun x3 H3 => 3 ≤ sizeLine ∧ ∀ p, H3 p = none → rCat (.ref l) (.ref p) (upd H3 p (.lst [x1, x2, x3])) R := by
  refine isi_x he x d1 k1 (isi_x he x d2 k2 (isi_x he x d3 k3 ⟨sz_le 3 (by decide), fun p n => ?_⟩))
  have s1 : Same H (upd H p (.lst [.bl b1, .bl b2, .bl b3])) := same_upd n
  refine ⟨l, p, _, _, rfl, rfl, s1 _ _ hl, upd_same, sz_le _ (by simp; omega), fun q m => ?_⟩
  have s2 := s1.trans (same_upd (o := .lst (xs ++ [.bl b1, .bl b2, .bl b3])) m)
  exact h q _ s2 (s1.free m) (s2 _ _ he) upd_same
def FRows (K : PySem.W.Frag) (H : Hp) (D : Addr) (m n : Nat) (F : Nat → Nat → Rat) : Prop := ∃ rs, SqL K H D rs ∧ rs.length = m ∧ ∀ i, i < m → ∃ p ys, rs[i]? = some (.ref p) ∧ SqL K H p ys ∧ Frs K H ((List.range n).map fun j => F i j) ys
def spLap (K : PySem.W.Frag) (sz : Nat) : Sp := fun vs H Q _ => ∃ (n : Nat), n < sz ∧ ∃ (TB : Addr) (F : Nat → Nat → Rat) (Dr : Nat → Nat) (N d : Nat), vs = [.ref TB] ∧ FRows K H TB n n F ∧ n ≤ 5 ∧ (∀ i, i < n → ∀ j, j < n → Mt.Lat (Dr i) N (F i j)) ∧ (∀ i, 0 < Dr i ∧ Dr i ≤ 2 ^ d) ∧ N ≤ 2 ^ d ∧ d * n ≤ 3800 ∧ ∀ p H', Same H H' → Fq K H' p (Mt.det n F) → Q (.ref p) H'
def FTab (K : PySem.W.Frag) (H : Hp) (D : Addr) (m n : Nat) (F : Nat → Nat → Rat) : Prop := ∃ rs, H D = some (.lst rs) ∧ rs.length = m ∧ ∀ i, i < m → ∃ p ys, rs[i]? = some (.ref p) ∧ p ≠ D ∧ H p = some (.lst ys) ∧ Frs K H ((List.range n).map fun j => F i j) ys
theorem FTab.rows {K : PySem.W.Frag} {H : Hp} {D : Addr} {m n : Nat} {F : Nat → Nat → Rat} (h : FTab K H D m n F) : FRows K H D m n F := by
  obtain ⟨rs, h1, l, r⟩ := h
  refine ⟨rs, SqL.of h1, l, fun i hi => ?_⟩
  obtain ⟨p, ys, e, _, hp, f⟩ := r i hi
  exact ⟨p, ys, e, SqL.of hp, f⟩
theorem if_step {c : TT} {tb te : TS} {D : Ends} {σ : St} {H : Hp} (h : ∀ N : St → Hp → Prop, (∀ σ H, tb D σ H → N σ H) → tIfS c (fun _ σ H => N σ H) te D σ H) : tIfS c tb te D σ H := h (tb D) fun _ _ z => z
def spTbl53 (K : PySem.W.Frag) : Sp := fun vs H Q _ => ∃ (m : Addr) (xs : List V) (ms : List Rat) (n sh : Nat), vs = [.ref m, .int n, .int sh] ∧ SqL K H m xs ∧ Frs K H ms xs ∧ n ≤ 8 ∧ (n = 0 ∨ 2 * (n - 1) + sh < ms.length) ∧ ms.length ≤ 100 ∧ ∀ D H', Same H H' → H D = none → FTab K H' D n n (fun i j => Mt.cf ms (i + j + sh)) → Q (.ref D) H'
def spWs26 (K : PySem.W.Frag) : Sp := fun vs H Q _ => ∃ (a : Addr) (ns : List Int) (b w : Int) (k : Nat), vs = [.ref a, .int b, .int k, .int w] ∧ SqL K H a (ns.map V.int) ∧ 0 ≤ b ∧ b ≤ 60 ∧ k ≤ 7 ∧
  ∀ P D1 D2 H' x1 x2 f1 f2, Same H H' → H D1 = none → H D2 = none → D1 ≠ D2 → H' P = some (.tup [.ref D1, .ref D2]) → H' D1 = some (.lst x1) → H' D2 = some (.lst x2) → Frs K H' f1 x1 → Frs K H' f2 x2 → Ws f1 f2 → f2.length = k → Q (.ref P) H'
def spBarsG (K : PySem.W.Frag) : Sp := fun vs H Q _ => ∃ (r p m : Addr) (f ms : List Rat) (n : Nat) (xs : List V), vs = [.ref r, .ref m] ∧ H r = some (.tup [.str "barred", .int n, .ref p]) ∧ Pl K H p f ∧ SqL K H m xs ∧ Frs K H ms xs ∧ f.length = n ∧ 1 ≤ n ∧ 2 * n ≤ ms.length ∧ ms.length ≤ 16 ∧ Mt.cf f (n - 1) = 1 ∧ (∀ l, l < n → Mt.lf ms f l = 0) ∧ Mt.Ln 400 400 f ∧ (∀ l, Mt.Ln 300 300 (ms.drop l)) ∧ ∀ H', Same H H' → Q (.bl true) H'
theorem sqE {K : PySem.W.Frag} {H H' : Hp} {a : Addr} {xs : List V} (s : Same H H') (h : SqL K H a xs ∨ SqT K H a xs) : SqL K H' a xs ∨ SqT K H' a xs := h.elim (fun z => .inl (s.seq z)) (fun z => .inr (s.seqT z))
theorem ix_e {K : PySem.W.Frag} {H : Hp} {a : Addr} {xs : List V} {i : Int} {v : V} {Q : VK} (h : SqL K H a xs ∨ SqT K H a xs) (e : atI xs i = some v) (q : Q v H) : rIx K (.ref a) (.int i) H Q := h.elim (fun z => .inl ⟨a, xs, i, v, rfl, rfl, z, e, q⟩) (fun z => .inr (.inl ⟨a, xs, i, v, rfl, rfl, z, e, q⟩))
def spMoG (K : PySem.W.Frag) : Sp := fun vs H Q _ => ∃ (D1 D2 : Addr) (x1 x2 : List V) (L D : List Rat), vs = [.ref D1, .ref D2] ∧ (SqL K H D1 x1 ∨ SqT K H D1 x1) ∧ (SqL K H D2 x2 ∨ SqT K H D2 x2) ∧ Frs K H L x1 ∧ Frs K H D x2 ∧ Wst L D ∧ ∀ S H' ys, Same H H' → H S = none → H' S = some (.lst ys) → Frs K H' (momL L D) ys → Q (.ref S) H'
def spTldX (K : PySem.W.Frag) : Sp := fun vs H Q _ => ∃ (r : Addr), vs = [.ref r] ∧ ((∃ (a b : Addr) (L D : List Rat), H r = some (.tup [.str "weights", .ref a, .ref b]) ∧ Pl K H a L ∧ Pl K H b D ∧ L.length ≤ 100 ∧ D.length ≤ 100 ∧ ∀ H', Same H H' → Q (.bl true) H') ∨ (∃ v1 v2, H r = some (.tup [.str "barred", v1, v2]) ∧ Q (.bl false) H))
def spAskX (K : PySem.W.Frag) : Sp := fun vs H Q _ => ∃ (m : Addr) (xs : List V) (ms : List Rat), vs = [.ref m] ∧ SqL K H m xs ∧ Frs K H ms xs ∧ ms.length ≤ 100 ∧ (odd26 ms → ∀ l H', Same H H' → H' l = some (.lst ((oneHot 7).map V.bl)) → Q (.ref l) H') ∧ (¬ odd26 ms → ∃ k, ms.length = 2 * k + 2 ∧ k ≤ 7 ∧ Mt.cf ms 0 = 1 ∧ Bs ms k ∧
  (∀ L D, Rw ms (Mt.rp L D) (k + 1) → (∀ n, n < 2 * k + 2 → Mt.cf ms n = Mt.mu L D (k + 1) n) → L.length = k + 1 → D.length = k → (∀ h, h < k → Mt.cf D h ≠ 0) → ∀ r a b H', Same H H' → H' r = some (.tup [.str "weights", .ref a, .ref b]) → Pl K H' a L → Pl K H' b D → Q (.ref r) H') ∧
  (∀ p i, i ≤ k → Rw ms p i → Mt.lf ms (p i) i = 0 → ∀ r a H', Same H H' → H' r = some (.tup [.str "barred", .int ((i : Int) + 1), .ref a]) → Pl K H' a (p i) → Q (.ref r) H'))
def Told (K : PySem.W.Frag) (H : Hp) (r : Addr) (ms : List Rat) (k : Nat) : Prop :=
  (∃ L D a b, Rw ms (Mt.rp L D) (k + 1) ∧ (∀ n, n < 2 * k + 2 → Mt.cf ms n = Mt.mu L D (k + 1) n) ∧ L.length = k + 1 ∧ D.length = k ∧ (∀ h, h < k → Mt.cf D h ≠ 0) ∧ H r = some (.tup [.str "weights", .ref a, .ref b]) ∧ Pl K H a L ∧ Pl K H b D) ∨
  (∃ p i a, i ≤ k ∧ Rw ms p i ∧ Mt.lf ms (p i) i = 0 ∧ H r = some (.tup [.str "barred", .int ((i : Int) + 1), .ref a]) ∧ Pl K H a (p i))
def spStands (K : PySem.W.Frag) : Sp := fun vs H Q _ => ∃ (r m : Addr) (xs : List V) (ms : List Rat) (k : Nat), vs = [.ref r, .ref m] ∧ H m = some (.lst xs) ∧ Frs K H ms xs ∧ ms.length = 2 * k + 2 ∧ k ≤ 7 ∧ Bt ms k ∧ Told K H r ms k ∧ ∀ H', Same H H' → Q (.bl true) H'
theorem prF_nz {f : Nat → Rat} : ∀ {n : Nat}, (∀ j, j < n → f j ≠ 0) → Mt.prF f n ≠ 0
  | 0, _ => by rw [Mt.prF]; decide
  | n + 1, h => by
    rw [Mt.prF]
    exact fun z => (Rat.mul_eq_zero.mp z).elim (prF_nz fun j hj => h j (by omega)) (h n (by omega))
theorem cutV_but (ys : List V) (h : 1 ≤ ys.length) : cutV ys none (some (-1)) = ys.take (ys.length - 1) := by
  unfold cutV
  rw [HT.sIx_none, List.drop_zero, Nat.sub_zero]
  have e : HT.sIx ys.length ys.length (some (-1)) = ys.length - 1 := by
    show (if (-1 : Int) < 0 then ((-1) + (ys.length : Int)).toNat else min (-1 : Int).toNat ys.length) = _
    rw [if_pos (by decide)]
    omega
  rw [e]
theorem cutV_one (ys : List V) : cutV ys (some 1) none = ys.drop 1 := by
  rcases ys with _ | ⟨y, ys⟩
  · rfl
  · exact cutV_from (y :: ys) 1 (by simp)
def spListBy (K : PySem.W.Frag) : Sp := fun vs H Q _ => ∃ (a : Addr) (ns : List Int) (b : Int), vs = [.ref a, .int b] ∧ SqL K H a (ns.map V.int) ∧ 0 ≤ b ∧ b ≤ 50 ∧ ∀ N H' xs ms, Same H H' → H N = none → H' N = some (.lst xs) → Frs K H' ms xs → ms.length ≤ 30 → Good ms → Q (.ref N) H'
section
variable {P : Program} {w : World} {K : PySem.W.Frag} {mg : Str → Option Value} {base : Heap} {C_HeightError : Addr} {C_NOUGHT : Addr} {C_NoCount : Addr} {C_NoFamily : Addr} {C_NoFraction : Addr} {C_NoHistory : Addr} {C_NoLine : Addr} {C_NoMeeting : Addr} {C_NoMoments : Addr} {C_NoName : Addr} {C_NoNumber : Addr} {C_NoSeries : Addr} {C_NoText : Addr} {C_NoThing : Addr} {C_NoWay : Addr} {C_NoWeights : Addr} {C_ONE : Addr} {C_TooFar : Addr} {C_TooHigh : Addr} {C_TooMany : Addr}
abbrev s_shared_part : Stmt := top 22
theorem sc_shared_part : FnScope ["a", "b", "larger", "lesser", "rest"] ["a", "b"] (defScope s_shared_part) := ⟨rfl, rfl, rfl, by decide +kernel, rfl, by decide +kernel, by decide +kernel⟩
theorem ok_shared_part {f : Addr} {fd : FuncData} (F : Fun K "shared_part" "shared_part" s_shared_part f fd) (m : mg "shared_part" = some (.ref f)) (T : Tx w K mg C_HeightError C_NOUGHT C_NoCount C_NoFamily C_NoFraction C_NoHistory C_NoLine C_NoMeeting C_NoMoments C_NoName C_NoNumber C_NoSeries C_NoText C_NoThing C_NoWay C_NoWeights C_ONE C_TooFar C_TooHigh C_TooMany) : Callee P w K mg base 1 "shared_part" ["a", "b"] (spGcd) := by
  refine ⟨f, fd, ?_, m, F.kp, F.binds fun _ _ _ _ _ _ us hl => match us, hl with | [_, _], _ => rfl⟩
  refine F.okE sc_shared_part (fun vs H Q E h => ?_) (fun cdv A outer s H vs Q E hr h => ?_)
  · obtain ⟨_, _, rfl, _⟩ := h
    rfl
  · obtain ⟨a, b, rfl, hq⟩ := h
    refine ⟨_, (pss_cons (ps_set (i := 2) sc_shared_part.nd rfl (Or.inl rfl) (pe_callB call_abs (by rfl) T.b_abs (by decide +kernel) (pa_cons (pv 0) pa_nil))) (pss_cons (ps_set (i := 3) sc_shared_part.nd rfl (Or.inl rfl) (pe_callB call_abs (by rfl) T.b_abs (by decide +kernel) (pa_cons (pv 1) pa_nil))) (pss_cons (ps_wh PassesOwn.never (pt_cmpR op_ne (pv 3) pe_int (nomark _)) (pss_cons (ps_set (i := 4) sc_shared_part.nd rfl (Or.inl rfl) (pe_op op_mod (pv 2) (pv 3))) (pss_cons (ps_set (i := 2) sc_shared_part.nd rfl (Or.inl rfl) (pv 3)) (pss_one (ps_set (i := 3) sc_shared_part.nd rfl (Or.inl rfl) (pv 4)))))) (pss_one (ps_ret (pv 2)))))), ?_⟩
    walk_at "rd"
    refine ⟨fun σ H' => ∃ (x y : Int) (r : Option V), σ = [some (.int a), some (.int b), some (.int x), some (.int y), r] ∧ H' = H ∧ 0 ≤ x ∧ 0 ≤ y ∧ Int.gcd x y = Int.gcd a b, fun σ _ => match σ with | [_, _, _, some (.int y), _] => y.toNat | _ => 0, ⟨_, _, none, rfl, rfl, ?_, ?_, gcd_abs a b⟩, ?_⟩
    · split <;> omega
    · split <;> omega
    rintro σ H' ⟨x, y, r, rfl, rfl, hx, hy, hg⟩
    by_cases hy0 : y = 0
    · subst hy0
      walk_at "rd"
      rw [← hg, gcd_end hx] at hq
      exact hq
    · have h1 := Int.emod_nonneg x hy0
      have h2 := Int.emod_lt_of_pos x (show 0 < y by omega)
      have h3 := gcd_step hx (show 0 < y by omega)
      walk_at "rd"
      exact .inr ⟨hy0, by omega, ⟨y, x % y, ⟨rfl, rfl⟩, hy, h1, h3.trans hg⟩, by omega⟩
abbrev s_plus : Stmt := top 23
theorem sc_plus : FnScope ["a", "b", "part", "top", "rest"] ["a", "b"] (defScope s_plus) := ⟨rfl, rfl, rfl, by decide +kernel, rfl, by decide +kernel, by decide +kernel⟩
theorem ok_plus {f : Addr} {fd : FuncData} (F : Fun K "plus" "plus" s_plus f fd) (m : mg "plus" = some (.ref f)) (T : Tx w K mg C_HeightError C_NOUGHT C_NoCount C_NoFamily C_NoFraction C_NoHistory C_NoLine C_NoMeeting C_NoMoments C_NoName C_NoNumber C_NoSeries C_NoText C_NoThing C_NoWay C_NoWeights C_ONE C_TooFar C_TooHigh C_TooMany) (c_shared_part : Callee P w K mg base 1 "shared_part" ["a", "b"] (spGcd)) : Callee P w K mg base 2 "plus" ["a", "b"] (spBin K (fun a b => a + b)) := by
  refine ⟨f, fd, ?_, m, F.kp, F.binds fun _ _ _ _ _ _ us hl => match us, hl with | [_, _], _ => rfl⟩
  refine F.okE sc_plus (fun vs H Q E h => ?_) (fun cdv A outer s H vs Q E hr h => ?_)
  · obtain ⟨_, _, _, _, rfl, _⟩ := h
    rfl
  · obtain ⟨pa, pb, a, b, rfl, ha, hb, sa, sb, hq⟩ := h
    refine ⟨_, (pss_cons (ps_set (i := 2) sc_plus.nd rfl (Or.inl rfl) (pe_c c_shared_part (hr.mono (by decide)) np (pa_cons (pe_ix ix_fq (pv 0) pe_int (fun _ _ => rfl)) (pa_cons (pe_ix ix_fq (pv 1) pe_int (fun _ _ => rfl)) pa_nil)))) (pss_cons (ps_set (i := 3) sc_plus.nd rfl (Or.inl rfl) (pe_op op_add (pe_op op_mulB (pe_ix ix_fq (pv 0) pe_int (fun _ _ => rfl)) (pe_op op_fdivB (pe_ix ix_fq (pv 1) pe_int (fun _ _ => rfl)) (pv 2))) (pe_op op_mulB (pe_ix ix_fq (pv 1) pe_int (fun _ _ => rfl)) (pe_op op_fdivB (pe_ix ix_fq (pv 0) pe_int (fun _ _ => rfl)) (pv 2))))) (pss_cons (ps_set (i := 4) sc_plus.nd rfl (Or.inl rfl) (pe_c c_shared_part (hr.mono (by decide)) np (pa_cons (pv 3) (pa_cons (pv 2) pa_nil)))) (pss_one (ps_ret (pe_tup (pa_cons (pe_op op_fdivB (pv 3) (pv 4)) (pa_cons (pe_op op_mulB (pe_op op_fdivB (pe_ix ix_fq (pv 0) pe_int (fun _ _ => rfl)) (pv 2)) (pe_op op_fdivB (pe_ix ix_fq (pv 1) pe_int (fun _ _ => rfl)) (pv 4))) pa_nil)))))))), ?_⟩
    have h := Mt.plus_rat a b
    dsimp only at h hq
    refine tSeq_step fun N hN => ?_
    walk_at "rd"
    refine ⟨a, ha, b, hb, _, _, rfl, hN _ _ ?_⟩
    clear hN N
    generalize ((Int.gcd (a.den : Int) (b.den : Int) : Nat) : Int) = g at h ⊢
    refine tSeq_step fun N hN => ?_
    walk_at "rd"
    have p0 := h.2.1
    have pb := h.2.2.2.2.1
    have bg : Bd 4000 g := sb.b.le (by omega)
    have l1 := h.2.2.2.2.2.2.1
    have l2 := h.2.2.2.2.2.2.2.1
    refine ⟨a, ha, b, hb, bg.dv (by omega), sa.t.mu (sb.b.le l1), b, hb, a, ha, bg.dv (by omega), sb.t.mu (sa.b.le l2), hN _ _ ?_⟩
    clear hN N
    generalize a.num * (b.den : Int).fdiv g + b.num * (a.den : Int).fdiv g = t at h ⊢
    refine tSeq_step fun N hN => ?_
    walk_at "rd"
    refine ⟨_, _, rfl, hN _ _ ?_⟩
    clear hN N
    generalize ((Int.gcd t g : Nat) : Int) = r at h ⊢
    walk_at "rd"
    obtain ⟨⟨e1, e2⟩, _, r0, _, _, rp, _, _, l3⟩ := h
    have br : Bd 4000 r := bg.le (by omega)
    refine ⟨br.dv (by omega), a, ha, bg.dv (by omega), b, hb, br.dv (by omega), (sa.b.le l2).mu (sb.b.le l3), sz_le 2 (by decide), fun p hp => ?_⟩
    rw [e1, e2]
    exact hq p _ (same_upd hp) hp upd_same
abbrev s_minus : Stmt := top 24
theorem sc_minus : FnScope ["a", "b"] ["a", "b"] (defScope s_minus) := ⟨rfl, rfl, rfl, by decide +kernel, rfl, by decide +kernel, by decide +kernel⟩
theorem ok_minus {f : Addr} {fd : FuncData} (F : Fun K "minus" "minus" s_minus f fd) (m : mg "minus" = some (.ref f)) (T : Tx w K mg C_HeightError C_NOUGHT C_NoCount C_NoFamily C_NoFraction C_NoHistory C_NoLine C_NoMeeting C_NoMoments C_NoName C_NoNumber C_NoSeries C_NoText C_NoThing C_NoWay C_NoWeights C_ONE C_TooFar C_TooHigh C_TooMany) (c_plus : Callee P w K mg base 2 "plus" ["a", "b"] (spBin K (fun a b => a + b))) : Callee P w K mg base 3 "minus" ["a", "b"] (spBin K (fun a b => a - b)) := by
  refine ⟨f, fd, ?_, m, F.kp, F.binds fun _ _ _ _ _ _ us hl => match us, hl with | [_, _], _ => rfl⟩
  refine F.okE sc_minus (fun vs H Q E h => ?_) (fun cdv A outer s H vs Q E hr h => ?_)
  · obtain ⟨_, _, _, _, rfl, _⟩ := h
    rfl
  · obtain ⟨pa, pb, a, b, rfl, ha, hb, sa, sb, hq⟩ := h
    refine ⟨_, (pss_one (ps_ret (pe_c c_plus (hr.mono (by decide)) np (pa_cons (pv 0) (pa_cons (pe_tup (pa_cons (pe_un un_neg (pe_ix ix_fq (pv 1) pe_int (fun _ _ => rfl))) (pa_cons (pe_ix ix_fq (pv 1) pe_int (fun _ _ => rfl)) pa_nil))) pa_nil))))), ?_⟩
    dsimp only at hq
    walk_at "rd"
    refine ⟨b, hb, b, hb, sz_le 2 (by decide), fun p hp => ⟨pa, p, a, -b, rfl, ha.same (same_upd hp), Fq.of (by rw [frO, Rat.neg_num, Rat.neg_den]; exact upd_same), sa, sb.neg, fun r H' sm hr h => hq r H' ((same_upd hp).trans sm) ((same_upd hp).free hr) (by rw [Rat.sub_eq_add_neg]; exact h)⟩⟩
abbrev s_times : Stmt := top 25
theorem sc_times : FnScope ["a", "b", "first", "second"] ["a", "b"] (defScope s_times) := ⟨rfl, rfl, rfl, by decide +kernel, rfl, by decide +kernel, by decide +kernel⟩
theorem ok_times {f : Addr} {fd : FuncData} (F : Fun K "times" "times" s_times f fd) (m : mg "times" = some (.ref f)) (T : Tx w K mg C_HeightError C_NOUGHT C_NoCount C_NoFamily C_NoFraction C_NoHistory C_NoLine C_NoMeeting C_NoMoments C_NoName C_NoNumber C_NoSeries C_NoText C_NoThing C_NoWay C_NoWeights C_ONE C_TooFar C_TooHigh C_TooMany) (c_shared_part : Callee P w K mg base 1 "shared_part" ["a", "b"] (spGcd)) : Callee P w K mg base 2 "times" ["a", "b"] (spBin K (fun a b => a * b)) := by
  refine ⟨f, fd, ?_, m, F.kp, F.binds fun _ _ _ _ _ _ us hl => match us, hl with | [_, _], _ => rfl⟩
  refine F.okE sc_times (fun vs H Q E h => ?_) (fun cdv A outer s H vs Q E hr h => ?_)
  · obtain ⟨_, _, _, _, rfl, _⟩ := h
    rfl
  · obtain ⟨pa, pb, a, b, rfl, ha, hb, sa, sb, hq⟩ := h
    refine ⟨_, (pss_cons (ps_set (i := 2) sc_times.nd rfl (Or.inl rfl) (pe_c c_shared_part (hr.mono (by decide)) np (pa_cons (pe_ix ix_fq (pv 0) pe_int (fun _ _ => rfl)) (pa_cons (pe_ix ix_fq (pv 1) pe_int (fun _ _ => rfl)) pa_nil)))) (pss_cons (ps_set (i := 3) sc_times.nd rfl (Or.inl rfl) (pe_c c_shared_part (hr.mono (by decide)) np (pa_cons (pe_ix ix_fq (pv 1) pe_int (fun _ _ => rfl)) (pa_cons (pe_ix ix_fq (pv 0) pe_int (fun _ _ => rfl)) pa_nil)))) (pss_one (ps_ret (pe_tup (pa_cons (pe_op op_mulB (pe_op op_fdivB (pe_ix ix_fq (pv 0) pe_int (fun _ _ => rfl)) (pv 2)) (pe_op op_fdivB (pe_ix ix_fq (pv 1) pe_int (fun _ _ => rfl)) (pv 3))) (pa_cons (pe_op op_mulB (pe_op op_fdivB (pe_ix ix_fq (pv 0) pe_int (fun _ _ => rfl)) (pv 3)) (pe_op op_fdivB (pe_ix ix_fq (pv 1) pe_int (fun _ _ => rfl)) (pv 2))) pa_nil))))))), ?_⟩
    have h := Mt.times_rat a b
    dsimp only at h hq
    refine tSeq_step fun N hN => ?_
    walk_at "rd"
    refine ⟨a, ha, b, hb, _, _, rfl, hN _ _ ?_⟩
    clear hN N
    generalize ((Int.gcd a.num (b.den : Int) : Nat) : Int) = f at h ⊢
    refine tSeq_step fun N hN => ?_
    walk_at "rd"
    refine ⟨b, hb, a, ha, _, _, rfl, hN _ _ ?_⟩
    clear hN N
    generalize ((Int.gcd b.num (a.den : Int) : Nat) : Int) = s at h ⊢
    walk_at "rd"
    obtain ⟨⟨e1, e2⟩, f0, s0, fb, sc, l1, l2, l3, l4⟩ := h
    have bf : Bd 4000 f := sb.b.le (by omega)
    have bs : Bd 4000 s := sa.b.le (by omega)
    refine ⟨a, ha, bf.dv (by omega), b, hb, bs.dv (by omega), (sa.t.le l1).mu (sb.t.le l2), a, ha, bs.dv (by omega), b, hb, bf.dv (by omega), (sa.b.le l3).mu (sb.b.le l4), sz_le 2 (by decide), fun p hp => ?_⟩
    rw [e1, e2]
    exact hq p _ (same_upd hp) hp upd_same
abbrev s_over : Stmt := top 26
theorem sc_over : FnScope ["a", "b"] ["a", "b"] (defScope s_over) := ⟨rfl, rfl, rfl, by decide +kernel, rfl, by decide +kernel, by decide +kernel⟩
theorem ok_over {f : Addr} {fd : FuncData} (F : Fun K "over" "over" s_over f fd) (m : mg "over" = some (.ref f)) (T : Tx w K mg C_HeightError C_NOUGHT C_NoCount C_NoFamily C_NoFraction C_NoHistory C_NoLine C_NoMeeting C_NoMoments C_NoName C_NoNumber C_NoSeries C_NoText C_NoThing C_NoWay C_NoWeights C_ONE C_TooFar C_TooHigh C_TooMany) (c_times : Callee P w K mg base 2 "times" ["a", "b"] (spBin K (fun a b => a * b))) : Callee P w K mg base 3 "over" ["a", "b"] (spOver K C_NoFraction) := by
  refine ⟨f, fd, ?_, m, F.kp, F.binds fun _ _ _ _ _ _ us hl => match us, hl with | [_, _], _ => rfl⟩
  refine F.okX sc_over (fun vs H Q E h => ?_) (fun cdv A outer s H vs Q E hr h => ?_)
  · obtain ⟨_, _, _, _, rfl, _⟩ := h
    rfl
  · obtain ⟨pa, pb, a, b, rfl, ha, hb, sa, sb, h0, h1⟩ := h
    refine ⟨_, (pss_cons (ps_if (pt_cmpR op_eq (pe_ix ix_fq (pv 1) pe_int (fun _ _ => rfl)) pe_int (nomark _)) (pss_one (ps_raise raises_cx rfl rfl T.m_NoFraction T.x_NoFraction (pa_cons pe_str pa_nil))) pss_nil) (pss_cons (ps_if (pt_cmpR op_lt (pe_ix ix_fq (pv 1) pe_int (fun _ _ => rfl)) pe_int (nomark _)) (pss_one (ps_ret (pe_c c_times (hr.mono (by decide)) pass_cx (pa_cons (pv 0) (pa_cons (pe_tup (pa_cons (pe_un un_neg (pe_ix ix_fq (pv 1) pe_int (fun _ _ => rfl))) (pa_cons (pe_un un_neg (pe_ix ix_fq (pv 1) pe_int (fun _ _ => rfl))) pa_nil))) pa_nil))))) pss_nil) (pss_one (ps_ret (pe_c c_times (hr.mono (by decide)) pass_cx (pa_cons (pv 0) (pa_cons (pe_tup (pa_cons (pe_ix ix_fq (pv 1) pe_int (fun _ _ => rfl)) (pa_cons (pe_ix ix_fq (pv 1) pe_int (fun _ _ => rfl)) pa_nil))) pa_nil))))))), ?_⟩
    walk_at "rd"
    refine ⟨b, hb, ?_⟩
    split
    · rename_i z
      exact ⟨sz_le 1 (by decide), h0 z⟩
    rename_i z
    have nz := Mt.num_ne z
    refine ⟨b, hb, ?_⟩
    split
    · rename_i y
      have e := Mt.inv_neg y
      refine ⟨b, hb, b, hb, sz_le 2 (by decide), fun p hp => ⟨pa, p, a, b⁻¹, rfl, ha.same (same_upd hp), Fq.of ?_, sa, ⟨?_, ?_⟩, fun r H' sm hr h => h1 z r H' ((same_upd hp).trans sm) ((same_upd hp).free hr) (by rw [Rat.div_def]; exact h)⟩⟩
      · rw [frO, ← e.1, ← e.2]; exact upd_same
      · rw [← e.1]; exact sb.b.neg
      · rw [← e.2]; exact sb.t.neg
    · rename_i y
      have e := Mt.inv_pos (b := b) (by omega)
      refine ⟨b, hb, b, hb, sz_le 2 (by decide), fun p hp => ⟨pa, p, a, b⁻¹, rfl, ha.same (same_upd hp), Fq.of ?_, sa, ⟨?_, ?_⟩, fun r H' sm hr h => h1 z r H' ((same_upd hp).trans sm) ((same_upd hp).free hr) (by rw [Rat.div_def]; exact h)⟩⟩
      · rw [frO, ← e.1, ← e.2]; exact upd_same
      · rw [← e.1]; exact sb.b
      · rw [← e.2]; exact sb.t
abbrev s_poly_of : Stmt := top 28
theorem sc_poly_of : FnScope ["numbers", "many"] ["numbers"] (defScope s_poly_of) := ⟨rfl, rfl, rfl, by decide +kernel, rfl, by decide +kernel, by decide +kernel⟩
theorem ok_poly_of {f : Addr} {fd : FuncData} (F : Fun K "poly_of" "poly_of" s_poly_of f fd) (m : mg "poly_of" = some (.ref f)) (T : Tx w K mg C_HeightError C_NOUGHT C_NoCount C_NoFamily C_NoFraction C_NoHistory C_NoLine C_NoMeeting C_NoMoments C_NoName C_NoNumber C_NoSeries C_NoText C_NoThing C_NoWay C_NoWeights C_ONE C_TooFar C_TooHigh C_TooMany) : Callee P w K mg base 1 "poly_of" ["numbers"] (spPolyOf K) := by
  refine ⟨f, fd, ?_, m, F.kp, F.binds fun _ _ _ _ _ _ us hl => match us, hl with | [_], _ => rfl⟩
  refine F.okE sc_poly_of (fun vs H Q E h => ?_) (fun cdv A outer s H vs Q E hr h => ?_)
  · obtain ⟨_, _, _, rfl, _⟩ := h
    rfl
  · obtain ⟨a, xs, f, rfl, hs, hf, hl, hq⟩ := h
    refine ⟨_, (pss_cons (ps_set (i := 1) sc_poly_of.nd rfl (Or.inl rfl) (pe_callB call_len_seq (by rfl) T.b_len PySem.boot_len (pa_cons (pv 0) pa_nil))) (pss_cons (ps_wh PassesOwn.never (PW.pt (pw_and (pt_cmpR op_gt (pv 1) pe_int (nomark _)) (pw_and1 (pt_cmpR (op_eqD hr.units) (pe_ix ix_seq (pv 0) (pe_op op_sub (pv 1) pe_int) (fun _ _ => rfl)) (pe_glob (v := .ref C_NOUGHT) rfl T.m_NOUGHT rfl) (nomark _))))) (pss_one (ps_set (i := 1) sc_poly_of.nd rfl (Or.inl rfl) (pe_op op_sub (pv 1) pe_int)))) (pss_one (ps_ret (pe_callTy call_tuple_of (by rfl) T.b_tuple (by decide +kernel) (pa_cons (pe_slice (sl_list.or sl_tupA) (pv 0) po_none (po_some (pv 1))) pa_nil)))))), ?_⟩
    have hlen := hf.len
    refine tSeq_step fun N hN => ?_
    walk_at "rd"
    refine ⟨xs, hs, hN _ _ ?_⟩
    clear hN N
    refine tSeq_step fun N hN => ?_
    walk_at "rd"
    refine ⟨fun σ H' => ∃ k : Nat, σ = [some (.ref a), some (.int k)] ∧ H' = H ∧ k ≤ f.length ∧ ∀ i, k ≤ i → Mt.cf f i = 0, fun σ _ => match σ with | [_, some (.int y)] => y.toNat | _ => 0, ⟨xs.length, rfl, rfl, by omega, fun i hi => Mt.cf_ge (by omega)⟩, ?_⟩
    rintro σ H' ⟨k, rfl, rfl, hk, hz⟩
    have fin : (k = 0 ∨ Mt.cf f (k - 1) ≠ 0) → N [some (.ref a), some (.int k)] H' := fun h1 => by
      have e := Mt.take_trim hk hz h1
      have ef : Frs K H' (Mt.trim f) (cutV xs none (some (k : Int))) := by rw [cutV_to _ _ (by omega), ← e]; exact hf.take k
      refine hN _ _ ?_
      walk_at "rd"
      rcases hs with h | h
      · exact .inl ⟨a, xs, rfl, h, fun p hp => ⟨p, rfl, _, .inl ⟨SqL.of upd_same, fun l hl => hq l _ ((same_upd hp).trans (same_upd hl)) ⟨_, SqT.of upd_same, ef.same ((same_upd hp).trans (same_upd hl))⟩⟩⟩⟩
      · exact .inr ⟨a, xs, rfl, h, fun p H1 s1 h1 => ⟨p, rfl, _, .inr ⟨h1, hq p H1 s1 ⟨_, h1, ef.same s1⟩⟩⟩⟩
    clear hN
    by_cases k0 : k = 0
    · subst k0
      walk_at "rd"
      exact fin (.inl rfl)
    obtain ⟨r, e, fr⟩ := hf.at (j := k - 1) (by omega)
    have ek : ((k : Int) - 1) = ((k - 1 : Nat) : Int) := by omega
    have at1 := atI_nat e
    rw [← ek] at at1
    have k1 : (0 : Int) < k := by omega
    walk_at "rd"
    rw [if_pos (by omega)]
    have both : rEqD K false (.ref r) (.ref C_NOUGHT) H' fun x H'_1 => x = V.bl false ∧ N [some (V.ref a), some (V.int ↑k)] H'_1 ∨ x = V.bl true ∧ (∃ k_1 : Nat, (k : Int) - 1 = ↑k_1 ∧ H'_1 = H' ∧ k_1 ≤ f.length ∧ ∀ (i : Nat), k_1 ≤ i → Mt.cf f i = 0) ∧ k - 1 < k := by
      refine fr_cmp (rep_fr fr) (rep_fr (T.nought H')) ?_
      by_cases z : Mt.cf f (k - 1) = 0
      · refine .inr ⟨by simp [z], ⟨k - 1, ek, rfl, by omega, fun i hi => ?_⟩, by omega⟩
        by_cases e2 : i = k - 1
        · rw [e2]; exact z
        · exact hz i (by omega)
      · exact .inl ⟨by simp [z], fin (.inr z)⟩
    rcases hs with h | h
    · exact .inl ⟨a, xs, _, _, rfl, rfl, h, at1, both⟩
    · exact .inr (.inl ⟨a, xs, _, _, rfl, rfl, h, at1, both⟩)
abbrev s_number_at : Stmt := top 29
theorem sc_number_at : FnScope ["f", "power"] ["f", "power"] (defScope s_number_at) := ⟨rfl, rfl, rfl, by decide +kernel, rfl, by decide +kernel, by decide +kernel⟩
theorem ok_number_at {f : Addr} {fd : FuncData} (F : Fun K "number_at" "number_at" s_number_at f fd) (m : mg "number_at" = some (.ref f)) (T : Tx w K mg C_HeightError C_NOUGHT C_NoCount C_NoFamily C_NoFraction C_NoHistory C_NoLine C_NoMeeting C_NoMoments C_NoName C_NoNumber C_NoSeries C_NoText C_NoThing C_NoWay C_NoWeights C_ONE C_TooFar C_TooHigh C_TooMany) : Callee P w K mg base 1 "number_at" ["f", "power"] (spNumAt K) := by
  refine ⟨f, fd, ?_, m, F.kp, F.binds fun _ _ _ _ _ _ us hl => match us, hl with | [_, _], _ => rfl⟩
  refine F.okE sc_number_at (fun vs H Q E h => ?_) (fun cdv A outer s H vs Q E hr h => ?_)
  · obtain ⟨_, _, _, rfl, _⟩ := h
    rfl
  · obtain ⟨p, f, n, rfl, hp, hq⟩ := h
    refine ⟨_, (pss_one (ps_ret (pe_ifExp (pt_cmpR op_lt (pv 1) (pe_callB call_len_seq (by rfl) T.b_len PySem.boot_len (pa_cons (pv 0) pa_nil)) (nomark _)) (pe_ix ix_tup (pv 0) (pv 1) (fun _ _ => rfl)) (pe_glob (v := .ref C_NOUGHT) rfl T.m_NOUGHT rfl)))), ?_⟩
    obtain ⟨xs, hx, hf⟩ := hp
    have hlen := hf.len
    walk_at "rd"
    refine ⟨xs, .inr hx, ?_⟩
    split
    · rename_i h
      obtain ⟨r, e, fr⟩ := hf.at (j := n) (by omega)
      exact ⟨xs, hx, _, atI_nat e, hq r fr⟩
    · rename_i h
      refine hq _ ?_
      rw [Mt.cf_ge (by omega)]
      exact T.nought H
abbrev s_poly_plus : Stmt := top 30
theorem sc_poly_plus : FnScope ["f", "g"] ["f", "g"] (defScope s_poly_plus) := ⟨rfl, rfl, rfl, by decide +kernel, rfl, by decide +kernel, by decide +kernel⟩
theorem ok_poly_plus {f : Addr} {fd : FuncData} (F : Fun K "poly_plus" "poly_plus" s_poly_plus f fd) (m : mg "poly_plus" = some (.ref f)) (T : Tx w K mg C_HeightError C_NOUGHT C_NoCount C_NoFamily C_NoFraction C_NoHistory C_NoLine C_NoMeeting C_NoMoments C_NoName C_NoNumber C_NoSeries C_NoText C_NoThing C_NoWay C_NoWeights C_ONE C_TooFar C_TooHigh C_TooMany) (c_number_at : Callee P w K mg base 1 "number_at" ["f", "power"] (spNumAt K)) (c_plus : Callee P w K mg base 2 "plus" ["a", "b"] (spBin K (fun a b => a + b))) (c_poly_of : Callee P w K mg base 1 "poly_of" ["numbers"] (spPolyOf K)) : Callee P w K mg base 3 "poly_plus" ["f", "g"] (spPP K Mt.padd) := by
  refine ⟨f, fd, ?_, m, F.kp, F.binds fun _ _ _ _ _ _ us hl => match us, hl with | [_, _], _ => rfl⟩
  refine F.okE sc_poly_plus (fun vs H Q E h => ?_) (fun cdv A outer s H vs Q E hr h => ?_)
  · obtain ⟨_, _, _, _, rfl, _⟩ := h
    rfl
  · obtain ⟨pf, pg, f, g, rfl, hf, hg, lf, lg, sf, sg, hq⟩ := h
    refine ⟨_, (pss_one (ps_ret (pe_c c_poly_of (hr.mono (by decide)) np (pa_cons (PCo.pe (coR T.b_range (pe_callB (call_max2 rfl) (by rfl) T.b_max (by decide +kernel) (pa_cons (pe_callB call_len_seq (by rfl) T.b_len PySem.boot_len (pa_cons (pv 0) pa_nil)) (pa_cons (pe_callB call_len_seq (by rfl) T.b_len PySem.boot_len (pa_cons (pv 1) pa_nil)) pa_nil))) (fun _ hpi => pe_comp2 ["n"] "g" 1 "f" 0 rfl hpi (fun _ _ _ _ _ => (pg_name (i := 0) (show List.Nodup [("n" : Str), ("g" : Str), ("f" : Str)] by decide +kernel) rfl (Or.inl rfl) (Or.inr rfl)).mo) (fun _ _ _ _ _ => PE.mo (pe_c c_plus (hr.mono (by decide)) np (pa_cons (pe_c c_number_at (hr.mono (by decide)) np (pa_cons (pv 2) (pa_cons (pv 0) pa_nil))) (pa_cons (pe_c c_number_at (hr.mono (by decide)) np (pa_cons (pv 1) (pa_cons (pv 0) pa_nil))) pa_nil)))) rfl rfl rfl rfl rfl rfl rfl rfl rfl))) pa_nil)))), ?_⟩
    obtain ⟨xs, hx, fx⟩ := id hf
    obtain ⟨ys, hy, fy⟩ := id hg
    have l1 := fx.len
    have l2 := fy.len
    walk_at "rd"
    refine ⟨xs, .inr hx, ys, .inr hy, ?_⟩
    have e : (if (xs.length : Int) < ys.length then (ys.length : Int) else xs.length).toNat = max f.length g.length := by split <;> omega
    refine ⟨_, _, ⟨rfl, rfl⟩, by split <;> omega, by split <;> omega, ?_⟩
    rw [e]
    refine CO.frs (K := K) (fun n => Mt.cf f n + Mt.cf g n) (by omega) (fun _ _ => trivial) (fun i H' x R hi sm hx' k => ?_) fun D H' zs sm nD hD hfr => ?_
    · subst hx'
      walk_at "rd"
      exact ⟨pf, f, i, rfl, hf.same sm, fun r1 h1 => ⟨pg, g, i, rfl, hg.same sm, fun r2 h2 => ⟨r1, r2, _, _, rfl, h1, h2, (sf i).mono (by decide), (sg i).mono (by decide), fun r H3 s3 _ h3 => k r H3 s3 (Fq.of h3)⟩⟩⟩
    · exact ⟨D, zs, _, rfl, .inl (SqL.of hD), hfr, by simp; omega, fun p H2 s2 h2 => hq p H2 (sm.trans s2) h2⟩
abbrev s_poly_scaled : Stmt := top 33
theorem sc_poly_scaled : FnScope ["f", "a"] ["f", "a"] (defScope s_poly_scaled) := ⟨rfl, rfl, rfl, by decide +kernel, rfl, by decide +kernel, by decide +kernel⟩
theorem ok_poly_scaled {f : Addr} {fd : FuncData} (F : Fun K "poly_scaled" "poly_scaled" s_poly_scaled f fd) (m : mg "poly_scaled" = some (.ref f)) (T : Tx w K mg C_HeightError C_NOUGHT C_NoCount C_NoFamily C_NoFraction C_NoHistory C_NoLine C_NoMeeting C_NoMoments C_NoName C_NoNumber C_NoSeries C_NoText C_NoThing C_NoWay C_NoWeights C_ONE C_TooFar C_TooHigh C_TooMany) (c_poly_of : Callee P w K mg base 1 "poly_of" ["numbers"] (spPolyOf K)) (c_times : Callee P w K mg base 2 "times" ["a", "b"] (spBin K (fun a b => a * b))) : Callee P w K mg base 3 "poly_scaled" ["f", "a"] (spScaled K) := by
  refine ⟨f, fd, ?_, m, F.kp, F.binds fun _ _ _ _ _ _ us hl => match us, hl with | [_, _], _ => rfl⟩
  refine F.okE sc_poly_scaled (fun vs H Q E h => ?_) (fun cdv A outer s H vs Q E hr h => ?_)
  · obtain ⟨_, _, _, _, rfl, _⟩ := h
    rfl
  · obtain ⟨pf, pa, f, a, rfl, hf, ha, lf, sf, sa, hq⟩ := h
    refine ⟨_, (pss_one (ps_ret (pe_c c_poly_of (hr.mono (by decide)) np (pa_cons (PCo.pe (coT (pv 0) (fun _ hpi => pe_comp1 ["number"] "a" 1 rfl hpi (fun _ _ _ _ _ => (pg_name (i := 0) (show List.Nodup [("number" : Str), ("a" : Str)] by decide +kernel) rfl (Or.inl rfl) (Or.inr rfl)).mo) (fun _ _ _ _ _ => PE.mo (pe_c c_times (hr.mono (by decide)) np (pa_cons (pv 0) (pa_cons (pv 1) pa_nil)))) rfl rfl rfl rfl rfl))) pa_nil)))), ?_⟩
    obtain ⟨xs, hx, fx⟩ := id hf
    have l1 := fx.len
    walk_at "rd"
    refine ⟨xs, hx, CO.frs (K := K) (fun i => Mt.cf f i * a) (by omega) (fun H' s => s.seqT hx) (fun i H' x R hi sm hx' k => ?_) fun D H' ys sm nD hD hfr => ?_⟩
    · obtain ⟨p, e, fq⟩ := fx.at (j := i) (by omega)
      cases e.symm.trans hx'
      walk_at "rd"
      exact ⟨p, pa, _, a, rfl, fq.same sm, ha.same sm, sf i, sa, fun r H3 s3 _ h3 => k r H3 s3 (Fq.of h3)⟩
    · refine ⟨D, ys, _, rfl, .inl (SqL.of hD), hfr, by simp; omega, fun p H2 s2 h2 => hq p H2 (sm.trans s2) ?_⟩
      rw [← l1, Mt.map_cf (fun x => x * a)] at h2
      exact h2
abbrev s_poly_minus : Stmt := top 31
theorem sc_poly_minus : FnScope ["f", "g"] ["f", "g"] (defScope s_poly_minus) := ⟨rfl, rfl, rfl, by decide +kernel, rfl, by decide +kernel, by decide +kernel⟩
theorem ok_poly_minus {f : Addr} {fd : FuncData} (F : Fun K "poly_minus" "poly_minus" s_poly_minus f fd) (m : mg "poly_minus" = some (.ref f)) (T : Tx w K mg C_HeightError C_NOUGHT C_NoCount C_NoFamily C_NoFraction C_NoHistory C_NoLine C_NoMeeting C_NoMoments C_NoName C_NoNumber C_NoSeries C_NoText C_NoThing C_NoWay C_NoWeights C_ONE C_TooFar C_TooHigh C_TooMany) (c_poly_plus : Callee P w K mg base 3 "poly_plus" ["f", "g"] (spPP K Mt.padd)) (c_poly_scaled : Callee P w K mg base 3 "poly_scaled" ["f", "a"] (spScaled K)) : Callee P w K mg base 4 "poly_minus" ["f", "g"] (spPP K Mt.psub) := by
  refine ⟨f, fd, ?_, m, F.kp, F.binds fun _ _ _ _ _ _ us hl => match us, hl with | [_, _], _ => rfl⟩
  refine F.okE sc_poly_minus (fun vs H Q E h => ?_) (fun cdv A outer s H vs Q E hr h => ?_)
  · obtain ⟨_, _, _, _, rfl, _⟩ := h
    rfl
  · obtain ⟨pf, pg, f, g, rfl, hf, hg, lf, lg, sf, sg, hq⟩ := h
    refine ⟨_, (pss_one (ps_ret (pe_c c_poly_plus (hr.mono (by decide)) np (pa_cons (pv 0) (pa_cons (pe_c c_poly_scaled (hr.mono (by decide)) np (pa_cons (pv 1) (pa_cons (pe_tup (pa_cons (pe_un un_neg pe_int) (pa_cons pe_int pa_nil))) pa_nil))) pa_nil))))), ?_⟩
    walk_at "rd"
    refine ⟨sz_le 2 (by decide), fun p hp => ⟨pg, p, g, -1, rfl, hg.same (same_upd hp), Fq.of upd_same, lg, fun n => (sg n).mono (by decide), ⟨by show (_ : Nat) < _; decide, by show (_ : Nat) < _; decide⟩, fun r H1 s1 h1 => ?_⟩⟩
    have s01 := (same_upd hp).trans s1
    refine ⟨pf, r, f, _, rfl, hf.same s01, h1, lf, Nat.le_trans (Mt.trim_len _) (by simpa using lg), sf, fun n => ?_, fun r2 H2 s2 h2 => hq r2 H2 (s01.trans s2) h2⟩
    rw [Mt.cf_pscale, show Mt.cf g n * -1 = -Mt.cf g n by grind]
    exact (sg n).neg
abbrev s_poly_times : Stmt := top 32
theorem sc_poly_times : FnScope ["f", "g", "sums", "i", "a", "j", "b"] ["f", "g"] (defScope s_poly_times) := ⟨rfl, rfl, rfl, by decide +kernel, rfl, by decide +kernel, by decide +kernel⟩
theorem ok_poly_times {f : Addr} {fd : FuncData} (F : Fun K "poly_times" "poly_times" s_poly_times f fd) (m : mg "poly_times" = some (.ref f)) (T : Tx w K mg C_HeightError C_NOUGHT C_NoCount C_NoFamily C_NoFraction C_NoHistory C_NoLine C_NoMeeting C_NoMoments C_NoName C_NoNumber C_NoSeries C_NoText C_NoThing C_NoWay C_NoWeights C_ONE C_TooFar C_TooHigh C_TooMany) (c_plus : Callee P w K mg base 2 "plus" ["a", "b"] (spBin K (fun a b => a + b))) (c_poly_of : Callee P w K mg base 1 "poly_of" ["numbers"] (spPolyOf K)) (c_times : Callee P w K mg base 2 "times" ["a", "b"] (spBin K (fun a b => a * b))) : Callee P w K mg base 3 "poly_times" ["f", "g"] (spMulP K) := by
  refine ⟨f, fd, ?_, m, F.kp, F.binds fun _ _ _ _ _ _ us hl => match us, hl with | [_, _], _ => rfl⟩
  refine F.okE sc_poly_times (fun vs H Q E h => ?_) (fun cdv A outer s H vs Q E hr h => ?_)
  · obtain ⟨_, _, _, _, _, _, rfl, _⟩ := h
    rfl
  · obtain ⟨pf, pg, f, g, b, c, rfl, hf, hg, lf, lg, bf, bg, hbc, hq⟩ := h
    refine ⟨_, (pss_cons (PCo.ps (i := 2) (coR T.b_range (pe_op op_add (pe_callB call_len_seq (by rfl) T.b_len PySem.boot_len (pa_cons (pv 0) pa_nil)) (pe_callB call_len_seq (by rfl) T.b_len PySem.boot_len (pa_cons (pv 1) pa_nil))) (fun _ hpi => pe_comp0 ["place"] rfl hpi (fun _ _ _ _ _ => (pg_name (i := 0) (show List.Nodup [("place" : Str)] by decide +kernel) rfl (Or.inl rfl) (Or.inr rfl)).mo) (fun _ _ _ _ _ => PE.mo (pe_glob (v := .ref C_NOUGHT) rfl T.m_NOUGHT rfl)))) sc_poly_times.nd rfl (Or.inl rfl)) (pss_cons (ps_forE rfl PassesOwn.never T.b_enumerate (pv 0) (pg_tup rfl (pgs_cons (pg_name (i := 3) sc_poly_times.nd rfl (Or.inl rfl)) (pgs_cons (pg_name (i := 4) sc_poly_times.nd rfl (Or.inl rfl)) pgs_nil))) (pss_one (ps_forE rfl PassesOwn.never T.b_enumerate (pv 1) (pg_tup rfl (pgs_cons (pg_name (i := 5) sc_poly_times.nd rfl (Or.inl rfl)) (pgs_cons (pg_name (i := 6) sc_poly_times.nd rfl (Or.inl rfl)) pgs_nil))) (pss_one (ps_asg (pe_c c_plus (hr.mono (by decide)) np (pa_cons (pe_ix ix_list (pv 2) (pe_op op_add (pv 3) (pv 5)) (fun _ _ => rfl)) (pa_cons (pe_c c_times (hr.mono (by decide)) np (pa_cons (pv 4) (pa_cons (pv 6) pa_nil))) pa_nil))) (pg_sub (pv 2) (pe_op op_add (pv 3) (pv 5)) set_list)))))) (pss_one (ps_ret (pe_c c_poly_of (hr.mono (by decide)) np (pa_cons (pv 2) pa_nil)))))), ?_⟩
    obtain ⟨xs, hx, fx⟩ := id hf
    obtain ⟨ys, hy, fy⟩ := id hg
    have l1 := fx.len
    have l2 := fy.len
    refine tSeq_step fun N hN => ?_
    walk_at "rd"
    have en : (((xs.length : Int) + (ys.length : Int)).toNat) = f.length + g.length := by omega
    refine ⟨xs, .inr hx, ys, .inr hy, by omega, by omega, ?_⟩
    rw [en]
    refine CO.frs (K := K) (fun _ => 0) (by omega) (fun _ _ => trivial) (fun i H' x R hi sm hx' k => k _ _ (Same.refl _) (T.nought _)) fun D H1 zs s1 nD hD hfr => hN _ _ ?_
    clear hN N
    have e0 : (List.range (f.length + g.length)).map (fun _ => (0 : Rat)) = Mt.prodIn f g 0 := by rw [Mt.prodIn_zero, List.map_const', List.length_range]
    rw [e0] at hfr
    refine tSeq_step fun N hN => ?_
    walk_at "rd"
    refine ⟨xs, s1.seqT hx, fun i σ H' => ∃ r3 r4 r5 r6 zs, σ = [some (.ref pf), some (.ref pg), some (.ref D), r3, r4, r5, r6] ∧ Same H H' ∧ H' D = some (.lst zs) ∧ Frs K H' (Mt.prodIn f g i) zs, ⟨none, none, none, none, zs, rfl, s1, hD, hfr⟩, ?_, ?_, ?_⟩
    · rintro i σ H' _ ⟨_, _, _, _, _, _, sm, _⟩
      exact sm.seqT hx
    · rintro i x σ H' p hxi ⟨r3, r4, r5, r6, zs, rfl, sm, hd, hz⟩ hp
      have hi : i < f.length := by rw [l1]; exact (List.getElem?_eq_some_iff.mp hxi).1
      obtain ⟨ra, ea, fa⟩ := fx.at hi
      cases ea.symm.trans hxi
      have w1 := same_upd (o := .tup [.int i, .ref ra]) hp
      have sm1 := sm.trans w1
      have hz1 := hz.same w1
      have hd1 := w1 _ _ hd
      have et : SqT K (upd H' p (.tup [.int i, .ref ra])) p [.int i, .ref ra] := SqT.of upd_same
      generalize upd H' p (.tup [.int i, .ref ra]) = G1 at sm1 hz1 hd1 et ⊢
      walk_at "rd"
      refine ⟨_, et, rfl, _, _, rfl, _, _, rfl, rfl, ys, sm1.seqT hy, ?_⟩
      refine ⟨fun j σ H' => ∃ r5 r6 zs, σ = [some (.ref pf), some (.ref pg), some (.ref D), some (.int i), some (.ref ra), r5, r6] ∧ Same H H' ∧ H' D = some (.lst zs) ∧ Frs K H' (Mt.rowIn (Mt.prodIn f g i) i (Mt.cf f i) g j) zs, ⟨r5, r6, zs, rfl, sm1, hd1, hz1⟩, ?_, ?_, ?_⟩
      · rintro j σ H' _ ⟨_, _, _, _, sm, _⟩
        exact sm.seqT hy
      · rintro j y σ H2 p2 hyj ⟨r5, r6, zs2, rfl, sm2, hd2, hz2⟩ hp2
        have hj : j < g.length := by rw [l2]; exact (List.getElem?_eq_some_iff.mp hyj).1
        obtain ⟨rb, eb, fb⟩ := fy.at hj
        cases eb.symm.trans hyj
        have w2 := same_upd (o := .tup [.int j, .ref rb]) hp2
        replace sm2 := sm2.trans w2
        replace hz2 := hz2.same w2
        replace hd2 := w2 _ _ hd2
        have et2 : SqT K (upd H2 p2 (.tup [.int j, .ref rb])) p2 [.int j, .ref rb] := SqT.of upd_same
        generalize upd H2 p2 (.tup [.int j, .ref rb]) = G2 at sm2 hz2 hd2 et2 ⊢
        have hk : i + j < (Mt.rowIn (Mt.prodIn f g i) i (Mt.cf f i) g j).length := by rw [Mt.rowIn_len, Mt.prodIn_len]; omega
        obtain ⟨rs, es, fs⟩ := hz2.at hk
        have lz := hz2.len
        have at1 : atI zs2 ((i : Int) + (j : Int)) = some (.ref rs) := by
          have := atI_nat es
          rwa [show ((i + j : Nat) : Int) = (i : Int) + (j : Int) by omega] at this
        have ix1 : ixN zs2.length ((i : Int) + (j : Int)) = some (i + j) := by
          have := ixN_nat (n := zs2.length) (k := i + j) (by omega)
          rwa [show ((i + j : Nat) : Int) = (i : Int) + (j : Int) by omega] at this
        have s1 := Ln.sz bf i
        have s2 := Ln.sz bg j
        have s3 := Ln.sz (bf.rowB bg lf hi (j := j) (by omega)) (i + j)
        walk_at "rd"
        refine ⟨_, et2, rfl, _, _, rfl, _, _, rfl, rfl, ?_⟩
        walk_at "rd"
        refine ⟨zs2, SqL.of hd2, _, at1, ra, rb, _, _, rfl, fa.same sm2, fb.same sm2, s1.mono (by omega), s2.mono (by omega), fun r1 G3 t1 _ q1 => ⟨rs, r1, _, _, rfl, fs.same t1, Fq.of q1, s3.mono (by omega), (s1.mul s2).mono (by omega), fun r2 G4 t2 _ q2 => ?_⟩⟩
        have t12 := t1.trans t2
        have hd4 := t12 _ _ hd2
        refine ⟨zs2, hd4, _, ix1, (sm2.trans t12).updL nD, _, upd_same, ?_⟩
        rw [Mt.rowIn_succ]
        exact Frs.set (i + j) (Frs.updL hd4 (hz2.same t12)) (SqT.updL hd4 (Fq.of q2))
      · rintro σ H2 ⟨r5, r6, zs2, rfl, sm2, hd2, hz2⟩
        rw [← l2, ← Mt.prodIn_succ] at hz2
        exact ⟨⟨_, _, _, _, rfl⟩, sm2, _, hd2, hz2⟩
    · rintro σ H' ⟨r3, r4, r5, r6, zs, rfl, sm, hd, hz⟩
      refine hN _ _ ?_
      clear hN N
      have lz := hz.len
      rw [Mt.prodIn_len] at lz
      walk_at "rd"
      refine ⟨D, zs, _, rfl, .inl (SqL.of hd), hz, by rw [Mt.prodIn_len]; omega, fun p H2 s2 h2 => hq p H2 (sm.trans s2) ?_⟩
      rw [← l1] at h2
      exact h2
abbrev s_degree_of : Stmt := top 34
theorem sc_degree_of : FnScope ["f"] ["f"] (defScope s_degree_of) := ⟨rfl, rfl, rfl, by decide +kernel, rfl, by decide +kernel, by decide +kernel⟩
theorem ok_degree_of {f : Addr} {fd : FuncData} (F : Fun K "degree_of" "degree_of" s_degree_of f fd) (m : mg "degree_of" = some (.ref f)) (T : Tx w K mg C_HeightError C_NOUGHT C_NoCount C_NoFamily C_NoFraction C_NoHistory C_NoLine C_NoMeeting C_NoMoments C_NoName C_NoNumber C_NoSeries C_NoText C_NoThing C_NoWay C_NoWeights C_ONE C_TooFar C_TooHigh C_TooMany) : Callee P w K mg base 1 "degree_of" ["f"] (spDeg K) := by
  refine ⟨f, fd, ?_, m, F.kp, F.binds fun _ _ _ _ _ _ us hl => match us, hl with | [_], _ => rfl⟩
  refine F.okE sc_degree_of (fun vs H Q E h => ?_) (fun cdv A outer s H vs Q E hr h => ?_)
  · obtain ⟨_, _, rfl, _⟩ := h
    rfl
  · obtain ⟨p, f, rfl, hp, hq⟩ := h
    refine ⟨_, (pss_one (ps_ret (pe_op op_sub (pe_callB call_len_seq (by rfl) T.b_len PySem.boot_len (pa_cons (pv 0) pa_nil)) pe_int))), ?_⟩
    obtain ⟨xs, hx, fx⟩ := hp
    have l1 := fx.len
    walk_at "rd"
    refine ⟨xs, .inr hx, ?_⟩
    rw [← l1]
    exact hq
abbrev s_one_further : Stmt := top 36
theorem sc_one_further : FnScope ["level", "now", "down", "before"] ["level", "now", "down", "before"] (defScope s_one_further) := ⟨rfl, rfl, rfl, by decide +kernel, rfl, by decide +kernel, by decide +kernel⟩
theorem ok_one_further {f : Addr} {fd : FuncData} (F : Fun K "one_further" "one_further" s_one_further f fd) (m : mg "one_further" = some (.ref f)) (T : Tx w K mg C_HeightError C_NOUGHT C_NoCount C_NoFamily C_NoFraction C_NoHistory C_NoLine C_NoMeeting C_NoMoments C_NoName C_NoNumber C_NoSeries C_NoText C_NoThing C_NoWay C_NoWeights C_ONE C_TooFar C_TooHigh C_TooMany) (c_minus : Callee P w K mg base 3 "minus" ["a", "b"] (spBin K (fun a b => a - b))) (c_poly_minus : Callee P w K mg base 4 "poly_minus" ["f", "g"] (spPP K Mt.psub)) (c_poly_of : Callee P w K mg base 1 "poly_of" ["numbers"] (spPolyOf K)) (c_poly_scaled : Callee P w K mg base 3 "poly_scaled" ["f", "a"] (spScaled K)) (c_poly_times : Callee P w K mg base 3 "poly_times" ["f", "g"] (spMulP K)) : Callee P w K mg base 5 "one_further" ["level", "now", "down", "before"] (spFurG K) := by
  refine ⟨f, fd, ?_, m, F.kp, F.binds fun _ _ _ _ _ _ us hl => match us, hl with | [_, _, _, _], _ => rfl⟩
  refine F.okE sc_one_further (fun vs H Q E h => ?_) (fun cdv A outer s H vs Q E hr h => ?_)
  · obtain ⟨_, _, _, _, _, _, _, _, rfl, _⟩ := h
    rfl
  · obtain ⟨pl, pn, pd, pb, l, d, f, g, rfl, ql, hn, qd, hb, wl, wd, lf, lg, bf, bg, hq⟩ := h
    refine ⟨_, (pss_one (ps_ret (pe_c c_poly_minus (hr.mono (by decide)) np (pa_cons (pe_c c_poly_times (hr.mono (by decide)) np (pa_cons (pe_c c_poly_of (hr.mono (by decide)) np (pa_cons (pe_lst (pa_cons (pe_c c_minus (hr.mono (by decide)) np (pa_cons (pe_glob (v := .ref C_NOUGHT) rfl T.m_NOUGHT rfl) (pa_cons (pv 0) pa_nil))) (pa_cons (pe_glob (v := .ref C_ONE) rfl T.m_ONE rfl) pa_nil))) pa_nil)) (pa_cons (pv 1) pa_nil))) (pa_cons (pe_c c_poly_scaled (hr.mono (by decide)) np (pa_cons (pv 3) (pa_cons (pv 2) pa_nil))) pa_nil))))), ?_⟩
    have m1 := len_pmul (Mt.x1 l) f
    have m3 : (Mt.x1 l).length ≤ 2 := Mt.trim_len _
    have b1 : Mt.Ln 2101 2101 (Mt.x1 l) := ⟨l.den, 2 ^ 2100, l.den_pos, Nat.le_trans (Nat.le_of_lt (wd0 wl)) (Nat.pow_le_pow_right (by decide) (by decide)), Nat.pow_le_pow_right (by decide) (by decide), x1_lat wl⟩
    walk_at "rd"
    refine ⟨_, pl, 0, l, rfl, T.nought H, ql, Sz.zero (by decide), wl.mono (by decide), fun r1 H1 s1 n1 h1 => ⟨sz_le 2 (by decide), fun lst nl => ?_⟩⟩
    have u := same_upd (o := .lst [.ref r1, .ref C_ONE]) nl
    refine ⟨lst, _, [0 - l, 1], rfl, .inl (SqL.of upd_same), Frs.cons (Fq.of (u _ _ h1)) (Frs.cons (T.one _) Frs.nil), by simp, fun p2 H2 s2 h2 => ?_⟩
    rw [show (0 : Rat) - l = -l by grind] at h2
    replace h2 : Pl K H2 p2 (Mt.x1 l) := h2
    have v2 := (s1.trans u).trans s2
    refine ⟨p2, pn, _, f, 2101, 920, rfl, h2, hn.same v2, by omega, by omega, b1, bf, by decide, fun r3 H3 s3 h3 => ?_⟩
    have v3 := v2.trans s3
    refine ⟨pb, pd, g, d, rfl, hb.same v3, qd.same v3, by omega, fun n => (Ln.sz bg n).mono (by decide), wd.mono (by decide), fun r4 H4 s4 h4 => ?_⟩
    refine ⟨r3, r4, _, _, rfl, h3.same s4, h4, by omega, Nat.le_trans (Mt.trim_len _) (by simp; omega), fun n => (Ln.sz (b1.pmulB bf (by omega)) n).mono (by decide), fun n => ?_, fun r5 H5 s5 h5 => hq r5 H5 ((v3.trans s4).trans s5) h5⟩
    rw [Mt.cf_pscale]
    exact ((Ln.sz bg n).mul wd).mono (by decide)
abbrev s_ruled : Stmt := top 37
theorem sc_ruled : FnScope ["moments", "poly", "total", "n", "number"] ["moments", "poly"] (defScope s_ruled) := ⟨rfl, rfl, rfl, by decide +kernel, rfl, by decide +kernel, by decide +kernel⟩
theorem ok_ruled {f : Addr} {fd : FuncData} (F : Fun K "ruled" "ruled" s_ruled f fd) (m : mg "ruled" = some (.ref f)) (T : Tx w K mg C_HeightError C_NOUGHT C_NoCount C_NoFamily C_NoFraction C_NoHistory C_NoLine C_NoMeeting C_NoMoments C_NoName C_NoNumber C_NoSeries C_NoText C_NoThing C_NoWay C_NoWeights C_ONE C_TooFar C_TooHigh C_TooMany) (c_degree_of : Callee P w K mg base 1 "degree_of" ["f"] (spDeg K)) (c_plus : Callee P w K mg base 2 "plus" ["a", "b"] (spBin K (fun a b => a + b))) (c_times : Callee P w K mg base 2 "times" ["a", "b"] (spBin K (fun a b => a * b))) : Callee P w K mg base 3 "ruled" ["moments", "poly"] (spRuledG K C_TooFar) := by
  refine ⟨f, fd, ?_, m, F.kp, F.binds fun _ _ _ _ _ _ us hl => match us, hl with | [_, _], _ => rfl⟩
  refine F.okX sc_ruled (fun vs H Q E h => ?_) (fun cdv A outer s H vs Q E hr h => ?_)
  · obtain ⟨_, _, _, _, _, rfl, _⟩ := h
    rfl
  · obtain ⟨m, p, xs, ms, f, rfl, hm, fm, hp, lf, wm, rf, rs, h0, h1⟩ := h
    refine ⟨_, (pss_cons (ps_if (pt_cmpR op_ge (pe_c c_degree_of (hr.mono (by decide)) pass_cx (pa_cons (pv 1) pa_nil)) (pe_callB call_len_seq (by rfl) T.b_len PySem.boot_len (pa_cons (pv 0) pa_nil)) (nomark _)) (pss_one (ps_raise raises_cx rfl rfl T.m_TooFar T.x_TooFar (pa_cons pe_str pa_nil))) pss_nil) (pss_cons (ps_set (i := 2) sc_ruled.nd rfl (Or.inl rfl) (pe_glob (v := .ref C_NOUGHT) rfl T.m_NOUGHT rfl)) (pss_cons (ps_forE rfl PassesOwn.leaving T.b_enumerate (pv 1) (pg_tup rfl (pgs_cons (pg_name (i := 3) sc_ruled.nd rfl (Or.inl rfl)) (pgs_cons (pg_name (i := 4) sc_ruled.nd rfl (Or.inl rfl)) pgs_nil))) (pss_one (ps_set (i := 2) sc_ruled.nd rfl (Or.inl rfl) (pe_c c_plus (hr.mono (by decide)) pass_cx (pa_cons (pv 2) (pa_cons (pe_c c_times (hr.mono (by decide)) pass_cx (pa_cons (pv 4) (pa_cons (pe_ix ix_list (pv 0) (pv 3) (fun _ _ => rfl)) pa_nil))) pa_nil)))))) (pss_one (ps_ret (pv 2)))))), ?_⟩
    obtain ⟨ys, hy, fy⟩ := id hp
    have l1 := fm.len
    have l2 := fy.len
    refine tSeq_step fun N hN => ?_
    walk_at "rd"
    refine ⟨p, f, rfl, hp, xs, .inl hm, _, rfl, ?_⟩
    split
    · rename_i z
      exact ⟨sz_le 1 (by decide), h0 (by omega)⟩
    rename_i z
    have hl : f.length ≤ ms.length := by omega
    refine hN _ _ ?_
    clear hN N
    refine tSeq_step fun N hN => ?_
    walk_at "rd"
    refine hN _ _ ?_
    clear hN N
    refine tSeq_step fun N hN => ?_
    walk_at "rd"
    refine ⟨ys, hy, fun i σ H' => ∃ r3 r4 rt, σ = [some (.ref m), some (.ref p), some (.ref rt), r3, r4] ∧ Same H H' ∧ Fq K H' rt (Mt.Su (fun n => Mt.cf f n * Mt.cf ms n) i), ⟨none, none, _, rfl, Same.refl _, T.nought _⟩, ?_, ?_, ?_⟩
    · rintro i σ H' _ ⟨_, _, _, _, sm, _⟩
      exact sm.seqT hy
    · rintro i x σ H1 t hxi ⟨r3, r4, rt, rfl, sm, qt⟩ ht
      have hi : i < f.length := by rw [l2]; exact (List.getElem?_eq_some_iff.mp hxi).1
      obtain ⟨pa, ea, fa⟩ := fy.at hi
      cases ea.symm.trans hxi
      obtain ⟨pb, eb, fb⟩ := fm.at (j := i) (by omega)
      have u := same_upd (o := .tup [.int i, .ref pa]) ht
      have et : SqT K (upd H1 t (.tup [.int i, .ref pa])) t [.int i, .ref pa] := SqT.of upd_same
      generalize upd H1 t (.tup [.int i, .ref pa]) = H2 at u et ⊢
      have sm2 := sm.trans u
      walk_at "rd"
      refine ⟨_, et, rfl, _, _, rfl, _, _, rfl, rfl, ?_⟩
      walk_at "rd"
      refine ⟨xs, sm2.seq hm, _, atI_nat eb, pa, pb, _, _, rfl, fa.same sm2, fb.same sm2, (rf i).mono (by decide), (wm i).mono (by decide), fun r1 H3 s3 n3 h3 => ?_⟩
      refine ⟨rt, r1, _, _, rfl, (qt.same u).same s3, Fq.of h3, (rs i (by omega)).mono (by decide), ((rf i).mul (wm i)).mono (by decide), fun r2 H4 s4 n4 h4 => ?_⟩
      exact ⟨_, _, r2, ⟨rfl, rfl, rfl⟩, (sm2.trans s3).trans s4, Fq.of h4⟩
    · rintro σ H1 ⟨r3, r4, rt, rfl, sm, qt⟩
      refine hN _ _ ?_
      walk_at "rd"
      rw [← l2] at qt
      exact h1 hl rt H1 sm qt
abbrev s_check_moments : Stmt := top 40
theorem sc_check_moments : FnScope ["moments"] ["moments"] (defScope s_check_moments) := ⟨rfl, rfl, rfl, by decide +kernel, rfl, by decide +kernel, by decide +kernel⟩
theorem ok_check_moments {f : Addr} {fd : FuncData} (F : Fun K "check_moments" "check_moments" s_check_moments f fd) (m : mg "check_moments" = some (.ref f)) (T : Tx w K mg C_HeightError C_NOUGHT C_NoCount C_NoFamily C_NoFraction C_NoHistory C_NoLine C_NoMeeting C_NoMoments C_NoName C_NoNumber C_NoSeries C_NoText C_NoThing C_NoWay C_NoWeights C_ONE C_TooFar C_TooHigh C_TooMany) : Callee P w K mg base 1 "check_moments" ["moments"] (spChkX K C_NoMoments) := by
  refine ⟨f, fd, ?_, m, F.kp, F.binds fun _ _ _ _ _ _ us hl => match us, hl with | [_], _ => rfl⟩
  refine F.okX sc_check_moments (fun vs H Q E h => ?_) (fun cdv A outer s H vs Q E hr h => ?_)
  · obtain ⟨_, _, _, rfl, _⟩ := h
    rfl
  · obtain ⟨m, xs, ms, rfl, hm, fm, l100, h0, h1⟩ := h
    refine ⟨_, (pss_cons (ps_if (PW.pt (pw_or (pt_cmpR op_ne (pe_op op_mod (pe_callB call_len_seq (by rfl) T.b_len PySem.boot_len (pa_cons (pv 0) pa_nil)) pe_int) pe_int (nomark _)) (pw_or1 (pt_not (pt_chain op_le op_le pe_int (pe_callB call_len_seq (by rfl) T.b_len PySem.boot_len (pa_cons (pv 0) pa_nil)) (pe_globI T.g_MOSTM)))))) (pss_one (ps_raise raises_cx rfl rfl T.m_NoMoments T.x_NoMoments (pa_cons pe_str pa_nil))) pss_nil) (pss_one (ps_if (pt_cmpR (op_neD hr.units) (pe_ix ix_list (pv 0) pe_int (fun _ _ => rfl)) (pe_glob (v := .ref C_ONE) rfl T.m_ONE rfl) (nomark _)) (pss_one (ps_raise raises_cx rfl rfl T.m_NoMoments T.x_NoMoments (pa_cons pe_str pa_nil))) pss_nil))), ?_⟩
    have lx := fm.len
    refine tSeq_step fun N hN => ?_
    walk_at "rd"
    have go : 2 ≤ ms.length → ms.length ≤ 16 → ms.length % 2 = 0 → N [some (.ref m)] H := fun a b c => by
      refine hN _ _ ?_
      clear hN N
      obtain ⟨q, e, fq⟩ := fm.at (j := 0) (by omega)
      walk_at "rd"
      refine ⟨xs, hm, _, atI_nat e, fr_cmp (rep_fr fq) (rep_fr (T.one H)) ?_⟩
      by_cases z : Mt.cf ms 0 = 1
      · refine .inl ⟨by simp [z], h1 (fun o => ?_) H (Same.refl _)⟩
        rcases o with o | o | o | o
        · omega
        · omega
        · omega
        · exact o z
      · exact .inr ⟨by simp [z], sz_le 1 (by decide), h0 (.inr (.inr (.inr z)))⟩
    clear hN
    refine ⟨xs, .inl hm, ?_⟩
    by_cases z : ms.length % 2 = 0
    · refine .inl ⟨by omega, xs, .inl hm, ?_⟩
      split
      · split
        · exact go (by omega) (by omega) z
        · exact ⟨sz_le 1 (by decide), h0 (.inr (.inr (.inl (by omega))))⟩
      · exact ⟨sz_le 1 (by decide), h0 (.inr (.inl (by omega)))⟩
    · exact .inr ⟨by omega, sz_le 1 (by decide), h0 (.inl (by omega))⟩
abbrev s_weights_back : Stmt := top 41
theorem sc_weights_back : FnScope ["moments", "levels", "downs", "before", "now", "last_product", "last_sum", "h", "product", "level_sum", "further"] ["moments"] (defScope s_weights_back) := ⟨rfl, rfl, rfl, by decide +kernel, rfl, by decide +kernel, by decide +kernel⟩
theorem ok_weights_back {f : Addr} {fd : FuncData} (F : Fun K "weights_back" "weights_back" s_weights_back f fd) (m : mg "weights_back" = some (.ref f)) (T : Tx w K mg C_HeightError C_NOUGHT C_NoCount C_NoFamily C_NoFraction C_NoHistory C_NoLine C_NoMeeting C_NoMoments C_NoName C_NoNumber C_NoSeries C_NoText C_NoThing C_NoWay C_NoWeights C_ONE C_TooFar C_TooHigh C_TooMany) (c_check_moments : Callee P w K mg base 1 "check_moments" ["moments"] (spChkX K C_NoMoments)) (c_minus : Callee P w K mg base 3 "minus" ["a", "b"] (spBin K (fun a b => a - b))) (c_one_further : Callee P w K mg base 5 "one_further" ["level", "now", "down", "before"] (spFurG K)) (c_over : Callee P w K mg base 3 "over" ["a", "b"] (spOver K C_NoFraction)) (c_ruled : Callee P w K mg base 3 "ruled" ["moments", "poly"] (spRuledG K C_TooFar)) : Callee P w K mg base 6 "weights_back" ["moments"] (spBackX K C_NoMoments) := by
  refine ⟨f, fd, ?_, m, F.kp, F.binds fun _ _ _ _ _ _ us hl => match us, hl with | [_], _ => rfl⟩
  refine F.okX sc_weights_back (fun vs H Q E h => ?_) (fun cdv A outer s H vs Q E hr h => ?_)
  · obtain ⟨_, _, _, rfl, _⟩ := h
    rfl
  · obtain ⟨m, xs, ms, rfl, hm, fm, l100, h0, hgood⟩ := h
    refine ⟨_, (pss_cons (ps_expr (pe_c c_check_moments (hr.mono (by decide)) pass_cx (pa_cons (pv 0) pa_nil))) (pss_cons (ps_set (i := 1) sc_weights_back.nd rfl (Or.inl rfl) (pe_lst pa_nil)) (pss_cons (ps_set (i := 2) sc_weights_back.nd rfl (Or.inl rfl) (pe_lst pa_nil)) (pss_cons (ps_set (i := 3) sc_weights_back.nd rfl (Or.inl rfl) (pe_tup pa_nil)) (pss_cons (ps_set (i := 4) sc_weights_back.nd rfl (Or.inl rfl) (pe_tup (pa_cons (pe_glob (v := .ref C_ONE) rfl T.m_ONE rfl) pa_nil))) (pss_cons (ps_set (i := 5) sc_weights_back.nd rfl (Or.inl rfl) (pe_glob (v := .ref C_ONE) rfl T.m_ONE rfl)) (pss_cons (ps_set (i := 6) sc_weights_back.nd rfl (Or.inl rfl) (pe_glob (v := .ref C_NOUGHT) rfl T.m_NOUGHT rfl)) (pss_cons (ps_forR rfl PassesOwn.leaving T.b_range (pe_op op_fdivB (pe_callB call_len_seq (by rfl) T.b_len PySem.boot_len (pa_cons (pv 0) pa_nil)) pe_int) (pg_name (i := 7) sc_weights_back.nd rfl (Or.inl rfl)) (pss_cons (ps_set (i := 8) sc_weights_back.nd rfl (Or.inl rfl) (pe_c c_ruled (hr.mono (by decide)) pass_cx (pa_cons (pe_slice sl_list (pv 0) (po_some (pv 7)) po_none) (pa_cons (pv 4) pa_nil)))) (pss_cons (ps_if (pt_cmpR (op_eqD hr.units) (pv 8) (pe_glob (v := .ref C_NOUGHT) rfl T.m_NOUGHT rfl) (nomark _)) (pss_one (ps_ret (pe_tup (pa_cons pe_str (pa_cons (pe_op op_add (pv 7) pe_int) (pa_cons (pv 4) pa_nil)))))) pss_nil) (pss_cons (ps_set (i := 9) sc_weights_back.nd rfl (Or.inl rfl) (pe_c c_over (hr.mono (by decide)) pass_cx (pa_cons (pe_c c_ruled (hr.mono (by decide)) pass_cx (pa_cons (pe_slice sl_list (pv 0) (po_some (pe_op op_add (pv 7) pe_int)) po_none) (pa_cons (pv 4) pa_nil))) (pa_cons (pv 8) pa_nil)))) (pss_cons (ps_expr (pe_bm PySem.F.plainAttrs_list PySem.F.slot_list_append PySem.F.type_list_append mt_append (pv 1) (pa_cons (pe_c c_minus (hr.mono (by decide)) pass_cx (pa_cons (pv 9) (pa_cons (pv 6) pa_nil))) pa_nil))) (pss_cons (ps_expr (pe_bm PySem.F.plainAttrs_list PySem.F.slot_list_append PySem.F.type_list_append mt_append (pv 2) (pa_cons (pe_c c_over (hr.mono (by decide)) pass_cx (pa_cons (pv 8) (pa_cons (pv 5) pa_nil))) pa_nil))) (pss_cons (ps_set (i := 10) sc_weights_back.nd rfl (Or.inl rfl) (pe_c c_one_further (hr.mono (by decide)) pass_cx (pa_cons (pe_ix ix_list (pv 1) (pv 7) (fun _ _ => rfl)) (pa_cons (pv 4) (pa_cons (pe_ix ix_list (pv 2) (pv 7) (fun _ _ => rfl)) (pa_cons (pv 3) pa_nil)))))) (pss_cons (ps_set (i := 3) sc_weights_back.nd rfl (Or.inl rfl) (pv 4)) (pss_cons (ps_set (i := 4) sc_weights_back.nd rfl (Or.inl rfl) (pv 10)) (pss_cons (ps_set (i := 5) sc_weights_back.nd rfl (Or.inl rfl) (pv 8)) (pss_one (ps_set (i := 6) sc_weights_back.nd rfl (Or.inl rfl) (pv 9))))))))))))) (pss_one (ps_ret (pe_tup (pa_cons pe_str (pa_cons (pe_callTy call_tuple_of (by rfl) T.b_tuple (by decide +kernel) (pa_cons (pv 1) pa_nil)) (pa_cons (pe_callTy call_tuple_of (by rfl) T.b_tuple (by decide +kernel) (pa_cons (pe_slice sl_list (pv 2) (po_some pe_int) po_none) pa_nil)) pa_nil)))))))))))))), ?_⟩
    refine tSeq_step fun N hN => ?_
    walk_at "rd"
    refine ⟨m, xs, ms, rfl, hm, fm, l100, h0, fun no H1 s1 => ?_⟩
    obtain ⟨k, lm, hk, m0, bs, hq1, hq2⟩ := hgood no
    refine hN _ _ ?_
    clear hN N
    have lx := fm.len
    refine tSeq_step fun N hN => ?_
    walk_at "rd"
    refine fun LV nL => hN _ _ ?_
    clear hN N
    have u1 := same_upd (o := .lst []) nL
    have hL1 : upd H1 LV (.lst []) LV = some (.lst []) := upd_same
    generalize upd H1 LV (.lst []) = H2 at u1 hL1 ⊢
    refine tSeq_step fun N hN => ?_
    walk_at "rd"
    refine fun DN nD => hN _ _ ?_
    clear hN N
    have u2 := same_upd (o := .lst []) nD
    have hD1 : upd H2 DN (.lst []) DN = some (.lst []) := upd_same
    have ne : LV ≠ DN := ne_of_none hL1 nD
    generalize upd H2 DN (.lst []) = H3 at u2 hD1 ⊢
    replace hL1 := u2 _ _ hL1
    refine tSeq_step fun N hN => ?_
    walk_at "rd"
    refine fun p0 n0 => hN _ _ ?_
    clear hN N
    have u3 := same_upd (o := .tup []) n0
    have g0 : Pl K (upd H3 p0 (.tup [])) p0 [] := Pl.nil upd_same
    generalize upd H3 p0 (.tup []) = H4 at u3 g0 ⊢
    refine tSeq_step fun N hN => ?_
    walk_at "rd"
    refine ⟨sz_le 1 (by decide), fun p1 n1 => hN _ _ ?_⟩
    clear hN N
    have u4 := same_upd (o := .tup [.ref C_ONE]) n1
    have g1 : Pl K (upd H4 p1 (.tup [.ref C_ONE])) p1 [1] := ⟨_, SqT.of upd_same, Frs.cons (T.one _) Frs.nil⟩
    generalize upd H4 p1 (.tup [.ref C_ONE]) = H5 at u4 g1 ⊢
    replace g0 := g0.same u4
    have v5 := u3.trans u4
    replace hL1 := v5 _ _ hL1
    replace hD1 := v5 _ _ hD1
    have vA := ((s1.trans u1).trans u2).trans v5
    have nL0 : H LV = none := s1.free nL
    have nD0 : H DN = none := (s1.trans u1).free nD
    refine tSeq_step fun N hN => ?_
    walk_at "rd"
    refine hN _ _ ?_
    clear hN N
    refine tSeq_step fun N hN => ?_
    walk_at "rd"
    refine hN _ _ ?_
    clear hN N
    refine tSeq_step fun N hN => ?_
    walk_at "rd"
    refine ⟨xs, .inl (vA.seq hm), ⟨by decide, Bd.mono (m := 64) (show (_ : Nat) < _ by decide) (by decide)⟩, ?_⟩
    rw [show ((xs.length : Int).fdiv 2) = ((k + 1 : Nat) : Int) by rw [Int.fdiv_eq_ediv_of_nonneg _ (by decide)]; omega]
    refine ⟨by omega, by omega, ?_⟩
    rw [Int.toNat_natCast]
    have ln1 : Mt.Ln 400 400 [1] := ⟨1, 1, by decide, Nat.one_le_two_pow, Nat.one_le_two_pow, fun n => by
      rcases n with _ | n
      · exact Mt.Lat.one
      · rw [Mt.cf_succ, Mt.cf_nil]; exact Mt.Lat.zero⟩
    have mo0 : Rw ms (fun _ => [1]) 0 := ⟨fun j hj => by
      obtain rfl : j = 0 := by omega
      exact Mt.Mo.one, fun j hj => absurd hj (by omega)⟩
    refine ⟨fun i σ H' => ∃ (be no lp ls : Addr) (r7 r8 r9 r10 : Option V) (us vs : List V) (p : Nat → List Rat) (g L D : List Rat) (s q : Rat), σ = [some (.ref m), some (.ref LV), some (.ref DN), some (.ref be), some (.ref no), some (.ref lp), some (.ref ls), r7, r8, r9, r10] ∧ Same H H' ∧ H' LV = some (.lst us) ∧ Frs K H' L us ∧ L.length = i ∧ H' DN = some (.lst vs) ∧ Frs K H' D vs ∧ D.length = i ∧ (∀ h, h < i → Mt.cf D h ≠ 0) ∧ Pl K H' be g ∧ Pl K H' no (p i) ∧ Fq K H' lp q ∧ Fq K H' ls s ∧ Rw ms p i ∧ Mt.Bf ms g i s q ∧ q ≠ 0 ∧ Sz 500 s ∧ Sz 500 q ∧ Mt.Ln 400 400 g ∧ p 0 = [1] ∧ g = (if i = 0 then [] else p (i - 1)) ∧ s = Mt.Su (Mt.cf L) i ∧ q = Mt.prF (Mt.cf D) i ∧ (∀ j, j < i → p (j + 1) = Mt.nx2 (Mt.cf L j) (Mt.cf D j) (p j) (if j = 0 then [] else p (j - 1))) ∧ (∀ j, j < i → Mt.lf ms (p j) j = Mt.prF (Mt.cf D) (j + 1)) ∧ ∀ j, j < i → Mt.lf ms (p j) (j + 1) = Mt.Su (Mt.cf L) (j + 1) * Mt.lf ms (p j) j, ⟨p0, p1, C_ONE, C_NOUGHT, none, none, none, none, [], [], fun _ => [1], [], [], [], 0, 1, rfl, vA, hL1, Frs.nil, rfl, hD1, Frs.nil, rfl, fun h hh => absurd hh (by omega), g0, g1, T.one _, T.nought _, mo0, ⟨fun _ => ⟨rfl, rfl⟩, fun j hj => absurd hj (by omega)⟩, by decide, Sz.zero (by decide), Sz.mono (m := 1) ⟨by show (_ : Nat) < _; decide, by show (_ : Nat) < _; decide⟩ (by decide), Mt.Gp.nil.ln (n := 0) (by decide) |>.mono (by decide) (by decide), rfl, (if_pos rfl).symm, rfl, rfl, fun j hj => absurd hj (by omega), fun j hj => absurd hj (by omega), fun j hj => absurd hj (by omega)⟩, ?_, ?_⟩
    · rintro i σ H6 hi ⟨be, no, lp, ls, r7, r8, r9, r10, us, vs, p, g, L, D, s, q, rfl, sm, hLV, fLV, lL, hDN, fDN, lD, nD', pbe, pno, qlp, qls, rw_, bf, q0, zs, zq, lg, ep0, eg, es, eq_, hst, hP, hS⟩
      have lu := fLV.len
      have lv := fDN.len
      have mo := rw_.mo i (Nat.le_refl _)
      have lr := mo.len
      have gl := bf.len
      obtain ⟨lnr, sl, sq⟩ := bs.sm p i (by omega) rw_
      have lnm := bs.lm
      refine tSeq_step fun N hN => ?_
      walk_at "rd"
      refine ⟨m, xs, rfl, sm.seq hm, fun p2 n2 => ?_⟩
      rw [cutV_from xs i (by omega)]
      have w2 := same_upd (o := .lst (xs.drop i)) n2
      refine ⟨p2, no, _, ms.drop i, _, rfl, SqL.of upd_same, ((fm.drop i).same sm).same w2, pno.same w2, by omega, fun n => (Ln.sz (lnm i) n).mono (by decide), fun n => (Ln.sz lnr n).mono (by decide), fun j hj => (Ln.dot lnr (lnm i) (by omega)).mono (by decide), fun z => absurd z (by rw [List.length_drop]; omega), fun _ rp1 H7 s7 q7 => hN _ _ ?_⟩
      clear hN N
      rw [Mt.lf_dot] at q7
      have t7 := w2.trans s7
      replace sm := sm.trans t7
      replace hLV := t7 _ _ hLV
      replace fLV := fLV.same t7
      replace hDN := t7 _ _ hDN
      replace fDN := fDN.same t7
      replace pbe := pbe.same t7
      replace pno := pno.same t7
      replace qlp := qlp.same t7
      replace qls := qls.same t7
      refine tSeq_step fun N hN => ?_
      walk_at "rd"
      refine fr_cmp (rep_fr q7) (rep_fr (T.nought H7)) ?_
      by_cases z : Mt.lf ms (p i) i = 0
      · refine .inr ⟨by simp [z], sz_le 3 (by decide), fun p3 n3 => ?_⟩
        have u3' := same_upd (o := .tup [.str "barred", .int ((i : Int) + 1), .ref no]) n3
        exact hq2 p i (by omega) rw_ z p3 no _ (sm.trans u3') upd_same (pno.same u3')
      refine .inl ⟨by simp [z], hN _ _ ?_⟩
      clear hN N
      refine tSeq_step fun N hN => ?_
      walk_at "rd"
      refine ⟨m, xs, rfl, sm.seq hm, fun p4 n4 => ?_⟩
      rw [show ((i : Int) + 1) = ((i + 1 : Nat) : Int) by omega, cutV_from xs (i + 1) (by omega)]
      have w4 := same_upd (o := .lst (xs.drop (i + 1))) n4
      refine ⟨p4, no, _, ms.drop (i + 1), _, rfl, SqL.of upd_same, ((fm.drop (i + 1)).same sm).same w4, pno.same w4, by omega, fun n => (Ln.sz (lnm (i + 1)) n).mono (by decide), fun n => (Ln.sz lnr n).mono (by decide), fun j hj => (Ln.dot lnr (lnm (i + 1)) (by omega)).mono (by decide), fun z => absurd z (by rw [List.length_drop]; omega), fun _ r2 H8 s8 q8 => ?_⟩
      rw [Mt.lf_dot] at q8
      have t8 := w4.trans s8
      refine ⟨r2, rp1, _, _, rfl, q8, q7.same t8, (sl _ (by omega)).mono (by decide), (sl _ (by omega)).mono (by decide), fun zz => absurd zz z, fun _ r3 H9 s9 n9 h9 => hN _ _ ?_⟩
      clear hN N
      obtain ⟨t, et⟩ : ∃ t, t = Mt.lf ms (p i) (i + 1) / Mt.lf ms (p i) i := ⟨_, rfl⟩
      have zt : Sz 500 t := by rw [et]; exact sq z
      have ht : t * Mt.lf ms (p i) i = Mt.lf ms (p i) (i + 1) := by rw [et, Rat.div_def, Rat.mul_assoc, Rat.inv_mul_cancel _ z, Rat.mul_one]
      have q9 : Fq K H9 r3 t := by rw [et]; exact Fq.of h9
      obtain ⟨u, eu⟩ : ∃ u, u = Mt.lf ms (p i) i := ⟨_, rfl⟩
      have zu : Sz 500 u := by rw [eu]; exact sl i (by omega)
      rw [← eu] at ht z q7
      have stp := Mt.Mo.step mo bf q0 eu.symm ht
      have t9 := t8.trans s9
      replace sm := sm.trans t9
      replace q7 := q7.same t9
      replace hLV := t9 _ _ hLV
      replace fLV := fLV.same t9
      replace hDN := t9 _ _ hDN
      replace fDN := fDN.same t9
      replace pbe := pbe.same t9
      replace pno := pno.same t9
      replace qlp := qlp.same t9
      replace qls := qls.same t9
      clear t9 t8 w4 s8 q8 h9 n9 n4 sq
      refine tSeq_step fun N hN => ?_
      walk_at "rd"
      refine ⟨.inl ⟨rfl, _, SqL.of hLV⟩, r3, ls, _, _, rfl, q9, qls, zt.mono (by decide), zs.mono (by decide), fun r4 H10 s10 n10 h10 => ⟨us, s10 _ _ hLV, small1000 (by omega), hN _ _ ?_⟩⟩
      clear hN N
      have q10 : Fq K H10 r4 (t - s) := Fq.of h10
      have hL10 := s10 _ _ hLV
      have sm11 : Same H (upd H10 LV (.lst (us ++ [.ref r4]))) := (sm.trans s10).updL nL0
      have q7' : Fq K (upd H10 LV (.lst (us ++ [.ref r4]))) rp1 u := SqT.updL hL10 (q7.same s10)
      have q9' : Fq K (upd H10 LV (.lst (us ++ [.ref r4]))) r3 t := SqT.updL hL10 (q9.same s10)
      have q10' : Fq K (upd H10 LV (.lst (us ++ [.ref r4]))) r4 (t - s) := SqT.updL hL10 q10
      have fLV' : Frs K (upd H10 LV (.lst (us ++ [.ref r4]))) (L ++ [t - s]) (us ++ [.ref r4]) := Frs.snoc (Frs.updL hL10 (fLV.same s10)) q10'
      have hLV' : upd H10 LV (.lst (us ++ [.ref r4])) LV = some (.lst (us ++ [.ref r4])) := upd_same
      have hDN' : upd H10 LV (.lst (us ++ [.ref r4])) DN = some (.lst vs) := by rw [upd_ne (Ne.symm ne)]; exact s10 _ _ hDN
      have fDN' : Frs K (upd H10 LV (.lst (us ++ [.ref r4]))) D vs := Frs.updL hL10 (fDN.same s10)
      have pbe' : Pl K (upd H10 LV (.lst (us ++ [.ref r4]))) be g := Pl.updL hL10 (pbe.same s10)
      have pno' : Pl K (upd H10 LV (.lst (us ++ [.ref r4]))) no (p i) := Pl.updL hL10 (pno.same s10)
      have qlp' : Fq K (upd H10 LV (.lst (us ++ [.ref r4]))) lp q := SqT.updL hL10 (qlp.same s10)
      generalize upd H10 LV (.lst (us ++ [.ref r4])) = H11 at sm11 q7' q9' q10' fLV' hLV' hDN' fDN' pbe' pno' qlp' ⊢
      clear sm q7 q9 q10 fLV hLV hDN fDN pbe pno qlp qls s10 h10 hL10
      refine tSeq_step fun N hN => ?_
      walk_at "rd"
      refine ⟨.inl ⟨rfl, _, SqL.of hDN'⟩, rp1, lp, _, _, rfl, q7', qlp', zu.mono (by decide), zq.mono (by decide), fun zz => absurd zz q0, fun nz' r5 H12 s12 n12 h12 => ⟨vs, s12 _ _ hDN', small1000 (by omega), hN _ _ ?_⟩⟩
      clear hN N
      have q12 : Fq K H12 r5 (u / q) := Fq.of h12
      have hD12 := s12 _ _ hDN'
      have sm13 : Same H (upd H12 DN (.lst (vs ++ [.ref r5]))) := (sm11.trans s12).updL nD0
      have q7'' : Fq K (upd H12 DN (.lst (vs ++ [.ref r5]))) rp1 u := SqT.updL hD12 (q7'.same s12)
      have q9'' : Fq K (upd H12 DN (.lst (vs ++ [.ref r5]))) r3 t := SqT.updL hD12 (q9'.same s12)
      have q10'' : Fq K (upd H12 DN (.lst (vs ++ [.ref r5]))) r4 (t - s) := SqT.updL hD12 (q10'.same s12)
      have q12' : Fq K (upd H12 DN (.lst (vs ++ [.ref r5]))) r5 (u / q) := SqT.updL hD12 q12
      have fDN'' : Frs K (upd H12 DN (.lst (vs ++ [.ref r5]))) (D ++ [u / q]) (vs ++ [.ref r5]) := Frs.snoc (Frs.updL hD12 (fDN'.same s12)) q12'
      have hDN'' : upd H12 DN (.lst (vs ++ [.ref r5])) DN = some (.lst (vs ++ [.ref r5])) := upd_same
      have hLV'' : upd H12 DN (.lst (vs ++ [.ref r5])) LV = some (.lst (us ++ [.ref r4])) := by rw [upd_ne ne]; exact s12 _ _ hLV'
      have fLV'' : Frs K (upd H12 DN (.lst (vs ++ [.ref r5]))) (L ++ [t - s]) (us ++ [.ref r4]) := Frs.updL hD12 (fLV'.same s12)
      have pbe'' : Pl K (upd H12 DN (.lst (vs ++ [.ref r5]))) be g := Pl.updL hD12 (pbe'.same s12)
      have pno'' : Pl K (upd H12 DN (.lst (vs ++ [.ref r5]))) no (p i) := Pl.updL hD12 (pno'.same s12)
      generalize upd H12 DN (.lst (vs ++ [.ref r5])) = H13 at sm13 q7'' q9'' q10'' q12' fDN'' hDN'' hLV'' fLV'' pbe'' pno'' ⊢
      clear sm11 q7' q9' q10' q12 fLV' hLV' hDN' fDN' pbe' pno' qlp' s12 h12 hD12
      have a1 : atI (us ++ [V.ref r4]) (i : Int) = some (.ref r4) := atI_nat (by rw [List.getElem?_append_right (by omega), show i - us.length = 0 by omega]; rfl)
      have a2 : atI (vs ++ [V.ref r5]) (i : Int) = some (.ref r5) := atI_nat (by rw [List.getElem?_append_right (by omega), show i - vs.length = 0 by omega]; rfl)
      refine tSeq_step fun N hN => ?_
      walk_at "rd"
      refine ⟨_, SqL.of hLV'', _, a1, _, SqL.of hDN'', _, a2, r4, no, r5, be, _, _, _, _, rfl, q10'', pno'', q12', pbe'', (zt.sub zs).mono (by decide), (Sz.quo zu zq).mono (by decide), by omega, by omega, Ln.wide lnr (by decide), Ln.wide lg (by decide), fun r6 H14 s14 h14 => hN _ _ ?_⟩
      clear hN N
      walk_at "rd"
      have rw' : Rw ms (fun j => if j ≤ i then p j else Mt.nx2 (t - s) (u / q) (p i) g) (i + 1) := ⟨fun j hj => by
        by_cases y : j ≤ i
        · simp only [if_pos y]; exact rw_.mo j y
        · obtain rfl : j = i + 1 := by omega
          simp only [if_neg y]; exact stp, fun j hj => by
        simp only [if_pos (show j ≤ i by omega)]
        rcases Nat.lt_or_ge j i with y | y
        · exact rw_.nz j y
        · obtain rfl : j = i := by omega
          rw [← eu]; exact z⟩
      have cL : ∀ j, j < i → Mt.cf (L ++ [t - s]) j = Mt.cf L j := fun j hj => cf_app_l (by omega)
      have cLi : Mt.cf (L ++ [t - s]) i = t - s := by have := cf_app_e L (t - s); rw [lL] at this; exact this
      have cD : ∀ j, j < i → Mt.cf (D ++ [u / q]) j = Mt.cf D j := fun j hj => cf_app_l (by omega)
      have cDi : Mt.cf (D ++ [u / q]) i = u / q := by have := cf_app_e D (u / q); rw [lD] at this; exact this
      have pj : ∀ j, j ≤ i → (fun j => if j ≤ i then p j else Mt.nx2 (t - s) (u / q) (p i) g) j = p j := fun j hj => if_pos hj
      have e1' : (fun j => if j ≤ i then p j else Mt.nx2 (t - s) (u / q) (p i) g) 0 = [1] := by rw [pj 0 (Nat.zero_le _)]; exact ep0
      have e2' : p i = (fun j => if j ≤ i then p j else Mt.nx2 (t - s) (u / q) (p i) g) i := (pj i (Nat.le_refl _)).symm
      have e3' : t = Mt.Su (Mt.cf (L ++ [t - s])) (i + 1) := by
        rw [Mt.Su, cLi, Mt.Su_congr cL, ← es]; grind
      have e4' : u = Mt.prF (Mt.cf (D ++ [u / q])) (i + 1) := by
        rw [Mt.prF, cDi, Mt.prF_congr cD, ← eq_, Rat.div_def]
        have := Rat.mul_inv_cancel q q0
        grind
      have e5' : ∀ j, j < i + 1 → (fun j => if j ≤ i then p j else Mt.nx2 (t - s) (u / q) (p i) g) (j + 1) = Mt.nx2 (Mt.cf (L ++ [t - s]) j) (Mt.cf (D ++ [u / q]) j) ((fun j => if j ≤ i then p j else Mt.nx2 (t - s) (u / q) (p i) g) j) (if j = 0 then [] else (fun j => if j ≤ i then p j else Mt.nx2 (t - s) (u / q) (p i) g) (j - 1)) := fun j hj => by
        rw [pj j (by omega), pj (j - 1) (by omega)]
        rcases Nat.lt_or_ge j i with y | y
        · rw [pj (j + 1) (by omega), cL j y, cD j y]; exact hst j y
        · obtain rfl : j = i := by omega
          rw [cLi, cDi, ← eg]
          exact if_neg (by omega)
      have e6' : ∀ j, j < i + 1 → Mt.lf ms ((fun j => if j ≤ i then p j else Mt.nx2 (t - s) (u / q) (p i) g) j) j = Mt.prF (Mt.cf (D ++ [u / q])) (j + 1) := fun j hj => by
        rw [pj j (by omega)]
        rcases Nat.lt_or_ge j i with y | y
        · rw [hP j y]; exact (Mt.prF_congr fun l hl => cD l (by omega)).symm
        · obtain rfl : j = i := by omega
          rw [← e4']; exact eu.symm
      have e7' : ∀ j, j < i + 1 → Mt.lf ms ((fun j => if j ≤ i then p j else Mt.nx2 (t - s) (u / q) (p i) g) j) (j + 1) = Mt.Su (Mt.cf (L ++ [t - s])) (j + 1) * Mt.lf ms ((fun j => if j ≤ i then p j else Mt.nx2 (t - s) (u / q) (p i) g) j) j := fun j hj => by
        rw [pj j (by omega)]
        rcases Nat.lt_or_ge j i with y | y
        · rw [hS j y, Mt.Su_congr fun l hl => cL l (by omega)]
        · obtain rfl : j = i := by omega
          rw [← e3', ← eu]; exact ht.symm
      refine ⟨no, r6, rp1, r3, ⟨rfl, rfl, rfl, rfl⟩, sm13.trans s14, _, s14 _ _ hLV'', vs ++ [.ref r5], fun j => if j ≤ i then p j else Mt.nx2 (t - s) (u / q) (p i) g, p i, L ++ [t - s], fLV''.same s14, by simp [lL], s14 _ _ hDN'', D ++ [u / q], fDN''.same s14, by simp [lD], fun h hh => ?_, pno''.same s14, ?_, t, u, q7''.same s14, q9''.same s14, rw', ⟨fun y => absurd y (by omega), fun j hj => ?_⟩, z, zt, zu, lnr, e1', e2', e3', e4', e5', e6', e7'⟩
      · rcases Nat.lt_or_ge h i with y | y
        · rw [cf_app_l (by omega)]; exact nD' h y
        · obtain rfl : h = D.length := by omega
          rw [cf_app_e]
          intro y
          rw [Rat.div_def] at y
          exact (Rat.mul_eq_zero.mp y).elim z (fun w => q0 (by rw [← Rat.inv_inv q, w, Rat.inv_zero]))
      · simp only [if_neg (show ¬ i + 1 ≤ i by omega)]; exact h14
      · obtain rfl : j = i := by omega
        exact ⟨mo, eu.symm, ht⟩
    · rintro σ H6 ⟨be, no, lp, ls, r7, r8, r9, r10, us, vs, p, g, L, D, s, q, rfl, sm, hLV, fLV, lL, hDN, fDN, lD, nD', pbe, pno, qlp, qls, rw_, bf, q0, zs, zq, lg, ep0, eg, es, eq_, hst, hP, hS⟩
      refine hN _ _ ?_
      clear hN N
      walk_at "rd"
      obtain ⟨d1, D', rfl⟩ := List.exists_cons_of_length_pos (show 0 < D.length by omega)
      obtain ⟨pd0, vs', rfl, _, fD'⟩ := fDN.uncons
      refine ⟨us, .inl ⟨SqL.of hLV, fun l nl => ?_⟩⟩
      have w1 := same_upd (o := .tup us) nl
      have e1 : upd H6 l (.tup us) l = some (.tup us) := upd_same
      generalize upd H6 l (.tup us) = G1 at w1 e1 ⊢
      refine ⟨DN, _, rfl, SqL.of (w1 _ _ hDN), fun p2 n2 => ?_⟩
      rw [show cutV (V.ref pd0 :: vs') (some 1) none = vs' from cutV_from (V.ref pd0 :: vs') 1 (by simp)]
      have w2 := same_upd (o := .lst vs') n2
      have e2 : upd G1 p2 (.lst vs') p2 = some (.lst vs') := upd_same
      generalize upd G1 p2 (.lst vs') = G2 at w2 e2 ⊢
      refine ⟨p2, rfl, _, .inl ⟨SqL.of e2, fun l2 m2 => ⟨sz_le 3 (by decide), fun p3 n3 => ?_⟩⟩⟩
      have w3 := same_upd (o := .tup vs') m2
      have e3 : upd G2 l2 (.tup vs') l2 = some (.tup vs') := upd_same
      generalize upd G2 l2 (.tup vs') = G3 at w3 e3 n3 ⊢
      have w4 := same_upd (o := .tup [.str "weights", .ref l, .ref l2]) n3
      have v1 := (w2.trans w3).trans w4
      have v0 := w1.trans v1
      have hd1 : d1 = 1 := by
        have h0 := hP 0 (by omega)
        rw [ep0, Mt.prF_cons] at h0
        have e0 : Mt.lf ms [1] 0 = 1 := by
          show 0 + 1 * Mt.cf ms (0 + 0) = 1
          rw [Nat.zero_add, m0]; grind
        rw [e0] at h0
        have e1 : Mt.pr (Mt.cf D') 0 0 = 1 := rfl
        rw [e1, Rat.mul_one] at h0
        exact h0.symm
      rw [hd1] at hst hP
      have er := Mt.told_rp (k := k + 1) ep0 hst
      have rwr : Rw ms (Mt.rp L D') (k + 1) := ⟨fun j hj => by rw [← er j hj]; exact rw_.mo j hj, fun j hj => by rw [← er j (by omega)]; exact rw_.nz j hj⟩
      have mom := Mt.told_all (k := k) ep0 hst (fun j hj => hP j (by omega)) (fun j hj => hS j (by omega))
      refine hq1 L D' rwr mom lL (by simpa using lD) (fun h hh zz => ?_) p3 l l2 _ (sm.trans v0) upd_same ⟨us, SqT.of (v1 _ _ e1), fLV.same v0⟩ ⟨vs', SqT.of (w4 _ _ e3), fD'.same v0⟩
      exact nD' (h + 1) (by omega) (by rw [Mt.cf_succ]; exact zz)
abbrev s__law_cell_at : Stmt := top 43
theorem sc__law_cell_at : FnScope ["_law_script", "_law_k"] ["_law_script", "_law_k"] (defScope s__law_cell_at) := ⟨rfl, rfl, rfl, by decide +kernel, rfl, by decide +kernel, by decide +kernel⟩
theorem ok__law_cell_at {f : Addr} {fd : FuncData} (F : Fun K "_law_cell_at" "_law_cell_at" s__law_cell_at f fd) (m : mg "_law_cell_at" = some (.ref f)) (T : Tx w K mg C_HeightError C_NOUGHT C_NoCount C_NoFamily C_NoFraction C_NoHistory C_NoLine C_NoMeeting C_NoMoments C_NoName C_NoNumber C_NoSeries C_NoText C_NoThing C_NoWay C_NoWeights C_ONE C_TooFar C_TooHigh C_TooMany) : Callee P w K mg base 1 "_law_cell_at" ["_law_script", "_law_k"] (spCell K) := by
  refine ⟨f, fd, ?_, m, F.kp, F.binds fun _ _ _ _ _ _ us hl => match us, hl with | [_, _], _ => rfl⟩
  refine F.okE sc__law_cell_at (fun vs H Q E h => ?_) (fun cdv A outer s H vs Q E hr h => ?_)
  · obtain ⟨_, _, _, rfl, _⟩ := h
    rfl
  · obtain ⟨a, ns, k, rfl, hs, hk, hq⟩ := h
    refine ⟨_, (pss_cons (ps_if (pt_cmpR op_lt (pv 1) (pe_callB call_len_seq (by rfl) T.b_len PySem.boot_len (pa_cons (pv 0) pa_nil)) (nomark _)) (pss_one (ps_ret (pe_ix ix_list (pv 0) (pv 1) (fun _ _ => rfl)))) pss_nil) (pss_one (ps_ret pe_int))), ?_⟩
    walk_at "rd"
    refine ⟨ns.map V.int, .inl hs, ?_⟩
    split
    · rename_i hlt
      have hl : k.toNat < ns.length := by simp at hlt; omega
      refine ⟨ns.map V.int, hs, .int ns[k.toNat], ?_, hq _⟩
      have := atI_nat (xs := ns.map V.int) (j := k.toNat) (v := .int ns[k.toNat]) (by simp [hl])
      rw [Int.toNat_of_nonneg hk] at this
      exact this
    · exact hq 0
abbrev s__law_stir : Stmt := top 44
theorem sc__law_stir : FnScope ["_law_cell", "_law_k", "_law_c", "_law_low_here"] ["_law_cell", "_law_k"] (defScope s__law_stir) := ⟨rfl, rfl, rfl, by decide +kernel, rfl, by decide +kernel, by decide +kernel⟩
theorem ok__law_stir {f : Addr} {fd : FuncData} (F : Fun K "_law_stir" "_law_stir" s__law_stir f fd) (m : mg "_law_stir" = some (.ref f)) (T : Tx w K mg C_HeightError C_NOUGHT C_NoCount C_NoFamily C_NoFraction C_NoHistory C_NoLine C_NoMeeting C_NoMoments C_NoName C_NoNumber C_NoSeries C_NoText C_NoThing C_NoWay C_NoWeights C_ONE C_TooFar C_TooHigh C_TooMany) : Callee P w K mg base 1 "_law_stir" ["_law_cell", "_law_k"] (spStir) := by
  refine ⟨f, fd, ?_, m, F.kp, F.binds fun _ _ _ _ _ _ us hl => match us, hl with | [_, _], _ => rfl⟩
  refine F.okE sc__law_stir (fun vs H Q E h => ?_) (fun cdv A outer s H vs Q E hr h => ?_)
  · obtain ⟨_, _, rfl, _⟩ := h
    rfl
  · obtain ⟨c, k, rfl, hk, hk2, hq⟩ := h
    refine ⟨_, (pss_cons (ps_set (i := 2) sc__law_stir.nd rfl (Or.inl rfl) (pe_op op_add (pe_op op_add (pe_op op_add (pe_op op_mod (pv 0) (pe_op op_pow pe_int pe_int)) pe_int) (pe_op op_mul pe_int (pv 1))) (pe_op op_mul (pe_op op_mul pe_int (pv 1)) (pv 1)))) (pss_cons (ps_set (i := 3) sc__law_stir.nd rfl (Or.inl rfl) (pe_op op_mod (pe_op op_mul (pe_op op_mod (pe_op op_mul (pv 2) pe_int) pe_int) pe_int) pe_int)) (pss_one (ps_ret (pe_op op_add (pv 3) (pe_op op_mul pe_int (pe_op op_mod (pe_op op_mul (pe_op op_mul (pv 2) (pv 3)) pe_int) (pe_op op_add (pe_op op_pow pe_int pe_int) pe_int)))))))), ?_⟩
    walk_at "rd"
    refine ⟨.inl ⟨by decide, by decide⟩, .inl ⟨by decide, by decide⟩, .inr ⟨by omega, by omega⟩, .inr ⟨by decide, by decide⟩, .inr ⟨by decide, by decide⟩, .inr ?_, .inr ⟨by decide, by decide⟩, .inl ⟨by decide, by decide⟩, ?_⟩
    · generalize (c % 10000000000000000000000000000000000000000 + 1 + 13 * k + 7 * k * k) * 48271 % 2147483647 * 69621 = z
      exact ⟨by omega, by omega⟩
    · generalize (c % 10000000000000000000000000000000000000000 + 1 + 13 * k + 7 * k * k) * 48271 % 2147483647 * 69621 = z
      generalize (c % 10000000000000000000000000000000000000000 + 1 + 13 * k + 7 * k * k) * (z % 1000000007) * 2862933555777941757 = y
      exact hq _ (by omega) (by omega)
abbrev s__law_drawn : Stmt := top 45
theorem sc__law_drawn : FnScope ["_law_script", "_law_k", "_law_great", "_law_step"] ["_law_script", "_law_k"] (defScope s__law_drawn) := ⟨rfl, rfl, rfl, by decide +kernel, rfl, by decide +kernel, by decide +kernel⟩
theorem ok__law_drawn {f : Addr} {fd : FuncData} (F : Fun K "_law_drawn" "_law_drawn" s__law_drawn f fd) (m : mg "_law_drawn" = some (.ref f)) (T : Tx w K mg C_HeightError C_NOUGHT C_NoCount C_NoFamily C_NoFraction C_NoHistory C_NoLine C_NoMeeting C_NoMoments C_NoName C_NoNumber C_NoSeries C_NoText C_NoThing C_NoWay C_NoWeights C_ONE C_TooFar C_TooHigh C_TooMany) (c__law_cell_at : Callee P w K mg base 1 "_law_cell_at" ["_law_script", "_law_k"] (spCell K)) (c__law_stir : Callee P w K mg base 1 "_law_stir" ["_law_cell", "_law_k"] (spStir)) : Callee P w K mg base 2 "_law_drawn" ["_law_script", "_law_k"] (spDrawn K) := by
  refine ⟨f, fd, ?_, m, F.kp, F.binds fun _ _ _ _ _ _ us hl => match us, hl with | [_, _], _ => rfl⟩
  refine F.okE sc__law_drawn (fun vs H Q E h => ?_) (fun cdv A outer s H vs Q E hr h => ?_)
  · obtain ⟨_, _, _, rfl, _⟩ := h
    rfl
  · obtain ⟨a, ns, k, rfl, hs, hk, hk2, hq⟩ := h
    refine ⟨_, (pss_cons (ps_set (i := 2) sc__law_drawn.nd rfl (Or.inl rfl) (pe_c c__law_cell_at (hr.mono (by decide)) np (pa_cons (pv 0) (pa_cons pe_int pa_nil)))) (pss_cons (ps_if (PW.pt (pw_and (pt_cmpR op_eq (pe_op op_mod (pe_c c__law_cell_at (hr.mono (by decide)) np (pa_cons (pv 0) (pa_cons pe_int pa_nil))) pe_int) pe_int (nomark _)) (pw_and1 (pt_cmpR op_ge (pv 2) (pe_op op_pow pe_int pe_int) (nomark _))))) (pss_cons (ps_forR rfl PassesOwn.never T.b_range (pv 1) (pg_name (i := 3) sc__law_drawn.nd rfl (Or.inl rfl)) (pss_one (ps_set (i := 2) sc__law_drawn.nd rfl (Or.inl rfl) (pe_op op_fdivB (pv 2) (pe_op op_pow pe_int pe_int))))) (pss_one (ps_ret (pe_op op_mod (pv 2) (pe_op op_pow pe_int pe_int))))) pss_nil) (pss_one (ps_ret (pe_c c__law_stir (hr.mono (by decide)) np (pa_cons (pe_c c__law_cell_at (hr.mono (by decide)) np (pa_cons (pv 0) (pa_cons (pv 1) pa_nil))) (pa_cons (pv 1) pa_nil))))))), ?_⟩
    walk_at "rd"
    refine ⟨a, ns, 1, rfl, hs, by decide, fun great => ⟨a, ns, 0, rfl, hs, by decide, fun c0 => ?_⟩⟩
    walk_at "rd"
    have last : spCell K [V.ref a, V.int k] H (fun x H1 => spStir [x, V.int k] H1 Q E0) E0 := ⟨a, ns, k, rfl, hs, hk, fun c => ⟨c, k, rfl, hk, hk2, hq⟩⟩
    split
    · split
      · refine ⟨by omega, by omega, ?_⟩
        refine ⟨fun _ σ H' => ∃ (g : Int) (r : Option V), σ = [some (.ref a), some (.int k), some (.int g), r] ∧ H' = H, ⟨great, none, rfl, rfl⟩, ?_, ?_⟩
        · rintro i σ H' _ ⟨g, r, rfl, rfl⟩
          walk_at "rd"
          exact bd_ten60
        · rintro σ H' ⟨g, r, rfl, rfl⟩
          walk_at "rd"
          exact hq _ (by omega) (by omega)
      · exact last
    · exact last
abbrev s__law_whole : Stmt := top 46
theorem sc__law_whole : FnScope ["_law_found"] ["_law_found"] (defScope s__law_whole) := ⟨rfl, rfl, rfl, by decide +kernel, rfl, by decide +kernel, by decide +kernel⟩
theorem ok__law_whole {f : Addr} {fd : FuncData} (F : Fun K "_law_whole" "_law_whole" s__law_whole f fd) (m : mg "_law_whole" = some (.ref f)) (T : Tx w K mg C_HeightError C_NOUGHT C_NoCount C_NoFamily C_NoFraction C_NoHistory C_NoLine C_NoMeeting C_NoMoments C_NoName C_NoNumber C_NoSeries C_NoText C_NoThing C_NoWay C_NoWeights C_ONE C_TooFar C_TooHigh C_TooMany) : Callee P w K mg base 1 "_law_whole" ["_law_found"] (spWhole) := by
  refine ⟨f, fd, ?_, m, F.kp, F.binds fun _ _ _ _ _ _ us hl => match us, hl with | [_], _ => rfl⟩
  refine F.okE sc__law_whole (fun vs H Q E h => ?_) (fun cdv A outer s H vs Q E hr h => ?_)
  · obtain ⟨_, rfl, _⟩ := h
    rfl
  · obtain ⟨a, rfl, hq⟩ := h
    refine ⟨_, (pss_one (ps_ret (pe_and (pe_callB call_isi (by rfl) T.b_isinstance (by decide +kernel) (pa_cons (pv 0) (pa_cons (pe_bltn (v := .ty "int") (u := .type "int") rfl T.b_int (by decide +kernel) rfl) pa_nil))) (pe_one (pe_not (pe_callB call_isi (by rfl) T.b_isinstance (by decide +kernel) (pa_cons (pv 0) (pa_cons (pe_bltn (v := .ty "bool") (u := .type "bool") rfl T.b_bool (by decide +kernel) rfl) pa_nil)))))))), ?_⟩
    walk_at "rd"
    refine isi_ii (.inr ⟨rfl, isi_ib (.inl ⟨rfl, hq⟩)⟩)
abbrev s__law_divisor : Stmt := top 47
theorem sc__law_divisor : FnScope ["_law_a", "_law_b", "_law_rest"] ["_law_a", "_law_b"] (defScope s__law_divisor) := ⟨rfl, rfl, rfl, by decide +kernel, rfl, by decide +kernel, by decide +kernel⟩
theorem ok__law_divisor {f : Addr} {fd : FuncData} (F : Fun K "_law_divisor" "_law_divisor" s__law_divisor f fd) (m : mg "_law_divisor" = some (.ref f)) (T : Tx w K mg C_HeightError C_NOUGHT C_NoCount C_NoFamily C_NoFraction C_NoHistory C_NoLine C_NoMeeting C_NoMoments C_NoName C_NoNumber C_NoSeries C_NoText C_NoThing C_NoWay C_NoWeights C_ONE C_TooFar C_TooHigh C_TooMany) : Callee P w K mg base 1 "_law_divisor" ["_law_a", "_law_b"] (spGcd) := by
  refine ⟨f, fd, ?_, m, F.kp, F.binds fun _ _ _ _ _ _ us hl => match us, hl with | [_, _], _ => rfl⟩
  refine F.okE sc__law_divisor (fun vs H Q E h => ?_) (fun cdv A outer s H vs Q E hr h => ?_)
  · obtain ⟨_, _, rfl, _⟩ := h
    rfl
  · obtain ⟨a, b, rfl, hq⟩ := h
    refine ⟨_, (pss_cons (ps_set (i := 0) sc__law_divisor.nd rfl (Or.inl rfl) (pe_callB call_abs (by rfl) T.b_abs (by decide +kernel) (pa_cons (pv 0) pa_nil))) (pss_cons (ps_set (i := 1) sc__law_divisor.nd rfl (Or.inl rfl) (pe_callB call_abs (by rfl) T.b_abs (by decide +kernel) (pa_cons (pv 1) pa_nil))) (pss_cons (ps_wh PassesOwn.never (pt_cmpR op_gt (pv 1) pe_int (nomark _)) (pss_cons (ps_set (i := 2) sc__law_divisor.nd rfl (Or.inl rfl) (pe_op op_mod (pv 0) (pv 1))) (pss_cons (ps_set (i := 0) sc__law_divisor.nd rfl (Or.inl rfl) (pv 1)) (pss_one (ps_set (i := 1) sc__law_divisor.nd rfl (Or.inl rfl) (pv 2)))))) (pss_one (ps_ret (pv 0)))))), ?_⟩
    walk_at "rd"
    refine ⟨fun σ H' => ∃ (x y : Int) (r : Option V), σ = [some (.int x), some (.int y), r] ∧ H' = H ∧ 0 ≤ x ∧ 0 ≤ y ∧ Int.gcd x y = Int.gcd a b, fun σ _ => match σ with | [_, some (.int y), _] => y.toNat | _ => 0, ⟨_, _, none, rfl, rfl, ?_, ?_, gcd_abs a b⟩, ?_⟩
    · split <;> omega
    · split <;> omega
    rintro σ H' ⟨x, y, r, rfl, rfl, hx, hy, hg⟩
    by_cases hy0 : y = 0
    · subst hy0
      walk_at "rd"
      rw [← hg, gcd_end hx] at hq
      exact hq
    · have h1 := Int.emod_nonneg x hy0
      have h2 := Int.emod_lt_of_pos x (show 0 < y by omega)
      have h3 := gcd_step hx (show 0 < y by omega)
      walk_at "rd"
      rw [if_pos (show 0 < y by omega)]
      exact ⟨by omega, ⟨y, x % y, ⟨rfl, rfl⟩, hy, h1, h3.trans hg⟩, by omega⟩
abbrev s__law_low : Stmt := top 48
theorem sc__law_low : FnScope ["_law_top", "_law_bottom", "_law_by"] ["_law_top", "_law_bottom"] (defScope s__law_low) := ⟨rfl, rfl, rfl, by decide +kernel, rfl, by decide +kernel, by decide +kernel⟩
theorem ok__law_low {f : Addr} {fd : FuncData} (F : Fun K "_law_low" "_law_low" s__law_low f fd) (m : mg "_law_low" = some (.ref f)) (T : Tx w K mg C_HeightError C_NOUGHT C_NoCount C_NoFamily C_NoFraction C_NoHistory C_NoLine C_NoMeeting C_NoMoments C_NoName C_NoNumber C_NoSeries C_NoText C_NoThing C_NoWay C_NoWeights C_ONE C_TooFar C_TooHigh C_TooMany) (c__law_divisor : Callee P w K mg base 1 "_law_divisor" ["_law_a", "_law_b"] (spGcd)) : Callee P w K mg base 2 "_law_low" ["_law_top", "_law_bottom"] (spLow) := by
  refine ⟨f, fd, ?_, m, F.kp, F.binds fun _ _ _ _ _ _ us hl => match us, hl with | [_, _], _ => rfl⟩
  refine F.okE sc__law_low (fun vs H Q E h => ?_) (fun cdv A outer s H vs Q E hr h => ?_)
  · obtain ⟨_, _, rfl, _⟩ := h
    rfl
  · obtain ⟨t, b, rfl, hb, bb, hq⟩ := h
    refine ⟨_, (pss_cons (ps_if (pt_cmpR op_lt (pv 1) pe_int (nomark _)) (pss_cons (ps_set (i := 0) sc__law_low.nd rfl (Or.inl rfl) (pe_un un_neg (pv 0))) (pss_one (ps_set (i := 1) sc__law_low.nd rfl (Or.inl rfl) (pe_un un_neg (pv 1))))) pss_nil) (pss_cons (ps_set (i := 2) sc__law_low.nd rfl (Or.inl rfl) (pe_c c__law_divisor (hr.mono (by decide)) np (pa_cons (pv 0) (pa_cons (pv 1) pa_nil)))) (pss_one (ps_ret (pe_tup (pa_cons (pe_op op_fdivB (pv 0) (pv 2)) (pa_cons (pe_op op_fdivB (pv 1) (pv 2)) pa_nil))))))), ?_⟩
    walk_at "rd"
    rw [if_neg (by omega)]
    have hp := Int.gcd_pos_of_ne_zero_right t (show b ≠ 0 by omega)
    have bg : Bd 9000 ((Int.gcd t b : Nat) : Int) := bb.le (by simpa using Mt.gcd_le (t := t) (show b ≠ 0 by omega))
    have e := Mt.low_pos (t := t) hb
    refine ⟨t, b, rfl, _, rfl, bg.dv (by omega), _, rfl, bg.dv (by omega), sz_le 2 (by decide), fun p hp => ?_⟩
    rw [e.1, e.2]
    exact hq p hp
abbrev s__law_add : Stmt := top 49
theorem sc__law_add : FnScope ["_law_a", "_law_b"] ["_law_a", "_law_b"] (defScope s__law_add) := ⟨rfl, rfl, rfl, by decide +kernel, rfl, by decide +kernel, by decide +kernel⟩
theorem ok__law_add {f : Addr} {fd : FuncData} (F : Fun K "_law_add" "_law_add" s__law_add f fd) (m : mg "_law_add" = some (.ref f)) (T : Tx w K mg C_HeightError C_NOUGHT C_NoCount C_NoFamily C_NoFraction C_NoHistory C_NoLine C_NoMeeting C_NoMoments C_NoName C_NoNumber C_NoSeries C_NoText C_NoThing C_NoWay C_NoWeights C_ONE C_TooFar C_TooHigh C_TooMany) (c__law_low : Callee P w K mg base 2 "_law_low" ["_law_top", "_law_bottom"] (spLow)) : Callee P w K mg base 3 "_law_add" ["_law_a", "_law_b"] (spBin K (fun a b => a + b)) := by
  refine ⟨f, fd, ?_, m, F.kp, F.binds fun _ _ _ _ _ _ us hl => match us, hl with | [_, _], _ => rfl⟩
  refine F.okE sc__law_add (fun vs H Q E h => ?_) (fun cdv A outer s H vs Q E hr h => ?_)
  · obtain ⟨_, _, _, _, rfl, _⟩ := h
    rfl
  · obtain ⟨pa, pb, a, b, rfl, ha, hb, sa, sb, hq⟩ := h
    refine ⟨_, (pss_one (ps_ret (pe_c c__law_low (hr.mono (by decide)) np (pa_cons (pe_op op_add (pe_op op_mulB (pe_ix ix_fq (pv 0) pe_int (fun _ _ => rfl)) (pe_ix ix_fq (pv 1) pe_int (fun _ _ => rfl))) (pe_op op_mulB (pe_ix ix_fq (pv 1) pe_int (fun _ _ => rfl)) (pe_ix ix_fq (pv 0) pe_int (fun _ _ => rfl)))) (pa_cons (pe_op op_mulB (pe_ix ix_fq (pv 0) pe_int (fun _ _ => rfl)) (pe_ix ix_fq (pv 1) pe_int (fun _ _ => rfl))) pa_nil))))), ?_⟩
    dsimp only at hq
    walk_at "rd"
    refine ⟨a, ha, b, hb, sa.t.mu sb.b, b, hb, a, ha, sb.t.mu sa.b, a, ha, b, hb, sa.b.mu sb.b, _, _, rfl, Int.mul_pos (Mt.den_pos a) (Mt.den_pos b), (sa.b.mul sb.b).mono (by decide), fun p hp => ?_⟩
    rw [Mt.rat_add]
    exact hq p _ (same_upd hp) hp upd_same
abbrev s__law_mul : Stmt := top 50
theorem sc__law_mul : FnScope ["_law_a", "_law_b"] ["_law_a", "_law_b"] (defScope s__law_mul) := ⟨rfl, rfl, rfl, by decide +kernel, rfl, by decide +kernel, by decide +kernel⟩
theorem ok__law_mul {f : Addr} {fd : FuncData} (F : Fun K "_law_mul" "_law_mul" s__law_mul f fd) (m : mg "_law_mul" = some (.ref f)) (T : Tx w K mg C_HeightError C_NOUGHT C_NoCount C_NoFamily C_NoFraction C_NoHistory C_NoLine C_NoMeeting C_NoMoments C_NoName C_NoNumber C_NoSeries C_NoText C_NoThing C_NoWay C_NoWeights C_ONE C_TooFar C_TooHigh C_TooMany) (c__law_low : Callee P w K mg base 2 "_law_low" ["_law_top", "_law_bottom"] (spLow)) : Callee P w K mg base 3 "_law_mul" ["_law_a", "_law_b"] (spBin K (fun a b => a * b)) := by
  refine ⟨f, fd, ?_, m, F.kp, F.binds fun _ _ _ _ _ _ us hl => match us, hl with | [_, _], _ => rfl⟩
  refine F.okE sc__law_mul (fun vs H Q E h => ?_) (fun cdv A outer s H vs Q E hr h => ?_)
  · obtain ⟨_, _, _, _, rfl, _⟩ := h
    rfl
  · obtain ⟨pa, pb, a, b, rfl, ha, hb, sa, sb, hq⟩ := h
    refine ⟨_, (pss_one (ps_ret (pe_c c__law_low (hr.mono (by decide)) np (pa_cons (pe_op op_mulB (pe_ix ix_fq (pv 0) pe_int (fun _ _ => rfl)) (pe_ix ix_fq (pv 1) pe_int (fun _ _ => rfl))) (pa_cons (pe_op op_mulB (pe_ix ix_fq (pv 0) pe_int (fun _ _ => rfl)) (pe_ix ix_fq (pv 1) pe_int (fun _ _ => rfl))) pa_nil))))), ?_⟩
    dsimp only at hq
    walk_at "rd"
    refine ⟨a, ha, b, hb, sa.t.mu sb.t, a, ha, b, hb, sa.b.mu sb.b, _, _, rfl, Int.mul_pos (Mt.den_pos a) (Mt.den_pos b), (sa.b.mul sb.b).mono (by decide), fun p hp => ?_⟩
    rw [Mt.rat_mul]
    exact hq p _ (same_upd hp) hp upd_same
abbrev s__law_is_fraction : Stmt := top 51
theorem sc__law_is_fraction : FnScope ["_law_found"] ["_law_found"] (defScope s__law_is_fraction) := ⟨rfl, rfl, rfl, by decide +kernel, rfl, by decide +kernel, by decide +kernel⟩
theorem ok__law_is_fraction {f : Addr} {fd : FuncData} (F : Fun K "_law_is_fraction" "_law_is_fraction" s__law_is_fraction f fd) (m : mg "_law_is_fraction" = some (.ref f)) (T : Tx w K mg C_HeightError C_NOUGHT C_NoCount C_NoFamily C_NoFraction C_NoHistory C_NoLine C_NoMeeting C_NoMoments C_NoName C_NoNumber C_NoSeries C_NoText C_NoThing C_NoWay C_NoWeights C_ONE C_TooFar C_TooHigh C_TooMany) (c__law_divisor : Callee P w K mg base 1 "_law_divisor" ["_law_a", "_law_b"] (spGcd)) (c__law_whole : Callee P w K mg base 1 "_law_whole" ["_law_found"] (spWhole)) : Callee P w K mg base 2 "_law_is_fraction" ["_law_found"] (spIsFq K) := by
  refine ⟨f, fd, ?_, m, F.kp, F.binds fun _ _ _ _ _ _ us hl => match us, hl with | [_], _ => rfl⟩
  refine F.okE sc__law_is_fraction (fun vs H Q E h => ?_) (fun cdv A outer s H vs Q E hr h => ?_)
  · obtain ⟨_, _, rfl, _⟩ := h
    rfl
  · obtain ⟨p, q, rfl, hp, hq⟩ := h
    refine ⟨_, (pss_cons (ps_if (PW.pt (pw_or (pt_not (pt_val (pe_callB call_isiT (by rfl) T.b_isinstance (by decide +kernel) (pa_cons (pv 0) (pa_cons (pe_bltn (v := .ty "tuple") (u := .type "tuple") rfl T.b_tuple (by decide +kernel) rfl) pa_nil))))) (pw_or1 (pt_cmpR op_ne (pe_callB call_len_seq (by rfl) T.b_len PySem.boot_len (pa_cons (pv 0) pa_nil)) pe_int (nomark _))))) (pss_one (ps_ret pe_bl)) pss_nil) (pss_cons (ps_if (PW.pt (pw_or (pt_not (pt_val (pe_c c__law_whole (hr.mono (by decide)) np (pa_cons (pe_ix ix_fq (pv 0) pe_int (fun _ _ => rfl)) pa_nil)))) (pw_or (pt_not (pt_val (pe_c c__law_whole (hr.mono (by decide)) np (pa_cons (pe_ix ix_fq (pv 0) pe_int (fun _ _ => rfl)) pa_nil)))) (pw_or1 (pt_cmpR op_lt (pe_ix ix_fq (pv 0) pe_int (fun _ _ => rfl)) pe_int (nomark _)))))) (pss_one (ps_ret pe_bl)) pss_nil) (pss_one (ps_ret (pe_cmpR op_eq (pe_c c__law_divisor (hr.mono (by decide)) np (pa_cons (pe_ix ix_fq (pv 0) pe_int (fun _ _ => rfl)) (pa_cons (pe_ix ix_fq (pv 0) pe_int (fun _ _ => rfl)) pa_nil))) pe_int (nomark _)))))), ?_⟩
    have f := Mt.fr_rat q
    have e : SqT K H p [.int q.num, .int (q.den : Int)] := hp
    walk_at "rd"
    refine isi_sq e (.inr ⟨rfl, _, .inr e, .inl ⟨rfl, q, hp, q.num, rfl, .inr ⟨rfl, q, hp, (q.den : Int), rfl, .inr ⟨rfl, q, hp, ?_⟩⟩⟩⟩)
    rw [if_neg (by have := f.pos; omega)]
    refine ⟨q, hp, q, hp, _, _, rfl, rfl, ?_⟩
    rw [f.low]
    exact hq
abbrev s__law_are_fractions : Stmt := top 52
theorem sc__law_are_fractions : FnScope ["_law_found", "_law_many"] ["_law_found", "_law_many"] (defScope s__law_are_fractions) := ⟨rfl, rfl, rfl, by decide +kernel, rfl, by decide +kernel, by decide +kernel⟩
theorem ok__law_are_fractions {f : Addr} {fd : FuncData} (F : Fun K "_law_are_fractions" "_law_are_fractions" s__law_are_fractions f fd) (m : mg "_law_are_fractions" = some (.ref f)) (T : Tx w K mg C_HeightError C_NOUGHT C_NoCount C_NoFamily C_NoFraction C_NoHistory C_NoLine C_NoMeeting C_NoMoments C_NoName C_NoNumber C_NoSeries C_NoText C_NoThing C_NoWay C_NoWeights C_ONE C_TooFar C_TooHigh C_TooMany) (c__law_is_fraction : Callee P w K mg base 2 "_law_is_fraction" ["_law_found"] (spIsFq K)) : Callee P w K mg base 3 "_law_are_fractions" ["_law_found", "_law_many"] (spAreF K) := by
  refine ⟨f, fd, ?_, m, F.kp, F.binds fun _ _ _ _ _ _ us hl => match us, hl with | [_, _], _ => rfl⟩
  refine F.okE sc__law_are_fractions (fun vs H Q E h => ?_) (fun cdv A outer s H vs Q E hr h => ?_)
  · obtain ⟨_, _, rfl, _⟩ := h
    rfl
  · obtain ⟨p, f, rfl, hp, lf, hq⟩ := h
    refine ⟨_, (pss_cons (ps_if (pt_cmpR op_ne (pe_callB call_len_seq (by rfl) T.b_len PySem.boot_len (pa_cons (pv 0) pa_nil)) (pv 1) (nomark _)) (pss_one (ps_ret pe_bl)) pss_nil) (pss_one (ps_ret (pe_callB (call_all rfl) (by rfl) T.b_all (by decide +kernel) (pa_cons (PCo.pe (coT (pv 0) (fun _ hpi => pe_comp0 ["_law_one"] rfl hpi (fun _ _ _ _ _ => (pg_name (i := 0) (show List.Nodup [("_law_one" : Str)] by decide +kernel) rfl (Or.inl rfl) (Or.inr rfl)).mo) (fun _ _ _ _ _ => PE.mo (pe_c c__law_is_fraction (hr.mono (by decide)) np (pa_cons (pv 0) pa_nil)))))) pa_nil))))), ?_⟩
    obtain ⟨ys, hy, fy⟩ := id hp
    have ly := fy.len
    walk_at "rd"
    refine ⟨ys, .inr hy, .inl ⟨by omega, ys, hy, CO.pure1 (fun _ => .bl true) (by omega) (fun H' s => s.seqT hy) (fun i H' x R hi s hx kk => ?_) fun D1 H1 s1 n1 h1 => ⟨D1, rfl, List.replicate ys.length true, ?_, ?_⟩⟩⟩
    · obtain ⟨pa, ea, fa⟩ := fy.at (j := i) (by omega)
      cases ea.symm.trans hx
      walk_at "rd"
      exact ⟨pa, _, rfl, fa.same s, kk _ _ rfl (Same.refl _)⟩
    · rw [h1]
      exact congrArg (fun l => some (HO.lst l)) (List.ext_getElem (by simp) (by simp))
    · have := hq H1 s1
      simpa using this
abbrev s__law_marks : Stmt := top 53
theorem sc__law_marks : FnScope ["_law_e", "_law_marks_here"] ["_law_e"] (defScope s__law_marks) := ⟨rfl, rfl, rfl, by decide +kernel, rfl, by decide +kernel, by decide +kernel⟩
theorem ok__law_marks {f : Addr} {fd : FuncData} (F : Fun K "_law_marks" "_law_marks" s__law_marks f fd) (m : mg "_law_marks" = some (.ref f)) (T : Tx w K mg C_HeightError C_NOUGHT C_NoCount C_NoFamily C_NoFraction C_NoHistory C_NoLine C_NoMeeting C_NoMoments C_NoName C_NoNumber C_NoSeries C_NoText C_NoThing C_NoWay C_NoWeights C_ONE C_TooFar C_TooHigh C_TooMany) : CalleeU P w K mg base 1 "_law_marks" ["_law_e"] (spMarks C_NoMoments 7) := by
  refine ⟨f, fd, ?_, m, F.kp, F.binds fun _ _ _ _ _ _ us hl => match us, hl with | [_], _ => rfl⟩
  refine F.okU sc__law_marks (fun vs H Q E h => ?_) (fun cdv A outer s H vs Q E hr h => ?_)
  · obtain ⟨_, _, rfl, _⟩ := h
    rfl
  · obtain ⟨e, dv, rfl, he, hq⟩ := h
    refine ⟨_, (pss_cons (ps_set (i := 1) sc__law_marks.nd rfl (Or.inl rfl) (pe_lst (pa_cons (pe_callB call_isi (by rfl) T.b_isinstance (by decide +kernel) (pa_cons (pv 0) (pa_cons (pe_bltn (v := .ty "ValueError") (u := .type "ValueError") rfl T.b_ValueError (by decide +kernel) rfl) pa_nil))) (pa_cons (pe_callB call_isi (by rfl) T.b_isinstance (by decide +kernel) (pa_cons (pv 0) (pa_cons (pe_glob (v := .ref C_NoFraction) rfl T.m_NoFraction rfl) pa_nil))) (pa_cons (pe_callB call_isi (by rfl) T.b_isinstance (by decide +kernel) (pa_cons (pv 0) (pa_cons (pe_glob (v := .ref C_TooMany) rfl T.m_TooMany rfl) pa_nil))) pa_nil))))) (pss_cons (ps_set (i := 1) sc__law_marks.nd rfl (Or.inl rfl) (pe_op op_cat (pv 1) (pe_lst (pa_cons (pe_callB call_isi (by rfl) T.b_isinstance (by decide +kernel) (pa_cons (pv 0) (pa_cons (pe_glob (v := .ref C_TooFar) rfl T.m_TooFar rfl) pa_nil))) (pa_cons (pe_callB call_isi (by rfl) T.b_isinstance (by decide +kernel) (pa_cons (pv 0) (pa_cons (pe_glob (v := .ref C_NoNumber) rfl T.m_NoNumber rfl) pa_nil))) (pa_cons (pe_callB call_isi (by rfl) T.b_isinstance (by decide +kernel) (pa_cons (pv 0) (pa_cons (pe_glob (v := .ref C_NoWeights) rfl T.m_NoWeights rfl) pa_nil))) pa_nil)))))) (pss_cons (ps_set (i := 1) sc__law_marks.nd rfl (Or.inl rfl) (pe_op op_cat (pv 1) (pe_lst (pa_cons (pe_callB call_isi (by rfl) T.b_isinstance (by decide +kernel) (pa_cons (pv 0) (pa_cons (pe_glob (v := .ref C_NoSeries) rfl T.m_NoSeries rfl) pa_nil))) (pa_cons (pe_callB call_isi (by rfl) T.b_isinstance (by decide +kernel) (pa_cons (pv 0) (pa_cons (pe_glob (v := .ref C_NoMoments) rfl T.m_NoMoments rfl) pa_nil))) (pa_cons (pe_callB call_isi (by rfl) T.b_isinstance (by decide +kernel) (pa_cons (pv 0) (pa_cons (pe_glob (v := .ref C_NoFamily) rfl T.m_NoFamily rfl) pa_nil))) pa_nil)))))) (pss_cons (ps_set (i := 1) sc__law_marks.nd rfl (Or.inl rfl) (pe_op op_cat (pv 1) (pe_lst (pa_cons (pe_callB call_isi (by rfl) T.b_isinstance (by decide +kernel) (pa_cons (pv 0) (pa_cons (pe_glob (v := .ref C_NoMeeting) rfl T.m_NoMeeting rfl) pa_nil))) (pa_cons (pe_callB call_isi (by rfl) T.b_isinstance (by decide +kernel) (pa_cons (pv 0) (pa_cons (pe_glob (v := .ref C_NoThing) rfl T.m_NoThing rfl) pa_nil))) (pa_cons (pe_callB call_isi (by rfl) T.b_isinstance (by decide +kernel) (pa_cons (pv 0) (pa_cons (pe_glob (v := .ref C_NoLine) rfl T.m_NoLine rfl) pa_nil))) pa_nil)))))) (pss_cons (ps_set (i := 1) sc__law_marks.nd rfl (Or.inl rfl) (pe_op op_cat (pv 1) (pe_lst (pa_cons (pe_callB call_isi (by rfl) T.b_isinstance (by decide +kernel) (pa_cons (pv 0) (pa_cons (pe_glob (v := .ref C_NoText) rfl T.m_NoText rfl) pa_nil))) (pa_cons (pe_callB call_isi (by rfl) T.b_isinstance (by decide +kernel) (pa_cons (pv 0) (pa_cons (pe_glob (v := .ref C_NoWay) rfl T.m_NoWay rfl) pa_nil))) (pa_cons (pe_callB call_isi (by rfl) T.b_isinstance (by decide +kernel) (pa_cons (pv 0) (pa_cons (pe_glob (v := .ref C_TooHigh) rfl T.m_TooHigh rfl) pa_nil))) pa_nil)))))) (pss_one (ps_ret (pe_op op_cat (pv 1) (pe_lst (pa_cons (pe_callB call_isi (by rfl) T.b_isinstance (by decide +kernel) (pa_cons (pv 0) (pa_cons (pe_glob (v := .ref C_NoHistory) rfl T.m_NoHistory rfl) pa_nil))) (pa_cons (pe_callB call_isi (by rfl) T.b_isinstance (by decide +kernel) (pa_cons (pv 0) (pa_cons (pe_glob (v := .ref C_NoCount) rfl T.m_NoCount rfl) pa_nil))) (pa_cons (pe_callB call_isi (by rfl) T.b_isinstance (by decide +kernel) (pa_cons (pv 0) (pa_cons (pe_glob (v := .ref C_NoName) rfl T.m_NoName rfl) pa_nil))) pa_nil)))))))))))), ?_⟩
    walk_at "rd"
    refine isi_x he T.xc rfl T.k_ValueError (isi_x he T.xc rfl T.k_NoFraction (isi_x he T.xc rfl T.k_TooMany ⟨sz_le 3 (by decide), fun p n => ?_⟩))
    have s1 : Same H (upd H p (.lst [.bl true, .bl false, .bl false])) := same_upd n
    refine step3d (s1 _ _ he) upd_same (by decide) T.xc rfl T.k_TooFar rfl T.k_NoNumber rfl T.k_NoWeights (fun l2 H2 s2 n2 he2 hl2 => ?_)
    refine step3d he2 hl2 (by decide) T.xc rfl T.k_NoSeries rfl T.k_NoMoments rfl T.k_NoFamily (fun l3 H3 s3 n3 he3 hl3 => ?_)
    refine step3d he3 hl3 (by decide) T.xc rfl T.k_NoMeeting rfl T.k_NoThing rfl T.k_NoLine (fun l4 H4 s4 n4 he4 hl4 => ?_)
    refine step3d he4 hl4 (by decide) T.xc rfl T.k_NoText rfl T.k_NoWay rfl T.k_TooHigh (fun l5 H5 s5 n5 he5 hl5 => ?_)
    refine step3d he5 hl5 (by decide) T.xc rfl T.k_NoHistory rfl T.k_NoCount rfl T.k_NoName (fun l6 H6 s6 n6 he6 hl6 => ?_)
    have st := (((s1.trans s2).trans s3).trans s4).trans s5
    exact hq l6 H6 (st.trans s6) (st.free n6) hl6
abbrev s__law_only : Stmt := top 54
theorem sc__law_only : FnScope ["_law_at"] ["_law_at"] (defScope s__law_only) := ⟨rfl, rfl, rfl, by decide +kernel, rfl, by decide +kernel, by decide +kernel⟩
theorem ok__law_only {f : Addr} {fd : FuncData} (F : Fun K "_law_only" "_law_only" s__law_only f fd) (m : mg "_law_only" = some (.ref f)) (T : Tx w K mg C_HeightError C_NOUGHT C_NoCount C_NoFamily C_NoFraction C_NoHistory C_NoLine C_NoMeeting C_NoMoments C_NoName C_NoNumber C_NoSeries C_NoText C_NoThing C_NoWay C_NoWeights C_ONE C_TooFar C_TooHigh C_TooMany) : Callee P w K mg base 1 "_law_only" ["_law_at"] (spOnly) := by
  refine ⟨f, fd, ?_, m, F.kp, F.binds fun _ _ _ _ _ _ us hl => match us, hl with | [_], _ => rfl⟩
  refine F.okE sc__law_only (fun vs H Q E h => ?_) (fun cdv A outer s H vs Q E hr h => ?_)
  · obtain ⟨_, rfl, _⟩ := h
    rfl
  · obtain ⟨j, rfl, hj, hq⟩ := h
    refine ⟨_, (pss_one (ps_ret (PCo.pe (coR T.b_range pe_int (fun _ hpi => pe_comp1 ["_law_k"] "_law_at" 0 rfl hpi (fun _ _ _ _ _ => (pg_name (i := 0) (show List.Nodup [("_law_k" : Str), ("_law_at" : Str)] by decide +kernel) rfl (Or.inl rfl) (Or.inr rfl)).mo) (fun _ _ _ _ _ => PE.mo (pe_cmpR (show OpR _ (compareOp .In) (rIn K false) from op_in_seq) (pv 0) (pe_tup (pa_cons pe_int (pa_cons (pv 1) pa_nil))) rfl)) rfl rfl rfl rfl rfl))))), ?_⟩
    walk_at "rd"
    refine CO.pure1 (fun k => .bl (k == 0 || k == j)) (by decide) (fun _ _ => trivial) (fun i H2 x R hi sm hx k => ?_) fun D H2 sm hD hl => hq D H2 sm hD (by rw [hl]; simp [oneHot])
    subst hx
    walk_at "rd"
    refine ⟨sz_le 2 (by decide), fun p hp => ⟨_, .inr (SqT.of upd_same), rfl, ?_, k _ _ ?_ (same_upd hp)⟩⟩
    · intro x hx
      rcases List.mem_cons.mp hx with rfl | hx
      · rfl
      · rw [List.mem_singleton.mp hx]; rfl
    · show V.bl (((0 : Int) == (i : Int)) || (((j : Int) == (i : Int)) || false)) = _
      rw [Bool.or_false]
      congr 2
      · rw [Bool.eq_iff_iff]; simp; omega
      · rw [Bool.eq_iff_iff]; simp; omega
abbrev s__law_weight_by : Stmt := top 56
theorem sc__law_weight_by : FnScope ["_law_c", "_law_way"] ["_law_c", "_law_way"] (defScope s__law_weight_by) := ⟨rfl, rfl, rfl, by decide +kernel, rfl, by decide +kernel, by decide +kernel⟩
theorem ok__law_weight_by {f : Addr} {fd : FuncData} (F : Fun K "_law_weight_by" "_law_weight_by" s__law_weight_by f fd) (m : mg "_law_weight_by" = some (.ref f)) (T : Tx w K mg C_HeightError C_NOUGHT C_NoCount C_NoFamily C_NoFraction C_NoHistory C_NoLine C_NoMeeting C_NoMoments C_NoName C_NoNumber C_NoSeries C_NoText C_NoThing C_NoWay C_NoWeights C_ONE C_TooFar C_TooHigh C_TooMany) (c__law_low : Callee P w K mg base 2 "_law_low" ["_law_top", "_law_bottom"] (spLow)) : Callee P w K mg base 3 "_law_weight_by" ["_law_c", "_law_way"] (spWb2) := by
  refine ⟨f, fd, ?_, m, F.kp, F.binds fun _ _ _ _ _ _ us hl => match us, hl with | [_, _], _ => rfl⟩
  refine F.okE sc__law_weight_by (fun vs H Q E h => ?_) (fun cdv A outer s H vs Q E hr h => ?_)
  · obtain ⟨_, _, rfl, _⟩ := h
    rfl
  · obtain ⟨c, w, rfl, hq⟩ := h
    refine ⟨_, (pss_cons (ps_if (pt_cmpR op_eq (pe_op op_mod (pv 1) pe_int) pe_int (nomark _)) (pss_one (ps_ret (pe_tup (pa_cons (pe_op op_sub (pe_op op_mod (pv 0) pe_int) pe_int) (pa_cons pe_int pa_nil))))) pss_nil) (pss_cons (ps_if (pt_cmpR op_eq (pe_op op_mod (pv 1) pe_int) pe_int (nomark _)) (pss_one (ps_ret (pe_c c__law_low (hr.mono (by decide)) np (pa_cons (pe_op op_sub (pe_op op_mod (pv 0) pe_int) pe_int) (pa_cons (pe_op op_add pe_int (pe_op op_mod (pe_op op_fdivB (pv 0) pe_int) pe_int)) pa_nil))))) pss_nil) (pss_one (ps_ret (pe_c c__law_low (hr.mono (by decide)) np (pa_cons (pe_op op_sub (pe_op op_mod (pv 0) pe_int) pe_int) (pa_cons (pe_op op_add pe_int (pe_op op_mod (pe_op op_fdivB (pv 0) pe_int) pe_int)) pa_nil))))))), ?_⟩
    have dv : ∀ i j : Int, 0 < j → j ≤ 5000000 → CDivB i j := fun i j h1 h2 => ⟨by omega, Bd.mono (m := 64) (show (_ : Nat) < _ by omega) (by decide)⟩
    have low : ∀ t b : Int, 1 ≤ b → b ≤ 12 → t.natAbs ≤ 999999 → spLow [.int t, .int b] H Q E0 := fun t b b0 b1 ht =>
      ⟨t, b, rfl, by omega, Bd.mono (m := 64) (show (_ : Nat) < _ by omega) (by decide), fun p hp => hq p _ hp (Mt.wg_low b0 b1 ht)⟩
    walk_at "rd"
    split
    · refine ⟨sz_le 2 (by decide), fun p hp => ?_⟩
      rw [← frO_int]
      exact hq p _ hp (Mt.wg_int (by omega))
    split
    · exact ⟨dv _ _ (by decide) (by decide), low _ _ (by omega) (by omega) (by omega)⟩
    · exact ⟨dv _ _ (by decide) (by decide), low _ _ (by omega) (by omega) (by omega)⟩
abbrev s__law_weights_by : Stmt := top 57
theorem sc__law_weights_by : FnScope ["_law_script", "_law_first", "_law_k", "_law_way", "_law_levels", "_law_downs", "_law_h", "_law_down"] ["_law_script", "_law_first", "_law_k", "_law_way"] (defScope s__law_weights_by) := ⟨rfl, rfl, rfl, by decide +kernel, rfl, by decide +kernel, by decide +kernel⟩
theorem ok__law_weights_by {f : Addr} {fd : FuncData} (F : Fun K "_law_weights_by" "_law_weights_by" s__law_weights_by f fd) (m : mg "_law_weights_by" = some (.ref f)) (T : Tx w K mg C_HeightError C_NOUGHT C_NoCount C_NoFamily C_NoFraction C_NoHistory C_NoLine C_NoMeeting C_NoMoments C_NoName C_NoNumber C_NoSeries C_NoText C_NoThing C_NoWay C_NoWeights C_ONE C_TooFar C_TooHigh C_TooMany) (c__law_drawn : Callee P w K mg base 2 "_law_drawn" ["_law_script", "_law_k"] (spDrawn K)) (c__law_weight_by : Callee P w K mg base 3 "_law_weight_by" ["_law_c", "_law_way"] (spWb2)) : Callee P w K mg base 4 "_law_weights_by" ["_law_script", "_law_first", "_law_k", "_law_way"] (spWs26 K) := by
  refine ⟨f, fd, ?_, m, F.kp, F.binds fun _ _ _ _ _ _ us hl => match us, hl with | [_, _, _, _], _ => rfl⟩
  refine F.okE sc__law_weights_by (fun vs H Q E h => ?_) (fun cdv A outer s H vs Q E hr h => ?_)
  · obtain ⟨_, _, _, _, _, rfl, _⟩ := h
    rfl
  · obtain ⟨a, ns, b, w, k, rfl, hs, b0, b1, hk, hq⟩ := h
    refine ⟨_, (pss_cons (PCo.ps (i := 4) (coR T.b_range (pe_op op_add (pv 2) pe_int) (fun _ hpi => pe_comp3 ["_law_h"] "_law_way" 3 "_law_script" 0 "_law_first" 1 rfl hpi (fun _ _ _ _ _ => (pg_name (i := 0) (show List.Nodup [("_law_h" : Str), ("_law_way" : Str), ("_law_script" : Str), ("_law_first" : Str)] by decide +kernel) rfl (Or.inl rfl) (Or.inr rfl)).mo) (fun _ _ _ _ _ => PE.mo (pe_c c__law_weight_by (hr.mono (by decide)) np (pa_cons (pe_c c__law_drawn (hr.mono (by decide)) np (pa_cons (pv 2) (pa_cons (pe_op op_add (pv 3) (pv 0)) pa_nil))) (pa_cons (pv 1) pa_nil)))) rfl rfl rfl rfl rfl rfl rfl rfl rfl rfl rfl rfl rfl)) sc__law_weights_by.nd rfl (Or.inl rfl)) (pss_cons (ps_set (i := 5) sc__law_weights_by.nd rfl (Or.inl rfl) (pe_lst pa_nil)) (pss_cons (ps_forR rfl PassesOwn.never T.b_range (pv 2) (pg_name (i := 6) sc__law_weights_by.nd rfl (Or.inl rfl)) (pss_cons (ps_set (i := 7) sc__law_weights_by.nd rfl (Or.inl rfl) (pe_c c__law_weight_by (hr.mono (by decide)) np (pa_cons (pe_c c__law_drawn (hr.mono (by decide)) np (pa_cons (pv 0) (pa_cons (pe_op op_add (pe_op op_add (pv 1) pe_int) (pv 6)) pa_nil))) (pa_cons (pv 3) pa_nil)))) (pss_cons (ps_if (PW.pt (pw_and (pt_cmpR op_eq (pe_ix ix_fq (pv 7) pe_int (fun _ _ => rfl)) pe_int (nomark _)) (pw_and1 (pt_cmpR op_gt (pe_op op_mod (pe_op op_fdivB (pv 3) pe_int) pe_int) pe_int (nomark _))))) (pss_one (ps_set (i := 7) sc__law_weights_by.nd rfl (Or.inl rfl) (pe_tup (pa_cons (pe_op op_add pe_int (pv 6)) (pa_cons pe_int pa_nil))))) pss_nil) (pss_one (ps_expr (pe_bm PySem.F.plainAttrs_list PySem.F.slot_list_append PySem.F.type_list_append mt_append (pv 5) (pa_cons (pv 7) pa_nil))))))) (pss_one (ps_ret (pe_tup (pa_cons (pv 4) (pa_cons (pv 5) pa_nil)))))))), ?_⟩
    refine tSeq_step fun N hN => ?_
    walk_at "rd"
    refine ⟨by omega, by omega, CO.frsP (K := K) Mt.Wg (by omega) (fun _ _ => trivial) (fun i H' x R hi s hx kk => ?_) fun D1 H1 x1 f1 s1 n1 d1 k1 lf1 w1' => hN _ _ ?_⟩
    · subst hx
      walk_at "rd"
      exact ⟨a, ns, b + i, rfl, s.seq hs, by omega, by omega, fun d _ _ => ⟨d, w, rfl, fun p q np wq => kk p _ q (same_upd np) (Fq.of upd_same) wq⟩⟩
    clear hN N
    refine tSeq_step fun N hN => ?_
    walk_at "rd"
    refine fun D2 n2 => hN _ _ ?_
    clear hN N
    have u2 := same_upd (o := .lst []) n2
    have e2 : upd H1 D2 (.lst []) D2 = some (.lst []) := upd_same
    have ne : D1 ≠ D2 := ne_of_none d1 n2
    generalize upd H1 D2 (.lst []) = H2 at u2 e2 ⊢
    refine tSeq_step fun N hN => ?_
    walk_at "rd"
    refine ⟨by omega, fun i σ H' => ∃ (r6 r7 : Option V) (zs : List V) (g : List Rat), σ = [some (.ref a), some (.int b), some (.int k), some (.int w), some (.ref D1), some (.ref D2), r6, r7] ∧ Same H1 H' ∧ H' D2 = some (.lst zs) ∧ Frs K H' g zs ∧ g.length = i ∧ (∀ q ∈ g, Mt.Wg q), ⟨none, none, [], [], rfl, u2, e2, Frs.nil, rfl, (fun _ h => nomatch h)⟩, ?_, ?_⟩
    · rintro i σ H3 hi ⟨r6, r7, zs, g, rfl, sm, hD, fg, lg, wg⟩
      have lz := fg.len
      refine tSeq_step fun N hN => ?_
      walk_at "rd"
      refine ⟨a, ns, b + 8 + i, rfl, (s1.trans sm).seq hs, by omega, by omega, fun d _ _ => ⟨d, w, rfl, fun p q np wq => hN _ _ ?_⟩⟩
      clear hN N
      have u3 := same_upd (o := frO q) np
      have qp : Fq K (upd H3 p (frO q)) p q := Fq.of upd_same
      generalize upd H3 p (frO q) = H4 at u3 qp ⊢
      refine tSeq_step fun N hN => ?_
      have next : ∀ p' H5 q', Same H4 H5 → Fq K H5 p' q' → Mt.Wg q' → N [some (.ref a), some (.int b), some (.int k), some (.int w), some (.ref D1), some (.ref D2), some (.int i), some (.ref p')] H5 := by
        intro p' H5 q' s5 q5 w5
        refine hN _ _ ?_
        clear hN N
        walk_at "rd"
        have hD5 := (u3.trans s5) _ _ hD
        refine ⟨.inl ⟨rfl, _, SqL.of hD5⟩, zs, hD5, small1000 (by omega), (sm.trans (u3.trans s5)).updL n2, _, upd_same, g ++ [q'], Frs.updL hD5 (Frs.snoc (fg.same (u3.trans s5)) q5), by simp [lg], ?_⟩
        intro x hx
        rcases List.mem_append.mp hx with y | y
        · exact wg x y
        · rw [List.mem_singleton.mp y]; exact w5
      clear hN
      walk_at "rd"
      refine ⟨q, qp, ?_⟩
      split
      · refine ⟨⟨by decide, Bd.mono (m := 64) (show (_ : Nat) < _ by decide) (by decide)⟩, ?_⟩
        split
        · exact ⟨sz_le 2 (by decide), fun p5 n5 => next p5 _ ((2 + (i : Int) : Int) : Rat) (same_upd n5) (Fq.of (by rw [frO_int]; exact upd_same)) (Mt.wg_int (by omega))⟩
        · exact next p H4 q (Same.refl _) qp wq
      · exact next p H4 q (Same.refl _) qp wq
    · rintro σ H3 ⟨r6, r7, zs, g, rfl, sm, hD, fg, lg, wg⟩
      refine hN _ _ ?_
      clear hN N
      walk_at "rd"
      refine ⟨sz_le 2 (by decide), fun P nP => ?_⟩
      have uP := same_upd (o := .tup [.ref D1, .ref D2]) nP
      exact hq P D1 D2 _ x1 zs f1 g ((s1.trans sm).trans uP) n1 (s1.free n2) ne upd_same (uP _ _ (sm _ _ d1)) (uP _ _ hD) (k1.same (sm.trans uP)) (fg.same uP) ⟨w1', wg, by omega, by omega⟩ lg
abbrev s__law_moments_by : Stmt := top 58
theorem sc__law_moments_by : FnScope ["_law_levels", "_law_downs", "_law_many", "_law_row", "_law_found", "_law_length", "_law_fresh", "_law_h", "_law_total"] ["_law_levels", "_law_downs"] (defScope s__law_moments_by) := ⟨rfl, rfl, rfl, by decide +kernel, rfl, by decide +kernel, by decide +kernel⟩
theorem ok__law_moments_by {f : Addr} {fd : FuncData} (F : Fun K "_law_moments_by" "_law_moments_by" s__law_moments_by f fd) (m : mg "_law_moments_by" = some (.ref f)) (T : Tx w K mg C_HeightError C_NOUGHT C_NoCount C_NoFamily C_NoFraction C_NoHistory C_NoLine C_NoMeeting C_NoMoments C_NoName C_NoNumber C_NoSeries C_NoText C_NoThing C_NoWay C_NoWeights C_ONE C_TooFar C_TooHigh C_TooMany) (c__law_add : Callee P w K mg base 3 "_law_add" ["_law_a", "_law_b"] (spBin K (fun a b => a + b))) (c__law_mul : Callee P w K mg base 3 "_law_mul" ["_law_a", "_law_b"] (spBin K (fun a b => a * b))) : Callee P w K mg base 4 "_law_moments_by" ["_law_levels", "_law_downs"] (spMoG K) := by
  refine ⟨f, fd, ?_, m, F.kp, F.binds fun _ _ _ _ _ _ us hl => match us, hl with | [_, _], _ => rfl⟩
  refine F.okE sc__law_moments_by (fun vs H Q E h => ?_) (fun cdv A outer s H vs Q E hr h => ?_)
  · obtain ⟨_, _, _, _, _, _, rfl, _⟩ := h
    rfl
  · obtain ⟨D1, D2, x1, x2, L, D, rfl, hD1, hD2, f1, f2, ws, hq⟩ := h
    refine ⟨_, (pss_cons (ps_set (i := 2) sc__law_moments_by.nd rfl (Or.inl rfl) (pe_op op_add (pe_op op_mul pe_int (pe_callB call_len_seq (by rfl) T.b_len PySem.boot_len (pa_cons (pv 1) pa_nil))) pe_int)) (pss_cons (ps_set (i := 3) sc__law_moments_by.nd rfl (Or.inl rfl) (pe_op op_cat (pe_lst (pa_cons (pe_tup (pa_cons pe_int (pa_cons pe_int pa_nil))) pa_nil)) (pe_op op_rep (pe_lst (pa_cons (pe_tup (pa_cons pe_int (pa_cons pe_int pa_nil))) pa_nil)) (pe_op op_add (pe_callB call_len_seq (by rfl) T.b_len PySem.boot_len (pa_cons (pv 1) pa_nil)) pe_int)))) (pss_cons (ps_set (i := 4) sc__law_moments_by.nd rfl (Or.inl rfl) (pe_lst pa_nil)) (pss_cons (ps_forR rfl PassesOwn.never T.b_range (pv 2) (pg_name (i := 5) sc__law_moments_by.nd rfl (Or.inl rfl)) (pss_cons (ps_expr (pe_bm PySem.F.plainAttrs_list PySem.F.slot_list_append PySem.F.type_list_append mt_append (pv 4) (pa_cons (pe_ix ix_list (pv 3) pe_int (fun _ _ => rfl)) pa_nil))) (pss_cons (ps_set (i := 6) sc__law_moments_by.nd rfl (Or.inl rfl) (pe_lst pa_nil)) (pss_cons (ps_forR rfl PassesOwn.never T.b_range (pe_callB call_len_seq (by rfl) T.b_len PySem.boot_len (pa_cons (pv 0) pa_nil)) (pg_name (i := 7) sc__law_moments_by.nd rfl (Or.inl rfl)) (pss_cons (ps_set (i := 8) sc__law_moments_by.nd rfl (Or.inl rfl) (pe_c c__law_mul (hr.mono (by decide)) np (pa_cons (pe_ix ix_list (pv 3) (pv 7) (fun _ _ => rfl)) (pa_cons (pe_ix ix_seq (pv 0) (pv 7) (fun _ _ => rfl)) pa_nil)))) (pss_cons (ps_if (pt_cmpR op_gt (pv 7) pe_int (nomark _)) (pss_one (ps_set (i := 8) sc__law_moments_by.nd rfl (Or.inl rfl) (pe_c c__law_add (hr.mono (by decide)) np (pa_cons (pv 8) (pa_cons (pe_ix ix_list (pv 3) (pe_op op_sub (pv 7) pe_int) (fun _ _ => rfl)) pa_nil))))) pss_nil) (pss_cons (ps_if (pt_cmpR op_lt (pv 7) (pe_callB call_len_seq (by rfl) T.b_len PySem.boot_len (pa_cons (pv 1) pa_nil)) (nomark _)) (pss_one (ps_set (i := 8) sc__law_moments_by.nd rfl (Or.inl rfl) (pe_c c__law_add (hr.mono (by decide)) np (pa_cons (pv 8) (pa_cons (pe_c c__law_mul (hr.mono (by decide)) np (pa_cons (pe_ix ix_list (pv 3) (pe_op op_add (pv 7) pe_int) (fun _ _ => rfl)) (pa_cons (pe_ix ix_seq (pv 1) (pv 7) (fun _ _ => rfl)) pa_nil))) pa_nil))))) pss_nil) (pss_one (ps_expr (pe_bm PySem.F.plainAttrs_list PySem.F.slot_list_append PySem.F.type_list_append mt_append (pv 6) (pa_cons (pv 8) pa_nil)))))))) (pss_one (ps_set (i := 3) sc__law_moments_by.nd rfl (Or.inl rfl) (pe_op op_cat (pv 6) (pe_lst (pa_cons (pe_tup (pa_cons pe_int (pa_cons pe_int pa_nil))) pa_nil))))))))) (pss_one (ps_ret (pv 4))))))), ?_⟩
    have wn := ws.n
    have wm := ws.m
    have l1 := f1.len
    have l2 := f2.len
    refine tSeq_step fun N hN => ?_
    simp [tSeq, tIfS, tTest, tB, tOp, rI, rI0, rEq, rNe, scal, tVar, tC, tCB, tCons, tNil, tNext, tRet, tRetN, L2.start, rIxL, rIxT, rFqI, tAsg, gName, tUn, rU, tNot, tNotV, tAnd, tOr, tAndV, tOrV, tIf, tTup, tLst, tCall, tCallS, tDrop, tForR, tForT, tForL, tForE, tForV, gTup, gCons, gNil, gSub, rSetL, tRaise, tTry, tH, Ends.gone, cσ, CPow, tCoR, tCoL, tCoT, tCoX, tForX, tExcInit, tFs, sXset, tXget, tRaiseI, tJoinRev, tChain, rAll, tHno, cx_K, cxU_K, rIn, tSl, tNoPart, tPart, rAppend, tBM, tForR2, tBM0, rClear, rReverse, tPar, tVs, tCoZ, tCoRH, tHE, tListRev, tForZ, tForVL, tForZL, tForK, tForD, sDPut, tDGet2, tDNewK, tDisp, tPairs, tCoLI, tCoRI, tCoKI, tAugS, ipI, rRep, tBreak, rRep, rCat]
    refine ⟨x2, hD2, .inl ⟨by decide, by decide⟩, hN _ _ ?_⟩
    clear hN N
    refine tSeq_step fun N hN => ?_
    simp [tSeq, tIfS, tTest, tB, tOp, rI, rI0, rEq, rNe, scal, tVar, tC, tCB, tCons, tNil, tNext, tRet, tRetN, L2.start, rIxL, rIxT, rFqI, tAsg, gName, tUn, rU, tNot, tNotV, tAnd, tOr, tAndV, tOrV, tIf, tTup, tLst, tCall, tCallS, tDrop, tForR, tForT, tForL, tForE, tForV, gTup, gCons, gNil, gSub, rSetL, tRaise, tTry, tH, Ends.gone, cσ, CPow, tCoR, tCoL, tCoT, tCoX, tForX, tExcInit, tFs, sXset, tXget, tRaiseI, tJoinRev, tChain, rAll, tHno, cx_K, cxU_K, rIn, tSl, tNoPart, tPart, rAppend, tBM, tForR2, tBM0, rClear, rReverse, tPar, tVs, tCoZ, tCoRH, tHE, tListRev, tForZ, tForVL, tForZL, tForK, tForD, sDPut, tDGet2, tDNewK, tDisp, tPairs, tCoLI, tCoRI, tCoKI, tAugS, ipI, rRep, tBreak, rRep, rCat]
    refine ⟨sz_le 2 (by decide), fun p1 n1 => ⟨sz_le 1 (by decide), fun p2 n2 => ⟨sz_le 2 (by decide), fun p3 n3 => ⟨sz_le 1 (by decide), fun p4 n4 => ?_⟩⟩⟩⟩
    have u1 := same_upd (o := .tup [.int 1, .int 1]) n1
    have q1 : Fq K (upd H p1 (.tup [.int 1, .int 1])) p1 1 := Fq.of upd_same
    generalize upd H p1 (.tup [.int 1, .int 1]) = H1 at u1 q1 n2 n3 n4 ⊢
    have u2 := same_upd (o := .lst [.ref p1]) n2
    have g2 : upd H1 p2 (.lst [.ref p1]) p2 = some (.lst [.ref p1]) := upd_same
    generalize upd H1 p2 (.lst [.ref p1]) = H2 at u2 g2 n3 n4 ⊢
    have u3 := same_upd (o := .tup [.int 0, .int 1]) n3
    have q3 : Fq K (upd H2 p3 (.tup [.int 0, .int 1])) p3 0 := Fq.of upd_same
    generalize upd H2 p3 (.tup [.int 0, .int 1]) = H3 at u3 q3 n4 ⊢
    have u4 := same_upd (o := .lst [.ref p3]) n4
    have g4 : upd H3 p4 (.lst [.ref p3]) p4 = some (.lst [.ref p3]) := upd_same
    generalize upd H3 p4 (.lst [.ref p3]) = H4 at u4 g4 ⊢
    have s4 := ((u1.trans u2).trans u3).trans u4
    refine ⟨x2, sqE s4 hD2, _, g4, by omega, by omega, sz_le _ (by simp; omega), fun p5 n5 => ?_⟩
    have rp : ∀ m : Nat, (List.replicate m [V.ref p3]).flatten = List.replicate m (V.ref p3) := fun m => by
      induction m with
      | zero => rfl
      | succ m ih => rw [List.replicate_succ, List.replicate_succ, List.flatten_cons, ih]; rfl
    rw [rp]
    have u5 := same_upd (o := .lst (List.replicate (x2.length + 1) (V.ref p3))) n5
    have g5 : upd H4 p5 (.lst (List.replicate (x2.length + 1) (V.ref p3))) p5 = some (.lst (List.replicate (x2.length + 1) (V.ref p3))) := upd_same
    generalize upd H4 p5 (.lst (List.replicate (x2.length + 1) (V.ref p3))) = H5 at u5 g5 ⊢
    refine ⟨_, u5 _ _ ((u3.trans u4) _ _ g2), _, g5, sz_le _ (by simp; omega), fun R0 nR => hN _ _ ?_⟩
    clear hN N rp
    have u6 := same_upd (o := .lst ([V.ref p1] ++ List.replicate (x2.length + 1) (V.ref p3))) nR
    have hR0 : upd H5 R0 (.lst ([V.ref p1] ++ List.replicate (x2.length + 1) (V.ref p3))) R0 = some (.lst ([V.ref p1] ++ List.replicate (x2.length + 1) (V.ref p3))) := upd_same
    generalize upd H5 R0 (.lst ([V.ref p1] ++ List.replicate (x2.length + 1) (V.ref p3))) = H6 at u6 hR0 ⊢
    have s6 := (s4.trans u5).trans u6
    obtain ⟨S, eS⟩ : ∃ S : Nat → Nat → Rat, S = fun n h => Mt.sm (Mt.cf L) (Mt.cf D) (D.length + 1) 0 n h := ⟨_, rfl⟩
    have Sz_ : ∀ n h, n < 2 * D.length + 2 → Sz 700 (S n h) := fun n h hn => by rw [eS]; exact ws.s n h hn
    have S0 : ∀ h, S 0 h = if h = 0 then 1 else 0 := fun h => by
      rw [eS]
      show Mt.sm (Mt.cf L) (Mt.cf D) (D.length + 1) 0 0 h = _
      by_cases z : h < D.length + 1
      · rw [Mt.sm_zero z]
      · rw [Mt.sm_ge (by omega), if_neg (by omega)]
    have Ss : ∀ n h, h < D.length + 1 → S (n + 1) h = S n h * Mt.cf L h + (if 0 < h then S n (h - 1) else 0) + (if h + 1 < D.length + 1 then S n (h + 1) * Mt.cf D h else 0) := fun n h hh => by
      rw [eS]
      exact Mt.sm_succ hh
    have Sg : ∀ n, S n (D.length + 1) = 0 := fun n => by rw [eS]; exact Mt.sm_ge (Nat.le_refl _)
    have fR0 : Frs K H6 ((List.range (D.length + 2)).map fun h => S 0 h) ([V.ref p1] ++ List.replicate (x2.length + 1) (V.ref p3)) := by
      have e : ((List.range (D.length + 2)).map fun h => S 0 h) = [1] ++ List.replicate (D.length + 1) 0 := by
        refine List.ext_getElem (by simp) fun h h1 h2 => ?_
        simp only [List.getElem_map, List.getElem_range, S0]
        rcases h with _ | h
        · rfl
        · rw [if_neg (by omega), List.getElem_append_right (by simp)]
          exact (List.getElem_replicate ..).symm
      rw [e, ← l2]
      exact Frs.append (Frs.cons (q1.same ((((u2.trans u3).trans u4).trans u5).trans u6)) Frs.nil) (Frs.replicate (q3.same ((u4.trans u5).trans u6)) _)
    have eM : (List.range (2 * D.length + 2)).map (fun n => S n 0) = momL L D := by rw [momL, eS]
    clear u1 u2 u3 u4 u5 u6 q1 q3 g2 g4 g5 n1 n2 n3 n4 n5 nR s4 eS
    refine tSeq_step fun N hN => ?_
    walk_at "rd"
    refine fun FO nF => hN _ _ ?_
    clear hN N
    have w1 := same_upd (o := .lst []) nF
    have hF0 : upd H6 FO (.lst []) FO = some (.lst []) := upd_same
    have ne0 : R0 ≠ FO := ne_of_none hR0 nF
    have nF0 : H FO = none := s6.free nF
    generalize upd H6 FO (.lst []) = H7 at w1 hF0 ⊢
    refine tSeq_step fun N hN => ?_
    walk_at "rd"
    have e2k : (2 * (x2.length : Int) + 2).toNat = 2 * D.length + 2 := by omega
    rw [e2k]
    refine ⟨by omega, by omega, fun n σ H' => ∃ (R : Addr) (r5 r6 r7 r8 : Option V) (rs ys : List V), σ = [some (.ref D1), some (.ref D2), some (.int (2 * (x2.length : Int) + 2)), some (.ref R), some (.ref FO), r5, r6, r7, r8] ∧ Same H H' ∧ R ≠ FO ∧ H' R = some (.lst rs) ∧ Frs K H' ((List.range (D.length + 2)).map fun h => S n h) rs ∧ H' FO = some (.lst ys) ∧ Frs K H' ((List.range n).map fun n => S n 0) ys, ⟨R0, none, none, none, none, _, [], rfl, s6.trans w1, ne0, w1 _ _ hR0, fR0.same w1, hF0, Frs.nil⟩, ?_, ?_⟩
    · rintro n σ H8 hn ⟨R, r5, r6, r7, r8, rs, ys, rfl, s8, ne, hR, fR, hF, fF⟩
      have lr := fR.len
      have ly := fF.len
      rw [List.length_map, List.length_range] at lr ly
      refine tSeq_step fun N hN => ?_
      walk_at "rd"
      obtain ⟨p0, e0, q0⟩ := fR.at (j := 0) (by simp)
      rw [Mt.cf_map_range, if_pos (by omega)] at q0
      refine ⟨.inl ⟨rfl, _, SqL.of hF⟩, rs, SqL.of hR, _, atI_nat e0, ys, hF, small1000 (by omega), hN _ _ ?_⟩
      clear hN N
      have s9 : Same H (upd H8 FO (.lst (ys ++ [.ref p0]))) := s8.updL nF0
      have hR9 : upd H8 FO (.lst (ys ++ [.ref p0])) R = some (.lst rs) := by rw [upd_ne ne]; exact hR
      have fR9 : Frs K (upd H8 FO (.lst (ys ++ [.ref p0]))) ((List.range (D.length + 2)).map fun h => S n h) rs := Frs.updL hF fR
      have hF9 : upd H8 FO (.lst (ys ++ [.ref p0])) FO = some (.lst (ys ++ [.ref p0])) := upd_same
      have fF9 : Frs K (upd H8 FO (.lst (ys ++ [.ref p0]))) ((List.range (n + 1)).map fun n => S n 0) (ys ++ [.ref p0]) := by
        rw [List.range_succ, List.map_append]
        exact Frs.updL hF (Frs.snoc fF q0)
      generalize upd H8 FO (.lst (ys ++ [.ref p0])) = H9 at s9 hR9 fR9 hF9 fF9 ⊢
      clear hF fF hR fR s8 q0 e0
      refine tSeq_step fun N hN => ?_
      walk_at "rd"
      refine fun G nG => hN _ _ ?_
      clear hN N
      have w2 := same_upd (o := .lst []) nG
      have hG0 : upd H9 G (.lst []) G = some (.lst []) := upd_same
      have neG : G ≠ FO := fun z => by rw [z, hF9] at nG; cases nG
      generalize upd H9 G (.lst []) = H10 at w2 hG0 ⊢
      refine tSeq_step fun N hN => ?_
      walk_at "rd"
      refine ⟨x1, sqE (s9.trans w2) hD1, by omega, fun h σ H' => ∃ (r7 r8 : Option V) (gs : List V), σ = [some (.ref D1), some (.ref D2), some (.int (2 * (x2.length : Int) + 2)), some (.ref R), some (.ref FO), some (.int n), some (.ref G), r7, r8] ∧ Same H9 H' ∧ H' G = some (.lst gs) ∧ Frs K H' ((List.range h).map fun h => S (n + 1) h) gs, ⟨r7, r8, [], rfl, w2, hG0, Frs.nil⟩, ?_, ?_⟩
      · rintro h σ H11 hh ⟨r7, r8, gs, rfl, s11, hG, fG⟩
        have lg := fG.len
        rw [List.length_map, List.length_range] at lg
        obtain ⟨pr, er, qr⟩ := fR9.at (j := h) (by simp; omega)
        obtain ⟨pl, el, ql⟩ := f1.at (j := h) (by omega)
        rw [Mt.cf_map_range, if_pos (by omega)] at qr
        have ss := Ss n h (by omega)
        refine tSeq_step fun N hN => ?_
        walk_at "rd"
        refine ⟨rs, SqL.of (s11 _ _ hR9), _, atI_nat er, ix_e (sqE (s9.trans s11) hD1) (atI_nat el) ⟨pr, pl, _, _, rfl, qr.same s11, ql.same (s9.trans s11), (Sz_ n h (by omega)).mono (by decide), (ws.l h (by omega)).mono (by decide), fun t1 H12 s12 n12 h12 => hN _ _ ?_⟩⟩
        clear hN N
        have q12 : Fq K H12 t1 (S n h * Mt.cf L h) := Fq.of h12
        have z1 : Sz 2600 (S n h * Mt.cf L h) := ((Sz_ n h (by omega)).mul (ws.l h (by omega))).mono (by decide)
        refine tSeq_step fun N hN => ?_
        have n1 : ∀ tz H13, Same H12 H13 → Fq K H13 tz (S n h * Mt.cf L h + if 0 < h then S n (h - 1) else 0) → N [some (.ref D1), some (.ref D2), some (.int (2 * (x2.length : Int) + 2)), some (.ref R), some (.ref FO), some (.int n), some (.ref G), some (.int h), some (.ref tz)] H13 := by
          intro tz H13 s13 q13
          refine hN _ _ ?_
          clear hN N
          have z2 : Sz 3950 (S n h * Mt.cf L h + if 0 < h then S n (h - 1) else 0) := by
            refine (z1.add (n := 1300) ?_).mono (by decide)
            split
            · exact (Sz_ n (h - 1) (by omega)).mono (by decide)
            · exact Sz.zero (by decide)
          refine tSeq_step fun N hN => ?_
          have n2' : ∀ tz H14, Same H12 H14 → Fq K H14 tz (S (n + 1) h) → N [some (.ref D1), some (.ref D2), some (.int (2 * (x2.length : Int) + 2)), some (.ref R), some (.ref FO), some (.int n), some (.ref G), some (.int h), some (.ref tz)] H14 := by
            intro tz H14 s14 q14
            refine hN _ _ ?_
            clear hN N
            have s14' := s12.trans s14
            have hG14 := s14' _ _ hG
            walk_at "rd"
            refine ⟨.inl ⟨rfl, _, SqL.of hG14⟩, gs, hG14, small1000 (by omega), (s11.trans s14').updL nG, _, upd_same, ?_⟩
            rw [List.range_succ, List.map_append]
            exact Frs.updL hG14 (Frs.snoc (fG.same s14') q14)
          clear hN
          have s13' := (s11.trans s12).trans s13
          walk_at "rd"
          refine ⟨x2, sqE (s9.trans s13') hD2, ?_⟩
          by_cases zh : h < x2.length
          · rw [if_pos (by omega)]
            obtain ⟨pn, en, qn⟩ := fR9.at (j := h + 1) (by simp; omega)
            obtain ⟨pw, ew, qw⟩ := f2.at (j := h) (by omega)
            rw [Mt.cf_map_range, if_pos (by omega)] at qn
            have an := atI_nat en
            rw [show ((h + 1 : Nat) : Int) = (h : Int) + 1 by omega] at an
            refine ⟨rs, SqL.of (s13' _ _ hR9), _, an, ix_e (sqE (s9.trans s13') hD2) (atI_nat ew) ⟨pn, pw, _, _, rfl, qn.same s13', qw.same (s9.trans s13'), (Sz_ n (h + 1) (by omega)).mono (by decide), (ws.d h (by omega)).mono (by decide), fun t2 H14 s14 n14 h14 => ⟨tz, t2, _, _, rfl, q13.same s14, Fq.of h14, z2.mono (by decide), ((Sz_ n (h + 1) (by omega)).mul (ws.d h (by omega))).mono (by decide), fun t3 H15 s15 n15 h15 => n2' t3 H15 ((s13.trans s14).trans s15) ?_⟩⟩⟩
            rw [ss, if_pos (show h + 1 < D.length + 1 by omega)]
            exact Fq.of h15
          · rw [if_neg (by omega)]
            refine n2' tz H13 s13 ?_
            rw [ss, if_neg (show ¬ h + 1 < D.length + 1 by omega), Rat.add_zero]
            exact q13
        clear hN
        walk_at "rd"
        by_cases zh : 0 < h
        · rw [if_pos (by omega)]
          obtain ⟨pm, em, qm⟩ := fR9.at (j := h - 1) (by simp; omega)
          rw [Mt.cf_map_range, if_pos (by omega)] at qm
          have am := atI_nat em
          rw [show ((h - 1 : Nat) : Int) = (h : Int) - 1 by omega] at am
          refine ⟨rs, SqL.of ((s11.trans s12) _ _ hR9), _, am, t1, pm, _, _, rfl, q12, qm.same (s11.trans s12), z1.mono (by decide), (Sz_ n (h - 1) (by omega)).mono (by decide), fun t2 H13 s13 n13 h13 => n1 t2 H13 s13 ?_⟩
          rw [if_pos zh]
          exact Fq.of h13
        · rw [if_neg (by omega)]
          refine n1 t1 H12 (Same.refl _) ?_
          rw [if_neg zh, Rat.add_zero]
          exact q12
      · rintro σ H11 ⟨r7, r8, gs, rfl, s11, hG, fG⟩
        refine hN _ _ ?_
        clear hN N
        simp [tSeq, tIfS, tTest, tB, tOp, rI, rI0, rEq, rNe, scal, tVar, tC, tCB, tCons, tNil, tNext, tRet, tRetN, L2.start, rIxL, rIxT, rFqI, tAsg, gName, tUn, rU, tNot, tNotV, tAnd, tOr, tAndV, tOrV, tIf, tTup, tLst, tCall, tCallS, tDrop, tForR, tForT, tForL, tForE, tForV, gTup, gCons, gNil, gSub, rSetL, tRaise, tTry, tH, Ends.gone, cσ, CPow, tCoR, tCoL, tCoT, tCoX, tForX, tExcInit, tFs, sXset, tXget, tRaiseI, tJoinRev, tChain, rAll, tHno, cx_K, cxU_K, rIn, tSl, tNoPart, tPart, rAppend, tBM, tForR2, tBM0, rClear, rReverse, tPar, tVs, tCoZ, tCoRH, tHE, tListRev, tForZ, tForVL, tForZL, tForK, tForD, sDPut, tDGet2, tDNewK, tDisp, tPairs, tCoLI, tCoRI, tCoKI, tAugS, ipI, rRep, tBreak, rCat]
        refine ⟨sz_le 2 (by decide), fun pz m1 => ⟨sz_le 1 (by decide), fun pl m2 => ?_⟩⟩
        have v1 := same_upd (o := .tup [.int 0, .int 1]) m1
        have qz : Fq K (upd H11 pz (.tup [.int 0, .int 1])) pz 0 := Fq.of upd_same
        generalize upd H11 pz (.tup [.int 0, .int 1]) = H12 at v1 qz m2 ⊢
        have v2 := same_upd (o := .lst [.ref pz]) m2
        have g2 : upd H12 pl (.lst [.ref pz]) pl = some (.lst [.ref pz]) := upd_same
        generalize upd H12 pl (.lst [.ref pz]) = H13 at v2 g2 ⊢
        have v12 := v1.trans v2
        have lg := fG.len
        rw [List.length_map, List.length_range] at lg
        refine ⟨gs, v12 _ _ hG, _, g2, sz_le _ (by simp; omega), fun R2 m3 => ?_⟩
        have v3 := same_upd (o := .lst (gs ++ [.ref pz])) m3
        have vA := v12.trans v3
        have hF13 := (s11.trans v12) _ _ hF9
        refine ⟨s9.trans (s11.trans vA), (fun z => by rw [z, hF13] at m3; cases m3), _, upd_same, ?_, _, v3 _ _ hF13, fF9.same (s11.trans vA)⟩
        rw [List.range_succ, List.map_append]
        have e : D.length + 1 = x1.length := by omega
        rw [e]
        refine Frs.append (fG.same vA) (Frs.cons ?_ Frs.nil)
        rw [← e]
        show Fq K _ pz (S (n + 1) (D.length + 1))
        rw [Sg]
        exact (qz.same v2).same v3
    · rintro σ H8 ⟨R, r5, r6, r7, r8, rs, ys, rfl, s8, ne, hR, fR, hF, fF⟩
      refine hN _ _ ?_
      clear hN N
      walk_at "rd"
      rw [eM] at fF
      exact hq FO H8 ys s8 nF0 hF fF
abbrev s__law_measure_by : Stmt := top 59
theorem sc__law_measure_by : FnScope ["_law_rows", "_law_total", "_law_k", "_law_rest", "_law_part"] ["_law_rows"] (defScope s__law_measure_by) := ⟨rfl, rfl, rfl, by decide +kernel, rfl, by decide +kernel, by decide +kernel⟩
theorem rec__law_measure_by {f : Addr} {fd : FuncData} (F : Fun K "_law_measure_by" "_law_measure_by" s__law_measure_by f fd) (m : mg "_law_measure_by" = some (.ref f)) (T : Tx w K mg C_HeightError C_NOUGHT C_NoCount C_NoFamily C_NoFraction C_NoHistory C_NoLine C_NoMeeting C_NoMoments C_NoName C_NoNumber C_NoSeries C_NoText C_NoThing C_NoWay C_NoWeights C_ONE C_TooFar C_TooHigh C_TooMany) (c__law_add : Callee P w K mg base 3 "_law_add" ["_law_a", "_law_b"] (spBin K (fun a b => a + b))) (c__law_mul : Callee P w K mg base 3 "_law_mul" ["_law_a", "_law_b"] (spBin K (fun a b => a * b))) (d sz : Nat) (hd : 3 ≤ d) (c__law_measure_by : Callee P w K mg base d "_law_measure_by" ["_law_rows"] (spLap K sz)) : Callee P w K mg base (d + 1) "_law_measure_by" ["_law_rows"] (spLap K (sz + 1)) := by
  refine ⟨f, fd, ?_, m, F.kp, F.binds fun _ _ _ _ _ _ us hl => match us, hl with | [_], _ => rfl⟩
  refine F.okE sc__law_measure_by (fun vs H Q E h => ?_) (fun cdv A outer s H vs Q E hr h => ?_)
  · obtain ⟨_, _, _, _, _, _, _, rfl, _⟩ := h
    rfl
  · obtain ⟨n, hns, TB, F, Dr, N0, d, rfl, hT, hn, zF, hD, hN0, dn, hq⟩ := h
    refine ⟨_, (pss_cons (ps_if (pt_cmpR op_eq (pe_callB call_len_seq (by rfl) T.b_len PySem.boot_len (pa_cons (pv 0) pa_nil)) pe_int (nomark _)) (pss_one (ps_ret (pe_tup (pa_cons pe_int (pa_cons pe_int pa_nil))))) pss_nil) (pss_cons (ps_set (i := 1) sc__law_measure_by.nd rfl (Or.inl rfl) (pe_tup (pa_cons pe_int (pa_cons pe_int pa_nil)))) (pss_cons (ps_forR rfl PassesOwn.never T.b_range (pe_callB call_len_seq (by rfl) T.b_len PySem.boot_len (pa_cons (pv 0) pa_nil)) (pg_name (i := 2) sc__law_measure_by.nd rfl (Or.inr rfl)) (pss_one (ps_if (pt_cmpR op_ne (pe_ix ix_fq (pe_ix ix_list (pe_ix ix_list (pv 0) pe_int (fun _ _ => rfl)) (pv 2) (fun _ _ => rfl)) pe_int (fun _ _ => rfl)) pe_int (nomark _)) (pss_cons (PCo.ps (i := 3) (coL (pe_slice sl_list (pv 0) (po_some pe_int) po_none) (fun _ hpi => pe_comp1 ["_law_row"] "_law_k" 2 rfl hpi (fun _ _ _ _ _ => (pg_name (i := 0) (show List.Nodup [("_law_row" : Str), ("_law_k" : Str)] by decide +kernel) rfl (Or.inl rfl) (Or.inr rfl)).mo) (fun _ _ _ _ _ => PE.mo (pe_op op_cat (pe_slice (show SlR _ (rSlL K) from sl_list) (pv 0) po_none (po_some (pv 1))) (pe_slice (show SlR _ (rSlL K) from sl_list) (pv 0) (po_some (pe_op op_add (pv 1) pe_int)) po_none))) rfl rfl rfl rfl rfl)) sc__law_measure_by.nd rfl (Or.inl rfl)) (pss_cons (ps_set (i := 4) sc__law_measure_by.nd rfl (Or.inl rfl) (pe_c c__law_mul (hr.mono (by omega)) np (pa_cons (pe_ix ix_list (pe_ix ix_list (pv 0) pe_int (fun _ _ => rfl)) (pv 2) (fun _ _ => rfl)) (pa_cons (pe_c c__law_measure_by (hr.mono (by omega)) np (pa_cons (pv 3) pa_nil)) pa_nil)))) (pss_cons (ps_if (pt_cmpR op_eq (pe_op op_mod (pv 2) pe_int) pe_int (nomark _)) (pss_one (ps_set (i := 4) sc__law_measure_by.nd rfl (Or.inl rfl) (pe_tup (pa_cons (pe_un un_neg (pe_ix ix_fq (pv 4) pe_int (fun _ _ => rfl))) (pa_cons (pe_ix ix_fq (pv 4) pe_int (fun _ _ => rfl)) pa_nil))))) pss_nil) (pss_one (ps_set (i := 1) sc__law_measure_by.nd rfl (Or.inl rfl) (pe_c c__law_add (hr.mono (by omega)) np (pa_cons (pv 1) (pa_cons (pv 4) pa_nil)))))))) pss_nil))) (pss_one (ps_ret (pv 1)))))), ?_⟩
    refine tSeq_step fun N hN => ?_
    walk_at "rd"
    obtain ⟨ts, hTB, lt, rows⟩ := id hT
    refine ⟨ts, .inl hTB, ?_⟩
    rcases n with _ | n
    · rw [if_pos (List.length_eq_zero_iff.mp lt)]
      exact ⟨sz_le 2 (by decide), fun p np => hq p _ (same_upd np) (Fq.of (q := 1) upd_same)⟩
    rw [if_neg (fun z => by rw [z] at lt; simp at lt)]
    refine hN _ _ ?_
    clear hN N
    have szD : ∀ k, k ≤ n + 1 → Sz 3820 (Mt.Su (fun k => Mt.sg k * F 0 k * Mt.det n (fun i j => F (i + 1) (Mt.sk k j))) k) ∧ (k < n + 1 → Sz 3820 (Mt.det n (fun i j => F (i + 1) (Mt.sk k j))) ∧ Sz 3820 (F 0 k) ∧ Sz 3820 (F 0 k * Mt.det n (fun i j => F (i + 1) (Mt.sk k j)))) := by
      intro k hk
      have dN : d * (n + 1) ≤ 3800 := dn
      have dn1 : d * n ≤ 3800 := Nat.le_trans (Nat.mul_le_mul_left d (by omega)) dn
      have pD := Mt.prN_bd hD (n + 1)
      have pD1 := Mt.prN_bd (fun i => hD (i + 1)) n
      have p2 : ∀ {x y : Nat}, x ≤ y → (2 : Nat) ^ x ≤ 2 ^ y := fun h => Nat.pow_le_pow_right (by decide) h
      have fn : Mt.fact n ≤ 24 := by
        have : n = 0 ∨ n = 1 ∨ n = 2 ∨ n = 3 ∨ n = 4 := by omega
        rcases this with rfl | rfl | rfl | rfl | rfl <;> decide
      have Np : ∀ m, N0 ^ m ≤ 2 ^ (d * m) := fun m => by
        have := Nat.pow_le_pow_left hN0 m
        rwa [← Nat.pow_mul] at this
      have big : ∀ {c : Nat} {D M : Nat} {q : Rat}, Mt.Lat D M q → 0 < D → D ≤ 2 ^ 3800 → M ≤ c * 2 ^ 3800 → c ≤ 1000 → Sz 3820 q := fun {c D M q} h h0 h1 h2 h3 => by
        refine lat_sz (m := 3820) h h0 (Nat.lt_of_le_of_lt h1 (Nat.pow_lt_pow_right (by decide) (by decide))) ?_
        have e : 2 ^ 3820 = 2 ^ 20 * 2 ^ 3800 := by rw [← Nat.pow_add]
        rw [e]
        refine Nat.lt_of_le_of_lt h2 (Nat.mul_lt_mul_of_pos_right ?_ (Nat.two_pow_pos _))
        omega
      have term : ∀ k, k < n + 1 → Mt.Lat (Mt.prN (fun i => Dr (i + 1)) n) (Mt.fact n * N0 ^ n) (Mt.det n (fun i j => F (i + 1) (Mt.sk k j))) := fun k hk => Mt.det_lat fun i hi j hj => zF (i + 1) (by omega) (Mt.sk k j) (by unfold Mt.sk; split <;> omega)
      refine ⟨big (c := 200) (Mt.lat_Su fun k' hk' => Mt.det_term (zF 0 (by omega) k' (by omega)) (term k' (by omega))) pD.1 (Nat.le_trans pD.2 (p2 dN)) ?_ (by decide), fun hk' => ⟨big (c := 24) (term k hk') pD1.1 (Nat.le_trans pD1.2 (p2 dn1)) ?_ (by decide), big (c := 1) (zF 0 (by omega) k hk') (hD 0).1 (Nat.le_trans (hD 0).2 (p2 ?_)) ?_ (by decide), ?_⟩⟩
      · have h1 : Mt.fact n * N0 ^ (n + 1) ≤ 24 * 2 ^ 3800 := Nat.mul_le_mul fn (Nat.le_trans (Np (n + 1)) (p2 dN))
        have h2 : k * (Mt.fact n * N0 ^ (n + 1)) ≤ 8 * (24 * 2 ^ 3800) := Nat.mul_le_mul (by omega) h1
        have h3 : 8 * (24 * 2 ^ 3800) ≤ 200 * 2 ^ 3800 := by rw [← Nat.mul_assoc]; exact Nat.mul_le_mul_right _ (by decide)
        exact Nat.le_trans h2 h3
      · exact Nat.mul_le_mul fn (Nat.le_trans (Np n) (p2 dn1))
      · exact Nat.le_trans (Nat.le_mul_of_pos_right d (by omega)) dN
      · rw [Nat.one_mul]
        exact Nat.le_trans hN0 (p2 (Nat.le_trans (Nat.le_mul_of_pos_right d (by omega)) dN))
      · have e : Dr 0 * Mt.prN (fun i => Dr (i + 1)) n = Mt.prN Dr (n + 1) := (Mt.prN_front Dr n).symm
        have h := (zF 0 (by omega) k hk').mul (term k hk')
        rw [e] at h
        refine big (c := 24) h pD.1 (Nat.le_trans pD.2 (p2 dN)) ?_ (by decide)
        have e2 : N0 * (Mt.fact n * N0 ^ n) = Mt.fact n * N0 ^ (n + 1) := by rw [Nat.pow_succ]; simp only [Nat.mul_comm, Nat.mul_left_comm, Nat.mul_assoc]
        rw [e2]
        exact Nat.mul_le_mul fn (Nat.le_trans (Np (n + 1)) (p2 dN))
    refine tSeq_step fun N hN => ?_
    walk_at "rd"
    refine ⟨sz_le 2 (by decide), fun p1 n1 => hN _ _ ?_⟩
    clear hN N
    have u1 := same_upd (o := .tup [.int 0, .int 1]) n1
    have q1 : Fq K (upd H p1 (.tup [.int 0, .int 1])) p1 0 := Fq.of upd_same
    generalize upd H p1 (.tup [.int 0, .int 1]) = H1 at u1 q1 ⊢
    refine tSeq_step fun N hN => ?_
    walk_at "rd"
    refine ⟨ts, .inl (u1.seq hTB), by omega, fun k σ H' => ∃ (tt : Addr) (r2 r3 r4 : Option V), σ = [some (.ref TB), some (.ref tt), r2, r3, r4] ∧ Same H H' ∧ Fq K H' tt (Mt.Su (fun k => Mt.sg k * F 0 k * Mt.det n (fun i j => F (i + 1) (Mt.sk k j))) k), ⟨p1, none, none, none, rfl, u1, q1⟩, ?_, ?_⟩
    · rintro k σ H2 hk ⟨tt, r2, r3, r4, rfl, s2, qt⟩
      have hk' : k < n + 1 := by omega
      obtain ⟨z1, z2⟩ := szD k (by omega)
      obtain ⟨z3, z4, z5⟩ := z2 hk'
      obtain ⟨p0, ys, e0, hp0, fp0⟩ := rows 0 (by omega)
      obtain ⟨pk, ek, fk⟩ := fp0.at (j := k) (by simp; omega)
      rw [Mt.cf_map_range, if_pos hk'] at fk
      have a00 : atI ts 0 = some (.ref p0) := atI_nat e0
      refine if_step fun N hN => ?_
      walk_at "rd"
      refine ⟨ts, s2.seq hTB, _, a00, p0, rfl, _, s2.seq hp0, _, atI_nat ek, pk, rfl, _, fk.same s2, ?_⟩
      by_cases zz : F 0 k = 0
      · refine .inl ⟨zz, s2, ?_⟩
        rw [Mt.Su, zz]
        have : Mt.Su (fun k => Mt.sg k * F 0 k * Mt.det n fun i j => F (i + 1) (Mt.sk k j)) k + Mt.sg k * 0 * Mt.det n (fun i j => F (i + 1) (Mt.sk k j)) = Mt.Su (fun k => Mt.sg k * F 0 k * Mt.det n fun i j => F (i + 1) (Mt.sk k j)) k := by grind
        rw [this]
        exact qt
      refine .inr ⟨zz, hN _ _ ?_⟩
      clear hN N
      refine tSeq_step fun N hN => ?_
      simp [tSeq, tIfS, tTest, tB, tOp, rI, rI0, rEq, rNe, scal, tVar, tC, tCB, tCons, tNil, tNext, tRet, tRetN, L2.start, rIxL, rIxT, rFqI, tAsg, gName, tUn, rU, tNot, tNotV, tAnd, tOr, tAndV, tOrV, tIf, tTup, tLst, tCall, tCallS, tDrop, tForR, tForT, tForL, tForE, tForV, gTup, gCons, gNil, gSub, rSetL, tRaise, tTry, tH, Ends.gone, cσ, CPow, tCoR, tCoL, tCoT, tCoX, tForX, tExcInit, tFs, sXset, tXget, tRaiseI, tJoinRev, tChain, rAll, tHno, cx_K, cxU_K, rIn, tSl, tNoPart, tPart, rAppend, tBM, tForR2, tBM0, rClear, rReverse, tPar, tVs, tCoZ, tCoRH, tHE, tListRev, tForZ, tForVL, tForZL, tForK, tForD, sDPut, tDGet2, tDNewK, tDisp, tPairs, tCoLI, tCoRI, tCoKI, tAugS, ipI, rRep, tBreak, rCat]
      refine ⟨TB, ts, rfl, s2.seq hTB, fun p2 n2 => ?_⟩
      rw [show cutV ts (some 1) none = ts.drop 1 from cutV_from ts 1 (by omega)]
      have u2 := same_upd (o := .lst (ts.drop 1)) n2
      have h2 : upd H2 p2 (.lst (ts.drop 1)) p2 = some (.lst (ts.drop 1)) := upd_same
      generalize upd H2 p2 (.lst (ts.drop 1)) = G1 at u2 h2 ⊢
      refine ⟨p2, rfl, _, SqL.of h2, ?_⟩
      have ld : (ts.drop 1).length = n := by rw [List.length_drop]; omega
      rw [ld]
      refine CO.elsD (fun D' i H' v => ∃ p, v = .ref p ∧ p ≠ D' ∧ ∃ ys, H' p = some (.lst ys) ∧ Frs K H' ((List.range n).map fun j => F (i + 1) (Mt.sk k j)) ys) (fun D' i H' H'' x s h => let ⟨p, e, ne, ys, z, f⟩ := h; ⟨p, e, ne, ys, s _ _ z, f.same s⟩) (fun D' i H' ys o x hD h => let ⟨p, e, ne, ys, z, f⟩ := h; ⟨p, e, ne, ys, by rw [upd_ne ne]; exact z, Frs.updL hD f⟩) (by omega) (fun H' s => s.seq (SqL.of h2)) (fun D' i H' x R' hi sm nD' hD' hx kk => ?_) fun RS H4 xs s4 nB hB lx hxs => hN _ _ ?_
      · rw [List.getElem?_drop] at hx
        obtain ⟨pr, zs, er, hrow, frow⟩ := rows (1 + i) (by omega)
        cases er.symm.trans hx
        obtain ⟨ys', hys'⟩ := hD'
        have sA := (s2.trans u2).trans sm
        have lzs := frow.len
        rw [List.length_map, List.length_range] at lzs
        simp [tSeq, tIfS, tTest, tB, tOp, rI, rI0, rEq, rNe, scal, tVar, tC, tCB, tCons, tNil, tNext, tRet, tRetN, L2.start, rIxL, rIxT, rFqI, tAsg, gName, tUn, rU, tNot, tNotV, tAnd, tOr, tAndV, tOrV, tIf, tTup, tLst, tCall, tCallS, tDrop, tForR, tForT, tForL, tForE, tForV, gTup, gCons, gNil, gSub, rSetL, tRaise, tTry, tH, Ends.gone, cσ, CPow, tCoR, tCoL, tCoT, tCoX, tForX, tExcInit, tFs, sXset, tXget, tRaiseI, tJoinRev, tChain, rAll, tHno, cx_K, cxU_K, rIn, tSl, tNoPart, tPart, rAppend, tBM, tForR2, tBM0, rClear, rReverse, tPar, tVs, tCoZ, tCoRH, tHE, tListRev, tForZ, tForVL, tForZL, tForK, tForD, sDPut, tDGet2, tDNewK, tDisp, tPairs, tCoLI, tCoRI, tCoKI, tAugS, ipI, rRep, tBreak, rCat]
        refine ⟨pr, zs, rfl, sA.seq hrow, fun q1 m1 => ?_⟩
        rw [cutV_to zs k (by omega)]
        have w1 := same_upd (o := .lst (zs.take k)) m1
        have g1 : upd H' q1 (.lst (zs.take k)) q1 = some (.lst (zs.take k)) := upd_same
        generalize upd H' q1 (.lst (zs.take k)) = L1 at w1 g1 ⊢
        refine ⟨pr, zs, rfl, (sA.trans w1).seq hrow, fun q2 m2 => ?_⟩
        rw [show ((k : Int) + 1) = ((k + 1 : Nat) : Int) by omega, cutV_from zs (k + 1) (by omega)]
        have w2 := same_upd (o := .lst (zs.drop (k + 1))) m2
        have g2 : upd L1 q2 (.lst (zs.drop (k + 1))) q2 = some (.lst (zs.drop (k + 1))) := upd_same
        generalize upd L1 q2 (.lst (zs.drop (k + 1))) = L2' at w2 g2 ⊢
        refine ⟨q1, rfl, q2, rfl, _, w2 _ _ g1, _, g2, sz_le _ (by simp; omega), fun q3 m3 => ?_⟩
        have w3 := same_upd (o := .lst (zs.take k ++ zs.drop (k + 1))) m3
        refine kk _ _ ((w1.trans w2).trans w3) ⟨q3, rfl, fun z => ?_, _, upd_same, ?_⟩
        · rw [z, (w1.trans w2) _ _ hys'] at m3
          cases m3
        · rw [← Mt.sk_list (fun j => F (i + 1) j) hk']
          have fr2 := frow.same (((sA.trans w1).trans w2).trans w3)
          rw [show 1 + i = i + 1 by omega] at fr2
          exact (fr2.take k).append (fr2.drop (k + 1))
      clear hN N
      refine tSeq_step fun N hN => ?_
      walk_at "rd"
      have sB := (s2.trans u2).trans s4
      refine ⟨ts, sB.seq hTB, _, a00, p0, rfl, _, sB.seq hp0, _, atI_nat ek, n, by omega, RS, fun i j => F (i + 1) (Mt.sk k j), fun i => Dr (i + 1), N0, d, rfl, ⟨xs, SqL.of hB, lx, fun i hi => ?_⟩, by omega, fun i hi j hj => zF (i + 1) (by omega) (Mt.sk k j) (by unfold Mt.sk; split <;> omega), fun i => hD (i + 1), hN0, Nat.le_trans (Nat.mul_le_mul_left d (by omega)) dn, fun pd H5 s5 q5 => ?_⟩
      · obtain ⟨p, e, _, ys, z, f⟩ := hxs i xs[i] (by rw [List.getElem?_eq_getElem (by omega)])
        exact ⟨p, ys, by rw [List.getElem?_eq_getElem (by omega), e], SqL.of z, f⟩
      refine ⟨pk, pd, _, _, rfl, fk.same (sB.trans s5), q5, z4.mono (by decide), z3.mono (by decide), fun r1 H6 s6 n6 h6 => hN _ _ ?_⟩
      clear hN N
      have sC := sB.trans (s5.trans s6)
      have q6 : Fq K H6 r1 (F 0 k * Mt.det n (fun i j => F (i + 1) (Mt.sk k j))) := Fq.of h6
      refine tSeq_step fun N hN => ?_
      have next : ∀ pz H7, Same H6 H7 → Fq K H7 pz (Mt.sg k * F 0 k * Mt.det n (fun i j => F (i + 1) (Mt.sk k j))) → N [some (.ref TB), some (.ref tt), some (.int k), some (.ref RS), some (.ref pz)] H7 := fun pz H7 s7 q7 => by
        refine hN _ _ ?_
        clear hN N
        have zz : Sz 3820 (Mt.sg k * F 0 k * Mt.det n (fun i j => F (i + 1) (Mt.sk k j))) := by
          unfold Mt.sg
          split
          · rw [Rat.one_mul]; exact z5
          · have e : -1 * F 0 k * Mt.det n (fun i j => F (i + 1) (Mt.sk k j)) = -(F 0 k * Mt.det n (fun i j => F (i + 1) (Mt.sk k j))) := by grind
            rw [e]; exact z5.neg
        walk_at "rd"
        refine ⟨tt, pz, _, _, rfl, qt.same ((u2.trans s4).trans ((s5.trans s6).trans s7)), q7, z1.mono (by decide), zz.mono (by decide), fun r2 H8 s8 n8 h8 => ?_⟩
        exact ⟨r2, rfl, (sC.trans s7).trans s8, Fq.of h8⟩
      clear hN
      walk_at "rd"
      split
      · rename_i ho
        refine ⟨_, q6, _, q6, sz_le 2 (by decide), fun p7 n7 => ?_⟩
        have e : Mt.sg k = -1 := by unfold Mt.sg; rw [if_neg (by omega)]
        have e2 : HO.tup [V.int (-(F 0 k * Mt.det n (fun i j => F (i + 1) (Mt.sk k j))).num), V.int ((F 0 k * Mt.det n (fun i j => F (i + 1) (Mt.sk k j))).den : Int)] = frO (-(F 0 k * Mt.det n (fun i j => F (i + 1) (Mt.sk k j)))) := by rw [frO, Rat.neg_num, Rat.neg_den]
        rw [e2]
        refine next p7 _ (same_upd n7) ?_
        have e3 : Mt.sg k * F 0 k * Mt.det n (fun i j => F (i + 1) (Mt.sk k j)) = -(F 0 k * Mt.det n (fun i j => F (i + 1) (Mt.sk k j))) := by rw [e]; grind
        rw [e3]
        exact Fq.of upd_same
      · rename_i ho
        refine next r1 H6 (Same.refl _) ?_
        have e : Mt.sg k = 1 := by unfold Mt.sg; rw [if_pos (by omega)]
        rw [e, Rat.one_mul]
        exact q6
    · rintro σ H2 ⟨tt, r2, r3, r4, rfl, s2, qt⟩
      refine hN _ _ ?_
      clear hN N
      rw [lt, ← Mt.det_succ] at qt
      walk_at "rd"
      exact hq tt H2 s2 qt
theorem ok__law_measure_by {f : Addr} {fd : FuncData} (F : Fun K "_law_measure_by" "_law_measure_by" s__law_measure_by f fd) (m : mg "_law_measure_by" = some (.ref f)) (T : Tx w K mg C_HeightError C_NOUGHT C_NoCount C_NoFamily C_NoFraction C_NoHistory C_NoLine C_NoMeeting C_NoMoments C_NoName C_NoNumber C_NoSeries C_NoText C_NoThing C_NoWay C_NoWeights C_ONE C_TooFar C_TooHigh C_TooMany) (c__law_add : Callee P w K mg base 3 "_law_add" ["_law_a", "_law_b"] (spBin K (fun a b => a + b))) (c__law_mul : Callee P w K mg base 3 "_law_mul" ["_law_a", "_law_b"] (spBin K (fun a b => a * b))) : Callee P w K mg base 9 "_law_measure_by" ["_law_rows"] (spLap K 6) := by
  have r0 : Callee P w K mg base 3 "_law_measure_by" ["_law_rows"] (spLap K 0) := by
    refine ⟨f, fd, ?_, m, F.kp, F.binds fun _ _ _ _ _ _ us hl => match us, hl with | [_], _ => rfl⟩
    refine F.okE sc__law_measure_by (fun vs H Q E h => ?_) (fun cdv A outer s H vs Q E hr h => ?_)
    · obtain ⟨n, hn, _⟩ := h
      omega
    · obtain ⟨n, hn, _⟩ := h
      omega
  have r1 := rec__law_measure_by F m T c__law_add c__law_mul 3 0 (by decide) r0
  have r2 := rec__law_measure_by F m T c__law_add c__law_mul 4 1 (by decide) r1
  have r3 := rec__law_measure_by F m T c__law_add c__law_mul 5 2 (by decide) r2
  have r4 := rec__law_measure_by F m T c__law_add c__law_mul 6 3 (by decide) r3
  have r5 := rec__law_measure_by F m T c__law_add c__law_mul 7 4 (by decide) r4
  have r6 := rec__law_measure_by F m T c__law_add c__law_mul 8 5 (by decide) r5
  exact r6
abbrev s__law_table_of : Stmt := top 60
theorem sc__law_table_of : FnScope ["_law_numbers", "_law_size", "_law_shift"] ["_law_numbers", "_law_size", "_law_shift"] (defScope s__law_table_of) := ⟨rfl, rfl, rfl, by decide +kernel, rfl, by decide +kernel, by decide +kernel⟩
theorem ok__law_table_of {f : Addr} {fd : FuncData} (F : Fun K "_law_table_of" "_law_table_of" s__law_table_of f fd) (m : mg "_law_table_of" = some (.ref f)) (T : Tx w K mg C_HeightError C_NOUGHT C_NoCount C_NoFamily C_NoFraction C_NoHistory C_NoLine C_NoMeeting C_NoMoments C_NoName C_NoNumber C_NoSeries C_NoText C_NoThing C_NoWay C_NoWeights C_ONE C_TooFar C_TooHigh C_TooMany) : Callee P w K mg base 1 "_law_table_of" ["_law_numbers", "_law_size", "_law_shift"] (spTbl53 K) := by
  refine ⟨f, fd, ?_, m, F.kp, F.binds fun _ _ _ _ _ _ us hl => match us, hl with | [_, _, _], _ => rfl⟩
  refine F.okE sc__law_table_of (fun vs H Q E h => ?_) (fun cdv A outer s H vs Q E hr h => ?_)
  · obtain ⟨_, _, _, _, _, rfl, _⟩ := h
    rfl
  · obtain ⟨m, xs, ms, n, sh, rfl, hm, fm, hn, hb, lm, hq⟩ := h
    refine ⟨_, (pss_one (ps_ret (PCo.pe (coR T.b_range (pv 1) (fun _ hpi => pe_compCN "_law_i" [("_law_size", 1, _), ("_law_shift", 2, _), ("_law_numbers", 0, _)] rfl hpi (fun _ _ _ _ _ => (pg_name (i := 0) (by decide +kernel : List.Nodup [("_law_i" : Str), ("_law_size" : Str), ("_law_shift" : Str), ("_law_numbers" : Str)]) rfl (Or.inr rfl) (Or.inl rfl)).mo) (fun _ _ _ _ _ => PE.mo (PCo.pe (coR T.b_range (pv 1) (fun _ hpi => pe_comp3 ["_law_j"] "_law_shift" 2 "_law_numbers" 3 "_law_i" 0 rfl hpi (fun _ _ _ _ _ => (pg_name (i := 0) (by decide +kernel : List.Nodup [("_law_j" : Str), ("_law_shift" : Str), ("_law_numbers" : Str), ("_law_i" : Str)]) rfl (Or.inl rfl) (Or.inr rfl)).mo) (fun _ _ _ _ _ => PE.mo (pe_ix (show IxR _ (rIxL K) from ix_list) (pv 2) (pe_op op_add (pe_op op_add (pv 3) (pv 0)) (pv 1)) (fun _ _ => rfl))) rfl rfl rfl rfl rfl rfl rfl rfl rfl rfl rfl rfl rfl)))) rfl ⟨rfl, rfl, rfl, rfl, rfl, rfl, rfl, rfl, rfl, rfl, rfl, rfl, trivial⟩ (by decide +kernel : List.Nodup [("_law_size" : Str), ("_law_shift" : Str), ("_law_numbers" : Str)]) (fun p hp hf => (by decide +kernel : ∀ p ∈ _, p.2 = NameKind.free → p.1 ∈ [("_law_size" : Str), ("_law_shift" : Str), ("_law_numbers" : Str)]) p hp hf) (fun p hp hf => (by decide +kernel : ∀ p ∈ _, p.2 = NameKind.cell → p.1 = ("_law_i" : Str)) p hp hf) (by decide +kernel : ("_law_i" : Str) ∉ [("_law_size" : Str), ("_law_shift" : Str), ("_law_numbers" : Str)]) (fun _ _ => rfl) (fun _ => rfl)))))), ?_⟩
    walk_at "rd"
    refine ⟨by omega, CO.elsD (fun D' i H' v => ∃ p, v = .ref p ∧ p ≠ D' ∧ ∃ ys, H' p = some (.lst ys) ∧ Frs K H' ((List.range n).map fun j => Mt.cf ms (i + j + sh)) ys) (fun D' i H' H'' x s h => let ⟨p, e, ne, ys, z, f⟩ := h; ⟨p, e, ne, ys, s _ _ z, f.same s⟩) (fun D' i H' ys o x hD h => let ⟨p, e, ne, ys, z, f⟩ := h; ⟨p, e, ne, ys, by rw [upd_ne ne]; exact z, Frs.updL hD f⟩) (by omega) (fun _ _ => trivial) (fun D' i H' x R' hi sm nD' hD' hx kk => ?_) fun TT H1 zs s1 nT hT lx hxs => ?_⟩
    · subst hx
      obtain ⟨ys', hys'⟩ := hD'
      walk_at "rd"
      refine ⟨by omega, CO.frs (K := K) (fun j => Mt.cf ms (i + j + sh)) (by omega) (fun _ _ => trivial) (fun j H'' x R'' hj sm2 hx2 kk2 => ?_) fun D2 H9 ys s9 n9 h9 f9 => kk _ _ s9 ⟨D2, rfl, fun z => ?_, ys, h9, f9⟩⟩
      · subst hx2
        obtain ⟨p, e, q⟩ := fm.at (j := i + j + sh) (by omega)
        have a := atI_nat e
        rw [show ((i + j + sh : Nat) : Int) = (i : Int) + (j : Int) + (sh : Int) by omega] at a
        walk_at "rd"
        exact ⟨xs, (sm.trans sm2).seq hm, _, a, kk2 _ _ (Same.refl _) (q.same (sm.trans sm2))⟩
      · rw [z, hys'] at n9
        cases n9
    · refine hq TT H1 s1 nT ⟨zs, hT, lx, fun i hi => ?_⟩
      obtain ⟨p, e, ne, ys, z, f⟩ := hxs i zs[i] (by rw [List.getElem?_eq_getElem (by omega)])
      exact ⟨p, ys, by rw [List.getElem?_eq_getElem (by omega), e], ne, z, f⟩
abbrev s__law_told_weights : Stmt := top 61
theorem sc__law_told_weights : FnScope ["_law_found"] ["_law_found"] (defScope s__law_told_weights) := ⟨rfl, rfl, rfl, by decide +kernel, rfl, by decide +kernel, by decide +kernel⟩
theorem ok__law_told_weights {f : Addr} {fd : FuncData} (F : Fun K "_law_told_weights" "_law_told_weights" s__law_told_weights f fd) (m : mg "_law_told_weights" = some (.ref f)) (T : Tx w K mg C_HeightError C_NOUGHT C_NoCount C_NoFamily C_NoFraction C_NoHistory C_NoLine C_NoMeeting C_NoMoments C_NoName C_NoNumber C_NoSeries C_NoText C_NoThing C_NoWay C_NoWeights C_ONE C_TooFar C_TooHigh C_TooMany) (c__law_is_fraction : Callee P w K mg base 2 "_law_is_fraction" ["_law_found"] (spIsFq K)) : Callee P w K mg base 3 "_law_told_weights" ["_law_found"] (spTldX K) := by
  refine ⟨f, fd, ?_, m, F.kp, F.binds fun _ _ _ _ _ _ us hl => match us, hl with | [_], _ => rfl⟩
  refine F.okE sc__law_told_weights (fun vs H Q E h => ?_) (fun cdv A outer s H vs Q E hr h => ?_)
  · obtain ⟨_, rfl, _⟩ := h
    rfl
  · obtain ⟨r, rfl, hc⟩ := h
    refine ⟨_, (pss_cons (ps_if (PW.pt (pw_or (pt_not (pt_val (pe_callB call_isiT (by rfl) T.b_isinstance (by decide +kernel) (pa_cons (pv 0) (pa_cons (pe_bltn (v := .ty "tuple") (u := .type "tuple") rfl T.b_tuple (by decide +kernel) rfl) pa_nil))))) (pw_or (pt_cmpR op_ne (pe_callB call_len_seq (by rfl) T.b_len PySem.boot_len (pa_cons (pv 0) pa_nil)) pe_int (nomark _)) (pw_or1 (pt_cmpR op_ne (pe_ix ix_tup (pv 0) pe_int (fun _ _ => rfl)) pe_str (nomark _)))))) (pss_one (ps_ret pe_bl)) pss_nil) (pss_cons (ps_if (PW.pt (pw_or (pt_not (pt_val (pe_callB call_isiT (by rfl) T.b_isinstance (by decide +kernel) (pa_cons (pe_ix ix_tup (pv 0) pe_int (fun _ _ => rfl)) (pa_cons (pe_bltn (v := .ty "tuple") (u := .type "tuple") rfl T.b_tuple (by decide +kernel) rfl) pa_nil))))) (pw_or1 (pt_not (pt_val (pe_callB call_isiT (by rfl) T.b_isinstance (by decide +kernel) (pa_cons (pe_ix ix_tup (pv 0) pe_int (fun _ _ => rfl)) (pa_cons (pe_bltn (v := .ty "tuple") (u := .type "tuple") rfl T.b_tuple (by decide +kernel) rfl) pa_nil)))))))) (pss_one (ps_ret pe_bl)) pss_nil) (pss_one (ps_ret (pe_callB (call_all rfl) (by rfl) T.b_all (by decide +kernel) (pa_cons (PCo.pe (coT (pe_op op_catA (pe_ix ix_tup (pv 0) pe_int (fun _ _ => rfl)) (pe_ix ix_tup (pv 0) pe_int (fun _ _ => rfl))) (fun _ hpi => pe_comp0 ["_law_one"] rfl hpi (fun _ _ _ _ _ => (pg_name (i := 0) (show List.Nodup [("_law_one" : Str)] by decide +kernel) rfl (Or.inl rfl) (Or.inr rfl)).mo) (fun _ _ _ _ _ => PE.mo (pe_c c__law_is_fraction (hr.mono (by decide)) np (pa_cons (pv 0) pa_nil)))))) pa_nil)))))), ?_⟩
    rcases hc with ⟨a, b, L, D, hr0, hL, hD, lL, lD, hq⟩ | ⟨v1, v2, hr0, hq⟩
    · walk_at "rd"
      have e : SqT K H r [.str "weights", .ref a, .ref b] := SqT.of hr0
      obtain ⟨us, hu, fu⟩ := id hL
      obtain ⟨vs, hv, fv⟩ := id hD
      have l1 := fu.len
      have l2 := fv.len
      refine isi_sq e (.inr ⟨rfl, _, .inr e, .inl ⟨rfl, _, e, _, rfl, rfl, .inl ⟨rfl, _, e, _, rfl, isi_sq hu (.inr ⟨rfl, _, e, _, rfl, isi_sq hv (.inr ⟨rfl, _, e, _, rfl, _, e, _, rfl, ?_⟩)⟩)⟩⟩⟩)
      refine catP hL hD (by omega) (by omega) fun z H1 s1 hz => ?_
      obtain ⟨ys, hy, fy⟩ := id hz
      have ly := fy.len
      rw [List.length_append] at ly
      refine ⟨z, rfl, ys, hy, CO.pure1 (fun _ => .bl true) (by omega) (fun H' s => s.seqT hy) (fun i H' x R hi s hx kk => ?_) fun D1 H2 s2 n2 h2 => ⟨D1, rfl, List.replicate ys.length true, ?_, ?_⟩⟩
      · obtain ⟨pa, ea, fa⟩ := fy.at (j := i) (by rw [List.length_append]; omega)
        cases ea.symm.trans hx
        walk_at "rd"
        exact ⟨pa, _, rfl, fa.same s, kk _ _ rfl (Same.refl _)⟩
      · rw [h2]
        exact congrArg (fun l => some (HO.lst l)) (List.ext_getElem (by simp) (by simp))
      · have := hq H2 (s1.trans s2)
        simpa using this
    · have e : SqT K H r [.str "barred", v1, v2] := SqT.of hr0
      walk_at "rd"
      exact isi_sq e (.inr ⟨rfl, _, .inr e, .inl ⟨rfl, _, e, _, rfl, rfl, .inr ⟨fun z => absurd (V.str.inj z) (by decide +kernel), hq⟩⟩⟩)
abbrev s__law_bars : Stmt := top 62
theorem sc__law_bars : FnScope ["_law_found", "_law_numbers", "_law_n", "_law_row", "_law_i", "_law_total", "_law_j"] ["_law_found", "_law_numbers"] (defScope s__law_bars) := ⟨rfl, rfl, rfl, by decide +kernel, rfl, by decide +kernel, by decide +kernel⟩
theorem ok__law_bars {f : Addr} {fd : FuncData} (F : Fun K "_law_bars" "_law_bars" s__law_bars f fd) (m : mg "_law_bars" = some (.ref f)) (T : Tx w K mg C_HeightError C_NOUGHT C_NoCount C_NoFamily C_NoFraction C_NoHistory C_NoLine C_NoMeeting C_NoMoments C_NoName C_NoNumber C_NoSeries C_NoText C_NoThing C_NoWay C_NoWeights C_ONE C_TooFar C_TooHigh C_TooMany) (c__law_add : Callee P w K mg base 3 "_law_add" ["_law_a", "_law_b"] (spBin K (fun a b => a + b))) (c__law_are_fractions : Callee P w K mg base 3 "_law_are_fractions" ["_law_found", "_law_many"] (spAreF K)) (c__law_mul : Callee P w K mg base 3 "_law_mul" ["_law_a", "_law_b"] (spBin K (fun a b => a * b))) (c__law_whole : Callee P w K mg base 1 "_law_whole" ["_law_found"] (spWhole)) : Callee P w K mg base 4 "_law_bars" ["_law_found", "_law_numbers"] (spBarsG K) := by
  refine ⟨f, fd, ?_, m, F.kp, F.binds fun _ _ _ _ _ _ us hl => match us, hl with | [_, _], _ => rfl⟩
  refine F.okE sc__law_bars (fun vs H Q E h => ?_) (fun cdv A outer s H vs Q E hr h => ?_)
  · obtain ⟨_, _, _, _, _, _, _, rfl, _⟩ := h
    rfl
  · obtain ⟨r, p, m, f, ms, n, xs, rfl, hr0, hp, hm, fm, lr, n1, n2, l16, tp, orth, lnr, lnm, hq⟩ := h
    refine ⟨_, (pss_cons (ps_if (PW.pt (pw_or (pt_not (pt_val (pe_callB call_isiT (by rfl) T.b_isinstance (by decide +kernel) (pa_cons (pv 0) (pa_cons (pe_bltn (v := .ty "tuple") (u := .type "tuple") rfl T.b_tuple (by decide +kernel) rfl) pa_nil))))) (pw_or (pt_cmpR op_ne (pe_callB call_len_seq (by rfl) T.b_len PySem.boot_len (pa_cons (pv 0) pa_nil)) pe_int (nomark _)) (pw_or (pt_cmpR op_ne (pe_ix ix_tup (pv 0) pe_int (fun _ _ => rfl)) pe_str (nomark _)) (pw_or1 (pt_not (pt_val (pe_c c__law_whole (hr.mono (by decide)) np (pa_cons (pe_ix ix_tup (pv 0) pe_int (fun _ _ => rfl)) pa_nil))))))))) (pss_one (ps_ret pe_bl)) pss_nil) (pss_cons (ps_set (i := 2) sc__law_bars.nd rfl (Or.inl rfl) (pe_ix ix_tup (pv 0) pe_int (fun _ _ => rfl))) (pss_cons (ps_set (i := 3) sc__law_bars.nd rfl (Or.inl rfl) (pe_ix ix_tup (pv 0) pe_int (fun _ _ => rfl))) (pss_cons (ps_if (PW.pt (pw_or (pt_cmpR op_lt (pv 2) pe_int (nomark _)) (pw_or (pt_cmpR op_gt (pe_op op_mul pe_int (pv 2)) (pe_callB call_len_seq (by rfl) T.b_len PySem.boot_len (pa_cons (pv 1) pa_nil)) (nomark _)) (pw_or (pt_not (pt_val (pe_callB call_isiT (by rfl) T.b_isinstance (by decide +kernel) (pa_cons (pv 3) (pa_cons (pe_bltn (v := .ty "tuple") (u := .type "tuple") rfl T.b_tuple (by decide +kernel) rfl) pa_nil))))) (pw_or1 (pt_not (pt_val (pe_c c__law_are_fractions (hr.mono (by decide)) np (pa_cons (pv 3) (pa_cons (pv 2) pa_nil)))))))))) (pss_one (ps_ret pe_bl)) pss_nil) (pss_cons (ps_forR rfl PassesOwn.never T.b_range (pv 2) (pg_name (i := 4) sc__law_bars.nd rfl (Or.inl rfl)) (pss_cons (ps_set (i := 5) sc__law_bars.nd rfl (Or.inl rfl) (pe_tup (pa_cons pe_int (pa_cons pe_int pa_nil)))) (pss_cons (ps_forR rfl PassesOwn.never T.b_range (pv 2) (pg_name (i := 6) sc__law_bars.nd rfl (Or.inl rfl)) (pss_one (ps_set (i := 5) sc__law_bars.nd rfl (Or.inl rfl) (pe_c c__law_add (hr.mono (by decide)) np (pa_cons (pv 5) (pa_cons (pe_c c__law_mul (hr.mono (by decide)) np (pa_cons (pe_ix ix_tup (pv 3) (pv 6) (fun _ _ => rfl)) (pa_cons (pe_ix ix_list (pv 1) (pe_op op_add (pv 4) (pv 6)) (fun _ _ => rfl)) pa_nil))) pa_nil)))))) (pss_one (ps_if (pt_cmpR op_ne (pe_ix ix_fq (pv 5) pe_int (fun _ _ => rfl)) pe_int (nomark _)) (pss_one (ps_ret pe_bl)) pss_nil))))) (pss_one (ps_ret (pe_cmpR (op_eqD hr.units) (pe_ix ix_tup (pv 3) (pe_un un_neg pe_int) (fun _ _ => rfl)) (pe_tup (pa_cons pe_int (pa_cons pe_int pa_nil))) (nomark _))))))))), ?_⟩
    refine tSeq_step fun N hN => ?_
    walk_at "rd"
    have e : SqT K H r [.str "barred", .int (n : Int), .ref p] := SqT.of hr0
    obtain ⟨ys, hy, fy⟩ := id hp
    have ly := fy.len
    have lx := fm.len
    refine isi_sq e (.inr ⟨rfl, _, .inr e, .inl ⟨rfl, _, e, _, rfl, rfl, .inl ⟨rfl, _, e, _, rfl, ?_⟩⟩⟩)
    refine ⟨_, rfl, .inr ⟨rfl, hN _ _ ?_⟩⟩
    clear hN N
    refine tSeq_step fun N hN => ?_
    walk_at "rd"
    refine ⟨_, e, _, rfl, hN _ _ ?_⟩
    clear hN N
    refine tSeq_step fun N hN => ?_
    walk_at "rd"
    refine ⟨_, e, _, rfl, hN _ _ ?_⟩
    clear hN N
    refine tSeq_step fun N hN => ?_
    walk_at "rd"
    rw [if_neg (by omega)]
    refine ⟨.inl ⟨by decide, by omega⟩, xs, .inl hm, ?_⟩
    rw [if_neg (by omega)]
    refine isi_sq hy (.inr ⟨rfl, p, _, by rw [lr], hp, by omega, fun H1 s1 => .inr ⟨rfl, hN _ _ ?_⟩⟩)
    clear hN N
    have orth' : ∀ i, i < n → Mt.Su (fun j => Mt.cf f j * Mt.cf (ms.drop i) j) n = 0 := fun i hi => by
      have := orth i hi
      rw [← Mt.lf_dot, Mt.dot, lr] at this
      exact this
    refine tSeq_step fun N hN => ?_
    walk_at "rd"
    refine ⟨by omega, fun _ σ H' => ∃ (r4 r5 r6 : Option V), σ = [some (.ref r), some (.ref m), some (.int (n : Int)), some (.ref p), r4, r5, r6] ∧ Same H H', ⟨none, none, none, rfl, s1⟩, ?_, ?_⟩
    · rintro i σ H2 hi ⟨r4, r5, r6, rfl, sm⟩
      refine tSeq_step fun N hN => ?_
      walk_at "rd"
      refine ⟨sz_le 2 (by decide), fun p0 n0 => hN _ _ ?_⟩
      clear hN N
      have u0 := same_upd (o := .tup [.int 0, .int 1]) n0
      have q0 : Fq K (upd H2 p0 (.tup [.int 0, .int 1])) p0 0 := Fq.of upd_same
      generalize upd H2 p0 (.tup [.int 0, .int 1]) = H3 at u0 q0 ⊢
      refine tSeq_step fun N hN => ?_
      walk_at "rd"
      refine ⟨by omega, fun j σ H' => ∃ (tt : Addr) (r6 : Option V), σ = [some (.ref r), some (.ref m), some (.int (n : Int)), some (.ref p), some (.int i), some (.ref tt), r6] ∧ Same H H' ∧ Fq K H' tt (Mt.Su (fun j => Mt.cf f j * Mt.cf (ms.drop i) j) j), ⟨p0, r6, rfl, sm.trans u0, q0⟩, ?_, ?_⟩
      · rintro j σ H4 hj ⟨tt, r6, rfl, s4, qt⟩
        obtain ⟨pa, ea, fa⟩ := fy.at (j := j) (by omega)
        obtain ⟨pb, eb, fb⟩ := fm.at (j := i + j) (by omega)
        have ab := atI_nat eb
        rw [show ((i + j : Nat) : Int) = (i : Int) + (j : Int) by omega] at ab
        have ed : Mt.cf ms (i + j) = Mt.cf (ms.drop i) j := by rw [Mt.cf_drop, Nat.add_comm]
        rw [ed] at fb
        walk_at "rd"
        refine ⟨ys, s4.seqT hy, _, atI_nat ea, xs, s4.seq hm, _, ab, pa, pb, _, _, rfl, fa.same s4, fb.same s4, (Ln.sz lnr j).mono (by decide), (Ln.sz (lnm i) j).mono (by decide), fun r1 H5 s5 n5 h5 => ⟨tt, r1, _, _, rfl, qt.same s5, Fq.of h5, (Ln.dot lnr (lnm i) (by omega)).mono (by decide), ((Ln.sz lnr j).mul (Ln.sz (lnm i) j)).mono (by decide), fun r2 H6 s6 n6 h6 => ?_⟩⟩
        exact ⟨r2, rfl, (s4.trans s5).trans s6, Fq.of h6⟩
      · rintro σ H4 ⟨tt, r6, rfl, s4, qt⟩
        refine hN _ _ ?_
        clear hN N
        rw [orth' i hi] at qt
        walk_at "rd"
        refine ⟨0, qt, ?_⟩
        exact .inl ⟨rfl, s4⟩
    · rintro σ H2 ⟨r4, r5, r6, rfl, sm⟩
      refine hN _ _ ?_
      clear hN N
      obtain ⟨pe, ee, qe⟩ := fy.at (j := n - 1) (by omega)
      rw [tp] at qe
      have ee2 : ys[ys.length - 1]? = some (.ref pe) := by rw [show ys.length - 1 = n - 1 by omega]; exact ee
      walk_at "rd"
      refine ⟨ys, sm.seqT hy, _, atI_end ee2, sz_le 2 (by decide), fun p3 n3 => ?_⟩
      have u3 := same_upd (o := .tup [.int 1, .int 1]) n3
      exact fr_cmp (rep_fr ((qe.same sm).same u3)) (rep_fr (Fq.of (q := 1) upd_same)) (by simpa using hq _ (sm.trans u3))
abbrev s__law_asked : Stmt := top 63
theorem sc__law_asked : FnScope ["_law_numbers", "_law_found", "_law_e"] ["_law_numbers"] (defScope s__law_asked) := ⟨rfl, rfl, rfl, by decide +kernel, rfl, by decide +kernel, by decide +kernel⟩
theorem ok__law_asked {f : Addr} {fd : FuncData} (F : Fun K "_law_asked" "_law_asked" s__law_asked f fd) (m : mg "_law_asked" = some (.ref f)) (T : Tx w K mg C_HeightError C_NOUGHT C_NoCount C_NoFamily C_NoFraction C_NoHistory C_NoLine C_NoMeeting C_NoMoments C_NoName C_NoNumber C_NoSeries C_NoText C_NoThing C_NoWay C_NoWeights C_ONE C_TooFar C_TooHigh C_TooMany) (c__law_marks : CalleeU P w K mg base 1 "_law_marks" ["_law_e"] (spMarks C_NoMoments 7)) (c_weights_back : Callee P w K mg base 6 "weights_back" ["moments"] (spBackX K C_NoMoments)) : Callee P w K mg base 7 "_law_asked" ["_law_numbers"] (spAskX K) := by
  refine ⟨f, fd, ?_, m, F.kp, F.binds fun _ _ _ _ _ _ us hl => match us, hl with | [_], _ => rfl⟩
  refine F.okE sc__law_asked (fun vs H Q E h => ?_) (fun cdv A outer s H vs Q E hr h => ?_)
  · obtain ⟨_, _, _, rfl, _⟩ := h
    rfl
  · obtain ⟨m, xs, ms, rfl, hm, fm, l100, h0, hgood⟩ := h
    refine ⟨_, (pss_cons (ps_set (i := 1) sc__law_asked.nd rfl (Or.inl rfl) pe_non) (pss_cons (ps_try rfl rfl (fun pins xe E hps => (pss_one (ps_set (i := 1) sc__law_asked.nd rfl (Or.inl rfl) (pe_cS c_weights_back (hr.mono (by decide)) hps (pa_cons (pv 0) pa_nil))))) (ph_as (i := 2) sc__law_asked.nd rfl rfl (fun A E Q pins σ H s I q => Calls.Name_function_global I.ok.kind rfl (Calls.loadGlobal_global (by rw [I.ok.glob]; exact I.mod.glob.keeps I.bk) T.m_HeightError q) (by decide)) (fun e => (pss_one (ps_set (i := 1) sc__law_asked.nd rfl (Or.inl rfl) (pe_cU c__law_marks ((hr.mono (by decide) : Room _ _).su) np (pa_cons (pv 2) pa_nil))))) ph_no)) (pss_one (ps_ret (pv 1))))), ?_⟩
    refine tSeq_step fun N hN => ?_
    walk_at "rd"
    refine hN _ _ ?_
    clear hN N
    walk_at "rd"
    exact ⟨m, xs, ms, rfl, hm, fm, l100, fun b => ⟨T.ex, fun e he => ⟨e, none, rfl, upd_same, fun l H1 s1 n1 h => h0 b l H1 ((same_upd he).trans s1) h⟩⟩, hgood⟩
abbrev s__law_stands : Stmt := top 64
theorem sc__law_stands : FnScope ["_law_found", "_law_numbers", "_law_size"] ["_law_found", "_law_numbers"] (defScope s__law_stands) := ⟨rfl, rfl, rfl, by decide +kernel, rfl, by decide +kernel, by decide +kernel⟩
theorem ok__law_stands {f : Addr} {fd : FuncData} (F : Fun K "_law_stands" "_law_stands" s__law_stands f fd) (m : mg "_law_stands" = some (.ref f)) (T : Tx w K mg C_HeightError C_NOUGHT C_NoCount C_NoFamily C_NoFraction C_NoHistory C_NoLine C_NoMeeting C_NoMoments C_NoName C_NoNumber C_NoSeries C_NoText C_NoThing C_NoWay C_NoWeights C_ONE C_TooFar C_TooHigh C_TooMany) (c__law_bars : Callee P w K mg base 4 "_law_bars" ["_law_found", "_law_numbers"] (spBarsG K)) (c__law_measure_by : Callee P w K mg base 9 "_law_measure_by" ["_law_rows"] (spLap K 6)) (c__law_moments_by : Callee P w K mg base 4 "_law_moments_by" ["_law_levels", "_law_downs"] (spMoG K)) (c__law_table_of : Callee P w K mg base 1 "_law_table_of" ["_law_numbers", "_law_size", "_law_shift"] (spTbl53 K)) (c__law_told_weights : Callee P w K mg base 3 "_law_told_weights" ["_law_found"] (spTldX K)) : Callee P w K mg base 10 "_law_stands" ["_law_found", "_law_numbers"] (spStands K) := by
  refine ⟨f, fd, ?_, m, F.kp, F.binds fun _ _ _ _ _ _ us hl => match us, hl with | [_, _], _ => rfl⟩
  refine F.okE sc__law_stands (fun vs H Q E h => ?_) (fun cdv A outer s H vs Q E hr h => ?_)
  · obtain ⟨_, _, _, _, _, rfl, _⟩ := h
    rfl
  · obtain ⟨r, m, xs, ms, k, rfl, hm, fm, lm, hk, bt, td, hq⟩ := h
    refine ⟨_, (pss_cons (ps_if (pt_val (pe_c c__law_told_weights (hr.mono (by decide)) np (pa_cons (pv 0) pa_nil))) (pss_cons (ps_if (PW.pt (pw_or (pt_cmpR op_ne (pe_callB call_len_seq (by rfl) T.b_len PySem.boot_len (pa_cons (pe_ix ix_tup (pv 0) pe_int (fun _ _ => rfl)) pa_nil)) (pe_op op_fdivB (pe_callB call_len_seq (by rfl) T.b_len PySem.boot_len (pa_cons (pv 1) pa_nil)) pe_int) (nomark _)) (pw_or (pt_cmpR op_ne (pe_op op_add (pe_callB call_len_seq (by rfl) T.b_len PySem.boot_len (pa_cons (pe_ix ix_tup (pv 0) pe_int (fun _ _ => rfl)) pa_nil)) pe_int) (pe_callB call_len_seq (by rfl) T.b_len PySem.boot_len (pa_cons (pe_ix ix_tup (pv 0) pe_int (fun _ _ => rfl)) pa_nil)) (nomark _)) (pw_or1 (pt_cmpR (op_inFT hr.units) (pe_tup (pa_cons pe_int (pa_cons pe_int pa_nil))) (pe_ix ix_tup (pv 0) pe_int (fun _ _ => rfl)) rfl))))) (pss_one (ps_ret pe_bl)) pss_nil) (pss_one (ps_ret (pe_cmpR (op_eqD hr.units) (pe_c c__law_moments_by (hr.mono (by decide)) np (pa_cons (pe_ix ix_tup (pv 0) pe_int (fun _ _ => rfl)) (pa_cons (pe_ix ix_tup (pv 0) pe_int (fun _ _ => rfl)) pa_nil))) (pv 1) (nomark _))))) pss_nil) (pss_cons (ps_if (pt_not (pt_val (pe_c c__law_bars (hr.mono (by decide)) np (pa_cons (pv 0) (pa_cons (pv 1) pa_nil))))) (pss_one (ps_ret pe_bl)) pss_nil) (pss_cons (ps_forR2 rfl PassesOwn.never T.b_range pe_int (pe_callB (call_min2 rfl) (by rfl) T.b_min (by decide +kernel) (pa_cons (pe_ix ix_tup (pv 0) pe_int (fun _ _ => rfl)) (pa_cons pe_int pa_nil))) (pg_name (i := 2) sc__law_stands.nd rfl (Or.inl rfl)) (pss_one (ps_if (pt_cmpR op_eq (pe_ix ix_fq (pe_c c__law_measure_by (hr.mono (by decide)) np (pa_cons (pe_c c__law_table_of (hr.mono (by decide)) np (pa_cons (pv 1) (pa_cons (pv 2) (pa_cons pe_int pa_nil)))) pa_nil)) pe_int (fun _ _ => rfl)) pe_int (nomark _)) (pss_one (ps_ret pe_bl)) pss_nil))) (pss_one (ps_ret pe_bl))))), ?_⟩
    have dv : ∀ i j : Int, 0 < j → j ≤ 5000000 → CDivB i j := fun i j h1 h2 => ⟨by omega, Bd.mono (m := 64) (show (_ : Nat) < _ by omega) (by decide)⟩
    have lx := fm.len
    refine tSeq_step fun N hN => ?_
    walk_at "rd"
    rcases td with ⟨L, D, a, b, rw_, hmom, lL, lD, nz, hr0, pa, pb⟩ | ⟨p, i, a, hi, rw_, z, hr0, pp⟩
    · have st := bt.st L D rw_ hmom lL lD
      have eM := mom_is hmom lm lD
      refine ⟨r, rfl, .inl ⟨a, b, L, D, hr0, pa, pb, by omega, by omega, fun H1 s1 => .inr ⟨rfl, ?_⟩⟩⟩
      clear hN N
      have e : SqT K H1 r [.str "weights", .ref a, .ref b] := SqT.of (s1 _ _ hr0)
      obtain ⟨us, hu, fu⟩ := pa.same s1
      obtain ⟨vs', hv, fv⟩ := pb.same s1
      have l1 := fu.len
      have l2 := fv.len
      refine ⟨_, e, _, rfl, a, rfl, us, .inr hu, xs, .inl (SqL.of (s1 _ _ hm)), dv _ _ (by decide) (by decide), .inl ⟨by rw [Int.fdiv_eq_ediv_of_nonneg _ (by decide)]; omega, _, e, _, rfl, b, rfl, vs', .inr hv, _, e, _, rfl, a, rfl, us, .inr hu, .inl ⟨by omega, sz_le 2 (by decide), fun p np => ?_⟩⟩⟩
      have up := same_upd (o := .tup [.int 0, .int 1]) np
      have zp : Fq K (upd H1 p (.tup [.int 0, .int 1])) p 0 := Fq.of upd_same
      generalize upd H1 p (.tup [.int 0, .int 1]) = H2 at up zp ⊢
      have n0 : ¬ (0 : Rat) ∈ D := fun hm' => by
        obtain ⟨j, hj, ej⟩ := List.getElem_of_mem hm'
        refine nz j (by omega) ?_
        rw [Mt.cf, List.getD_eq_getElem?_getD, List.getElem?_eq_getElem hj, ej]
        rfl
      have dp : 1 ≤ (lstD ms).dep ∧ (lstD ms).dep ≤ 60 := by
        have := lstD_dep ms
        omega
      refine ⟨_, up.seqT e, _, rfl, p, b, vs', D, 0, rfl, rfl, up.seqT hv, fv.same up, zp, .inl ⟨by simp [n0], _, up.seqT e, _, rfl, _, up.seqT e, _, rfl, a, b, us, vs', L, D, rfl, .inr (up.seqT hu), .inr (up.seqT hv), fu.same up, fv.same up, st, fun S H3 ys s3 nS hS fS => ?_⟩⟩
      rw [eM] at fS
      have v3 := (s1.trans up).trans s3
      exact eqD_same _ (rep_lst hS fS) (rep_lst (v3 _ _ hm) (fm.same v3)) dp.1 dp.2 (hq _ v3)
    · refine ⟨r, rfl, .inr ⟨_, _, hr0, .inl ⟨rfl, hN _ _ ?_⟩⟩⟩
      clear hN N
      have mo := rw_.mo i (Nat.le_refl _)
      have bb := bt.bs.sm p i hi rw_
      refine tSeq_step fun N hN => ?_
      walk_at "rd"
      refine ⟨r, a, m, p i, ms, i + 1, xs, rfl, by rw [hr0, show ((i + 1 : Nat) : Int) = (i : Int) + 1 by omega], pp, SqL.of hm, fm, mo.len, by omega, by omega, by omega, mo.top, fun l hl => ?_, bb.1, bt.bs.lm, fun H1 s1 => .inr ⟨rfl, hN _ _ ?_⟩⟩
      · rcases Nat.lt_or_ge l i with y | y
        · exact mo.orth l y
        · obtain rfl : l = i := by omega
          exact z
      clear hN N
      have e : SqT K H1 r [.str "barred", .int ((i : Int) + 1), .ref a] := SqT.of (s1 _ _ hr0)
      obtain ⟨Dn, Nn, dn0, dn1, nn1, lat⟩ := (bt.bs.lm 0).ex
      refine tSeq_step fun N hN => ?_
      walk_at "rd"
      refine ⟨_, e, _, rfl, (i : Int) + 1, 5, ⟨rfl, rfl⟩, ⟨by split <;> omega, by split <;> omega⟩, fun _ σ H' => ∃ r2, σ = [some (.ref r), some (.ref m), r2] ∧ Same H H', ⟨none, rfl, s1⟩, ?_, ?_⟩
      · rintro t σ H2 ht ⟨r2, rfl, s2⟩
        have ht' : 1 + t ≤ i ∧ 1 + t ≤ 4 := by
          split at ht <;> omega
        walk_at "rd"
        rw [show (1 : Int) + (t : Int) = ((t + 1 : Nat) : Int) by omega]
        refine ⟨m, xs, ms, t + 1, 0, rfl, SqL.of (s2 _ _ hm), fm.same s2, by omega, .inr (by omega), by omega, fun TD H3 s3 nT tT => ⟨t + 1, by omega, TD, _, fun _ => Dn, Nn, 300, rfl, tT.rows, by omega, fun i' _ j' _ => ?_, fun _ => ⟨dn0, dn1⟩, nn1, by omega, fun pl H4 s4 q4 => ⟨pl, rfl, _, q4, ?_⟩⟩⟩
        · have h := lat (i' + j' + 0)
          rw [List.drop_zero] at h
          exact h
        have eh : Mt.det (t + 1) (fun i j => Mt.cf ms (i + j + 0)) = Mt.prF (fun i => Mt.lf ms (p i) i) (t + 1) := Mt.hankel fun j hj => rw_.mo j (by omega)
        rw [eh, if_neg (prF_nz fun j hj => rw_.nz j (by omega))]
        exact s2.trans (s3.trans s4)
      · rintro σ H2 ⟨r2, rfl, s2⟩
        refine hN _ _ ?_
        clear hN N
        walk_at "rd"
        exact hq _ s2
abbrev s__law_list_by : Stmt := top 65
theorem sc__law_list_by : FnScope ["_law_script", "_law_first", "_law_c", "_law_levels", "_law_downs", "_law_numbers", "_law_many", "_law_k", "_law_d"] ["_law_script", "_law_first"] (defScope s__law_list_by) := ⟨rfl, rfl, rfl, by decide +kernel, rfl, by decide +kernel, by decide +kernel⟩
theorem ok__law_list_by {f : Addr} {fd : FuncData} (F : Fun K "_law_list_by" "_law_list_by" s__law_list_by f fd) (m : mg "_law_list_by" = some (.ref f)) (T : Tx w K mg C_HeightError C_NOUGHT C_NoCount C_NoFamily C_NoFraction C_NoHistory C_NoLine C_NoMeeting C_NoMoments C_NoName C_NoNumber C_NoSeries C_NoText C_NoThing C_NoWay C_NoWeights C_ONE C_TooFar C_TooHigh C_TooMany) (c__law_drawn : Callee P w K mg base 2 "_law_drawn" ["_law_script", "_law_k"] (spDrawn K)) (c__law_low : Callee P w K mg base 2 "_law_low" ["_law_top", "_law_bottom"] (spLow)) (c__law_moments_by : Callee P w K mg base 4 "_law_moments_by" ["_law_levels", "_law_downs"] (spMoG K)) (c__law_weights_by : Callee P w K mg base 4 "_law_weights_by" ["_law_script", "_law_first", "_law_k", "_law_way"] (spWs26 K)) : Callee P w K mg base 5 "_law_list_by" ["_law_script", "_law_first"] (spListBy K) := by
  refine ⟨f, fd, ?_, m, F.kp, F.binds fun _ _ _ _ _ _ us hl => match us, hl with | [_, _], _ => rfl⟩
  refine F.okE sc__law_list_by (fun vs H Q E h => ?_) (fun cdv A outer s H vs Q E hr h => ?_)
  · obtain ⟨_, _, _, rfl, _⟩ := h
    rfl
  · obtain ⟨a, ns, b, rfl, hs, b0, b1, hq⟩ := h
    refine ⟨_, (pss_cons (ps_set (i := 2) sc__law_list_by.nd rfl (Or.inl rfl) (pe_c c__law_drawn (hr.mono (by decide)) np (pa_cons (pv 0) (pa_cons (pv 1) pa_nil)))) (pss_cons (ps_if (pt_cmpR op_eq (pe_op op_mod (pv 2) pe_int) pe_int (nomark _)) (pss_cons (ps_asg (pe_c c__law_weights_by (hr.mono (by decide)) np (pa_cons (pv 0) (pa_cons (pe_op op_add (pv 1) pe_int) (pa_cons (pe_op op_mod (pe_op op_fdivB (pv 2) pe_int) pe_int) (pa_cons (pe_op op_fdivB (pv 2) pe_int) pa_nil))))) (pg_tup rfl (pgs_cons (pg_name (i := 3) sc__law_list_by.nd rfl (Or.inl rfl)) (pgs_cons (pg_name (i := 4) sc__law_list_by.nd rfl (Or.inl rfl)) pgs_nil)))) (pss_cons (ps_set (i := 5) sc__law_list_by.nd rfl (Or.inl rfl) (pe_c c__law_moments_by (hr.mono (by decide)) np (pa_cons (pv 3) (pa_cons (pv 4) pa_nil)))) (pss_one (ps_ret (pe_ix ix_list (pe_lst (pa_cons (pv 5) (pa_cons (pe_slice sl_list (pv 5) po_none (po_some (pe_un un_neg pe_int))) (pa_cons (pe_op op_cat (pv 5) (pe_lst (pa_cons (pe_tup (pa_cons pe_int (pa_cons pe_int pa_nil))) pa_nil))) (pa_cons (pe_slice sl_list (pv 5) (po_some pe_int) po_none) pa_nil))))) (pe_op op_mod (pe_op op_fdivB (pv 2) pe_int) pe_int) (fun _ _ => rfl)))))) pss_nil) (pss_cons (ps_set (i := 6) sc__law_list_by.nd rfl (Or.inl rfl) (pe_op op_mod (pe_op op_fdivB (pv 2) pe_int) pe_int)) (pss_cons (ps_if (pt_cmpR op_eq (pe_op op_mod (pv 2) pe_int) pe_int (nomark _)) (pss_one (ps_set (i := 6) sc__law_list_by.nd rfl (Or.inl rfl) (pe_op op_add pe_int (pe_op op_mul pe_int (pe_op op_mod (pv 6) pe_int))))) pss_nil) (pss_cons (ps_set (i := 5) sc__law_list_by.nd rfl (Or.inl rfl) (pe_lst pa_nil)) (pss_cons (ps_forR rfl PassesOwn.never T.b_range (pv 6) (pg_name (i := 7) sc__law_list_by.nd rfl (Or.inl rfl)) (pss_cons (ps_set (i := 8) sc__law_list_by.nd rfl (Or.inl rfl) (pe_c c__law_drawn (hr.mono (by decide)) np (pa_cons (pv 0) (pa_cons (pe_op op_add (pe_op op_add (pv 1) pe_int) (pv 7)) pa_nil)))) (pss_one (ps_expr (pe_bm PySem.F.plainAttrs_list PySem.F.slot_list_append PySem.F.type_list_append mt_append (pv 5) (pa_cons (pe_ix ix_list (pe_lst (pa_cons (pe_tup (pa_cons (pe_op op_sub (pe_op op_mod (pv 8) pe_int) pe_int) (pa_cons pe_int pa_nil))) (pa_cons (pe_c c__law_low (hr.mono (by decide)) np (pa_cons (pe_op op_sub (pe_op op_mod (pv 8) pe_int) pe_int) (pa_cons (pe_op op_add pe_int (pe_op op_mod (pe_op op_fdivB (pv 8) pe_int) pe_int)) pa_nil))) pa_nil))) (pe_op op_mod (pe_op op_fdivB (pv 2) pe_int) pe_int) (fun _ _ => rfl)) pa_nil)))))) (pss_cons (ps_if (pt_cmpR op_gt (pe_op op_mod (pe_op op_fdivB (pv 2) pe_int) pe_int) pe_int (nomark _)) (pss_one (ps_ret (pe_op op_cat (pe_lst (pa_cons (pe_tup (pa_cons pe_int (pa_cons pe_int pa_nil))) pa_nil)) (pe_slice sl_list (pv 5) (po_some pe_int) po_none)))) pss_nil) (pss_one (ps_ret (pv 5)))))))))), ?_⟩
    have dv : ∀ i j : Int, 0 < j → j ≤ 5000000 → CDivB i j := fun i j h1 h2 => ⟨by omega, Bd.mono (m := 64) (show (_ : Nat) < _ by omega) (by decide)⟩
    refine tSeq_step fun N hN => ?_
    walk_at "rd"
    refine ⟨a, ns, b, rfl, hs, by omega, by omega, fun c c0 c1 => hN _ _ ?_⟩
    clear hN N
    refine tSeq_step fun N hN => ?_
    walk_at "rd"
    split
    · rename_i z0
      clear hN N
      obtain ⟨k, ek⟩ := Int.eq_ofNat_of_zero_le (show 0 ≤ c.fdiv 3 % 4 by omega)
      rw [ek]
      refine ⟨dv _ _ (by decide) (by decide), dv _ _ (by decide) (by decide), a, ns, b + 1, c.fdiv 12, k, rfl, hs, by omega, by omega, by omega, fun P D1 D2 H1 x1 x2 f1 f2 s1 n1 n2 ne hP h1 h2 g1 g2 ws lD => ⟨P, rfl, _, SqT.of hP, rfl, _, _, rfl, _, _, rfl, rfl, D1, D2, x1, x2, f1, f2, rfl, .inl (SqL.of h1), .inl (SqL.of h2), g1, g2, st_ws ws (by omega), fun S H2 ys s2 nS hS fS => ?_⟩⟩
      have ly := fS.len
      rw [momL_len] at ly
      have nS0 : H S = none := s1.free nS
      refine ⟨S, ys, rfl, SqL.of hS, fun q1 m1 => ⟨sz_le 2 (by decide), fun p2 m2 => ⟨sz_le 1 (by decide), fun p3 m3 => ?_⟩⟩⟩
      have w1 := same_upd (o := .lst (cutV ys none (some (-1)))) m1
      have e1 : upd H2 q1 (.lst (cutV ys none (some (-1)))) q1 = some (.lst (cutV ys none (some (-1)))) := upd_same
      generalize upd H2 q1 (.lst (cutV ys none (some (-1)))) = H3 at w1 e1 m2 m3 ⊢
      have w2 := same_upd (o := .tup [.int 1, .int 1]) m2
      have o2 : Fq K (upd H3 p2 (.tup [.int 1, .int 1])) p2 1 := Fq.of upd_same
      generalize upd H3 p2 (.tup [.int 1, .int 1]) = H4 at w2 o2 m3 ⊢
      have w3 := same_upd (o := .lst [.ref p2]) m3
      have e3 : upd H4 p3 (.lst [.ref p2]) p3 = some (.lst [.ref p2]) := upd_same
      generalize upd H4 p3 (.lst [.ref p2]) = H5 at w3 e3 ⊢
      have v5 := (w1.trans w2).trans w3
      refine ⟨S, p3, _, _, rfl, rfl, v5 _ _ hS, e3, sz_le _ (by simp; omega), fun q4 m4 => ?_⟩
      have w4 := same_upd (o := .lst (ys ++ [.ref p2])) m4
      have e4 : upd H5 q4 (.lst (ys ++ [.ref p2])) q4 = some (.lst (ys ++ [.ref p2])) := upd_same
      generalize upd H5 q4 (.lst (ys ++ [.ref p2])) = H6 at w4 e4 ⊢
      have v6 := v5.trans w4
      refine ⟨S, ys, rfl, SqL.of (v6 _ _ hS), fun q5 m5 => ?_⟩
      rw [cutV_one]
      have w5 := same_upd (o := .lst (ys.drop 1)) m5
      have e5 : upd H6 q5 (.lst (ys.drop 1)) q5 = some (.lst (ys.drop 1)) := upd_same
      generalize upd H6 q5 (.lst (ys.drop 1)) = H7 at w5 e5 ⊢
      have v7 := v6.trans w5
      refine ⟨sz_le 4 (by decide), fun p6 m6 => ⟨dv _ _ (by decide) (by decide), _, SqL.of upd_same, ?_⟩⟩
      have w6 := same_upd (o := .lst [.ref S, .ref q1, .ref q4, .ref q5]) m6
      generalize upd H7 p6 (.lst [.ref S, .ref q1, .ref q4, .ref q5]) = H8 at w6 ⊢
      have v8 := v7.trans w6
      have s12 := s1.trans s2
      have s8 := s12.trans v8
      have f8 := fS.same v8
      rcases (show c.fdiv 144 % 4 = 0 ∨ c.fdiv 144 % 4 = 1 ∨ c.fdiv 144 % 4 = 2 ∨ c.fdiv 144 % 4 = 3 by omega) with y | y | y | y <;> rw [y]
      · exact ⟨_, rfl, hq S H8 ys _ s8 nS0 (v8 _ _ hS) f8 (by rw [momL_len]; omega) (good_weights ws (by omega))⟩
      · refine ⟨_, rfl, hq q1 H8 (ys.take (ys.length - 1)) ((momL f1 f2).take (ys.length - 1)) s8 (s12.free m1) ?_ (f8.take _) (by rw [List.length_take, momL_len]; omega) (good_odd (by rw [List.length_take, momL_len]; omega))⟩
        rw [← cutV_but ys (by omega)]
        exact ((((w2.trans w3).trans w4).trans w5).trans w6) _ _ e1
      · exact ⟨_, rfl, hq q4 H8 (ys ++ [.ref p2]) (momL f1 f2 ++ [1]) s8 ((s12.trans v5).free m4) ((w5.trans w6) _ _ e4) (Frs.snoc f8 (o2.same (((w3.trans w4).trans w5).trans w6))) (by rw [List.length_append, momL_len]; simp; omega) (good_odd (by rw [List.length_append, momL_len]; simp; omega))⟩
      · exact ⟨_, rfl, hq q5 H8 (ys.drop 1) ((momL f1 f2).drop 1) s8 ((s12.trans v6).free m5) (w6 _ _ e5) (f8.drop 1) (by rw [List.length_drop, momL_len]; omega) (good_odd (by rw [List.length_drop, momL_len]; omega))⟩
    · refine hN _ _ ?_
      clear hN N
      refine tSeq_step fun N hN => ?_
      walk_at "rd"
      refine ⟨dv _ _ (by decide) (by decide), hN _ _ ?_⟩
      clear hN N
      refine tSeq_step fun N hN => ?_
      have main : ∀ m : Nat, m ≤ 20 → N [some (.ref a), some (.int b), some (.int c), none, none, none, some (.int m), none, none] H := by
        intro m hm
        refine hN _ _ ?_
        clear hN N
        refine tSeq_step fun N hN => ?_
        walk_at "rd"
        refine fun NU nN => hN _ _ ?_
        clear hN N
        have u1 := same_upd (o := .lst []) nN
        have h1 : upd H NU (.lst []) NU = some (.lst []) := upd_same
        generalize upd H NU (.lst []) = H1 at u1 h1 ⊢
        refine tSeq_step fun N hN => ?_
        walk_at "rd"
        refine ⟨by omega, fun i σ H' => ∃ (r7 r8 : Option V) (zs : List V) (g : List Rat), σ = [some (.ref a), some (.int b), some (.int c), none, none, some (.ref NU), some (.int m), r7, r8] ∧ Same H H' ∧ H' NU = some (.lst zs) ∧ Frs K H' g zs ∧ g.length = i ∧ (∀ q ∈ g, Mt.Lat 6 54 q), ⟨none, none, [], [], rfl, u1, h1, Frs.nil, rfl, (fun _ h => nomatch h)⟩, ?_, ?_⟩
        · rintro i σ H2 hi ⟨r7, r8, zs, g, rfl, sm, hz, fg, lg, wg⟩
          have lz := fg.len
          refine tSeq_step fun N hN => ?_
          walk_at "rd"
          refine ⟨a, ns, b + 1 + i, rfl, sm.seq hs, by omega, by omega, fun d d0 _ => hN _ _ ?_⟩
          clear hN N
          walk_at "rd"
          refine ⟨.inl ⟨rfl, _, SqL.of hz⟩, sz_le 2 (by decide), fun p np => ⟨dv _ _ (by decide) (by decide), _, _, rfl, by omega, Bd.mono (m := 64) (show (_ : Nat) < _ by omega) (by decide), fun p2 np2 => ⟨sz_le 2 (by decide), fun p3 np3 => ⟨dv _ _ (by decide) (by decide), _, SqL.of upd_same, ?_⟩⟩⟩⟩
          have w1 := same_upd (o := .tup [.int (d % 3 - 1), .int 1]) np
          have o1 : Fq K (upd H2 p (.tup [.int (d % 3 - 1), .int 1])) p ((d % 3 - 1 : Int) : Rat) := Fq.of (by rw [frO_int]; exact upd_same)
          generalize upd H2 p (.tup [.int (d % 3 - 1), .int 1]) = H3 at w1 o1 np2 np3 ⊢
          have w2 := same_upd (o := frO (Rat.divInt (d % 19 - 9) (1 + d.fdiv 19 % 3))) np2
          have o2 : Fq K (upd H3 p2 (frO (Rat.divInt (d % 19 - 9) (1 + d.fdiv 19 % 3)))) p2 (Rat.divInt (d % 19 - 9) (1 + d.fdiv 19 % 3)) := Fq.of upd_same
          generalize upd H3 p2 (frO (Rat.divInt (d % 19 - 9) (1 + d.fdiv 19 % 3))) = H4 at w2 o2 np3 ⊢
          have w3 := same_upd (o := .lst [.ref p, .ref p2]) np3
          generalize upd H4 p3 (.lst [.ref p, .ref p2]) = H5 at w3 ⊢
          have v5 := (w1.trans w2).trans w3
          obtain ⟨px, q, ea, fx, l6⟩ : ∃ px q, atI [V.ref p, V.ref p2] (c.fdiv 63 % 2) = some (.ref px) ∧ Fq K H5 px q ∧ Mt.Lat 6 54 q := by
            rcases (show c.fdiv 63 % 2 = 0 ∨ c.fdiv 63 % 2 = 1 by omega) with y | y <;> rw [y]
            · exact ⟨p, _, rfl, (o1.same w2).same w3, lat6_int (by omega)⟩
            · exact ⟨p2, _, rfl, o2.same w3, lat6_low (by omega) (by omega) (by omega)⟩
          have hz5 := v5 _ _ hz
          refine ⟨_, ea, zs, hz5, small1000 (by omega), (sm.trans v5).updL nN, _, upd_same, g ++ [q], Frs.updL hz5 (Frs.snoc (fg.same v5) fx), by simp [lg], fun x hx => ?_⟩
          rcases List.mem_append.mp hx with y | y
          · exact wg x y
          · rw [List.mem_singleton.mp y]; exact l6
        · rintro σ H2 ⟨r7, r8, zs, g, rfl, sm, hz, fg, lg, wg⟩
          refine hN _ _ ?_
          clear hN N
          have lz := fg.len
          walk_at "rd"
          refine ⟨dv _ _ (by decide) (by decide), ?_⟩
          split
          · refine ⟨sz_le 2 (by decide), fun p np => ⟨sz_le 1 (by decide), fun p2 np2 => ?_⟩⟩
            have w1 := same_upd (o := .tup [.int 1, .int 1]) np
            have o1 : Fq K (upd H2 p (.tup [.int 1, .int 1])) p 1 := Fq.of upd_same
            generalize upd H2 p (.tup [.int 1, .int 1]) = H3 at w1 o1 np2 ⊢
            have w2 := same_upd (o := .lst [.ref p]) np2
            have e2 : upd H3 p2 (.lst [.ref p]) p2 = some (.lst [.ref p]) := upd_same
            generalize upd H3 p2 (.lst [.ref p]) = H4 at w2 e2 ⊢
            refine ⟨NU, zs, rfl, SqL.of ((w1.trans w2) _ _ hz), fun p3 n3 => ?_⟩
            rw [cutV_one]
            have w3 := same_upd (o := .lst (zs.drop 1)) n3
            have e3 : upd H4 p3 (.lst (zs.drop 1)) p3 = some (.lst (zs.drop 1)) := upd_same
            generalize upd H4 p3 (.lst (zs.drop 1)) = H5 at w3 e3 ⊢
            refine ⟨p2, p3, _, _, rfl, rfl, w3 _ _ e2, e3, sz_le _ (by simp; omega), fun p4 n4 => ?_⟩
            have w4 := same_upd (o := .lst ([.ref p] ++ zs.drop 1)) n4
            have v5 := (w1.trans w2).trans w3
            refine hq p4 _ ([.ref p] ++ zs.drop 1) ([1] ++ g.drop 1) (sm.trans (v5.trans w4)) ((sm.trans v5).free n4) upd_same (Frs.append (Frs.cons (((o1.same w2).same w3).same w4) Frs.nil) ((fg.drop 1).same (v5.trans w4))) (by simp; omega) (good_drawn fun q hq' => ?_)
            rcases List.mem_append.mp hq' with y | y
            · rw [List.mem_singleton.mp y]
              exact (lat6_int (t := 1) (by decide) : Mt.Lat 6 54 ((1 : Int) : Rat))
            · exact wg q (List.mem_of_mem_drop y)
          · exact hq NU H2 zs g sm nN hz fg (by omega) (good_drawn wg)
      clear hN
      walk_at "rd"
      obtain ⟨m, em⟩ := Int.eq_ofNat_of_zero_le (show 0 ≤ c.fdiv 3 % 21 by omega)
      rw [em]
      split
      · rw [show 2 + 2 * ((m : Int) % 5) = ((2 + 2 * (m % 5) : Nat) : Int) by omega]
        exact ⟨.inl ⟨by decide, by decide⟩, main _ (by omega)⟩
      · exact main m (by omega)
abbrev s_law : Stmt := top 66
theorem sc_law : FnScope ["_law_script", "_law_first", "_law_numbers", "_law_handed", "_law_odd", "_law_step", "_law_found"] ["_law_script"] (defScope s_law) := ⟨rfl, rfl, rfl, by decide +kernel, rfl, by decide +kernel, by decide +kernel⟩
theorem fn_law {f : Addr} {fd : FuncData} (F : Fun K "law" "law" s_law f fd) (T : Tx w K mg C_HeightError C_NOUGHT C_NoCount C_NoFamily C_NoFraction C_NoHistory C_NoLine C_NoMeeting C_NoMoments C_NoName C_NoNumber C_NoSeries C_NoText C_NoThing C_NoWay C_NoWeights C_ONE C_TooFar C_TooHigh C_TooMany) (c__law_asked : Callee P w K mg base 7 "_law_asked" ["_law_numbers"] (spAskX K)) (c__law_list_by : Callee P w K mg base 5 "_law_list_by" ["_law_script", "_law_first"] (spListBy K)) (c__law_only : Callee P w K mg base 1 "_law_only" ["_law_at"] (spOnly)) (c__law_stands : Callee P w K mg base 10 "_law_stands" ["_law_found", "_law_numbers"] (spStands K)) : FnOk P w K mg base (CXe P w) 11 f fd ["_law_script"] (spLaw K) := by
  refine F.okE sc_law (fun vs H Q E h => ?_) (fun cdv A outer s H vs Q E hr h => ?_)
  · obtain ⟨_, _, rfl, _⟩ := h
    rfl
  · obtain ⟨a, ns, rfl, hs, hlen, hq⟩ := h
    refine ⟨_, (pss_cons (ps_forT rfl PassesOwn.never (pe_tup (pa_cons pe_int (pa_cons pe_int (pa_cons pe_int pa_nil)))) (pg_name (i := 1) sc_law.nd rfl (Or.inl rfl)) (pss_cons (ps_set (i := 2) sc_law.nd rfl (Or.inl rfl) (pe_c c__law_list_by (hr.mono (by decide)) np (pa_cons (pv 0) (pa_cons (pv 1) pa_nil)))) (pss_cons (ps_set (i := 3) sc_law.nd rfl (Or.inl rfl) (pe_callTy call_list_of (by rfl) T.b_list (by decide +kernel) (pa_cons (pv 2) pa_nil))) (pss_cons (ps_set (i := 4) sc_law.nd rfl (Or.inl rfl) (pe_or (pe_cmpR op_eq (pe_op op_mod (pe_callB call_len_seq (by rfl) T.b_len PySem.boot_len (pa_cons (pv 2) pa_nil)) pe_int) pe_int (nomark _)) (pe_or (pe_cmpR op_lt (pe_callB call_len_seq (by rfl) T.b_len PySem.boot_len (pa_cons (pv 2) pa_nil)) pe_int (nomark _)) (pe_or (pe_cmpR op_gt (pe_callB call_len_seq (by rfl) T.b_len PySem.boot_len (pa_cons (pv 2) pa_nil)) pe_int (nomark _)) (pe_one (pe_cmpR (op_neD hr.units) (pe_ix ix_list (pv 2) pe_int (fun _ _ => rfl)) (pe_tup (pa_cons pe_int (pa_cons pe_int pa_nil))) (nomark _))))))) (pss_one (ps_forR rfl PassesOwn.never T.b_range pe_int (pg_name (i := 5) sc_law.nd rfl (Or.inl rfl)) (pss_cons (ps_set (i := 6) sc_law.nd rfl (Or.inl rfl) (pe_c c__law_asked (hr.mono (by decide)) np (pa_cons (pv 3) pa_nil))) (pss_cons (ps_if (pt_cmpR (op_neD hr.units) (pv 3) (pv 2) (nomark _)) (pss_one (ps_ret pe_bl)) pss_nil) (pss_cons (ps_if (PW.pt (pw_and (pt_val (pv 4)) (pw_and1 (pt_cmpR (op_neD hr.units) (pv 6) (pe_c c__law_only (hr.mono (by decide)) np (pa_cons pe_int pa_nil)) (nomark _))))) (pss_one (ps_ret pe_bl)) pss_nil) (pss_one (ps_if (PW.pt (pw_and (pt_not (pt_val (pv 4))) (pw_and1 (pt_not (pt_val (pe_c c__law_stands (hr.mono (by decide)) np (pa_cons (pv 6) (pa_cons (pv 2) pa_nil)))))))) (pss_one (ps_ret pe_bl)) pss_nil))))))))))) (pss_one (ps_ret pe_bl))), ?_⟩
    refine tSeq_step fun N hN => ?_
    walk_at "rd"
    refine ⟨sz_le 3 (by decide), fun pt nt => ?_⟩
    have ut := same_upd (o := .tup [.int 0, .int 21, .int 42]) nt
    have et : upd H pt (.tup [.int 0, .int 21, .int 42]) pt = some (.tup [.int 0, .int 21, .int 42]) := upd_same
    generalize upd H pt (.tup [.int 0, .int 21, .int 42]) = H1 at ut et ⊢
    refine ⟨_, SqT.of et, fun _ σ H' => (∃ r1 r2 r3 r4 r5 r6, σ = [some (.ref a), r1, r2, r3, r4, r5, r6]) ∧ Same H1 H', ⟨⟨none, none, none, none, none, none, rfl⟩, Same.refl _⟩, ?_, ?_, ?_⟩
    · rintro _ σ H' _ ⟨_, s⟩
      exact SqT.of (s _ _ et)
    · rintro j x σ H2 hxj ⟨⟨r1, r2, r3, r4, r5, r6, rfl⟩, s2⟩
      obtain ⟨b, rfl, b0, b1⟩ : ∃ b : Int, x = .int b ∧ 0 ≤ b ∧ b ≤ 50 := by
        rcases j with _ | _ | _ | j
        · cases hxj; exact ⟨0, rfl, by decide, by decide⟩
        · cases hxj; exact ⟨21, rfl, by decide, by decide⟩
        · cases hxj; exact ⟨42, rfl, by decide, by decide⟩
        · simp at hxj
      refine tSeq_step fun N hN => ?_
      walk_at "rd"
      refine ⟨a, ns, b, rfl, (ut.trans s2).seq hs, b0, b1, fun NU H3 xs ms s3 nN hNU fN lN gd => hN _ _ ?_⟩
      clear hN N
      have lx := fN.len
      refine tSeq_step fun N hN => ?_
      walk_at "rd"
      refine ⟨xs, .inl (SqL.of hNU), fun HA nH => hN _ _ ?_⟩
      clear hN N
      have uH := same_upd (o := .lst xs) nH
      have hHA : upd H3 HA (.lst xs) HA = some (.lst xs) := upd_same
      generalize upd H3 HA (.lst xs) = H4 at uH hHA ⊢
      replace hNU := uH _ _ hNU
      replace fN := fN.same uH
      have s4 := (s2.trans s3).trans uH
      have dp : 1 ≤ (lstD ms).dep ∧ (lstD ms).dep ≤ 60 := by
        have := lstD_dep ms
        omega
      refine tSeq_step fun N hN => ?_
      have go : ∀ bb H5, Same H4 H5 → (bb = true ↔ odd26 ms) → N [some (.ref a), some (.int b), some (.ref NU), some (.ref HA), some (.bl bb), r5, r6] H5 := by
        intro bb H5 s5 hb
        refine hN _ _ ?_
        clear hN N
        walk_at "rd"
        refine ⟨fun _ σ H' => ∃ r5 r6, σ = [some (.ref a), some (.int b), some (.ref NU), some (.ref HA), some (.bl bb), r5, r6] ∧ Same H4 H', ⟨r5, r6, rfl, s5⟩, ?_, ?_⟩
        · rintro i σ H6 hi ⟨r5, r6, rfl, s6⟩
          refine tSeq_step fun N hN => ?_
          have next : ∀ r H7, Same H4 H7 → (odd26 ms ∧ H7 r = some (.lst ((oneHot 7).map V.bl)) ∨ ¬ odd26 ms ∧ ∃ k, ms.length = 2 * k + 2 ∧ k ≤ 7 ∧ Bt ms k ∧ Told K H7 r ms k) → N [some (.ref a), some (.int b), some (.ref NU), some (.ref HA), some (.bl bb), some (.int i), some (.ref r)] H7 := by
            intro r H7 s7 hr
            refine hN _ _ ?_
            clear hN N
            refine tSeq_step fun N hN => ?_
            walk_at "rd"
            refine neD_same _ (rep_lst (s7 _ _ hHA) (fN.same s7)) (rep_lst (s7 _ _ hNU) (fN.same s7)) dp.1 dp.2 (.inl ⟨rfl, hN _ _ ?_⟩)
            clear hN N
            refine tSeq_step fun N hN => ?_
            walk_at "rd"
            rcases hr with ⟨od, hl⟩ | ⟨nod, k, lm, hk, bt, td⟩
            · obtain rfl : bb = true := hb.mpr od
              refine .inr ⟨rfl, 7, rfl, by decide, fun l2 H8 s8 n8 h8 => neD_bools (s8 _ _ hl) h8 (.inl ⟨rfl, hN _ _ ?_⟩)⟩
              clear hN N
              walk_at "rd"
              exact s7.trans s8
            · obtain rfl : bb = false := by
                cases bb
                · rfl
                · exact absurd (hb.mp rfl) nod
              refine .inl ⟨rfl, hN _ _ ?_⟩
              clear hN N
              walk_at "rd"
              exact ⟨r, NU, xs, ms, k, rfl, s7 _ _ hNU, fN.same s7, lm, hk, bt, td, fun H8 s8 => .inr ⟨rfl, s7.trans s8⟩⟩
          clear hN
          walk_at "rd"
          refine ⟨HA, xs, ms, rfl, SqL.of (s6 _ _ hHA), fN.same s6, by omega, fun od l H7 s7 hl => next l H7 (s6.trans s7) (.inl ⟨od, hl⟩), fun nod => ?_⟩
          obtain ⟨k, lm, hk, m0, bt⟩ := gd nod
          exact ⟨k, lm, hk, m0, bt.bs, fun L D h1 h2 h3 h4 h5 r a b H7 s7 h6 h7 h8 => next r H7 (s6.trans s7) (.inr ⟨nod, k, lm, hk, bt, .inl ⟨L, D, a, b, h1, h2, h3, h4, h5, h6, h7, h8⟩⟩), fun p i h1 h2 h3 r a H7 s7 h4 h5 => next r H7 (s6.trans s7) (.inr ⟨nod, k, lm, hk, bt, .inr ⟨p, i, a, h1, h2, h3, h4, h5⟩⟩)⟩
        · rintro σ H6 ⟨r5, r6, rfl, s6⟩
          exact ⟨⟨_, _, _, _, _, _, rfl⟩, s4.trans s6⟩
      clear hN
      walk_at "rd"
      refine ⟨xs, .inl (SqL.of hNU), ?_⟩
      split
      · rename_i z
        exact go true H4 (Same.refl _) ⟨fun _ => .inl (by omega), fun _ => rfl⟩
      rename_i z1
      refine ⟨xs, .inl (SqL.of hNU), ?_⟩
      split
      · rename_i z
        exact go true H4 (Same.refl _) ⟨fun _ => .inr (.inl (by omega)), fun _ => rfl⟩
      rename_i z2
      refine ⟨xs, .inl (SqL.of hNU), ?_⟩
      split
      · rename_i z
        exact go true H4 (Same.refl _) ⟨fun _ => .inr (.inr (.inl (by omega))), fun _ => rfl⟩
      rename_i z3
      obtain ⟨q0, e0, f0⟩ := fN.at (j := 0) (by omega)
      refine ⟨xs, SqL.of hNU, _, atI_nat e0, sz_le 2 (by decide), fun p np => ?_⟩
      have up := same_upd (o := .tup [.int 1, .int 1]) np
      refine fr_cmp (rep_fr (f0.same up)) (rep_fr (Fq.of (q := 1) upd_same)) (go _ _ up ?_)
      by_cases y : Mt.cf ms 0 = 1
      · simp [y]
        rintro (o | o | o | o)
        · omega
        · omega
        · omega
        · exact o y
      · simp [y]
        exact .inr (.inr (.inr y))
    · rintro σ H2 ⟨⟨r1, r2, r3, r4, r5, r6, rfl⟩, s2⟩
      refine hN _ _ ?_
      clear hN N
      walk_at "rd"
      exact hq _
end
theorem all_mk {l : PySem.W.OpenLaw} {w : World} {K : PySem.W.Frag} {h : Heap} {mg : Str → Option Value} {fa : Addr} {f_shared_part : Addr} {od_shared_part an_shared_part : Option Addr} {sl_shared_part : Array (Option Value)} {oc_shared_part kV_shared_part dc_shared_part pm_shared_part cd_shared_part ct_shared_part : Value} {f_plus : Addr} {od_plus an_plus : Option Addr} {sl_plus : Array (Option Value)} {oc_plus kV_plus dc_plus pm_plus cd_plus ct_plus : Value} {f_minus : Addr} {od_minus an_minus : Option Addr} {sl_minus : Array (Option Value)} {oc_minus kV_minus dc_minus pm_minus cd_minus ct_minus : Value} {f_times : Addr} {od_times an_times : Option Addr} {sl_times : Array (Option Value)} {oc_times kV_times dc_times pm_times cd_times ct_times : Value} {f_over : Addr} {od_over an_over : Option Addr} {sl_over : Array (Option Value)} {oc_over kV_over dc_over pm_over cd_over ct_over : Value} {f_poly_of : Addr} {od_poly_of an_poly_of : Option Addr} {sl_poly_of : Array (Option Value)} {oc_poly_of kV_poly_of dc_poly_of pm_poly_of cd_poly_of ct_poly_of : Value} {f_number_at : Addr} {od_number_at an_number_at : Option Addr} {sl_number_at : Array (Option Value)} {oc_number_at kV_number_at dc_number_at pm_number_at cd_number_at ct_number_at : Value} {f_poly_plus : Addr} {od_poly_plus an_poly_plus : Option Addr} {sl_poly_plus : Array (Option Value)} {oc_poly_plus kV_poly_plus dc_poly_plus pm_poly_plus cd_poly_plus ct_poly_plus : Value} {f_poly_scaled : Addr} {od_poly_scaled an_poly_scaled : Option Addr} {sl_poly_scaled : Array (Option Value)} {oc_poly_scaled kV_poly_scaled dc_poly_scaled pm_poly_scaled cd_poly_scaled ct_poly_scaled : Value} {f_poly_minus : Addr} {od_poly_minus an_poly_minus : Option Addr} {sl_poly_minus : Array (Option Value)} {oc_poly_minus kV_poly_minus dc_poly_minus pm_poly_minus cd_poly_minus ct_poly_minus : Value} {f_poly_times : Addr} {od_poly_times an_poly_times : Option Addr} {sl_poly_times : Array (Option Value)} {oc_poly_times kV_poly_times dc_poly_times pm_poly_times cd_poly_times ct_poly_times : Value} {f_degree_of : Addr} {od_degree_of an_degree_of : Option Addr} {sl_degree_of : Array (Option Value)} {oc_degree_of kV_degree_of dc_degree_of pm_degree_of cd_degree_of ct_degree_of : Value} {f_one_further : Addr} {od_one_further an_one_further : Option Addr} {sl_one_further : Array (Option Value)} {oc_one_further kV_one_further dc_one_further pm_one_further cd_one_further ct_one_further : Value} {f_ruled : Addr} {od_ruled an_ruled : Option Addr} {sl_ruled : Array (Option Value)} {oc_ruled kV_ruled dc_ruled pm_ruled cd_ruled ct_ruled : Value} {f_check_moments : Addr} {od_check_moments an_check_moments : Option Addr} {sl_check_moments : Array (Option Value)} {oc_check_moments kV_check_moments dc_check_moments pm_check_moments cd_check_moments ct_check_moments : Value} {f_weights_back : Addr} {od_weights_back an_weights_back : Option Addr} {sl_weights_back : Array (Option Value)} {oc_weights_back kV_weights_back dc_weights_back pm_weights_back cd_weights_back ct_weights_back : Value} {f__law_cell_at : Addr} {od__law_cell_at an__law_cell_at : Option Addr} {sl__law_cell_at : Array (Option Value)} {oc__law_cell_at kV__law_cell_at dc__law_cell_at pm__law_cell_at cd__law_cell_at ct__law_cell_at : Value} {f__law_stir : Addr} {od__law_stir an__law_stir : Option Addr} {sl__law_stir : Array (Option Value)} {oc__law_stir kV__law_stir dc__law_stir pm__law_stir cd__law_stir ct__law_stir : Value} {f__law_drawn : Addr} {od__law_drawn an__law_drawn : Option Addr} {sl__law_drawn : Array (Option Value)} {oc__law_drawn kV__law_drawn dc__law_drawn pm__law_drawn cd__law_drawn ct__law_drawn : Value} {f__law_whole : Addr} {od__law_whole an__law_whole : Option Addr} {sl__law_whole : Array (Option Value)} {oc__law_whole kV__law_whole dc__law_whole pm__law_whole cd__law_whole ct__law_whole : Value} {f__law_divisor : Addr} {od__law_divisor an__law_divisor : Option Addr} {sl__law_divisor : Array (Option Value)} {oc__law_divisor kV__law_divisor dc__law_divisor pm__law_divisor cd__law_divisor ct__law_divisor : Value} {f__law_low : Addr} {od__law_low an__law_low : Option Addr} {sl__law_low : Array (Option Value)} {oc__law_low kV__law_low dc__law_low pm__law_low cd__law_low ct__law_low : Value} {f__law_add : Addr} {od__law_add an__law_add : Option Addr} {sl__law_add : Array (Option Value)} {oc__law_add kV__law_add dc__law_add pm__law_add cd__law_add ct__law_add : Value} {f__law_mul : Addr} {od__law_mul an__law_mul : Option Addr} {sl__law_mul : Array (Option Value)} {oc__law_mul kV__law_mul dc__law_mul pm__law_mul cd__law_mul ct__law_mul : Value} {f__law_is_fraction : Addr} {od__law_is_fraction an__law_is_fraction : Option Addr} {sl__law_is_fraction : Array (Option Value)} {oc__law_is_fraction kV__law_is_fraction dc__law_is_fraction pm__law_is_fraction cd__law_is_fraction ct__law_is_fraction : Value} {f__law_are_fractions : Addr} {od__law_are_fractions an__law_are_fractions : Option Addr} {sl__law_are_fractions : Array (Option Value)} {oc__law_are_fractions kV__law_are_fractions dc__law_are_fractions pm__law_are_fractions cd__law_are_fractions ct__law_are_fractions : Value} {f__law_marks : Addr} {od__law_marks an__law_marks : Option Addr} {sl__law_marks : Array (Option Value)} {oc__law_marks kV__law_marks dc__law_marks pm__law_marks cd__law_marks ct__law_marks : Value} {f__law_only : Addr} {od__law_only an__law_only : Option Addr} {sl__law_only : Array (Option Value)} {oc__law_only kV__law_only dc__law_only pm__law_only cd__law_only ct__law_only : Value} {f__law_weight_by : Addr} {od__law_weight_by an__law_weight_by : Option Addr} {sl__law_weight_by : Array (Option Value)} {oc__law_weight_by kV__law_weight_by dc__law_weight_by pm__law_weight_by cd__law_weight_by ct__law_weight_by : Value} {f__law_weights_by : Addr} {od__law_weights_by an__law_weights_by : Option Addr} {sl__law_weights_by : Array (Option Value)} {oc__law_weights_by kV__law_weights_by dc__law_weights_by pm__law_weights_by cd__law_weights_by ct__law_weights_by : Value} {f__law_moments_by : Addr} {od__law_moments_by an__law_moments_by : Option Addr} {sl__law_moments_by : Array (Option Value)} {oc__law_moments_by kV__law_moments_by dc__law_moments_by pm__law_moments_by cd__law_moments_by ct__law_moments_by : Value} {f__law_measure_by : Addr} {od__law_measure_by an__law_measure_by : Option Addr} {sl__law_measure_by : Array (Option Value)} {oc__law_measure_by kV__law_measure_by dc__law_measure_by pm__law_measure_by cd__law_measure_by ct__law_measure_by : Value} {f__law_table_of : Addr} {od__law_table_of an__law_table_of : Option Addr} {sl__law_table_of : Array (Option Value)} {oc__law_table_of kV__law_table_of dc__law_table_of pm__law_table_of cd__law_table_of ct__law_table_of : Value} {f__law_told_weights : Addr} {od__law_told_weights an__law_told_weights : Option Addr} {sl__law_told_weights : Array (Option Value)} {oc__law_told_weights kV__law_told_weights dc__law_told_weights pm__law_told_weights cd__law_told_weights ct__law_told_weights : Value} {f__law_bars : Addr} {od__law_bars an__law_bars : Option Addr} {sl__law_bars : Array (Option Value)} {oc__law_bars kV__law_bars dc__law_bars pm__law_bars cd__law_bars ct__law_bars : Value} {f__law_asked : Addr} {od__law_asked an__law_asked : Option Addr} {sl__law_asked : Array (Option Value)} {oc__law_asked kV__law_asked dc__law_asked pm__law_asked cd__law_asked ct__law_asked : Value} {f__law_stands : Addr} {od__law_stands an__law_stands : Option Addr} {sl__law_stands : Array (Option Value)} {oc__law_stands kV__law_stands dc__law_stands pm__law_stands cd__law_stands ct__law_stands : Value} {f__law_list_by : Addr} {od__law_list_by an__law_list_by : Option Addr} {sl__law_list_by : Array (Option Value)} {oc__law_list_by kV__law_list_by dc__law_list_by pm__law_list_by cd__law_list_by ct__law_list_by : Value} {f_law : Addr} {od_law an_law : Option Addr} {sl_law : Array (Option Value)} {oc_law kV_law dc_law pm_law cd_law ct_law : Value} {C_HeightError : Addr} {C_NOUGHT : Addr} {C_NoCount : Addr} {C_NoFamily : Addr} {C_NoFraction : Addr} {C_NoHistory : Addr} {C_NoLine : Addr} {C_NoMeeting : Addr} {C_NoMoments : Addr} {C_NoName : Addr} {C_NoNumber : Addr} {C_NoSeries : Addr} {C_NoText : Addr} {C_NoThing : Addr} {C_NoWay : Addr} {C_NoWeights : Addr} {C_ONE : Addr} {C_TooFar : Addr} {C_TooHigh : Addr} {C_TooMany : Addr} {tk_MOST_MOMENTS : Tok} (X : K.In h) (G : h.Ns mainGlobals mg) (hfa : mg "law" = some (.ref fa))
    (a_shared_part : PySem.W.nsIn K mainGlobals "shared_part" = some (some (.ref f_shared_part)))
    (l_shared_part : K.lookup f_shared_part = some ⟨oc_shared_part, od_shared_part, .func (PySem.W.fnOf "shared_part" "shared_part" (defArgs s_shared_part) (defBody s_shared_part) (defScope s_shared_part) .none kV_shared_part dc_shared_part pm_shared_part an_shared_part cd_shared_part ct_shared_part), sl_shared_part⟩)
    (e_shared_part : PySem.W.codeIn K cd_shared_part "shared_part" = true)
    (k_shared_part : PySem.W.keepIn K (.ref f_shared_part) = true)
    (a_plus : PySem.W.nsIn K mainGlobals "plus" = some (some (.ref f_plus)))
    (l_plus : K.lookup f_plus = some ⟨oc_plus, od_plus, .func (PySem.W.fnOf "plus" "plus" (defArgs s_plus) (defBody s_plus) (defScope s_plus) .none kV_plus dc_plus pm_plus an_plus cd_plus ct_plus), sl_plus⟩)
    (e_plus : PySem.W.codeIn K cd_plus "plus" = true)
    (k_plus : PySem.W.keepIn K (.ref f_plus) = true)
    (a_minus : PySem.W.nsIn K mainGlobals "minus" = some (some (.ref f_minus)))
    (l_minus : K.lookup f_minus = some ⟨oc_minus, od_minus, .func (PySem.W.fnOf "minus" "minus" (defArgs s_minus) (defBody s_minus) (defScope s_minus) .none kV_minus dc_minus pm_minus an_minus cd_minus ct_minus), sl_minus⟩)
    (e_minus : PySem.W.codeIn K cd_minus "minus" = true)
    (k_minus : PySem.W.keepIn K (.ref f_minus) = true)
    (a_times : PySem.W.nsIn K mainGlobals "times" = some (some (.ref f_times)))
    (l_times : K.lookup f_times = some ⟨oc_times, od_times, .func (PySem.W.fnOf "times" "times" (defArgs s_times) (defBody s_times) (defScope s_times) .none kV_times dc_times pm_times an_times cd_times ct_times), sl_times⟩)
    (e_times : PySem.W.codeIn K cd_times "times" = true)
    (k_times : PySem.W.keepIn K (.ref f_times) = true)
    (a_over : PySem.W.nsIn K mainGlobals "over" = some (some (.ref f_over)))
    (l_over : K.lookup f_over = some ⟨oc_over, od_over, .func (PySem.W.fnOf "over" "over" (defArgs s_over) (defBody s_over) (defScope s_over) .none kV_over dc_over pm_over an_over cd_over ct_over), sl_over⟩)
    (e_over : PySem.W.codeIn K cd_over "over" = true)
    (k_over : PySem.W.keepIn K (.ref f_over) = true)
    (a_poly_of : PySem.W.nsIn K mainGlobals "poly_of" = some (some (.ref f_poly_of)))
    (l_poly_of : K.lookup f_poly_of = some ⟨oc_poly_of, od_poly_of, .func (PySem.W.fnOf "poly_of" "poly_of" (defArgs s_poly_of) (defBody s_poly_of) (defScope s_poly_of) .none kV_poly_of dc_poly_of pm_poly_of an_poly_of cd_poly_of ct_poly_of), sl_poly_of⟩)
    (e_poly_of : PySem.W.codeIn K cd_poly_of "poly_of" = true)
    (k_poly_of : PySem.W.keepIn K (.ref f_poly_of) = true)
    (a_number_at : PySem.W.nsIn K mainGlobals "number_at" = some (some (.ref f_number_at)))
    (l_number_at : K.lookup f_number_at = some ⟨oc_number_at, od_number_at, .func (PySem.W.fnOf "number_at" "number_at" (defArgs s_number_at) (defBody s_number_at) (defScope s_number_at) .none kV_number_at dc_number_at pm_number_at an_number_at cd_number_at ct_number_at), sl_number_at⟩)
    (e_number_at : PySem.W.codeIn K cd_number_at "number_at" = true)
    (k_number_at : PySem.W.keepIn K (.ref f_number_at) = true)
    (a_poly_plus : PySem.W.nsIn K mainGlobals "poly_plus" = some (some (.ref f_poly_plus)))
    (l_poly_plus : K.lookup f_poly_plus = some ⟨oc_poly_plus, od_poly_plus, .func (PySem.W.fnOf "poly_plus" "poly_plus" (defArgs s_poly_plus) (defBody s_poly_plus) (defScope s_poly_plus) .none kV_poly_plus dc_poly_plus pm_poly_plus an_poly_plus cd_poly_plus ct_poly_plus), sl_poly_plus⟩)
    (e_poly_plus : PySem.W.codeIn K cd_poly_plus "poly_plus" = true)
    (k_poly_plus : PySem.W.keepIn K (.ref f_poly_plus) = true)
    (a_poly_scaled : PySem.W.nsIn K mainGlobals "poly_scaled" = some (some (.ref f_poly_scaled)))
    (l_poly_scaled : K.lookup f_poly_scaled = some ⟨oc_poly_scaled, od_poly_scaled, .func (PySem.W.fnOf "poly_scaled" "poly_scaled" (defArgs s_poly_scaled) (defBody s_poly_scaled) (defScope s_poly_scaled) .none kV_poly_scaled dc_poly_scaled pm_poly_scaled an_poly_scaled cd_poly_scaled ct_poly_scaled), sl_poly_scaled⟩)
    (e_poly_scaled : PySem.W.codeIn K cd_poly_scaled "poly_scaled" = true)
    (k_poly_scaled : PySem.W.keepIn K (.ref f_poly_scaled) = true)
    (a_poly_minus : PySem.W.nsIn K mainGlobals "poly_minus" = some (some (.ref f_poly_minus)))
    (l_poly_minus : K.lookup f_poly_minus = some ⟨oc_poly_minus, od_poly_minus, .func (PySem.W.fnOf "poly_minus" "poly_minus" (defArgs s_poly_minus) (defBody s_poly_minus) (defScope s_poly_minus) .none kV_poly_minus dc_poly_minus pm_poly_minus an_poly_minus cd_poly_minus ct_poly_minus), sl_poly_minus⟩)
    (e_poly_minus : PySem.W.codeIn K cd_poly_minus "poly_minus" = true)
    (k_poly_minus : PySem.W.keepIn K (.ref f_poly_minus) = true)
    (a_poly_times : PySem.W.nsIn K mainGlobals "poly_times" = some (some (.ref f_poly_times)))
    (l_poly_times : K.lookup f_poly_times = some ⟨oc_poly_times, od_poly_times, .func (PySem.W.fnOf "poly_times" "poly_times" (defArgs s_poly_times) (defBody s_poly_times) (defScope s_poly_times) .none kV_poly_times dc_poly_times pm_poly_times an_poly_times cd_poly_times ct_poly_times), sl_poly_times⟩)
    (e_poly_times : PySem.W.codeIn K cd_poly_times "poly_times" = true)
    (k_poly_times : PySem.W.keepIn K (.ref f_poly_times) = true)
    (a_degree_of : PySem.W.nsIn K mainGlobals "degree_of" = some (some (.ref f_degree_of)))
    (l_degree_of : K.lookup f_degree_of = some ⟨oc_degree_of, od_degree_of, .func (PySem.W.fnOf "degree_of" "degree_of" (defArgs s_degree_of) (defBody s_degree_of) (defScope s_degree_of) .none kV_degree_of dc_degree_of pm_degree_of an_degree_of cd_degree_of ct_degree_of), sl_degree_of⟩)
    (e_degree_of : PySem.W.codeIn K cd_degree_of "degree_of" = true)
    (k_degree_of : PySem.W.keepIn K (.ref f_degree_of) = true)
    (a_one_further : PySem.W.nsIn K mainGlobals "one_further" = some (some (.ref f_one_further)))
    (l_one_further : K.lookup f_one_further = some ⟨oc_one_further, od_one_further, .func (PySem.W.fnOf "one_further" "one_further" (defArgs s_one_further) (defBody s_one_further) (defScope s_one_further) .none kV_one_further dc_one_further pm_one_further an_one_further cd_one_further ct_one_further), sl_one_further⟩)
    (e_one_further : PySem.W.codeIn K cd_one_further "one_further" = true)
    (k_one_further : PySem.W.keepIn K (.ref f_one_further) = true)
    (a_ruled : PySem.W.nsIn K mainGlobals "ruled" = some (some (.ref f_ruled)))
    (l_ruled : K.lookup f_ruled = some ⟨oc_ruled, od_ruled, .func (PySem.W.fnOf "ruled" "ruled" (defArgs s_ruled) (defBody s_ruled) (defScope s_ruled) .none kV_ruled dc_ruled pm_ruled an_ruled cd_ruled ct_ruled), sl_ruled⟩)
    (e_ruled : PySem.W.codeIn K cd_ruled "ruled" = true)
    (k_ruled : PySem.W.keepIn K (.ref f_ruled) = true)
    (a_check_moments : PySem.W.nsIn K mainGlobals "check_moments" = some (some (.ref f_check_moments)))
    (l_check_moments : K.lookup f_check_moments = some ⟨oc_check_moments, od_check_moments, .func (PySem.W.fnOf "check_moments" "check_moments" (defArgs s_check_moments) (defBody s_check_moments) (defScope s_check_moments) .none kV_check_moments dc_check_moments pm_check_moments an_check_moments cd_check_moments ct_check_moments), sl_check_moments⟩)
    (e_check_moments : PySem.W.codeIn K cd_check_moments "check_moments" = true)
    (k_check_moments : PySem.W.keepIn K (.ref f_check_moments) = true)
    (a_weights_back : PySem.W.nsIn K mainGlobals "weights_back" = some (some (.ref f_weights_back)))
    (l_weights_back : K.lookup f_weights_back = some ⟨oc_weights_back, od_weights_back, .func (PySem.W.fnOf "weights_back" "weights_back" (defArgs s_weights_back) (defBody s_weights_back) (defScope s_weights_back) .none kV_weights_back dc_weights_back pm_weights_back an_weights_back cd_weights_back ct_weights_back), sl_weights_back⟩)
    (e_weights_back : PySem.W.codeIn K cd_weights_back "weights_back" = true)
    (k_weights_back : PySem.W.keepIn K (.ref f_weights_back) = true)
    (a__law_cell_at : PySem.W.nsIn K mainGlobals "_law_cell_at" = some (some (.ref f__law_cell_at)))
    (l__law_cell_at : K.lookup f__law_cell_at = some ⟨oc__law_cell_at, od__law_cell_at, .func (PySem.W.fnOf "_law_cell_at" "_law_cell_at" (defArgs s__law_cell_at) (defBody s__law_cell_at) (defScope s__law_cell_at) .none kV__law_cell_at dc__law_cell_at pm__law_cell_at an__law_cell_at cd__law_cell_at ct__law_cell_at), sl__law_cell_at⟩)
    (e__law_cell_at : PySem.W.codeIn K cd__law_cell_at "_law_cell_at" = true)
    (k__law_cell_at : PySem.W.keepIn K (.ref f__law_cell_at) = true)
    (a__law_stir : PySem.W.nsIn K mainGlobals "_law_stir" = some (some (.ref f__law_stir)))
    (l__law_stir : K.lookup f__law_stir = some ⟨oc__law_stir, od__law_stir, .func (PySem.W.fnOf "_law_stir" "_law_stir" (defArgs s__law_stir) (defBody s__law_stir) (defScope s__law_stir) .none kV__law_stir dc__law_stir pm__law_stir an__law_stir cd__law_stir ct__law_stir), sl__law_stir⟩)
    (e__law_stir : PySem.W.codeIn K cd__law_stir "_law_stir" = true)
    (k__law_stir : PySem.W.keepIn K (.ref f__law_stir) = true)
    (a__law_drawn : PySem.W.nsIn K mainGlobals "_law_drawn" = some (some (.ref f__law_drawn)))
    (l__law_drawn : K.lookup f__law_drawn = some ⟨oc__law_drawn, od__law_drawn, .func (PySem.W.fnOf "_law_drawn" "_law_drawn" (defArgs s__law_drawn) (defBody s__law_drawn) (defScope s__law_drawn) .none kV__law_drawn dc__law_drawn pm__law_drawn an__law_drawn cd__law_drawn ct__law_drawn), sl__law_drawn⟩)
    (e__law_drawn : PySem.W.codeIn K cd__law_drawn "_law_drawn" = true)
    (k__law_drawn : PySem.W.keepIn K (.ref f__law_drawn) = true)
    (a__law_whole : PySem.W.nsIn K mainGlobals "_law_whole" = some (some (.ref f__law_whole)))
    (l__law_whole : K.lookup f__law_whole = some ⟨oc__law_whole, od__law_whole, .func (PySem.W.fnOf "_law_whole" "_law_whole" (defArgs s__law_whole) (defBody s__law_whole) (defScope s__law_whole) .none kV__law_whole dc__law_whole pm__law_whole an__law_whole cd__law_whole ct__law_whole), sl__law_whole⟩)
    (e__law_whole : PySem.W.codeIn K cd__law_whole "_law_whole" = true)
    (k__law_whole : PySem.W.keepIn K (.ref f__law_whole) = true)
    (a__law_divisor : PySem.W.nsIn K mainGlobals "_law_divisor" = some (some (.ref f__law_divisor)))
    (l__law_divisor : K.lookup f__law_divisor = some ⟨oc__law_divisor, od__law_divisor, .func (PySem.W.fnOf "_law_divisor" "_law_divisor" (defArgs s__law_divisor) (defBody s__law_divisor) (defScope s__law_divisor) .none kV__law_divisor dc__law_divisor pm__law_divisor an__law_divisor cd__law_divisor ct__law_divisor), sl__law_divisor⟩)
    (e__law_divisor : PySem.W.codeIn K cd__law_divisor "_law_divisor" = true)
    (k__law_divisor : PySem.W.keepIn K (.ref f__law_divisor) = true)
    (a__law_low : PySem.W.nsIn K mainGlobals "_law_low" = some (some (.ref f__law_low)))
    (l__law_low : K.lookup f__law_low = some ⟨oc__law_low, od__law_low, .func (PySem.W.fnOf "_law_low" "_law_low" (defArgs s__law_low) (defBody s__law_low) (defScope s__law_low) .none kV__law_low dc__law_low pm__law_low an__law_low cd__law_low ct__law_low), sl__law_low⟩)
    (e__law_low : PySem.W.codeIn K cd__law_low "_law_low" = true)
    (k__law_low : PySem.W.keepIn K (.ref f__law_low) = true)
    (a__law_add : PySem.W.nsIn K mainGlobals "_law_add" = some (some (.ref f__law_add)))
    (l__law_add : K.lookup f__law_add = some ⟨oc__law_add, od__law_add, .func (PySem.W.fnOf "_law_add" "_law_add" (defArgs s__law_add) (defBody s__law_add) (defScope s__law_add) .none kV__law_add dc__law_add pm__law_add an__law_add cd__law_add ct__law_add), sl__law_add⟩)
    (e__law_add : PySem.W.codeIn K cd__law_add "_law_add" = true)
    (k__law_add : PySem.W.keepIn K (.ref f__law_add) = true)
    (a__law_mul : PySem.W.nsIn K mainGlobals "_law_mul" = some (some (.ref f__law_mul)))
    (l__law_mul : K.lookup f__law_mul = some ⟨oc__law_mul, od__law_mul, .func (PySem.W.fnOf "_law_mul" "_law_mul" (defArgs s__law_mul) (defBody s__law_mul) (defScope s__law_mul) .none kV__law_mul dc__law_mul pm__law_mul an__law_mul cd__law_mul ct__law_mul), sl__law_mul⟩)
    (e__law_mul : PySem.W.codeIn K cd__law_mul "_law_mul" = true)
    (k__law_mul : PySem.W.keepIn K (.ref f__law_mul) = true)
    (a__law_is_fraction : PySem.W.nsIn K mainGlobals "_law_is_fraction" = some (some (.ref f__law_is_fraction)))
    (l__law_is_fraction : K.lookup f__law_is_fraction = some ⟨oc__law_is_fraction, od__law_is_fraction, .func (PySem.W.fnOf "_law_is_fraction" "_law_is_fraction" (defArgs s__law_is_fraction) (defBody s__law_is_fraction) (defScope s__law_is_fraction) .none kV__law_is_fraction dc__law_is_fraction pm__law_is_fraction an__law_is_fraction cd__law_is_fraction ct__law_is_fraction), sl__law_is_fraction⟩)
    (e__law_is_fraction : PySem.W.codeIn K cd__law_is_fraction "_law_is_fraction" = true)
    (k__law_is_fraction : PySem.W.keepIn K (.ref f__law_is_fraction) = true)
    (a__law_are_fractions : PySem.W.nsIn K mainGlobals "_law_are_fractions" = some (some (.ref f__law_are_fractions)))
    (l__law_are_fractions : K.lookup f__law_are_fractions = some ⟨oc__law_are_fractions, od__law_are_fractions, .func (PySem.W.fnOf "_law_are_fractions" "_law_are_fractions" (defArgs s__law_are_fractions) (defBody s__law_are_fractions) (defScope s__law_are_fractions) .none kV__law_are_fractions dc__law_are_fractions pm__law_are_fractions an__law_are_fractions cd__law_are_fractions ct__law_are_fractions), sl__law_are_fractions⟩)
    (e__law_are_fractions : PySem.W.codeIn K cd__law_are_fractions "_law_are_fractions" = true)
    (k__law_are_fractions : PySem.W.keepIn K (.ref f__law_are_fractions) = true)
    (a__law_marks : PySem.W.nsIn K mainGlobals "_law_marks" = some (some (.ref f__law_marks)))
    (l__law_marks : K.lookup f__law_marks = some ⟨oc__law_marks, od__law_marks, .func (PySem.W.fnOf "_law_marks" "_law_marks" (defArgs s__law_marks) (defBody s__law_marks) (defScope s__law_marks) .none kV__law_marks dc__law_marks pm__law_marks an__law_marks cd__law_marks ct__law_marks), sl__law_marks⟩)
    (e__law_marks : PySem.W.codeIn K cd__law_marks "_law_marks" = true)
    (k__law_marks : PySem.W.keepIn K (.ref f__law_marks) = true)
    (a__law_only : PySem.W.nsIn K mainGlobals "_law_only" = some (some (.ref f__law_only)))
    (l__law_only : K.lookup f__law_only = some ⟨oc__law_only, od__law_only, .func (PySem.W.fnOf "_law_only" "_law_only" (defArgs s__law_only) (defBody s__law_only) (defScope s__law_only) .none kV__law_only dc__law_only pm__law_only an__law_only cd__law_only ct__law_only), sl__law_only⟩)
    (e__law_only : PySem.W.codeIn K cd__law_only "_law_only" = true)
    (k__law_only : PySem.W.keepIn K (.ref f__law_only) = true)
    (a__law_weight_by : PySem.W.nsIn K mainGlobals "_law_weight_by" = some (some (.ref f__law_weight_by)))
    (l__law_weight_by : K.lookup f__law_weight_by = some ⟨oc__law_weight_by, od__law_weight_by, .func (PySem.W.fnOf "_law_weight_by" "_law_weight_by" (defArgs s__law_weight_by) (defBody s__law_weight_by) (defScope s__law_weight_by) .none kV__law_weight_by dc__law_weight_by pm__law_weight_by an__law_weight_by cd__law_weight_by ct__law_weight_by), sl__law_weight_by⟩)
    (e__law_weight_by : PySem.W.codeIn K cd__law_weight_by "_law_weight_by" = true)
    (k__law_weight_by : PySem.W.keepIn K (.ref f__law_weight_by) = true)
    (a__law_weights_by : PySem.W.nsIn K mainGlobals "_law_weights_by" = some (some (.ref f__law_weights_by)))
    (l__law_weights_by : K.lookup f__law_weights_by = some ⟨oc__law_weights_by, od__law_weights_by, .func (PySem.W.fnOf "_law_weights_by" "_law_weights_by" (defArgs s__law_weights_by) (defBody s__law_weights_by) (defScope s__law_weights_by) .none kV__law_weights_by dc__law_weights_by pm__law_weights_by an__law_weights_by cd__law_weights_by ct__law_weights_by), sl__law_weights_by⟩)
    (e__law_weights_by : PySem.W.codeIn K cd__law_weights_by "_law_weights_by" = true)
    (k__law_weights_by : PySem.W.keepIn K (.ref f__law_weights_by) = true)
    (a__law_moments_by : PySem.W.nsIn K mainGlobals "_law_moments_by" = some (some (.ref f__law_moments_by)))
    (l__law_moments_by : K.lookup f__law_moments_by = some ⟨oc__law_moments_by, od__law_moments_by, .func (PySem.W.fnOf "_law_moments_by" "_law_moments_by" (defArgs s__law_moments_by) (defBody s__law_moments_by) (defScope s__law_moments_by) .none kV__law_moments_by dc__law_moments_by pm__law_moments_by an__law_moments_by cd__law_moments_by ct__law_moments_by), sl__law_moments_by⟩)
    (e__law_moments_by : PySem.W.codeIn K cd__law_moments_by "_law_moments_by" = true)
    (k__law_moments_by : PySem.W.keepIn K (.ref f__law_moments_by) = true)
    (a__law_measure_by : PySem.W.nsIn K mainGlobals "_law_measure_by" = some (some (.ref f__law_measure_by)))
    (l__law_measure_by : K.lookup f__law_measure_by = some ⟨oc__law_measure_by, od__law_measure_by, .func (PySem.W.fnOf "_law_measure_by" "_law_measure_by" (defArgs s__law_measure_by) (defBody s__law_measure_by) (defScope s__law_measure_by) .none kV__law_measure_by dc__law_measure_by pm__law_measure_by an__law_measure_by cd__law_measure_by ct__law_measure_by), sl__law_measure_by⟩)
    (e__law_measure_by : PySem.W.codeIn K cd__law_measure_by "_law_measure_by" = true)
    (k__law_measure_by : PySem.W.keepIn K (.ref f__law_measure_by) = true)
    (a__law_table_of : PySem.W.nsIn K mainGlobals "_law_table_of" = some (some (.ref f__law_table_of)))
    (l__law_table_of : K.lookup f__law_table_of = some ⟨oc__law_table_of, od__law_table_of, .func (PySem.W.fnOf "_law_table_of" "_law_table_of" (defArgs s__law_table_of) (defBody s__law_table_of) (defScope s__law_table_of) .none kV__law_table_of dc__law_table_of pm__law_table_of an__law_table_of cd__law_table_of ct__law_table_of), sl__law_table_of⟩)
    (e__law_table_of : PySem.W.codeIn K cd__law_table_of "_law_table_of" = true)
    (k__law_table_of : PySem.W.keepIn K (.ref f__law_table_of) = true)
    (a__law_told_weights : PySem.W.nsIn K mainGlobals "_law_told_weights" = some (some (.ref f__law_told_weights)))
    (l__law_told_weights : K.lookup f__law_told_weights = some ⟨oc__law_told_weights, od__law_told_weights, .func (PySem.W.fnOf "_law_told_weights" "_law_told_weights" (defArgs s__law_told_weights) (defBody s__law_told_weights) (defScope s__law_told_weights) .none kV__law_told_weights dc__law_told_weights pm__law_told_weights an__law_told_weights cd__law_told_weights ct__law_told_weights), sl__law_told_weights⟩)
    (e__law_told_weights : PySem.W.codeIn K cd__law_told_weights "_law_told_weights" = true)
    (k__law_told_weights : PySem.W.keepIn K (.ref f__law_told_weights) = true)
    (a__law_bars : PySem.W.nsIn K mainGlobals "_law_bars" = some (some (.ref f__law_bars)))
    (l__law_bars : K.lookup f__law_bars = some ⟨oc__law_bars, od__law_bars, .func (PySem.W.fnOf "_law_bars" "_law_bars" (defArgs s__law_bars) (defBody s__law_bars) (defScope s__law_bars) .none kV__law_bars dc__law_bars pm__law_bars an__law_bars cd__law_bars ct__law_bars), sl__law_bars⟩)
    (e__law_bars : PySem.W.codeIn K cd__law_bars "_law_bars" = true)
    (k__law_bars : PySem.W.keepIn K (.ref f__law_bars) = true)
    (a__law_asked : PySem.W.nsIn K mainGlobals "_law_asked" = some (some (.ref f__law_asked)))
    (l__law_asked : K.lookup f__law_asked = some ⟨oc__law_asked, od__law_asked, .func (PySem.W.fnOf "_law_asked" "_law_asked" (defArgs s__law_asked) (defBody s__law_asked) (defScope s__law_asked) .none kV__law_asked dc__law_asked pm__law_asked an__law_asked cd__law_asked ct__law_asked), sl__law_asked⟩)
    (e__law_asked : PySem.W.codeIn K cd__law_asked "_law_asked" = true)
    (k__law_asked : PySem.W.keepIn K (.ref f__law_asked) = true)
    (a__law_stands : PySem.W.nsIn K mainGlobals "_law_stands" = some (some (.ref f__law_stands)))
    (l__law_stands : K.lookup f__law_stands = some ⟨oc__law_stands, od__law_stands, .func (PySem.W.fnOf "_law_stands" "_law_stands" (defArgs s__law_stands) (defBody s__law_stands) (defScope s__law_stands) .none kV__law_stands dc__law_stands pm__law_stands an__law_stands cd__law_stands ct__law_stands), sl__law_stands⟩)
    (e__law_stands : PySem.W.codeIn K cd__law_stands "_law_stands" = true)
    (k__law_stands : PySem.W.keepIn K (.ref f__law_stands) = true)
    (a__law_list_by : PySem.W.nsIn K mainGlobals "_law_list_by" = some (some (.ref f__law_list_by)))
    (l__law_list_by : K.lookup f__law_list_by = some ⟨oc__law_list_by, od__law_list_by, .func (PySem.W.fnOf "_law_list_by" "_law_list_by" (defArgs s__law_list_by) (defBody s__law_list_by) (defScope s__law_list_by) .none kV__law_list_by dc__law_list_by pm__law_list_by an__law_list_by cd__law_list_by ct__law_list_by), sl__law_list_by⟩)
    (e__law_list_by : PySem.W.codeIn K cd__law_list_by "_law_list_by" = true)
    (k__law_list_by : PySem.W.keepIn K (.ref f__law_list_by) = true)
    (a_law : PySem.W.nsIn K mainGlobals "law" = some (some (.ref f_law)))
    (l_law : K.lookup f_law = some ⟨oc_law, od_law, .func (PySem.W.fnOf "law" "law" (defArgs s_law) (defBody s_law) (defScope s_law) .none kV_law dc_law pm_law an_law cd_law ct_law), sl_law⟩)
    (e_law : PySem.W.codeIn K cd_law "law" = true)
    (k_law : PySem.W.keepIn K (.ref f_law) = true)
    (a_HeightError : PySem.W.nsIn K mainGlobals "HeightError" = some (some (.ref C_HeightError)))
    (a_NOUGHT : PySem.W.nsIn K mainGlobals "NOUGHT" = some (some (.ref C_NOUGHT)))
    (a_NoCount : PySem.W.nsIn K mainGlobals "NoCount" = some (some (.ref C_NoCount)))
    (a_NoFamily : PySem.W.nsIn K mainGlobals "NoFamily" = some (some (.ref C_NoFamily)))
    (a_NoFraction : PySem.W.nsIn K mainGlobals "NoFraction" = some (some (.ref C_NoFraction)))
    (a_NoHistory : PySem.W.nsIn K mainGlobals "NoHistory" = some (some (.ref C_NoHistory)))
    (a_NoLine : PySem.W.nsIn K mainGlobals "NoLine" = some (some (.ref C_NoLine)))
    (a_NoMeeting : PySem.W.nsIn K mainGlobals "NoMeeting" = some (some (.ref C_NoMeeting)))
    (a_NoMoments : PySem.W.nsIn K mainGlobals "NoMoments" = some (some (.ref C_NoMoments)))
    (a_NoName : PySem.W.nsIn K mainGlobals "NoName" = some (some (.ref C_NoName)))
    (a_NoNumber : PySem.W.nsIn K mainGlobals "NoNumber" = some (some (.ref C_NoNumber)))
    (a_NoSeries : PySem.W.nsIn K mainGlobals "NoSeries" = some (some (.ref C_NoSeries)))
    (a_NoText : PySem.W.nsIn K mainGlobals "NoText" = some (some (.ref C_NoText)))
    (a_NoThing : PySem.W.nsIn K mainGlobals "NoThing" = some (some (.ref C_NoThing)))
    (a_NoWay : PySem.W.nsIn K mainGlobals "NoWay" = some (some (.ref C_NoWay)))
    (a_NoWeights : PySem.W.nsIn K mainGlobals "NoWeights" = some (some (.ref C_NoWeights)))
    (a_ONE : PySem.W.nsIn K mainGlobals "ONE" = some (some (.ref C_ONE)))
    (a_TooFar : PySem.W.nsIn K mainGlobals "TooFar" = some (some (.ref C_TooFar)))
    (a_TooHigh : PySem.W.nsIn K mainGlobals "TooHigh" = some (some (.ref C_TooHigh)))
    (a_TooMany : PySem.W.nsIn K mainGlobals "TooMany" = some (some (.ref C_TooMany)))
    (n_ValueError : PySem.W.nsIn K mainGlobals "ValueError" = some none)
    (n_abs : PySem.W.nsIn K mainGlobals "abs" = some none)
    (n_all : PySem.W.nsIn K mainGlobals "all" = some none)
    (n_bool : PySem.W.nsIn K mainGlobals "bool" = some none)
    (n_enumerate : PySem.W.nsIn K mainGlobals "enumerate" = some none)
    (n_int : PySem.W.nsIn K mainGlobals "int" = some none)
    (n_isinstance : PySem.W.nsIn K mainGlobals "isinstance" = some none)
    (n_len : PySem.W.nsIn K mainGlobals "len" = some none)
    (n_list : PySem.W.nsIn K mainGlobals "list" = some none)
    (n_max : PySem.W.nsIn K mainGlobals "max" = some none)
    (n_min : PySem.W.nsIn K mainGlobals "min" = some none)
    (n_range : PySem.W.nsIn K mainGlobals "range" = some none)
    (n_tuple : PySem.W.nsIn K mainGlobals "tuple" = some none)
    (a_MOST_MOMENTS : PySem.W.nsIn K mainGlobals "MOST_MOMENTS" = some (some (.int 16 tk_MOST_MOMENTS)))
    (x_nought : frIn K C_NOUGHT 0 1 = true)
    (x_one : frIn K C_ONE 1 1 = true)
    (x_tf : PySem.W.excIn K C_TooFar vmro "ValueError.__new__" = true)
    (x_nf : PySem.W.excIn K C_NoFraction vmro "ValueError.__new__" = true)
    (x_nm : PySem.W.excIn K C_NoMoments vmro "ValueError.__new__" = true)
    (x_ga : PySem.W.findIn K (.ref C_NoMoments) "__getattribute__" = some (some (.builtin "BaseException.__getattribute__")))
    (x_gt : PySem.W.findIn K (.ref C_NoMoments) "__getattr__" = some none)
    (x_be : PySem.W.mroIn K C_NoMoments (.type "BaseException") = some true)
    (x_ob : PySem.W.mroIn K C_NoMoments (.type "object") = some true)
    (x_cl : PySem.W.findIn K (.ref C_NoMoments) "__class__" = some (some (.builtin "object.__class__")))
    (x_gs : PySem.W.specialIn K (.builtin "object.__class__") "__get__" = some (some (.builtin "getset_descriptor.__get__")))
    (x_tk : PySem.W.takesIn K (.builtin "object.__class__") = some true)
    (x_is : (PySem.W.clsIn K C_NoMoments).isSome = true)
    (x_ex : PySem.W.exmOne K (.ref C_NoMoments) (.ref C_HeightError) = some true)
    (x_kValueError : PySem.W.kitOne K (.ref C_NoMoments) (.type "ValueError") = some true)
    (x_kNoFraction : PySem.W.kitOne K (.ref C_NoMoments) (.ref C_NoFraction) = some false)
    (x_kTooMany : PySem.W.kitOne K (.ref C_NoMoments) (.ref C_TooMany) = some false)
    (x_kTooFar : PySem.W.kitOne K (.ref C_NoMoments) (.ref C_TooFar) = some false)
    (x_kNoNumber : PySem.W.kitOne K (.ref C_NoMoments) (.ref C_NoNumber) = some false)
    (x_kNoWeights : PySem.W.kitOne K (.ref C_NoMoments) (.ref C_NoWeights) = some false)
    (x_kNoSeries : PySem.W.kitOne K (.ref C_NoMoments) (.ref C_NoSeries) = some false)
    (x_kNoMoments : PySem.W.kitOne K (.ref C_NoMoments) (.ref C_NoMoments) = some true)
    (x_kNoFamily : PySem.W.kitOne K (.ref C_NoMoments) (.ref C_NoFamily) = some false)
    (x_kNoMeeting : PySem.W.kitOne K (.ref C_NoMoments) (.ref C_NoMeeting) = some false)
    (x_kNoThing : PySem.W.kitOne K (.ref C_NoMoments) (.ref C_NoThing) = some false)
    (x_kNoLine : PySem.W.kitOne K (.ref C_NoMoments) (.ref C_NoLine) = some false)
    (x_kNoText : PySem.W.kitOne K (.ref C_NoMoments) (.ref C_NoText) = some false)
    (x_kNoWay : PySem.W.kitOne K (.ref C_NoMoments) (.ref C_NoWay) = some false)
    (x_kTooHigh : PySem.W.kitOne K (.ref C_NoMoments) (.ref C_TooHigh) = some false)
    (x_kNoHistory : PySem.W.kitOne K (.ref C_NoMoments) (.ref C_NoHistory) = some false)
    (x_kNoCount : PySem.W.kitOne K (.ref C_NoMoments) (.ref C_NoCount) = some false)
    (x_kNoName : PySem.W.kitOne K (.ref C_NoMoments) (.ref C_NoName) = some false)
    : ∃ fd : FuncData, (∀ (s : Shared) (v : Value), BindsTo s fd ⟨[v], []⟩ [("_law_script", v)]) ∧ ∀ base : Heap, K.In base → base.Ns mainGlobals mg → FnOk l.prog w K mg base (CXe l.prog w) 11 fa fd ["_law_script"] (spLaw K) := by
  have e := hfa.symm.trans (PySem.W.mg_of X G a_law)
  cases e
  have T : Tx w K mg C_HeightError C_NOUGHT C_NoCount C_NoFamily C_NoFraction C_NoHistory C_NoLine C_NoMeeting C_NoMoments C_NoName C_NoNumber C_NoSeries C_NoText C_NoThing C_NoWay C_NoWeights C_ONE C_TooFar C_TooHigh C_TooMany := { b_ValueError := PySem.W.mg_none_of X G n_ValueError, b_abs := PySem.W.mg_none_of X G n_abs, b_all := PySem.W.mg_none_of X G n_all, b_bool := PySem.W.mg_none_of X G n_bool, b_enumerate := PySem.W.mg_none_of X G n_enumerate, b_int := PySem.W.mg_none_of X G n_int, b_isinstance := PySem.W.mg_none_of X G n_isinstance, b_len := PySem.W.mg_none_of X G n_len, b_list := PySem.W.mg_none_of X G n_list, b_max := PySem.W.mg_none_of X G n_max, b_min := PySem.W.mg_none_of X G n_min, b_range := PySem.W.mg_none_of X G n_range, b_tuple := PySem.W.mg_none_of X G n_tuple, m_HeightError := PySem.W.mg_of X G a_HeightError, m_NOUGHT := PySem.W.mg_of X G a_NOUGHT, m_NoCount := PySem.W.mg_of X G a_NoCount, m_NoFamily := PySem.W.mg_of X G a_NoFamily, m_NoFraction := PySem.W.mg_of X G a_NoFraction, m_NoHistory := PySem.W.mg_of X G a_NoHistory, m_NoLine := PySem.W.mg_of X G a_NoLine, m_NoMeeting := PySem.W.mg_of X G a_NoMeeting, m_NoMoments := PySem.W.mg_of X G a_NoMoments, m_NoName := PySem.W.mg_of X G a_NoName, m_NoNumber := PySem.W.mg_of X G a_NoNumber, m_NoSeries := PySem.W.mg_of X G a_NoSeries, m_NoText := PySem.W.mg_of X G a_NoText, m_NoThing := PySem.W.mg_of X G a_NoThing, m_NoWay := PySem.W.mg_of X G a_NoWay, m_NoWeights := PySem.W.mg_of X G a_NoWeights, m_ONE := PySem.W.mg_of X G a_ONE, m_TooFar := PySem.W.mg_of X G a_TooFar, m_TooHigh := PySem.W.mg_of X G a_TooHigh, m_TooMany := PySem.W.mg_of X G a_TooMany, nought := frIn_sq x_nought, one := frIn_sq x_one, x_TooFar := x_tf, x_NoMoments := x_nm, x_NoFraction := x_nf, g_MOSTM := ⟨_, PySem.W.mg_of X G a_MOST_MOMENTS⟩, xc := ⟨x_ga, x_gt, x_be, x_ob, x_cl, x_gs, x_tk, x_is⟩, ex := x_ex, k_ValueError := x_kValueError, k_NoFraction := x_kNoFraction, k_TooMany := x_kTooMany, k_TooFar := x_kTooFar, k_NoNumber := x_kNoNumber, k_NoWeights := x_kNoWeights, k_NoSeries := x_kNoSeries, k_NoMoments := x_kNoMoments, k_NoFamily := x_kNoFamily, k_NoMeeting := x_kNoMeeting, k_NoThing := x_kNoThing, k_NoLine := x_kNoLine, k_NoText := x_kNoText, k_NoWay := x_kNoWay, k_TooHigh := x_kTooHigh, k_NoHistory := x_kNoHistory, k_NoCount := x_kNoCount, k_NoName := x_kNoName }
  refine ⟨PySem.W.fnOf "law" "law" (defArgs s_law) (defBody s_law) (defScope s_law) .none kV_law dc_law pm_law an_law cd_law ct_law, fun s v => .of_eq rfl, fun base _ _ => ?_⟩
  have h_shared_part := ok_shared_part (P := l.prog) (w := w) (base := base) (fun_mk (st := s_shared_part) l_shared_part e_shared_part k_shared_part) (PySem.W.mg_of X G a_shared_part) T 
  have h_plus := ok_plus (P := l.prog) (w := w) (base := base) (fun_mk (st := s_plus) l_plus e_plus k_plus) (PySem.W.mg_of X G a_plus) T h_shared_part
  have h_minus := ok_minus (P := l.prog) (w := w) (base := base) (fun_mk (st := s_minus) l_minus e_minus k_minus) (PySem.W.mg_of X G a_minus) T h_plus
  have h_times := ok_times (P := l.prog) (w := w) (base := base) (fun_mk (st := s_times) l_times e_times k_times) (PySem.W.mg_of X G a_times) T h_shared_part
  have h_over := ok_over (P := l.prog) (w := w) (base := base) (fun_mk (st := s_over) l_over e_over k_over) (PySem.W.mg_of X G a_over) T h_times
  have h_poly_of := ok_poly_of (P := l.prog) (w := w) (base := base) (fun_mk (st := s_poly_of) l_poly_of e_poly_of k_poly_of) (PySem.W.mg_of X G a_poly_of) T 
  have h_number_at := ok_number_at (P := l.prog) (w := w) (base := base) (fun_mk (st := s_number_at) l_number_at e_number_at k_number_at) (PySem.W.mg_of X G a_number_at) T 
  have h_poly_plus := ok_poly_plus (P := l.prog) (w := w) (base := base) (fun_mk (st := s_poly_plus) l_poly_plus e_poly_plus k_poly_plus) (PySem.W.mg_of X G a_poly_plus) T h_number_at h_plus h_poly_of
  have h_poly_scaled := ok_poly_scaled (P := l.prog) (w := w) (base := base) (fun_mk (st := s_poly_scaled) l_poly_scaled e_poly_scaled k_poly_scaled) (PySem.W.mg_of X G a_poly_scaled) T h_poly_of h_times
  have h_poly_minus := ok_poly_minus (P := l.prog) (w := w) (base := base) (fun_mk (st := s_poly_minus) l_poly_minus e_poly_minus k_poly_minus) (PySem.W.mg_of X G a_poly_minus) T h_poly_plus h_poly_scaled
  have h_poly_times := ok_poly_times (P := l.prog) (w := w) (base := base) (fun_mk (st := s_poly_times) l_poly_times e_poly_times k_poly_times) (PySem.W.mg_of X G a_poly_times) T h_plus h_poly_of h_times
  have h_degree_of := ok_degree_of (P := l.prog) (w := w) (base := base) (fun_mk (st := s_degree_of) l_degree_of e_degree_of k_degree_of) (PySem.W.mg_of X G a_degree_of) T 
  have h_one_further := ok_one_further (P := l.prog) (w := w) (base := base) (fun_mk (st := s_one_further) l_one_further e_one_further k_one_further) (PySem.W.mg_of X G a_one_further) T h_minus h_poly_minus h_poly_of h_poly_scaled h_poly_times
  have h_ruled := ok_ruled (P := l.prog) (w := w) (base := base) (fun_mk (st := s_ruled) l_ruled e_ruled k_ruled) (PySem.W.mg_of X G a_ruled) T h_degree_of h_plus h_times
  have h_check_moments := ok_check_moments (P := l.prog) (w := w) (base := base) (fun_mk (st := s_check_moments) l_check_moments e_check_moments k_check_moments) (PySem.W.mg_of X G a_check_moments) T 
  have h_weights_back := ok_weights_back (P := l.prog) (w := w) (base := base) (fun_mk (st := s_weights_back) l_weights_back e_weights_back k_weights_back) (PySem.W.mg_of X G a_weights_back) T h_check_moments h_minus h_one_further h_over h_ruled
  have h__law_cell_at := ok__law_cell_at (P := l.prog) (w := w) (base := base) (fun_mk (st := s__law_cell_at) l__law_cell_at e__law_cell_at k__law_cell_at) (PySem.W.mg_of X G a__law_cell_at) T 
  have h__law_stir := ok__law_stir (P := l.prog) (w := w) (base := base) (fun_mk (st := s__law_stir) l__law_stir e__law_stir k__law_stir) (PySem.W.mg_of X G a__law_stir) T 
  have h__law_drawn := ok__law_drawn (P := l.prog) (w := w) (base := base) (fun_mk (st := s__law_drawn) l__law_drawn e__law_drawn k__law_drawn) (PySem.W.mg_of X G a__law_drawn) T h__law_cell_at h__law_stir
  have h__law_whole := ok__law_whole (P := l.prog) (w := w) (base := base) (fun_mk (st := s__law_whole) l__law_whole e__law_whole k__law_whole) (PySem.W.mg_of X G a__law_whole) T 
  have h__law_divisor := ok__law_divisor (P := l.prog) (w := w) (base := base) (fun_mk (st := s__law_divisor) l__law_divisor e__law_divisor k__law_divisor) (PySem.W.mg_of X G a__law_divisor) T 
  have h__law_low := ok__law_low (P := l.prog) (w := w) (base := base) (fun_mk (st := s__law_low) l__law_low e__law_low k__law_low) (PySem.W.mg_of X G a__law_low) T h__law_divisor
  have h__law_add := ok__law_add (P := l.prog) (w := w) (base := base) (fun_mk (st := s__law_add) l__law_add e__law_add k__law_add) (PySem.W.mg_of X G a__law_add) T h__law_low
  have h__law_mul := ok__law_mul (P := l.prog) (w := w) (base := base) (fun_mk (st := s__law_mul) l__law_mul e__law_mul k__law_mul) (PySem.W.mg_of X G a__law_mul) T h__law_low
  have h__law_is_fraction := ok__law_is_fraction (P := l.prog) (w := w) (base := base) (fun_mk (st := s__law_is_fraction) l__law_is_fraction e__law_is_fraction k__law_is_fraction) (PySem.W.mg_of X G a__law_is_fraction) T h__law_divisor h__law_whole
  have h__law_are_fractions := ok__law_are_fractions (P := l.prog) (w := w) (base := base) (fun_mk (st := s__law_are_fractions) l__law_are_fractions e__law_are_fractions k__law_are_fractions) (PySem.W.mg_of X G a__law_are_fractions) T h__law_is_fraction
  have h__law_marks := ok__law_marks (P := l.prog) (w := w) (base := base) (fun_mk (st := s__law_marks) l__law_marks e__law_marks k__law_marks) (PySem.W.mg_of X G a__law_marks) T 
  have h__law_only := ok__law_only (P := l.prog) (w := w) (base := base) (fun_mk (st := s__law_only) l__law_only e__law_only k__law_only) (PySem.W.mg_of X G a__law_only) T 
  have h__law_weight_by := ok__law_weight_by (P := l.prog) (w := w) (base := base) (fun_mk (st := s__law_weight_by) l__law_weight_by e__law_weight_by k__law_weight_by) (PySem.W.mg_of X G a__law_weight_by) T h__law_low
  have h__law_weights_by := ok__law_weights_by (P := l.prog) (w := w) (base := base) (fun_mk (st := s__law_weights_by) l__law_weights_by e__law_weights_by k__law_weights_by) (PySem.W.mg_of X G a__law_weights_by) T h__law_drawn h__law_weight_by
  have h__law_moments_by := ok__law_moments_by (P := l.prog) (w := w) (base := base) (fun_mk (st := s__law_moments_by) l__law_moments_by e__law_moments_by k__law_moments_by) (PySem.W.mg_of X G a__law_moments_by) T h__law_add h__law_mul
  have h__law_measure_by := ok__law_measure_by (P := l.prog) (w := w) (base := base) (fun_mk (st := s__law_measure_by) l__law_measure_by e__law_measure_by k__law_measure_by) (PySem.W.mg_of X G a__law_measure_by) T h__law_add h__law_mul
  have h__law_table_of := ok__law_table_of (P := l.prog) (w := w) (base := base) (fun_mk (st := s__law_table_of) l__law_table_of e__law_table_of k__law_table_of) (PySem.W.mg_of X G a__law_table_of) T 
  have h__law_told_weights := ok__law_told_weights (P := l.prog) (w := w) (base := base) (fun_mk (st := s__law_told_weights) l__law_told_weights e__law_told_weights k__law_told_weights) (PySem.W.mg_of X G a__law_told_weights) T h__law_is_fraction
  have h__law_bars := ok__law_bars (P := l.prog) (w := w) (base := base) (fun_mk (st := s__law_bars) l__law_bars e__law_bars k__law_bars) (PySem.W.mg_of X G a__law_bars) T h__law_add h__law_are_fractions h__law_mul h__law_whole
  have h__law_asked := ok__law_asked (P := l.prog) (w := w) (base := base) (fun_mk (st := s__law_asked) l__law_asked e__law_asked k__law_asked) (PySem.W.mg_of X G a__law_asked) T h__law_marks h_weights_back
  have h__law_stands := ok__law_stands (P := l.prog) (w := w) (base := base) (fun_mk (st := s__law_stands) l__law_stands e__law_stands k__law_stands) (PySem.W.mg_of X G a__law_stands) T h__law_bars h__law_measure_by h__law_moments_by h__law_table_of h__law_told_weights
  have h__law_list_by := ok__law_list_by (P := l.prog) (w := w) (base := base) (fun_mk (st := s__law_list_by) l__law_list_by e__law_list_by k__law_list_by) (PySem.W.mg_of X G a__law_list_by) T h__law_drawn h__law_low h__law_moments_by h__law_weights_by
  exact fn_law (fun_mk (st := s_law) l_law e_law k_law) T h__law_asked h__law_list_by h__law_only h__law_stands
theorem walk {l : PySem.W.OpenLaw} {q : Program} {loose : List Str} {XP : (Str → Option Value) → Heap → Prop} {YP : World → Heap → Prop} {d : DefRec} {K : Params → PySem.W.Frag} (hn : l.most = some 63) (hdf : d.params.defaults = [])
    (hY : ∀ (w : World) (h : Heap), YP w h → (K w.params).In h)
    (F : ∀ (w : World) (mg : Str → Option Value) (fa : Addr) (h : Heap), (K w.params).In h → h.Ns mainGlobals mg → mg d.name = some (.ref fa) →
      ∃ fd : FuncData, (∀ (s : Shared) (u : Value), BindsTo s fd ⟨[u], []⟩ [("_law_script", u)]) ∧ ∀ base : Heap, (K w.params).In base → base.Ns mainGlobals mg → FnOk l.prog w (K w.params) mg base (CXe l.prog w) 11 fa fd ["_law_script"] (spLaw (K w.params))) :
    PySem.W.WalkO q loose XP YP l.row.toRowW d [] (fun f vs => PySem.call f vs) :=
  L2.walk_of (n := 63) (k := 11) (x := "_law_script") (CX := fun w => CXe l.prog w) (sp := fun w => spLaw (K w.params)) hn (by decide) hdf ⟨rfl, by decide, by decide⟩ hY F (fun _ _ a ns hl _ hS => ⟨a, ns, rfl, hS, hl, fun _ => rfl⟩) fun _ _ _ _ _ ⟨_, _, _, _, _, _, _, _, z⟩ => z
end K26
theorem PySem.W.Fast.tw8545141121313138048 : True := trivial
theorem PySem.W.Fast.tw4819793065888482049 : True := trivial
theorem PySem.W.Fast.tw6431551883250473122 : True := trivial
theorem PySem.W.Fast.tw12098228513008616644 : True := trivial
theorem PySem.W.Fast.tw7018574431965938280 : True := trivial
theorem PySem.W.Fast.tw11017722499773310632 : True := trivial
theorem PySem.W.Fast.tw18416088026875940714 : True := trivial
theorem PySem.W.Fast.tw9102083741454089323 : True := trivial
theorem PySem.W.Fast.tw9632308930062770828 : True := trivial
theorem PySem.W.Fast.tw12794142518783082702 : True := trivial
theorem PySem.W.Fast.tw4537091350823976814 : True := trivial
theorem PySem.W.Fast.tw8966613082117033103 : True := trivial
theorem PySem.W.Fast.tw17412996980163373712 : True := trivial
theorem PySem.W.Fast.tw1183070804174509427 : True := trivial
theorem PySem.W.Fast.tw1901079501149555251 : True := trivial
theorem PySem.W.Fast.tw8789086510066619092 : True := trivial
theorem PySem.W.Fast.tw17551309886733858073 : True := trivial
theorem PySem.W.Fast.tw14121880467358790457 : True := trivial
theorem PySem.W.Fast.tw18309370897547841946 : True := trivial
theorem PySem.W.Fast.tw12984721538317913914 : True := trivial
theorem PySem.W.Fast.tw13364520775005274779 : True := trivial
theorem PySem.W.Fast.tw11204756124715591772 : True := trivial
theorem PySem.W.Fast.tw12805884175459023580 : True := trivial
theorem PySem.W.Fast.tw9394003607710860062 : True := trivial
theorem PySem.W.Fast.tw6897697135200397599 : True := trivial
theorem PySem.W.Fast.tw10206888152110348405 : True := trivial
theorem PySem.W.Fast.tw16274938797207698631 : True := trivial
theorem PySem.W.Fast.tw7179646464039206406 : True := trivial
theorem PySem.W.Fast.tw5038856649428110038 : True := trivial
theorem PySem.W.Fast.tw11885940276943385115 : True := trivial
theorem PySem.W.Fast.tw16306639893896960301 : True := trivial
theorem PySem.W.Fast.tw16878262929113112558 : True := trivial
theorem PySem.W.Fast.tw4309829329425170248 : True := trivial
theorem PySem.W.Fast.tw14412837968036922664 : True := trivial
theorem PySem.W.Fast.tw5327050578646228800 : True := trivial
theorem PySem.W.Fast.tw15914712056166769961 : True := trivial
theorem PySem.W.Fast.tw15064634022383609386 : True := trivial
theorem PySem.W.Fast.tw12389382026151329096 : True := trivial
theorem PySem.W.Fast.tw5051557158071214352 : True := trivial
theorem PySem.W.Fast.tw16313413526246517987 : True := trivial
theorem PySem.W.Fast.tw9711036924046578889 : True := trivial
theorem PySem.W.Fast.tw1109025206141163352 : True := trivial
theorem PySem.W.Fast.tw17001827405264918757 : True := trivial
theorem PySem.W.Fast.tw16427205336477201979 : True := trivial
theorem PySem.W.Fast.tw17267541258167485456 : True := trivial
theorem PySem.W.Fast.tw348190273232102829 : True := trivial
theorem PySem.W.Fast.tw17907872436291484448 : True := trivial
theorem PySem.W.Fast.tw3629831860144721872 : True := trivial
theorem PySem.W.Fast.tw106814925931593751 : True := trivial
theorem PySem.W.Fast.tw5951533318512338082 : True := trivial
theorem PySem.W.Fast.tw13017867081672142543 : True := trivial
theorem PySem.W.Fast.tw8524648463165525336 : True := trivial
theorem PySem.W.Fast.tw10428719070574450028 : True := trivial
theorem PySem.W.Fast.tw16771534654476276584 : True := trivial
theorem PySem.W.Fast.tw11400199443536868700 : True := trivial
theorem PySem.W.Fast.tw11852967676890128321 : True := trivial
theorem PySem.W.Fast.tw17745383661643807232 : True := trivial
theorem PySem.W.Fast.tw9076772329261037786 : True := trivial
theorem PySem.W.Fast.tw13204174348785000707 : True := trivial
theorem PySem.W.Fast.tw9445096861795364803 : True := trivial
theorem PySem.W.Fast.tw2107337484249332116 : True := trivial
theorem PySem.W.Fast.tw684452215257478905 : True := trivial
theorem PySem.W.Fast.tw1371678780990848816 : True := trivial
theorem PySem.W.Fast.tw14774420366720395160 : True := trivial
theorem PySem.W.Fast.tw1685118814547624346 : True := trivial
theorem PySem.W.Fast.tw874700348612955476 : True := trivial
theorem PySem.W.Fast.tw7324475116079540206 : True := trivial
theorem PySem.W.Fast.tw3211292491863756784 : True := trivial
theorem PySem.W.Fast.tw3069683818758484195 : True := trivial
theorem PySem.W.Fast.tw3481898778989461093 : True := trivial
theorem PySem.W.Fast.tw6661432689661942567 : True := trivial
theorem PySem.W.Fast.tw9858842189004038178 : True := trivial
theorem PySem.W.Fast.tw15018182106187560618 : True := trivial
theorem PySem.W.Fast.tw13656575871046014914 : True := trivial
theorem PySem.W.Fast.tw4714352113581578328 : True := trivial
theorem PySem.W.Fast.tw11322992859791987396 : True := trivial
theorem PySem.W.Fast.tw9373928515362860371 : True := trivial
theorem PySem.W.Fast.tw1759005192590948989 : True := trivial
theorem PySem.W.Fast.tw5133634875235240615 : True := trivial
theorem PySem.W.Fast.tw7711423006930658160 : True := trivial
theorem PySem.W.Fast.tw14986628099943392679 : True := trivial
theorem PySem.W.Fast.tw14709932502941933593 : True := trivial
theorem PySem.W.Fast.tw2486496750882036671 : True := trivial
theorem PySem.W.Fast.tw15718630835533390333 : True := trivial
theorem PySem.W.Fast.tw3166922944412388848 : True := trivial
theorem PySem.W.Fast.tw14913019259742782541 : True := trivial
theorem PySem.W.Fast.tw17600493167989304635 : True := trivial
theorem PySem.W.Fast.tw430919838538913636 : True := trivial
theorem PySem.W.Fast.tw6559860103272918018 : True := trivial
theorem PySem.W.Fast.tw1241950578118691861 : True := trivial
theorem PySem.W.Fast.tw12792503718044045587 : True := trivial
theorem PySem.W.Fast.tw13316299640812756217 : True := trivial
theorem PySem.W.Fast.tw5742986292619296851 : True := trivial
theorem PySem.W.Fast.tw6413635319300594788 : True := trivial
theorem PySem.W.Fast.tw15986966757294756417 : True := trivial
theorem PySem.W.Fast.tw6992871805282698359 : True := trivial
theorem PySem.W.Fast.tw18066873436005627539 : True := trivial
theorem PySem.W.Fast.tw16678812927167321634 : True := trivial
theorem PySem.W.Fast.tw12308074581083697209 : True := trivial
theorem PySem.W.Fast.tw12894387861625803565 : True := trivial
theorem PySem.W.Fast.tw112666449125795219 : True := trivial
theorem PySem.W.Fast.tw11351069503730094452 : True := trivial
theorem PySem.W.Fast.tw5223438085457580637 : True := trivial
theorem PySem.W.Fast.tw14274558845235688212 : True := trivial
theorem PySem.W.Fast.tw2924960711573212817 : True := trivial
theorem PySem.W.Fast.tw14240740421573542873 : True := trivial
theorem PySem.W.Fast.tw7979485000625894525 : True := trivial
theorem PySem.W.Fast.tw16617804371604732437 : True := trivial
theorem PySem.W.Fast.tw3691412320722410361 : True := trivial
theorem PySem.W.Fast.tw12797964980606132733 : True := trivial
theorem PySem.W.Fast.tw8474073248835516016 : True := trivial
theorem PySem.W.Fast.tw11407993308649448956 : True := trivial
theorem PySem.W.Fast.tw17987359309323237939 : True := trivial
theorem PySem.W.Fast.tw12297858111021758507 : True := trivial
theorem PySem.W.Fast.tw6306863810969801668 : True := trivial
theorem PySem.W.Fast.tw9526554908352044687 : True := trivial
theorem PySem.W.Fast.tw9020711650986831309 : True := trivial
theorem PySem.W.Fast.tw9973149205853652999 : True := trivial
theorem PySem.W.Fast.tw16121811717171268240 : True := trivial
theorem PySem.W.Fast.tw14349038569315304621 : True := trivial
theorem PySem.W.Fast.tw6617164163495844945 : True := trivial
theorem PySem.W.Fast.tw8604123095176065911 : True := trivial
theorem PySem.W.Fast.tw14852857022715720701 : True := trivial
theorem PySem.W.Fast.tw17579966839992901500 : True := trivial
theorem PySem.W.Fast.tw5335344826607451253 : True := trivial
theorem PySem.W.Fast.tw9431299229864087861 : True := trivial
theorem PySem.W.Fast.tw13480481150927820655 : True := trivial
theorem PySem.W.Fast.tw1689898318344132005 : True := trivial
theorem PySem.W.Fast.tw3012996876534304765 : True := trivial
theorem PySem.W.Fast.tw16942477567642879653 : True := trivial
theorem PySem.W.Fast.tw5349778851925047498 : True := trivial
theorem PySem.W.Fast.tw11732951232155451173 : True := trivial
theorem PySem.W.Fast.tw14403387919107978218 : True := trivial
theorem PySem.W.Fast.tw2596484240353721637 : True := trivial
theorem PySem.W.Fast.tw7637445659745811906 : True := trivial
theorem PySem.W.Fast.tw13173819882555638559 : True := trivial
theorem PySem.W.Fast.tw16258237850851526450 : True := trivial
theorem PySem.W.Fast.tw15016850329174279576 : True := trivial
theorem PySem.W.Fast.tw1509978562716144270 : True := trivial
theorem PySem.W.Fast.tw9000423977642417769 : True := trivial
theorem PySem.W.Fast.tw5036824383752310337 : True := trivial
theorem PySem.W.Fast.tw18318211558969917874 : True := trivial
theorem PySem.W.Fast.tw12793431402006867070 : True := trivial
theorem PySem.W.Fast.tw612206487787425350 : True := trivial
theorem PySem.W.Fast.tw16504763377925493414 : True := trivial
theorem PySem.W.Fast.tw7454932231702206686 : True := trivial
theorem PySem.W.Fast.tw7173878394378684269 : True := trivial
theorem PySem.W.Fast.tw13664634103693503189 : True := trivial
theorem PySem.W.Fast.tw4457725409445510474 : True := trivial
theorem PySem.W.Fast.tw10577169449309044088 : True := trivial
theorem PySem.W.Fast.tw15853475315253806552 : True := trivial
theorem PySem.W.Fast.tw2660971185552812165 : True := trivial
theorem PySem.W.Fast.tw3213377567457973451 : True := trivial
theorem PySem.W.Fast.tw9985027161446416826 : True := trivial
theorem PySem.W.Fast.tw15081044165086501755 : True := trivial
theorem PySem.W.Fast.tw16348858804826801679 : True := trivial
open PySem PySem.W PyProof.Rows
set_option maxRecDepth 100000 in
set_option maxHeartbeats 0 in
theorem PySem.Challenge.cw_heightfractions_k26_no_moments_holds : PySem.Challenge.rw_heightfractions_k26_no_moments.Holds := by
  w_on; o_law; k_head; (case hw => w_witness2)
  k_fill
  refine K26.walk (l := PySem.Challenge.rw_heightfractions_k26_no_moments) rfl rfl (fun w h Y => PySem.W.kIn_of Y) ?F
  case F =>
    intro w mg fa h KX G hmg
    refine' K26.all_mk KX G hmg ?a_shared_part ?l_shared_part ?e_shared_part ?k_shared_part ?a_plus ?l_plus ?e_plus ?k_plus ?a_minus ?l_minus ?e_minus ?k_minus ?a_times ?l_times ?e_times ?k_times ?a_over ?l_over ?e_over ?k_over ?a_poly_of ?l_poly_of ?e_poly_of ?k_poly_of ?a_number_at ?l_number_at ?e_number_at ?k_number_at ?a_poly_plus ?l_poly_plus ?e_poly_plus ?k_poly_plus ?a_poly_scaled ?l_poly_scaled ?e_poly_scaled ?k_poly_scaled ?a_poly_minus ?l_poly_minus ?e_poly_minus ?k_poly_minus ?a_poly_times ?l_poly_times ?e_poly_times ?k_poly_times ?a_degree_of ?l_degree_of ?e_degree_of ?k_degree_of ?a_one_further ?l_one_further ?e_one_further ?k_one_further ?a_ruled ?l_ruled ?e_ruled ?k_ruled ?a_check_moments ?l_check_moments ?e_check_moments ?k_check_moments ?a_weights_back ?l_weights_back ?e_weights_back ?k_weights_back ?a__law_cell_at ?l__law_cell_at ?e__law_cell_at ?k__law_cell_at ?a__law_stir ?l__law_stir ?e__law_stir ?k__law_stir ?a__law_drawn ?l__law_drawn ?e__law_drawn ?k__law_drawn ?a__law_whole ?l__law_whole ?e__law_whole ?k__law_whole ?a__law_divisor ?l__law_divisor ?e__law_divisor ?k__law_divisor ?a__law_low ?l__law_low ?e__law_low ?k__law_low ?a__law_add ?l__law_add ?e__law_add ?k__law_add ?a__law_mul ?l__law_mul ?e__law_mul ?k__law_mul ?a__law_is_fraction ?l__law_is_fraction ?e__law_is_fraction ?k__law_is_fraction ?a__law_are_fractions ?l__law_are_fractions ?e__law_are_fractions ?k__law_are_fractions ?a__law_marks ?l__law_marks ?e__law_marks ?k__law_marks ?a__law_only ?l__law_only ?e__law_only ?k__law_only ?a__law_weight_by ?l__law_weight_by ?e__law_weight_by ?k__law_weight_by ?a__law_weights_by ?l__law_weights_by ?e__law_weights_by ?k__law_weights_by ?a__law_moments_by ?l__law_moments_by ?e__law_moments_by ?k__law_moments_by ?a__law_measure_by ?l__law_measure_by ?e__law_measure_by ?k__law_measure_by ?a__law_table_of ?l__law_table_of ?e__law_table_of ?k__law_table_of ?a__law_told_weights ?l__law_told_weights ?e__law_told_weights ?k__law_told_weights ?a__law_bars ?l__law_bars ?e__law_bars ?k__law_bars ?a__law_asked ?l__law_asked ?e__law_asked ?k__law_asked ?a__law_stands ?l__law_stands ?e__law_stands ?k__law_stands ?a__law_list_by ?l__law_list_by ?e__law_list_by ?k__law_list_by ?a_law ?l_law ?e_law ?k_law ?a_HeightError ?a_NOUGHT ?a_NoCount ?a_NoFamily ?a_NoFraction ?a_NoHistory ?a_NoLine ?a_NoMeeting ?a_NoMoments ?a_NoName ?a_NoNumber ?a_NoSeries ?a_NoText ?a_NoThing ?a_NoWay ?a_NoWeights ?a_ONE ?a_TooFar ?a_TooHigh ?a_TooMany ?n_ValueError ?n_abs ?n_all ?n_bool ?n_enumerate ?n_int ?n_isinstance ?n_len ?n_list ?n_max ?n_min ?n_range ?n_tuple ?a_MOST_MOMENTS ?x_nought ?x_one ?x_tf ?x_nf ?x_nm ?x_ga ?x_gt ?x_be ?x_ob ?x_cl ?x_gs ?x_tk ?x_is ?x_ex ?x_kValueError ?x_kNoFraction ?x_kTooMany ?x_kTooFar ?x_kNoNumber ?x_kNoWeights ?x_kNoSeries ?x_kNoMoments ?x_kNoFamily ?x_kNoMeeting ?x_kNoThing ?x_kNoLine ?x_kNoText ?x_kNoWay ?x_kTooHigh ?x_kNoHistory ?x_kNoCount ?x_kNoName
    (case a_shared_part => k_is)
    (case l_shared_part => k_is)
    (case e_shared_part => k_is)
    (case k_shared_part => k_is)
    (case a_plus => k_is)
    (case l_plus => k_is)
    (case e_plus => k_is)
    (case k_plus => k_is)
    (case a_minus => k_is)
    (case l_minus => k_is)
    (case e_minus => k_is)
    (case k_minus => k_is)
    (case a_times => k_is)
    (case l_times => k_is)
    (case e_times => k_is)
    (case k_times => k_is)
    (case a_over => k_is)
    (case l_over => k_is)
    (case e_over => k_is)
    (case k_over => k_is)
    (case a_poly_of => k_is)
    (case l_poly_of => k_is)
    (case e_poly_of => k_is)
    (case k_poly_of => k_is)
    (case a_number_at => k_is)
    (case l_number_at => k_is)
    (case e_number_at => k_is)
    (case k_number_at => k_is)
    (case a_poly_plus => k_is)
    (case l_poly_plus => k_is)
    (case e_poly_plus => k_is)
    (case k_poly_plus => k_is)
    (case a_poly_scaled => k_is)
    (case l_poly_scaled => k_is)
    (case e_poly_scaled => k_is)
    (case k_poly_scaled => k_is)
    (case a_poly_minus => k_is)
    (case l_poly_minus => k_is)
    (case e_poly_minus => k_is)
    (case k_poly_minus => k_is)
    (case a_poly_times => k_is)
    (case l_poly_times => k_is)
    (case e_poly_times => k_is)
    (case k_poly_times => k_is)
    (case a_degree_of => k_is)
    (case l_degree_of => k_is)
    (case e_degree_of => k_is)
    (case k_degree_of => k_is)
    (case a_one_further => k_is)
    (case l_one_further => k_is)
    (case e_one_further => k_is)
    (case k_one_further => k_is)
    (case a_ruled => k_is)
    (case l_ruled => k_is)
    (case e_ruled => k_is)
    (case k_ruled => k_is)
    (case a_check_moments => k_is)
    (case l_check_moments => k_is)
    (case e_check_moments => k_is)
    (case k_check_moments => k_is)
    (case a_weights_back => k_is)
    (case l_weights_back => k_is)
    (case e_weights_back => k_is)
    (case k_weights_back => k_is)
    (case a__law_cell_at => k_is)
    (case l__law_cell_at => k_is)
    (case e__law_cell_at => k_is)
    (case k__law_cell_at => k_is)
    (case a__law_stir => k_is)
    (case l__law_stir => k_is)
    (case e__law_stir => k_is)
    (case k__law_stir => k_is)
    (case a__law_drawn => k_is)
    (case l__law_drawn => k_is)
    (case e__law_drawn => k_is)
    (case k__law_drawn => k_is)
    (case a__law_whole => k_is)
    (case l__law_whole => k_is)
    (case e__law_whole => k_is)
    (case k__law_whole => k_is)
    (case a__law_divisor => k_is)
    (case l__law_divisor => k_is)
    (case e__law_divisor => k_is)
    (case k__law_divisor => k_is)
    (case a__law_low => k_is)
    (case l__law_low => k_is)
    (case e__law_low => k_is)
    (case k__law_low => k_is)
    (case a__law_add => k_is)
    (case l__law_add => k_is)
    (case e__law_add => k_is)
    (case k__law_add => k_is)
    (case a__law_mul => k_is)
    (case l__law_mul => k_is)
    (case e__law_mul => k_is)
    (case k__law_mul => k_is)
    (case a__law_is_fraction => k_is)
    (case l__law_is_fraction => k_is)
    (case e__law_is_fraction => k_is)
    (case k__law_is_fraction => k_is)
    (case a__law_are_fractions => k_is)
    (case l__law_are_fractions => k_is)
    (case e__law_are_fractions => k_is)
    (case k__law_are_fractions => k_is)
    (case a__law_marks => k_is)
    (case l__law_marks => k_is)
    (case e__law_marks => k_is)
    (case k__law_marks => k_is)
    (case a__law_only => k_is)
    (case l__law_only => k_is)
    (case e__law_only => k_is)
    (case k__law_only => k_is)
    (case a__law_weight_by => k_is)
    (case l__law_weight_by => k_is)
    (case e__law_weight_by => k_is)
    (case k__law_weight_by => k_is)
    (case a__law_weights_by => k_is)
    (case l__law_weights_by => k_is)
    (case e__law_weights_by => k_is)
    (case k__law_weights_by => k_is)
    (case a__law_moments_by => k_is)
    (case l__law_moments_by => k_is)
    (case e__law_moments_by => k_is)
    (case k__law_moments_by => k_is)
    (case a__law_measure_by => k_is)
    (case l__law_measure_by => k_is)
    (case e__law_measure_by => k_is)
    (case k__law_measure_by => k_is)
    (case a__law_table_of => k_is)
    (case l__law_table_of => k_is)
    (case e__law_table_of => k_is)
    (case k__law_table_of => k_is)
    (case a__law_told_weights => k_is)
    (case l__law_told_weights => k_is)
    (case e__law_told_weights => k_is)
    (case k__law_told_weights => k_is)
    (case a__law_bars => k_is)
    (case l__law_bars => k_is)
    (case e__law_bars => k_is)
    (case k__law_bars => k_is)
    (case a__law_asked => k_is)
    (case l__law_asked => k_is)
    (case e__law_asked => k_is)
    (case k__law_asked => k_is)
    (case a__law_stands => k_is)
    (case l__law_stands => k_is)
    (case e__law_stands => k_is)
    (case k__law_stands => k_is)
    (case a__law_list_by => k_is)
    (case l__law_list_by => k_is)
    (case e__law_list_by => k_is)
    (case k__law_list_by => k_is)
    (case a_law => k_is)
    (case l_law => k_is)
    (case e_law => k_is)
    (case k_law => k_is)
    (case a_HeightError => k_is)
    (case a_NOUGHT => k_is)
    (case a_NoCount => k_is)
    (case a_NoFamily => k_is)
    (case a_NoFraction => k_is)
    (case a_NoHistory => k_is)
    (case a_NoLine => k_is)
    (case a_NoMeeting => k_is)
    (case a_NoMoments => k_is)
    (case a_NoName => k_is)
    (case a_NoNumber => k_is)
    (case a_NoSeries => k_is)
    (case a_NoText => k_is)
    (case a_NoThing => k_is)
    (case a_NoWay => k_is)
    (case a_NoWeights => k_is)
    (case a_ONE => k_is)
    (case a_TooFar => k_is)
    (case a_TooHigh => k_is)
    (case a_TooMany => k_is)
    (case n_ValueError => k_is)
    (case n_abs => k_is)
    (case n_all => k_is)
    (case n_bool => k_is)
    (case n_enumerate => k_is)
    (case n_int => k_is)
    (case n_isinstance => k_is)
    (case n_len => k_is)
    (case n_list => k_is)
    (case n_max => k_is)
    (case n_min => k_is)
    (case n_range => k_is)
    (case n_tuple => k_is)
    (case a_MOST_MOMENTS => k_is)
    (case x_nought => kernel_rfl)
    (case x_one => kernel_rfl)
    (case x_tf => kernel_rfl)
    (case x_nf => kernel_rfl)
    (case x_nm => kernel_rfl)
    (case x_ga => kernel_rfl)
    (case x_gt => kernel_rfl)
    (case x_be => kernel_rfl)
    (case x_ob => kernel_rfl)
    (case x_cl => kernel_rfl)
    (case x_gs => kernel_rfl)
    (case x_tk => kernel_rfl)
    (case x_is => kernel_rfl)
    (case x_ex => kernel_rfl)
    (case x_kValueError => kernel_rfl)
    (case x_kNoFraction => kernel_rfl)
    (case x_kTooMany => kernel_rfl)
    (case x_kTooFar => kernel_rfl)
    (case x_kNoNumber => kernel_rfl)
    (case x_kNoWeights => kernel_rfl)
    (case x_kNoSeries => kernel_rfl)
    (case x_kNoMoments => kernel_rfl)
    (case x_kNoFamily => kernel_rfl)
    (case x_kNoMeeting => kernel_rfl)
    (case x_kNoThing => kernel_rfl)
    (case x_kNoLine => kernel_rfl)
    (case x_kNoText => kernel_rfl)
    (case x_kNoWay => kernel_rfl)
    (case x_kTooHigh => kernel_rfl)
    (case x_kNoHistory => kernel_rfl)
    (case x_kNoCount => kernel_rfl)
    (case x_kNoName => kernel_rfl)
