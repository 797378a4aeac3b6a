import PyProof.Rows.All
import Wide.All
import OpenK.AllK
import Wide.FinOn
import Lean
import PyProof.EqAt
import PyProof.EqKinds
import PyProof.TupleCall
import PyProof.NeKinds
import KE.KRevIter
import PyProof.EnumStmt
import PyProof.StationsW
import PyProof.ExcClass3
import PyProof.InstStoreFacts
import PyProof.StrCalls
import PyProof.StrCalls2
import PyProof.StrWalks
import PyProof.StrBlockG
import PyProof.ConsumeWalk
import PyProof.StrOps2
import KE.KIntText
import KE.IntTextText
import PyProof.JoinWalk
import PyProof.CollectIter
import PyProof.StrLawsTight
import PyProof.StrLawsChain
import PyProof.Conv_int_bool
import PyProof.MinMaxWalk
import PyProof.WalksMore
import PyProof.WalkInts
import PyProof.ZipIter
import PyProof.DictWalks
import PySem.Challenge.RW_heightfractions_k10_ways_numbered
set_option Elab.async false
set_option linter.all false
set_option maxRecDepth 100000
set_option maxHeartbeats 4000000
namespace L2
open PySem PySem.Spec PyProof.Rows
abbrev Key := Sum Int Str
def keyIs : Key → Value → Bool
  | .inl k, v => Value.isInt k v
  | .inr x, v => Value.isStrOf x v
def keyH (w : World) : Key → Int
  | .inl k => hashInt k
  | .inr x => hashStr w x
theorem keyIs_shape : ∀ {k : Key} {v : Value}, keyIs k v = true → (∃ i t, k = Sum.inl i ∧ v = Value.int i t) ∨ (∃ x t, k = Sum.inr x ∧ v = Value.str x t)
  | .inl i, v, h => by
    obtain ⟨t, e⟩ := Value.isInt_shape (k := i) (v := v) h
    exact .inl ⟨i, t, rfl, e⟩
  | .inr x, v, h => by
    obtain ⟨t, e⟩ := Value.isStrOf_shape (x := x) (v := v) h
    exact .inr ⟨x, t, rfl, e⟩
theorem keyIs_int (i : Int) (t : Tok) : keyIs (.inl i) (.int i t) = true := by simp [keyIs, Value.isInt]
theorem keyIs_str (x : Str) (t : Tok) : keyIs (.inr x) (.str x t) = true := by simp [keyIs, Value.isStrOf]
theorem key_ll (a b : Int) : decide ((Sum.inl a : Key) = Sum.inl b) = (a == b) := by
  by_cases e : a = b
  · subst e; simp
  · have h : ¬ (Sum.inl a : Key) = Sum.inl b := fun q => e (Sum.inl.inj q)
    rw [decide_eq_false h]
    exact (beq_eq_false_iff_ne.mpr e).symm
theorem key_rr (a b : Str) : decide ((Sum.inr a : Key) = Sum.inr b) = decide (a = b) := by
  by_cases e : a = b
  · subst e; simp
  · have h : ¬ (Sum.inr a : Key) = Sum.inr b := fun q => e (Sum.inr.inj q)
    rw [decide_eq_false h, decide_eq_false e]
theorem key_lr (a : Int) (b : Str) : decide ((Sum.inl a : Key) = Sum.inr b) = false := decide_eq_false (fun q => nomatch q)
theorem key_rl (a : Str) (b : Int) : decide ((Sum.inr a : Key) = Sum.inl b) = false := decide_eq_false (fun q => nomatch q)
def mixKind (prog : Program) (w : World) : PySem.KeyKind prog w Key where
  is := keyIs
  hash := keyH w
  inj := fun v a b ha hb => by
    rcases keyIs_shape ha with ⟨i, t, rfl, rfl⟩ | ⟨x, t, rfl, rfl⟩
    · rcases keyIs_shape hb with ⟨j, u, rfl, e⟩ | ⟨y, u, rfl, e⟩
      · injection e with e1 _; rw [e1]
      · exact nomatch e
    · rcases keyIs_shape hb with ⟨j, u, rfl, e⟩ | ⟨y, u, rfl, e⟩
      · exact nomatch e
      · injection e with e1 _; rw [e1]
  byValue := fun k v h => by
    rcases keyIs_shape h with ⟨i, t, rfl, rfl⟩ | ⟨x, t, rfl, rfl⟩ <;> rfl
  pyHash := fun hv h => by
    rcases keyIs_shape hv with ⟨i, t, rfl, rfl⟩ | ⟨x, t, rfl, rfl⟩
    · exact wpAny_pyHash_int h
    · exact wpAny_pyHash_str h
  eqBool := fun hu hv h => by
    rcases keyIs_shape hu with ⟨i, t, rfl, rfl⟩ | ⟨x, t, rfl, rfl⟩
    · rcases keyIs_shape hv with ⟨j, u, rfl, rfl⟩ | ⟨y, u, rfl, rfl⟩
      · rw [key_ll] at h; exact wpAny_eqBool_int h
      · rw [key_lr] at h; exact SeqAt.EqAt.int_str i t y u _ _ _ _ h
    · rcases keyIs_shape hv with ⟨j, u, rfl, rfl⟩ | ⟨y, u, rfl, rfl⟩
      · rw [key_rl] at h; exact SeqAt.EqAt.str_int x t j u _ _ _ _ h
      · rw [key_rr] at h; exact wpAny_eqBool_str h
  «strs» := fun k x t v h => by
    rcases keyIs_shape h with ⟨i, u, rfl, e⟩ | ⟨y, u, rfl, e⟩
    · exact nomatch e
    · injection e with e1 _
      subst e1
      cases v <;> rfl
theorem mixKind_int (prog : Program) (w : World) (i : Int) (t : Tok) : (mixKind prog w).is (.inl i) (.int i t) = true := keyIs_int i t
theorem mixKind_str (prog : Program) (w : World) (x : Str) (t : Tok) : (mixKind prog w).is (.inr x) (.str x t) = true := keyIs_str x t
end L2
namespace L2
open PySem PySem.Spec PyProof.Rows
inductive V where
  | non | bl (b : Bool) | int (i : Int) | str (x : Str) | byt (b : Array UInt8) | flt (b : UInt64) | ref (a : Addr) | ty (n : String)
  deriving DecidableEq
def RelV : V → Value → Prop
  | .non, u => u = Value.none
  | .bl b, u => u = Value.bool b
  | .int i, u => ∃ t, u = Value.int i t
  | .str x, u => ∃ t, u = Value.str x t
  | .byt b, u => ∃ t, u = Value.bytes b t
  | .flt b, u => ∃ t, u = Value.float b t
  | .ref a, u => u = Value.ref a
  | .ty n, u => u = Value.type n
abbrev Vals : List V → List Value → Prop := Paired RelV
theorem Vals.length {xs : List V} {us : List Value} (r : Vals xs us) : xs.length = us.length := Paired.length r
theorem Vals.get : ∀ {xs : List V} {us : List Value} {i : Nat} {x : V}, Vals xs us → xs[i]? = some x → ∃ u, us[i]? = some u ∧ RelV x u
  | _, _, _, _, .nil, e => by simp at e
  | _, _, 0, _, .cons r _, e => by simp at e; subst e; exact ⟨_, rfl, r⟩
  | _, _, i + 1, x, .cons _ t, e => by
    obtain ⟨u, h1, h2⟩ := Vals.get (i := i) (x := x) t (by simpa using e)
    exact ⟨u, by simpa using h1, h2⟩
theorem Vals.set {x : V} {u : Value} (r : RelV x u) : ∀ {xs : List V} {us : List Value} (i : Nat), Vals xs us → Vals (xs.set i x) (us.set i u)
  | _, _, _, .nil => .nil
  | _, _, 0, .cons _ t => .cons r t
  | _, _, i + 1, .cons q t => .cons q (Vals.set r i t)
theorem Vals.append : ∀ {xs ys : List V} {us ws : List Value}, Vals xs us → Vals ys ws → Vals (xs ++ ys) (us ++ ws)
  | _, _, _, _, .nil, s => s
  | _, _, _, _, .cons r t, s => .cons r (Vals.append t s)
theorem Vals.take : ∀ {xs : List V} {us : List Value} (n : Nat), Vals xs us → Vals (xs.take n) (us.take n)
  | _, _, 0, _ => .nil
  | _, _, _ + 1, .nil => .nil
  | _, _, n + 1, .cons r t => .cons r (Vals.take n t)
theorem Vals.drop : ∀ {xs : List V} {us : List Value} (n : Nat), Vals xs us → Vals (xs.drop n) (us.drop n)
  | _, _, 0, r => r
  | _, _, _ + 1, .nil => .nil
  | _, _, n + 1, .cons _ t => Vals.drop n t
def RelO : Option V → Option Value → Prop
  | some v, some u => RelV v u
  | none, none => True
  | _, _ => False
def KV {κ : Type} : List (κ × V) → List (κ × Value) → Prop := Paired fun (p : κ × V) (q : κ × Value) => p.1 = q.1 ∧ RelV p.2 q.2
def kV : Key → V
  | .inl i => .int i
  | .inr x => .str x
inductive HO where
  | lst (xs : List V)
  | tup (xs : List V)
  | dK (kvs : List (Key × V)) | dT (kvs : List (List Key × V))
  | set (S : Int → Bool) (n : Nat)
  | ins (C dx : Addr) (fs : List (Str × V))
  | own (x : Addr)
  | xd (fs : List (Str × V))
  | met (f x : Addr)
  | rng (lo hi : Int)
  | frz (o : Obj) (u : HO)
  | tbl (ps : Array Value)
  | ext (φ : Heap → Prop)
abbrev Hp := Addr → Option HO
def upd (H : Hp) (a : Addr) (o : HO) : Hp := fun b => if b = a then some o else H b
theorem upd_same {H : Hp} {a : Addr} {o : HO} : upd H a o a = some o := by unfold upd; rw [if_pos rfl]
theorem upd_ne {H : Hp} {a b : Addr} {o : HO} (h : b ≠ a) : upd H a o b = H b := by unfold upd; rw [if_neg h]
theorem upd_upd {H : Hp} {a : Addr} {o u : HO} : upd (upd H a o) a u = upd H a u := by
  funext b; unfold upd; split <;> rfl
theorem ne_of {H : Hp} {a b : Addr} {o u : HO} (h : H a = some o) (h' : H b = some u) (d : o ≠ u) : a ≠ b := by
  intro e; subst e; rw [h] at h'; exact d (Option.some.inj h')
theorem ne_of_none {H : Hp} {a b : Addr} {o : HO} (h : H a = some o) (h' : H b = none) : a ≠ b := by
  intro e; subst e; rw [h] at h'; cases h'
section
variable (P : Program) (w : World)
def ObjOk (H : Hp) (h : Heap) (a : Addr) : HO → Prop
  | .lst xs => xs.length ≤ sizeLine ∧ ∃ (its : List Value) (n : Nat), Vals xs its ∧ h.get? a = some { cls := .type "list", data := .seq its.toArray n }
  | .tup xs => xs.length ≤ sizeLine ∧ ∃ its : List Value, Vals xs its ∧ IsTup h a its.toArray
  | .dK kvs => kvs.length ≤ sizeLine ∧ (a == sysModules) = false ∧ ∃ vs, KV kvs vs ∧ h.DictOf (mixKind P w) a vs
  | .dT kvs => kvs.length ≤ sizeLine ∧ (a == sysModules) = false ∧ ∃ xs : List (List Key × Addr × Value),
      Paired (fun (p : List Key × V) (q : List Key × Addr × Value) => p.1 = q.1 ∧ H q.2.1 = some (.tup (p.1.map kV)) ∧ RelV p.2 q.2.2) kvs xs ∧
      ∃ o es ep, h.get? a = some o ∧ o.ExactDict ∧ o.data = .dict es ep ∧ es.toList = xs.map (entryOfKey (tupleKind (mixKind P w))) ∧ (xs.map (·.1)).Nodup
  | .set S n => h.SetOf (intKind P w) a S n
  | .ins C dx fs => H dx = some (.own a) ∧ fs.length ≤ 1000 ∧ dx ≠ a ∧ h.get? a = some (PySem.W.instObj C dx) ∧
      ∃ mA, h.Ns1 dx mA ∧ (∀ f, RelO (fs.lookup f) (mA f)) ∧ PySem.Within mA (fs.map (·.1))
  | .own _ => ∃ o, h.get? a = some o
  | .xd fs => ∃ mA, h.Ns1 a mA ∧ ∀ f, RelO (fs.lookup f) (mA f)
  | .rng lo hi => ∃ t u v, h.get? a = some { cls := .type "range", data := .fields #[.int lo t, .int hi u, .int 1 v] }
  | .frz o u => h.get? a = some o ∧ ObjOk H h a u
  | .tbl ps => h.get? a = some { cls := .none, data := .fields ps }
  | .met f x => h.get? a = some (PySem.W.methodObj (.ref f) (.ref x))
  | .ext φ => φ h ∧ (∃ o, h.get? a = some o) ∧ ∀ h1 h2 : Heap, φ h1 → (∀ o, h1.get? a = some o → h2.get? a = some o) → φ h2
def HOk (H : Hp) (h : Heap) : Prop := ∀ a o, H a = some o → ObjOk P w H h a o
end
section
variable {P : Program} {w : World} {H H' : Hp} {h h' : Heap} {a : Addr} {o : HO}
theorem ObjOk.lt (x : ObjOk P w H h a o) : a < h.objs.size := by
  cases o with
  | lst xs => obtain ⟨_, _, _, _, e⟩ := x; exact Heap.lt_size e
  | tup xs => obtain ⟨_, _, _, p⟩ := x; exact p.lt
  | dK kvs => obtain ⟨_, _, _, _, o, _, _, e, _⟩ := x; exact Heap.lt_size e
  | dT kvs => obtain ⟨_, _, _, _, o, _, _, e, _⟩ := x; exact Heap.lt_size e
  | set S n => obtain ⟨o, _, _, _, e, _⟩ := x; exact Heap.lt_size e
  | ins C dx fs => obtain ⟨_, _, _, e, _⟩ := x; exact Heap.lt_size e
  | own y => obtain ⟨_, e⟩ := x; exact Heap.lt_size e
  | xd fs => obtain ⟨_, ⟨_, _, _, e, _⟩, _⟩ := x; exact Heap.lt_size e
  | rng lo hi => obtain ⟨_, _, _, e⟩ := x; exact Heap.lt_size e
  | frz ob u => obtain ⟨e, _⟩ := x; exact Heap.lt_size e
  | tbl ps => exact Heap.lt_size (show h.get? a = some _ from x)
  | met f y => exact Heap.lt_size (show h.get? a = some _ from x)
  | ext φ => obtain ⟨_, ⟨_, e⟩, _⟩ := x; exact Heap.lt_size e
theorem Paired.mapP {α β : Type} {F G : α → β → Prop} : ∀ {l₁ : List α} {l₂ : List β}, Paired F l₁ l₂ → (∀ a b, F a b → G a b) → Paired G l₁ l₂
  | _, _, .nil, _ => .nil
  | _, _, .cons r t, f => .cons (f _ _ r) (Paired.mapP t f)
theorem ObjOk.stay (x : ObjOk P w H h a o) (k : ∀ b u, (b = a ∨ H b = some (.own a)) → h.get? b = some u → h'.get? b = some u)
    (ho : ∀ b, H b = some (.own a) → H' b = some (.own a)) (ht : ∀ b xs, H b = some (.tup xs) → H' b = some (.tup xs)) : ObjOk P w H' h' a o := by
  induction o with
  | lst xs => obtain ⟨z, its, n, r, e⟩ := x; exact ⟨z, its, n, r, k _ _ (.inl rfl) e⟩
  | tup xs => obtain ⟨z, its, r, ob, e, c⟩ := x; exact ⟨z, its, r, ob, k _ _ (.inl rfl) e, c⟩
  | dK kvs => obtain ⟨z, y, vs, r, ob, es, ep, e, c⟩ := x; exact ⟨z, y, vs, r, ob, es, ep, k _ _ (.inl rfl) e, c⟩
  | dT kvs =>
    obtain ⟨z, y, xs, r, ob, es, ep, e, c⟩ := x
    exact ⟨z, y, xs, Paired.mapP r fun p q z => ⟨z.1, ht _ _ z.2.1, z.2.2⟩, ob, es, ep, k _ _ (.inl rfl) e, c⟩
  | set S n => obtain ⟨ob, es, ep, t, e, c⟩ := x; exact ⟨ob, es, ep, t, k _ _ (.inl rfl) e, c⟩
  | ins C dx fs =>
    obtain ⟨d, z, ne, e, mA, ⟨od, es, ep, e2, c⟩, r⟩ := x
    exact ⟨ho _ d, z, ne, k _ _ (.inl rfl) e, mA, ⟨od, es, ep, k _ _ (.inr d) e2, c⟩, r⟩
  | own y => obtain ⟨ob, e⟩ := x; exact ⟨ob, k _ _ (.inl rfl) e⟩
  | xd fs => obtain ⟨mA, ⟨od, es, ep, e, c⟩, r⟩ := x; exact ⟨mA, ⟨od, es, ep, k _ _ (.inl rfl) e, c⟩, r⟩
  | rng lo hi => obtain ⟨t, u, v, e⟩ := x; exact ⟨t, u, v, k _ _ (.inl rfl) e⟩
  | frz ob u ih => obtain ⟨e, q⟩ := x; exact ⟨k _ _ (.inl rfl) e, ih q⟩
  | tbl ps =>
    have e : h.get? a = some { cls := .none, data := .fields ps } := x
    show h'.get? a = some { cls := .none, data := .fields ps }
    exact k a _ (.inl rfl) e
  | met f y =>
    have e : h.get? a = some (PySem.W.methodObj (.ref f) (.ref y)) := x
    show h'.get? a = some (PySem.W.methodObj (.ref f) (.ref y))
    exact k a _ (.inl rfl) e
  | ext φ => obtain ⟨p, ⟨o, e⟩, st⟩ := x; exact ⟨st _ _ p fun o q => k _ _ (.inl rfl) q, ⟨o, k _ _ (.inl rfl) e⟩, st⟩
theorem HOk.lt (x : HOk P w H h) (e : H a = some o) : a < h.objs.size := (x a o e).lt
theorem HOk.fresh (x : HOk P w H h) (e : h.objs.size ≤ a) : H a = none := by
  cases q : H a with
  | none => rfl
  | some u => exact absurd (Nat.lt_of_lt_of_le (x.lt q) e) (Nat.lt_irrefl _)
theorem HOk.kept (x : HOk P w H h) (k : ∀ b u, h.get? b = some u → h'.get? b = some u) : HOk P w H h' := fun a o e =>
  (x a o e).stay (fun b u _ q => k b u q) (fun _ q => q) fun _ _ q => q
theorem HOk.laid (x : HOk P w H h) (k : ∀ b u, h.get? b = some u → h'.get? b = some u) (hp : h.objs.size ≤ a) (new : ObjOk P w (upd H a o) h' a o) : HOk P w (upd H a o) h' := fun b u e => by
  have hn := x.fresh hp
  by_cases hb : b = a
  · subst hb; rw [upd_same] at e; cases e; exact new
  · rw [upd_ne hb] at e
    exact (x b u e).stay (fun c v _ q => k c v q) (fun c q => by rw [upd_ne (ne_of_none q hn)]; exact q) fun c xs q => by rw [upd_ne (ne_of_none q hn)]; exact q
end
def Rd (H : Hp) (a : Addr) (u : HO) : Prop := H a = some u ∨ ∃ o, H a = some (.frz o u)
theorem Rd.of {H : Hp} {a : Addr} {u : HO} (h : H a = some u) : Rd H a u := .inl h
theorem Rd.ok {P : Program} {w : World} {H : Hp} {h : Heap} {a : Addr} {u : HO} (r : Rd H a u) (x : HOk P w H h) : ObjOk P w H h a u := by
  rcases r with r | ⟨o, r⟩
  · exact x a u r
  · obtain ⟨_, q⟩ := x a _ r
    exact q
def Mut : Option HO → Prop
  | some (.lst _) => True
  | some (.dK _) => True
  | some (.dT _) => True
  | some (.set _ _) => True
  | some (.ins _ _ _) => True
  | some (.ext _) => True
  | _ => False
section
variable {P : Program} {w : World} {H : Hp} {h h' : Heap} {x e : Addr} {o' : HO}
theorem HOk.write (ok : HOk P w H h) (mu : Mut (H x)) (he : e = x ∨ H e = some (.own x)) (k : ∀ b u, b ≠ e → h.get? b = some u → h'.get? b = some u) (heo : ∃ u, h'.get? e = some u)
    (new : ObjOk P w (upd H x o') h' x o') : HOk P w (upd H x o') h' := fun b u q => by
  have nown : ∀ c y, H c = some (.own y) → c ≠ x := fun c y r z => by subst z; rw [r] at mu; exact mu
  have ntup : ∀ c xs, H c = some (.tup xs) → c ≠ x := fun c xs r z => by subst z; rw [r] at mu; exact mu
  by_cases hb : b = x
  · subst hb; rw [upd_same] at q; cases q; exact new
  · rw [upd_ne hb] at q
    by_cases hbe : b = e
    · have q' : H b = some (.own x) := by
        rcases he with z | z
        · exact absurd (hbe.trans z) hb
        · rw [hbe]; exact z
      rw [q] at q'; cases q'
      obtain ⟨v, hv⟩ := heo
      exact ⟨v, by rw [hbe]; exact hv⟩
    · refine (ok b u q).stay (fun c v hc r => k c v ?_ r) (fun c r => by rw [upd_ne (nown c b r)]; exact r) fun c xs r => by rw [upd_ne (ntup c xs r)]; exact r
      rcases hc with rfl | hc
      · exact hbe
      · rintro rfl
        rcases he with z | z
        · exact nown c b hc z
        · rw [hc] at z; cases z; exact hb rfl
end
structure Un (fs ex : List Addr) (H H' : Hp) (h h' : Heap) : Prop where
  keep : ∀ b o, h.get? b = some o → H b = none → b ∉ fs → b ∉ ex → h'.get? b = some o
  slot : ∀ b o, h.get? b = some o → H b = none → b ∈ fs → b ∉ ex → ∃ sl, h'.get? b = some { o with slots := sl }
  free : ∀ b o, h.get? b = some o → H b = none → b ∉ ex → H' b = none
  there : ∀ b o, h.get? b = some o → b ∉ ex → ∃ o', h'.get? b = some o'
  tups : ∀ b xs, H b = some (.tup xs) → H' b = some (.tup xs)
  frzs : ∀ b o u, H b = some (.frz o u) → H' b = some (.frz o u)
  tbls : ∀ b ps, H b = some (.tbl ps) → ∃ more, H' b = some (.tbl (ps ++ more))
section
variable {fs fs' ex ex' : List Addr} {H H1 H2 : Hp} {h h1 h2 h' : Heap} {a x e : Addr} {o : HO}
theorem Un.any (u : Un fs ex H H1 h h1) {b : Addr} {ob : Obj} (q : h.get? b = some ob) (n : H b = none) (hx : b ∉ ex) : ∃ sl, h1.get? b = some { ob with slots := sl } := by
  by_cases hb : b ∈ fs
  · exact u.slot b ob q n hb hx
  · exact ⟨ob.slots, u.keep b ob q n hb hx⟩
theorem Un.trans (a : Un fs ex H H1 h h1) (b : Un fs ex H1 H2 h1 h2) : Un fs ex H H2 h h2 where
  keep := fun c ob q n hc hx => b.keep c ob (a.keep c ob q n hc hx) (a.free c ob q n hx) hc hx
  slot := fun c ob q n hc hx => by
    obtain ⟨sl, e1⟩ := a.slot c ob q n hc hx
    obtain ⟨sl', e2⟩ := b.slot c _ e1 (a.free c ob q n hx) hc hx
    exact ⟨sl', e2⟩
  free := fun c ob q n hx => by
    obtain ⟨o', e1⟩ := a.there c ob q hx
    exact b.free c o' e1 (a.free c ob q n hx) hx
  there := fun c ob q hx => by
    obtain ⟨o', e1⟩ := a.there c ob q hx
    exact b.there c o' e1 hx
  tups := fun c xs q => b.tups c xs (a.tups c xs q)
  frzs := fun c ob xs q => b.frzs c ob xs (a.frzs c ob xs q)
  tbls := fun c ps q => by
    obtain ⟨m1, e1⟩ := a.tbls c ps q
    obtain ⟨m2, e2⟩ := b.tbls c _ e1
    exact ⟨m1 ++ m2, by rw [e2, Array.append_assoc]⟩
theorem Un.kept (k : ∀ b u, h.get? b = some u → h'.get? b = some u) : Un fs ex H H h h' :=
  ⟨fun b ob q _ _ _ => k b ob q, fun b ob q _ _ _ => ⟨ob.slots, k b ob q⟩, fun _ _ _ n _ => n, fun b ob q _ => ⟨ob, k b ob q⟩, fun _ _ q => q, fun _ _ _ q => q, fun _ ps q => ⟨#[], by rw [q]; simp⟩⟩
theorem Un.refl : Un fs ex H H h h := Un.kept fun _ _ q => q
theorem Un.laid (k : ∀ b u, h.get? b = some u → h'.get? b = some u) (hp : h.objs.size ≤ a) (hn : H a = none) : Un fs ex H (upd H a o) h h' where
  keep := fun b u q _ _ _ => k b u q
  slot := fun b u q _ _ _ => ⟨u.slots, k b u q⟩
  free := fun b u q n _ => by rw [upd_ne (Nat.ne_of_lt (Nat.lt_of_lt_of_le (Heap.lt_size q) hp))]; exact n
  there := fun b u q _ => ⟨u, k b u q⟩
  tups := fun b xs q => by rw [upd_ne (ne_of_none q hn)]; exact q
  frzs := fun b u xs q => by rw [upd_ne (ne_of_none q hn)]; exact q
  tbls := fun b ps q => ⟨#[], by rw [upd_ne (ne_of_none q hn), q]; simp⟩
theorem Un.write (mu : Mut (H x)) (he : e = x ∨ H e = some (.own x)) (k : ∀ b u, b ≠ e → h.get? b = some u → h'.get? b = some u) (heo : ∃ u, h'.get? e = some u) : Un fs ex H (upd H x o) h h' := by
  have hx : ∀ b, H b = none → b ≠ x := fun b n z => by subst z; rw [n] at mu; exact mu
  have hb : ∀ b, H b = none → b ≠ e := fun b n z => by
    subst z
    rcases he with r | r
    · exact hx b n r
    · rw [n] at r; cases r
  have hm : ∀ b u, H b = some u → ¬ Mut (some u) → b ≠ x := fun b u q nm z => by subst z; rw [q] at mu; exact nm mu
  refine ⟨fun b u q n _ _ => k b u (hb b n) q, fun b u q n _ _ => ⟨u.slots, k b u (hb b n) q⟩, fun b u q n _ => by rw [upd_ne (hx b n)]; exact n, fun b u q _ => ?_,
    fun b xs q => by rw [upd_ne (hm b _ q fun z => z)]; exact q, fun b u xs q => by rw [upd_ne (hm b _ q fun z => z)]; exact q, fun b ps q => ⟨#[], by rw [upd_ne (hm b _ q fun z => z), q]; simp⟩⟩
  by_cases hbe : b = e
  · subst hbe; exact heo
  · exact ⟨u, k b u hbe q⟩
theorem Un.mono (u : Un fs ex H H1 h h1) (hs : ∀ b ∈ fs, b ∈ fs') (hx : ∀ b ∈ ex, b ∈ ex') : Un fs' ex' H H1 h h1 :=
  ⟨fun b ob q n hb he => u.keep b ob q n (fun z => hb (hs b z)) fun z => he (hx b z), fun _ _ q n _ he => u.any q n fun z => he (hx _ z), fun b ob q n he => u.free b ob q n fun z => he (hx b z), fun b ob q he => u.there b ob q fun z => he (hx b z), u.tups, u.frzs, u.tbls⟩
end
def trk (h : Heap) (H : Hp) : List Addr := (List.range h.objs.size).filter fun a => (H a).isSome
def hidT (h : Heap) (H : Hp) : Heap := PySem.W.hideAll h (trk h H)
theorem hidT_size (h : Heap) (H : Hp) : (hidT h H).objs.size = h.objs.size := PySem.W.hideAll_size _ _
theorem hidT_get {h : Heap} {H : Hp} {b : Addr} {o : Obj} (e : h.get? b = some o) (n : H b = none) : (hidT h H).get? b = some o :=
  PySem.W.hideAll_get _ e fun hm => by
    have q : (H b).isSome = true := (List.mem_filter.mp hm).2
    rw [n] at q; simp at q
theorem of_hidT {h : Heap} {H : Hp} {b : Addr} {o : Obj} (e : (hidT h H).get? b = some o) : h.get? b = some o ∧ H b = none := by
  have e' : h.get? b = some o := PySem.W.of_hideAll (trk h H) e
  refine ⟨e', ?_⟩
  cases q : H b with
  | none => rfl
  | some x =>
    have hm : b ∈ trk h H := List.mem_filter.mpr ⟨List.mem_range.mpr (Heap.lt_size e'), by simp [q]⟩
    have z : (hidT h H).get? b = none := PySem.W.hideAll_none (trk h H) hm
    rw [z] at e; cases e
def allNews (g h : Heap) (L : Addr) : List (Addr × Obj) := (List.range h.objs.size).filterMap fun a => if a = L ∨ (g.get? a).isSome = true then none else (h.get? a).map fun o => (a, o)
def rest (g h : Heap) (L d : Addr) : List (Addr × Obj) := (allNews g h L).filter fun p => decide (p.1 ≠ d)
end L2
namespace L2
open PySem PySem.Spec PyProof.Rows
structure Mod (K : PySem.W.Frag) (mg : Str → Option Value) (base : Heap) : Prop where
  kin : K.In base
  glob : base.Ns mainGlobals mg
  blt : ∃ mb, base.Ns builtinsNs mb ∧ ∀ x : Str, x ≠ "__name__" → mb x = bootBuiltins x
  nolimit : base.NoLimit
/-- the context: a def's body (or a comprehension's block) running. base: fixed through the whole law; s₀, H₀: the entry; outer: the frames whose slots others may change (a def's callers); stack: all frames that run;
   ex: iterators that were made ahead of the entry and are walked here (a comprehension's); fn: the names whose cells were made at the entry (a def: all; a comprehension's block: its own); calm: not within an except suite; pn: pins that every state bears; xe: what is wanted of an exception that leaves the code -/
structure Cx where
  prog : Program
  w : World
  K : PySem.W.Frag
  mg : Str → Option Value
  base : Heap
  A : Around
  N : List Str
  s₀ : Shared
  H₀ : Hp
  env : Env
  outer : List Env
  stack : List Env
  ex : List Addr
  fn : Str → Bool
  calm : Bool
  pn : List (Addr × Obj)
  xe : Value → Shared → Prop
def frs (l : List Env) : List Addr := l.filterMap (·.frame)
abbrev Cx.fs (X : Cx) : List Addr := frs X.outer
def Vis (sc : Scope) (x : Str) : Prop := sc.names.lookup x = some .local ∨ sc.names.lookup x = some .cell ∨ sc.names.lookup x = some .free
def Loc (sc : Scope) (x : Str) : Prop := sc.names.lookup x = some .local ∨ sc.names.lookup x = some .cell
def Look (env : Env) (h : Heap) (m : Str → Option Value) (x : Str) (u : Value) : Prop :=
  (env.kindOf x = some .local ∧ m x = some u) ∨ ((env.kindOf x = some .cell ∨ env.kindOf x = some .free) ∧ ∃ c, env.cells.lookup x = some c ∧ h.IsCell c (some u))
structure Cx.Ok (X : Cx) : Prop where
  mod : Mod X.K X.mg X.base
  kind : X.env.scope.kind = .function
  glob : X.env.globals = mainGlobals
  blt : X.env.builtins = builtinsNs
  above : X.s₀.heap.objs.size ≤ X.env.locals
  inj : ∀ x y c, X.env.cells.lookup x = some c → X.env.cells.lookup y = some c → x = y
  has : ∀ x, (X.env.kindOf x = some .cell ∨ X.env.kindOf x = some .free) → ∃ c, X.env.cells.lookup x = some c
  cab : ∀ x c, X.fn x = true → X.env.cells.lookup x = some c → X.s₀.heap.objs.size ≤ c
  hd : X.calm = true → X.A.handled = none
  frames : X.A.frames = some X.stack
  stk : X.stack = X.outer ∨ (X.stack = X.env :: X.outer ∧ X.env.frame = some X.env.locals)
  exf : ∀ b ∈ X.ex, b ≠ X.env.locals ∧ ∀ x c, X.env.cells.lookup x = some c → c ≠ b
  bs : ∀ b o, X.base.get? b = some o → X.s₀.heap.get? b = some o ∧ X.H₀ b = none
  bsz : X.base.objs.size ≤ X.s₀.heap.objs.size
  noex : ∀ b o, X.base.get? b = some o → b ∉ X.ex
  exfs : ∀ b ∈ X.ex, b ∉ X.fs
  funs : X.s₀.heap.FunFrames X.base X.outer
  frf : ∀ b ∈ X.fs, X.H₀ b = none
structure Inv (X : Cx) (pins : List (Addr × Obj)) (σ : List (Option V)) (H : Hp) (s : Shared) : Prop where
  ok : X.Ok
  os : s.os = X.s₀.os
  bare : AllBare s.gens
  base : Un X.fs X.ex X.H₀ H X.s₀.heap s.heap
  loc : ∃ m, s.heap.Ns X.env.locals m ∧ ∀ (i : Nat) (x : Str) (v : V), X.N[i]? = some x → σ[i]? = some (some v) → Vis X.env.scope x → ∃ u, RelV v u ∧ Look X.env s.heap m x u
  cell : ∀ x c, X.env.cells.lookup x = some c → ∃ v, s.heap.IsCell c v
  free : H X.env.locals = none
  freeC : ∀ x c, X.env.cells.lookup x = some c → H c = none
  pin : ∀ p ∈ X.pn ++ pins, s.heap.get? p.1 = some p.2 ∧ H p.1 = none ∧ p.1 ≠ X.env.locals ∧ p.1 ∉ X.fs ∧ ∀ v, p.2.data ≠ .cell v
  hok : HOk X.prog X.w H s.heap
  len : σ.length = X.N.length
section
variable {X : Cx} {pins : List (Addr × Obj)} {σ : List (Option V)} {H H' : Hp} {s : Shared} {h' : Heap}
theorem Cx.Ok.nofr (ok : X.Ok) {b : Addr} {o : Obj} (e : X.base.get? b = some o) : b ∉ X.fs := fun hb => by
  have := (ok.funs.mem hb).1
  rw [e] at this; cases this
theorem Inv.bs (I : Inv X pins σ H s) : ∀ b o, X.base.get? b = some o → s.heap.get? b = some o ∧ H b = none := fun b o e =>
  ⟨I.base.keep b o (I.ok.bs b o e).1 (I.ok.bs b o e).2 (I.ok.nofr e) (I.ok.noex b o e), I.base.free b o (I.ok.bs b o e).1 (I.ok.bs b o e).2 (I.ok.noex b o e)⟩
theorem Inv.bk (I : Inv X pins σ H s) : ∀ b o, X.base.get? b = some o → s.heap.get? b = some o := fun b o e => (I.bs b o e).1
theorem Inv.mod (I : Inv X pins σ H s) : Mod X.K X.mg X.base := I.ok.mod
theorem Inv.kIn (I : Inv X pins σ H s) : X.K.In s.heap := I.ok.mod.kin.keeps I.bk
theorem Inv.nolimit (I : Inv X pins σ H s) : s.heap.NoLimit := I.ok.mod.nolimit.keeps I.bk
theorem Inv.fr (I : Inv X pins σ H s) : ∃ m, Fr X.base X.env.locals s.heap m :=
  let ⟨m, hn, _⟩ := I.loc
  ⟨m, hn, I.bk, Nat.le_trans I.ok.bsz I.ok.above⟩
theorem Inv.lt (I : Inv X pins σ H s) : X.env.locals < s.heap.objs.size := let ⟨_, hn, _⟩ := I.loc; hn.lt
theorem Inv.sz (I : Inv X pins σ H s) : X.s₀.heap.objs.size ≤ s.heap.objs.size := Nat.le_trans I.ok.above (Nat.le_of_lt I.lt)
theorem Inv.nofs (I : Inv X pins σ H s) {a : Addr} (h : s.heap.objs.size ≤ a) : a ∉ X.fs := fun hb => by
  obtain ⟨_, o, ho, _⟩ := I.ok.funs.mem hb
  exact absurd (Nat.lt_of_lt_of_le (Heap.lt_size ho) (Nat.le_trans I.sz h)) (Nat.lt_irrefl _)
theorem Inv.cne (I : Inv X pins σ H s) : ∀ x c, X.env.cells.lookup x = some c → c ≠ X.env.locals := fun x c e z => by
  obtain ⟨v, o, ho, hd⟩ := I.cell x c e
  obtain ⟨m, ⟨o', es, ep, ho', hd', _⟩, _⟩ := I.loc
  rw [z, ho'] at ho; cases ho; rw [hd'] at hd; cases hd
theorem Inv.funs (I : Inv X pins σ H s) : s.heap.FunFrames X.base X.outer := by
  have all : ∀ (l : List Env), (∀ b ∈ frs l, b ∈ X.fs) → X.s₀.heap.FunFrames X.base l → s.heap.FunFrames X.base l := by
    intro l
    induction l with
    | nil => intro _ _; trivial
    | cons env r ih =>
      intro hs hl
      obtain ⟨hk, ⟨L, o, hf, hn, ho, hd⟩, hr⟩ := hl
      have hL : L ∈ X.fs := hs L (by unfold frs; rw [List.filterMap_cons, hf]; exact List.mem_cons_self)
      obtain ⟨sl, e⟩ := I.base.slot L o ho (I.ok.frf L hL) hL fun z => I.ok.exfs L z hL
      exact ⟨hk, ⟨L, _, hf, hn, e, hd⟩, ih (fun b hb => hs b (by unfold frs; rw [List.filterMap_cons, hf]; exact List.mem_cons_of_mem _ hb)) hr⟩
  exact all X.outer (fun _ hb => hb) I.ok.funs
theorem Inv.stack (I : Inv X pins σ H s) : s.heap.FunFrames X.base X.stack := by
  rcases I.ok.stk with e | ⟨e, hf⟩
  · rw [e]; exact I.funs
  · rw [e]
    obtain ⟨m, hn, _⟩ := I.loc
    refine .cons (by rw [I.ok.kind]; decide) hf hn ?_ I.funs
    exact Heap.get?_none_of_le (Nat.le_trans I.ok.bsz I.ok.above)
theorem Inv.stkSub (I : Inv X pins σ H s) : ∀ b ∈ frs X.stack, b ∈ X.env.locals :: X.fs := fun b hb => by
  rcases I.ok.stk with e | ⟨e, hf⟩
  · rw [e] at hb; exact List.mem_cons_of_mem _ hb
  · rw [e] at hb
    unfold frs at hb
    rw [List.filterMap_cons, hf] at hb
    exact hb
theorem Inv.stkFree (I : Inv X pins σ H s) : ∀ b ∈ frs X.stack, H b = none := fun b hb => by
  rcases List.mem_cons.mp (I.stkSub b hb) with e | hb
  · rw [e]; exact I.free
  · obtain ⟨_, o, ho, _⟩ := I.ok.funs.mem hb
    exact I.base.free b o ho (I.ok.frf b hb) fun z => I.ok.exfs b z hb
theorem Inv.step {g' : Array GenState} {t' : Nat} {d' : Drawn} {ch : List Addr} (I : Inv X pins σ H s)
    (hch : ∀ b ∈ ch, (b ∈ X.ex ∨ X.s₀.heap.objs.size ≤ b) ∧ b ≠ X.env.locals ∧ (∀ x c, X.env.cells.lookup x = some c → c ≠ b) ∧ ∀ p ∈ X.pn ++ pins, p.1 ≠ b)
    (keep : ∀ b o, b ≠ X.env.locals → b ∉ X.fs → b ∉ ch → s.heap.get? b = some o → H b = none → h'.get? b = some o)
    (slot : ∀ b o, b ≠ X.env.locals → b ∈ X.fs → b ∉ ch → s.heap.get? b = some o → H b = none → ∃ sl, h'.get? b = some { o with slots := sl }) (free : ∀ b o, b ∉ ch → s.heap.get? b = some o → H b = none → H' b = none)
    (there : ∀ b o, b ∉ ch → s.heap.get? b = some o → ∃ o', h'.get? b = some o')
    (tups : ∀ b xs, H b = some (.tup xs) → H' b = some (.tup xs)) (frzs : ∀ b o u, H b = some (.frz o u) → H' b = some (.frz o u)) (tbls : ∀ b ps, H b = some (.tbl ps) → ∃ more, H' b = some (.tbl (ps ++ more)))
    (ns : ∀ m, s.heap.Ns X.env.locals m → h'.Ns X.env.locals m) (hok : HOk X.prog X.w H' h') (hg : AllBare g') :
    Inv X pins σ H' { s with heap := h', gens := g', drawn := d', toks := t' } := by
  have neL : ∀ b o, X.s₀.heap.get? b = some o → b ≠ X.env.locals := fun b o e => Nat.ne_of_lt (Nat.lt_of_lt_of_le (Heap.lt_size e) I.ok.above)
  have neC : ∀ b o, X.s₀.heap.get? b = some o → b ∉ X.ex → b ∉ ch := fun b o e hx hb => by
    rcases (hch b hb).1 with z | z
    · exact hx z
    · exact absurd (Nat.lt_of_lt_of_le (Heap.lt_size e) z) (Nat.lt_irrefl _)
  have cellK : ∀ x c, X.env.cells.lookup x = some c → ∀ v, s.heap.IsCell c v → h'.IsCell c v := fun x c e v ⟨o, ho, hd⟩ => by
    have nch : c ∉ ch := fun z => (hch c z).2.2.1 x c e rfl
    by_cases hc : c ∈ X.fs
    · obtain ⟨sl, q⟩ := slot c o (I.cne x c e) hc nch ho (I.freeC x c e)
      exact ⟨_, q, hd⟩
    · exact ⟨o, keep c o (I.cne x c e) hc nch ho (I.freeC x c e), hd⟩
  refine ⟨I.ok, I.os, hg, ⟨fun b o e n hb hx => ?_, fun b o e n hb hx => ?_, fun b o e n hx => ?_, fun b o e hx => ?_, fun b xs e => tups b xs (I.base.tups b xs e), fun b o xs e => frzs b o xs (I.base.frzs b o xs e), fun b ps e => ?_⟩, ?_, fun x c e => ?_, ?_, fun x c e => ?_, fun p hp => ?_, hok, I.len⟩
  · exact keep b o (neL b o e) hb (neC b o e hx) (I.base.keep b o e n hb hx) (I.base.free b o e n hx)
  · obtain ⟨sl, e1⟩ := I.base.slot b o e n hb hx
    obtain ⟨sl', e2⟩ := slot b _ (neL b o e) hb (neC b o e hx) e1 (I.base.free b o e n hx)
    exact ⟨sl', e2⟩
  · obtain ⟨o', e1⟩ := I.base.there b o e hx
    exact free b o' (neC b o e hx) e1 (I.base.free b o e n hx)
  · obtain ⟨o', e1⟩ := I.base.there b o e hx
    exact there b o' (neC b o e hx) e1
  · obtain ⟨m1, e1⟩ := I.base.tbls b ps e
    obtain ⟨m2, e2⟩ := tbls b _ e1
    exact ⟨m1 ++ m2, by rw [e2, Array.append_assoc]⟩
  · obtain ⟨m, hn, hl⟩ := I.loc
    refine ⟨m, ns m hn, fun i x v e1 e2 e3 => ?_⟩
    obtain ⟨u, r, l⟩ := hl i x v e1 e2 e3
    refine ⟨u, r, ?_⟩
    rcases l with l | ⟨k, c, e, z⟩
    · exact .inl l
    · exact .inr ⟨k, c, e, cellK x c e _ z⟩
  · obtain ⟨v, z⟩ := I.cell x c e
    exact ⟨v, cellK x c e v z⟩
  · obtain ⟨m, ⟨o, _, _, ho, _⟩, _⟩ := I.loc
    exact free _ o (fun z => (hch _ z).2.1 rfl) ho I.free
  · obtain ⟨v, o, ho, hd⟩ := I.cell x c e
    exact free c o (fun z => (hch c z).2.2.1 x c e rfl) ho (I.freeC x c e)
  · obtain ⟨e, n, ne, nf, d⟩ := I.pin p hp
    have nch : p.1 ∉ ch := fun z => (hch p.1 z).2.2.2 p hp rfl
    exact ⟨keep p.1 p.2 ne nf nch e n, free p.1 p.2 nch e n, ne, nf, d⟩
theorem Inv.un {t' : Nat} (I : Inv X pins σ H s) (u : Un X.fs [] H H' s.heap h') (hok : HOk X.prog X.w H' h') : Inv X pins σ H' { s with heap := h', toks := t' } := by
  obtain ⟨m, ⟨o, es, ep, ho, r⟩, _⟩ := id I.loc
  obtain ⟨sl, hL⟩ := u.any ho I.free (by simp)
  exact I.step (g' := s.gens) (d' := s.drawn) (ch := []) (fun _ z => nomatch z) (fun b o _ hb _ e n => u.keep b o e n hb (by simp)) (fun b o _ hb _ e n => u.slot b o e n hb (by simp)) (fun b o _ e n => u.free b o e n (by simp)) (fun b o _ e => u.there b o e (by simp)) u.tups u.frzs u.tbls (fun m' hm => by
    obtain ⟨o', es', ep', ho', r'⟩ := hm
    rw [ho] at ho'; cases ho'
    exact ⟨_, es', ep', hL, r'⟩) hok I.bare
theorem Inv.call {g' : Array GenState} {t' : Nat} {d' : Drawn} {ch : List Addr} (I : Inv X pins σ H s) (u : Un (frs X.stack) ch H H' s.heap h') (hok : HOk X.prog X.w H' h') (hg : AllBare g')
    (hch : ∀ b ∈ ch, (b ∈ X.ex ∨ X.s₀.heap.objs.size ≤ b) ∧ b ≠ X.env.locals ∧ (∀ x c, X.env.cells.lookup x = some c → c ≠ b) ∧ ∀ p ∈ X.pn ++ pins, p.1 ≠ b) :
    Inv X pins σ H' { s with heap := h', gens := g', drawn := d', toks := t' } := by
  obtain ⟨m, ⟨o, es, ep, ho, r⟩, _⟩ := id I.loc
  obtain ⟨sl, hL⟩ := u.any ho I.free fun z => (hch _ z).2.1 rfl
  exact I.step (ch := ch) hch (fun b o hL hb hc e n => u.keep b o e n (fun z => (List.mem_cons.mp (I.stkSub b z)).elim hL hb) hc) (fun b o _ _ hc e n => u.any e n hc) (fun b o hc e n => u.free b o e n hc) (fun b o hc e => u.there b o e hc) u.tups u.frzs u.tbls (fun m' hm => by
    obtain ⟨o', es', ep', ho', r'⟩ := hm
    rw [ho] at ho'; cases ho'
    exact ⟨_, es', ep', hL, r'⟩) hok hg
theorem Inv.turned {t' : Nat} {it : Addr} (I : Inv X pins σ H s) (k : ∀ b o, b ≠ it → s.heap.get? b = some o → h'.get? b = some o) (hn : H it = none) (hL : it ≠ X.env.locals)
    (h1 : it ∈ X.ex ∨ X.s₀.heap.objs.size ≤ it) (h2 : ∀ x c, X.env.cells.lookup x = some c → c ≠ it) (h3 : ∀ p ∈ X.pn ++ pins, p.1 ≠ it) : Inv X pins σ H { s with heap := h', toks := t' } := by
  have nit : ∀ b u, H b = some u → b ≠ it := fun b u e z => by rw [z, hn] at e; cases e
  refine I.step (g' := s.gens) (d' := s.drawn) (ch := [it]) (fun b hb => ?_) (fun b o _ _ hc e _ => k b o (fun z => hc (by simp [z])) e) (fun b o _ _ hc e _ => ⟨o.slots, k b o (fun z => hc (by simp [z])) e⟩) (fun _ _ _ _ n => n)
    (fun b o hc e => ⟨o, k b o (fun z => hc (by simp [z])) e⟩) (fun _ _ e => e) (fun _ _ _ e => e) (fun b ps e => ⟨#[], by rw [e]; simp⟩) (fun m hm => ?_) (fun b u e => ?_) I.bare
  · have e : b = it := by simpa using hb
    subst e
    exact ⟨h1, hL, h2, h3⟩
  · obtain ⟨o, es, ep, ho, r⟩ := hm
    exact ⟨o, es, ep, k _ o (Ne.symm hL) ho, r⟩
  · refine (I.hok b u e).stay (fun c v hc q => k c v ?_ q) (fun _ q => q) fun _ _ q => q
    rcases hc with z | z
    · rw [z]; exact nit b u e
    · exact nit c _ z
theorem Inv.tok (I : Inv X pins σ H s) (t : Nat) : Inv X pins σ H { s with toks := t } := I.un (h' := s.heap) (t' := t) Un.refl I.hok
theorem Inv.kept {t' : Nat} (I : Inv X pins σ H s) (k : ∀ b u, s.heap.get? b = some u → h'.get? b = some u) : Inv X pins σ H { s with heap := h', toks := t' } := I.un (Un.kept k) (I.hok.kept k)
theorem Inv.laid {a : Addr} {o : HO} {t' : Nat} (I : Inv X pins σ H s) (k : ∀ b u, s.heap.get? b = some u → h'.get? b = some u) (hp : s.heap.objs.size ≤ a) (new : ObjOk X.prog X.w (upd H a o) h' a o) :
    Inv X pins σ (upd H a o) { s with heap := h', toks := t' } := I.un (Un.laid k hp (I.hok.fresh hp)) (I.hok.laid k hp new)
theorem Inv.write {x e : Addr} {o : HO} {t' : Nat} (I : Inv X pins σ H s) (mu : Mut (H x)) (he : e = x ∨ H e = some (.own x)) (k : ∀ b u, b ≠ e → s.heap.get? b = some u → h'.get? b = some u) (heo : ∃ u, h'.get? e = some u)
    (new : ObjOk X.prog X.w (upd H x o) h' x o) : Inv X pins σ (upd H x o) { s with heap := h', toks := t' } := I.un (Un.write mu he k heo) (I.hok.write mu he k heo new)
theorem Inv.pins_of {pins' : List (Addr × Obj)} (I : Inv X pins σ H s) (h : ∀ p ∈ pins', s.heap.get? p.1 = some p.2 ∧ H p.1 = none ∧ p.1 ≠ X.env.locals ∧ p.1 ∉ X.fs ∧ ∀ v, p.2.data ≠ .cell v) : Inv X pins' σ H s :=
  ⟨I.ok, I.os, I.bare, I.base, I.loc, I.cell, I.free, I.freeC, fun p hp => (List.mem_append.mp hp).elim (fun z => I.pin p (List.mem_append_left _ z)) (h p), I.hok, I.len⟩
theorem nodup_ix {N : List Str} (hN : N.Nodup) {i j : Nat} {x : Str} (a : N[i]? = some x) (b : N[j]? = some x) : i = j := by
  obtain ⟨h1, e1⟩ := List.getElem?_eq_some_iff.mp a
  obtain ⟨h2, e2⟩ := List.getElem?_eq_some_iff.mp b
  exact (List.getElem_inj hN).mp (e1.trans e2.symm)
theorem store_ok2 {M : Model} {A : Around} {E : Value → Shared → Prop} {i : Nat} {x : Str} {v : V} {u : Value} {Q : Unit → Shared → Prop} (I : Inv X pins σ H s) (hN : X.N.Nodup) (hi : X.N[i]? = some x) (hx : Loc X.env.scope x) (r : RelV v u)
    (h : ∀ s', Inv X pins (σ.set i (some v)) H s' → (∃ a, Heap.SameBut a s.heap s'.heap ∧ (a = X.env.locals ∨ X.env.cells.lookup x = some a)) → Q () s') (hf : X.fn x = true ∨ X.env.scope.names.lookup x = some .local := by first | exact .inl rfl | exact .inr rfl | assumption) : wpAny M A (storeName X.env x u) Q E s := by
  obtain ⟨m, hn, hl⟩ := id I.loc
  have hcls : (X.env.scope.kind == .class || (X.env.scope.kind == .module && X.env.locals != X.env.globals)) = false := by rw [I.ok.kind]; rfl
  have hiσ : i < σ.length := by rw [I.len]; exact (List.getElem?_eq_some_iff.mp hi).1
  have cne := I.cne
  have tracked : ∀ {a : Addr} {h' : Heap}, (∃ o, s.heap.get? a = some o ∧ H a = none) → Heap.SameBut a s.heap h' → HOk X.prog X.w H h' := fun {a h'} ha hs b ob e => by
    obtain ⟨_, _, hfree⟩ := ha
    refine (I.hok b ob e).stay (fun c w' hc q => (hs.2 c ?_).trans q) (fun _ q => q) fun _ _ q => q
    rintro rfl
    rcases hc with rfl | hc
    · rw [hfree] at e; cases e
    · rw [hfree] at hc; cases hc
  rcases hx with hk | hk
  · refine wpAny_storeName_local hk hn (fun h' hn' hs => ?_) hcls
    obtain ⟨oL, _, _, hoL, _⟩ := id hn
    refine h _ ⟨I.ok, I.os, I.bare, ⟨fun b o e n hb hx => ?_, fun b o e n hb hx => ?_, I.base.free, fun b o e hx => ?_, I.base.tups, I.base.frzs, I.base.tbls⟩, ⟨_, hn', fun j y v' e1 e2 e3 => ?_⟩, fun y c e => ?_, I.free, I.freeC, fun p hp => ?_, tracked ⟨oL, hoL, I.free⟩ hs, by simpa using I.len⟩ ⟨_, hs, .inl rfl⟩
    · exact (hs.2 b (Nat.ne_of_lt (Nat.lt_of_lt_of_le (Heap.lt_size e) I.ok.above))).trans (I.base.keep b o e n hb hx)
    · obtain ⟨sl, e1⟩ := I.base.slot b o e n hb hx
      exact ⟨sl, (hs.2 b (Nat.ne_of_lt (Nat.lt_of_lt_of_le (Heap.lt_size e) I.ok.above))).trans e1⟩
    · obtain ⟨o', e1⟩ := I.base.there b o e hx
      exact ⟨o', (hs.2 b (Nat.ne_of_lt (Nat.lt_of_lt_of_le (Heap.lt_size e) I.ok.above))).trans e1⟩
    · by_cases hj : j = i
      · subst hj
        rw [hi] at e1; cases e1
        rw [List.getElem?_set_self hiσ] at e2
        cases e2
        exact ⟨u, r, .inl ⟨hk, by simp⟩⟩
      · rw [List.getElem?_set_ne (Ne.symm hj)] at e2
        obtain ⟨u', r', q⟩ := hl j y v' e1 e2 e3
        refine ⟨u', r', ?_⟩
        rcases q with ⟨k, e⟩ | ⟨k, c, e, z⟩
        · refine .inl ⟨k, ?_⟩
          have : y ≠ x := fun e => hj (nodup_ix hN e1 (e ▸ hi))
          simp [this, e]
        · exact .inr ⟨k, c, e, z.sameBut hs (cne y c e)⟩
    · obtain ⟨w', z⟩ := I.cell y c e
      exact ⟨w', z.sameBut hs (cne y c e)⟩
    · obtain ⟨e, n, ne, nf, d⟩ := I.pin p hp
      exact ⟨(hs.2 p.1 ne).trans e, n, ne, nf, d⟩
  · have hfn : X.fn x = true := by
      rcases hf with z | z
      · exact z
      · rw [z] at hk; cases hk
    obtain ⟨c, hc⟩ := I.ok.has x (.inl hk)
    obtain ⟨w', z⟩ := I.cell x c hc
    refine wpAny_storeName_cell I.ok.kind hk hc z (fun h' hc' hs => ?_)
    obtain ⟨oc, hoc, hocd⟩ := id z
    refine h { s with heap := h' } ⟨I.ok, I.os, I.bare, ⟨fun b o e n hb hx => ?_, fun b o e n hb hx => ?_, I.base.free, fun b o e hx => ?_, I.base.tups, I.base.frzs, I.base.tbls⟩, ⟨m, hn.sameBut hs (Ne.symm (cne x c hc)), fun j y v' e1 e2 e3 => ?_⟩, fun y c' e => ?_, I.free, I.freeC, fun p hp => ?_, tracked ⟨oc, hoc, I.freeC x c hc⟩ hs, by simpa using I.len⟩ ⟨c, hs, .inr hc⟩
    · exact (hs.2 b (Nat.ne_of_lt (Nat.lt_of_lt_of_le (Heap.lt_size e) (I.ok.cab x c hfn hc)))).trans (I.base.keep b o e n hb hx)
    · obtain ⟨sl, e1⟩ := I.base.slot b o e n hb hx
      exact ⟨sl, (hs.2 b (Nat.ne_of_lt (Nat.lt_of_lt_of_le (Heap.lt_size e) (I.ok.cab x c hfn hc)))).trans e1⟩
    · obtain ⟨o', e1⟩ := I.base.there b o e hx
      exact ⟨o', (hs.2 b (Nat.ne_of_lt (Nat.lt_of_lt_of_le (Heap.lt_size e) (I.ok.cab x c hfn hc)))).trans e1⟩
    · by_cases hj : j = i
      · subst hj
        rw [hi] at e1; cases e1
        rw [List.getElem?_set_self hiσ] at e2
        cases e2
        exact ⟨u, r, .inr ⟨.inl hk, c, hc, hc'⟩⟩
      · rw [List.getElem?_set_ne (Ne.symm hj)] at e2
        obtain ⟨u', r', q⟩ := hl j y v' e1 e2 e3
        refine ⟨u', r', ?_⟩
        rcases q with q | ⟨k, c', e, z'⟩
        · exact .inl q
        · refine .inr ⟨k, c', e, z'.sameBut hs ?_⟩
          rintro rfl
          exact hj (nodup_ix hN e1 (I.ok.inj _ _ _ e hc ▸ hi))
    · by_cases hcc : c' = c
      · subst hcc; exact ⟨_, hc'⟩
      · obtain ⟨w2, z2⟩ := I.cell y c' e
        exact ⟨w2, z2.sameBut hs hcc⟩
    · obtain ⟨e, n, ne, nf, d⟩ := I.pin p hp
      refine ⟨(hs.2 p.1 ?_).trans e, n, ne, nf, d⟩
      intro q
      rw [q, hoc] at e
      have q' : oc = p.2 := Option.some.inj e
      exact d w' (by rw [← q']; exact hocd)
theorem store_ok {M : Model} {A : Around} {E : Value → Shared → Prop} {i : Nat} {x : Str} {v : V} {u : Value} {Q : Unit → Shared → Prop} (I : Inv X pins σ H s) (hN : X.N.Nodup) (hi : X.N[i]? = some x) (hx : Loc X.env.scope x) (r : RelV v u)
    (h : ∀ s', Inv X pins (σ.set i (some v)) H s' → Q () s') (hf : X.fn x = true ∨ X.env.scope.names.lookup x = some .local := by first | exact .inl rfl | exact .inr rfl | assumption) : wpAny M A (storeName X.env x u) Q E s :=
  store_ok2 I hN hi hx r (fun s' I' _ => h s' I') hf
theorem Inv.call' {s' : Shared} {ch : List Addr} (I : Inv X pins σ H s) (ho : s'.os = s.os) (u : Un (frs X.stack) ch H H' s.heap s'.heap) (hok : HOk X.prog X.w H' s'.heap) (hg : AllBare s'.gens)
    (hch : ∀ b ∈ ch, (b ∈ X.ex ∨ X.s₀.heap.objs.size ≤ b) ∧ b ≠ X.env.locals ∧ (∀ x c, X.env.cells.lookup x = some c → c ≠ b) ∧ ∀ p ∈ X.pn ++ pins, p.1 ≠ b) : Inv X pins σ H' s' := by
  obtain ⟨h', g', d', t', o'⟩ := s'
  have e : o' = s.os := ho
  subst e
  exact I.call (g' := g') (t' := t') (d' := d') u hok hg hch
end
abbrev XK := Value → Option Addr → Hp → Prop
abbrev St := List (Option V)
abbrev VK := V → Hp → Prop
abbrev TE := St → Hp → VK → Prop
abbrev TT := St → Hp → (Bool → Hp → Prop) → Prop
abbrev TA := St → Hp → (List V → Hp → Prop) → Prop
structure Ends where
  nx : St → Hp → Prop
  rt : VK
  bk : St → Hp → Prop := fun _ _ => False
  ct : St → Hp → Prop := fun _ _ => False
abbrev TS := Ends → St → Hp → Prop
def EP (X : Cx) (pins : List (Addr × Obj)) (σ : St) (Q : VK) (u : Value) (s' : Shared) : Prop := ∃ v H', Inv X pins σ H' s' ∧ RelV v u ∧ Q v H'
def TP (X : Cx) (pins : List (Addr × Obj)) (σ : St) (Q : Bool → Hp → Prop) (b : Bool) (s' : Shared) : Prop := ∃ H', Inv X pins σ H' s' ∧ Q b H'
def AP (X : Cx) (pins : List (Addr × Obj)) (σ : St) (Q : List V → Hp → Prop) (us : List Value) (s' : Shared) : Prop := ∃ vs H', Inv X pins σ H' s' ∧ Vals vs us ∧ Q vs H'
def SP (X : Cx) (pins : List (Addr × Obj)) (D : Ends) (f : Flow) (s' : Shared) : Prop :=
  match f with
  | .next => ∃ σ' H', Inv X pins σ' H' s' ∧ D.nx σ' H'
  | .brk => ∃ σ' H', Inv X pins σ' H' s' ∧ D.bk σ' H'
  | .cont => ∃ σ' H', Inv X pins σ' H' s' ∧ D.ct σ' H'
  | .ret u => ∃ v σ' H', Inv X pins σ' H' s' ∧ RelV v u ∧ D.rt v H'
def PE (X : Cx) (e : Expr) (t : TE) : Prop :=
  ∀ (pins : List (Addr × Obj)) (s : Shared) (σ : St) (H : Hp) (Q : VK), Inv X pins σ H s → t σ H Q → wpAny (model X.prog X.w) X.A (eval e X.env) (EP X pins σ Q) X.xe s
def PT (X : Cx) (e : Expr) (t : TT) : Prop :=
  ∀ (pins : List (Addr × Obj)) (s : Shared) (σ : St) (H : Hp) (Q : Bool → Hp → Prop), Inv X pins σ H s → t σ H Q → wpAny (model X.prog X.w) X.A (isTrue e X.env (eval e X.env)) (TP X pins σ Q) X.xe s
def PW (X : Cx) (e : Expr) (t : TT) : Prop :=
  ∀ (whole : Sem Value) (pins : List (Addr × Obj)) (s : Shared) (σ : St) (H : Hp) (Q : Bool → Hp → Prop), Inv X pins σ H s → t σ H Q → wpAny (model X.prog X.w) X.A (isTrue e X.env whole) (TP X pins σ Q) X.xe s
theorem PW.pt {X : Cx} {e : Expr} {t : TT} (h : PW X e t) : PT X e t := h _
def PA (X : Cx) (es : List Expr) (t : TA) : Prop :=
  ∀ (pos : Pos) (pins : List (Addr × Obj)) (s : Shared) (σ : St) (H : Hp) (Q : List V → Hp → Prop), Inv X pins σ H s → t σ H Q → wpAny (model X.prog X.w) X.A (spliced (backTo pos (starEach es X.env))) (AP X pins σ Q) X.xe s
def PS (X : Cx) (st : Stmt) (t : TS) : Prop :=
  ∀ (pins : List (Addr × Obj)) (s : Shared) (σ : St) (H : Hp) (D : Ends), Inv X pins σ H s → t D σ H → wpAny (model X.prog X.w) X.A (exec st X.env) (SP X pins D) X.xe s
def PSs (X : Cx) (st : List Stmt) (t : TS) : Prop :=
  ∀ (pins : List (Addr × Obj)) (s : Shared) (σ : St) (H : Hp) (D : Ends), Inv X pins σ H s → t D σ H → wpAny (model X.prog X.w) X.A (execs st X.env) (SP X pins D) X.xe s
theorem thn {α : Type} {t : Sem α} {Q Q' : α → Shared → Prop} {M : Model} {A : Around} {E : Value → Shared → Prop} {s : Shared} (h : wpAny M A t Q E s) (hQ : ∀ a s, Q a s → Q' a s) : wpAny M A t Q' E s := wpAny_mono h hQ fun _ _ x => x
end L2
namespace L2
open PySem PySem.Spec PyProof.Rows
section
variable {X : Cx}
def tVar (i : Nat) : TE := fun σ H Q => ∃ v, σ[i]? = some (some v) ∧ Q v H
def tC (v : V) : TE := fun _ H Q => Q v H
theorem pe_var {i : Nat} {x : Str} {pos : Pos} (hN : X.N[i]? = some x) (hv : Vis X.env.scope x) (hd : (x == ("__debug__" : Str)) = false := by decide) (hcd : (x == ("__classdict__" : Str)) = false := by decide) : PE X (.Name x pos) (tVar i) := by
  intro pins s σ H Q I h
  obtain ⟨v, e, h⟩ := h
  obtain ⟨m, hn, hl⟩ := I.loc
  obtain ⟨u, r, l⟩ := hl i x v hN e hv
  have fin : EP X pins σ Q u s := ⟨v, H, I, r, h⟩
  rcases l with ⟨hk, hm⟩ | ⟨hk, c, hc, hcell⟩
  · exact wpAny_Name (wpAny_loadName_local I.ok.kind hk hn hm fin) hd
  · rcases hk with hk | hk
    · exact wpAny_Name (wpAny_loadName_cell I.ok.kind hk hc hcell fin) hd
    · exact wpAny_Name (wpAny_loadName_free I.ok.kind hk hc hcell fin hcd) hd
theorem pe_int {i j pos} : PE X (.Constant (.int i) j pos) (tC (.int i)) := fun _ _ _ H _ I h => wpAny_Constant_int ⟨.int i, H, I.tok _, ⟨_, rfl⟩, h⟩
theorem pe_bl {b j pos} : PE X (.Constant (.bool b) j pos) (tC (.bl b)) := fun _ _ _ H _ I h => Constant_bool ⟨.bl b, H, I, rfl, h⟩
theorem pe_non {j pos} : PE X (.Constant .none j pos) (tC .non) := fun _ _ _ H _ I h => Constant_none ⟨.non, H, I, rfl, h⟩
theorem pe_str {x j pos} : PE X (.Constant (.str x) j pos) (tC (.str x)) := fun _ _ _ H _ I h => Calls.Constant_str ⟨.str x, H, I.tok _, ⟨_, rfl⟩, h⟩
def Gl (X : Cx) (x : Str) : Prop := X.env.kindOf x = some .globalImplicit
theorem ld_glob {E : Value → Shared → Prop} {pins : List (Addr × Obj)} {s : Shared} {σ : St} {H : Hp} {x : Str} {u : Value} {pos : Pos} {Q : Value → Shared → Prop} (I : Inv X pins σ H s) (hg : Gl X x) (hm : X.mg x = some u) (h : Q u s)
    (hd : (x == ("__debug__" : Str)) = false := by decide) : wpAny (model X.prog X.w) X.A (eval (.Name x pos) X.env) Q E s :=
  Calls.Name_function_global I.ok.kind hg (Calls.loadGlobal_global (by rw [I.ok.glob]; exact I.mod.glob.keeps I.bk) hm h) hd
theorem ld_blt {E : Value → Shared → Prop} {pins : List (Addr × Obj)} {s : Shared} {σ : St} {H : Hp} {x : Str} {u : Value} {pos : Pos} {Q : Value → Shared → Prop} (I : Inv X pins σ H s) (hg : Gl X x) (hm : X.mg x = none) (hv : bootBuiltins x = some u) (h : Q u s)
    (hn : x ≠ "__name__" := by decide) (hd : (x == ("__debug__" : Str)) = false := by decide) : wpAny (model X.prog X.w) X.A (eval (.Name x pos) X.env) Q E s := by
  obtain ⟨mb, h1, h2⟩ := I.mod.blt
  exact Calls.Name_function_global I.ok.kind hg (Calls.loadGlobal_builtin (by rw [I.ok.glob]; exact I.mod.glob.keeps I.bk) hm (by rw [I.ok.blt]; exact h1.keeps I.bk) ((h2 x hn).trans hv) h) hd
theorem pe_glob {x : Str} {v : V} {u : Value} {pos : Pos} (hg : Gl X x) (hm : X.mg x = some u) (r : RelV v u) (hd : (x == ("__debug__" : Str)) = false := by decide) : PE X (.Name x pos) (tC v) :=
  fun _ _ _ H _ I h => ld_glob I hg hm ⟨v, H, I, r, h⟩ hd
theorem pe_bltn {x : Str} {v : V} {u : Value} {pos : Pos} (hg : Gl X x) (hm : X.mg x = none) (hv : bootBuiltins x = some u) (r : RelV v u) (hn : x ≠ "__name__" := by decide) (hd : (x == ("__debug__" : Str)) = false := by decide) : PE X (.Name x pos) (tC v) :=
  fun _ _ _ H _ I h => ld_blt I hg hm hv ⟨v, H, I, r, h⟩ hn hd
variable {a b : Expr} {ta tb : TE} {pos : Pos}
def tB (t : TE) : TT := fun σ H Q => t σ H fun x H1 => ∃ c, x = .bl c ∧ Q c H1
theorem pt_val {e : Expr} {t : TE} (h : PE X e t) (he : ∀ whole, isTrue e X.env whole = (do let v ← whole; standAt e.pos; holding [v] (truthy v)) := by intro _; rfl) : PT X e (tB t) := by
  intro pins s σ H Q I hw
  refine isTrue_plain (thn (h pins s σ H _ I hw) fun v s1 ⟨x, H1, I1, r1, q1⟩ => ?_) (he _)
  obtain ⟨d, rfl, q⟩ := q1
  cases r1
  exact wpAny_truthy_bool ⟨H1, I1, q⟩
variable {tA tB' : TT} {rest : List Expr}
def tAnd (t u : TT) : TT := fun σ H Q => t σ H fun c H1 => if c = true then u σ H1 Q else Q false H1
def tOr (t u : TT) : TT := fun σ H Q => t σ H fun c H1 => if c = true then Q true H1 else u σ H1 Q
def tNot (t : TT) : TT := fun σ H Q => t σ H fun c H1 => Q (!c) H1
theorem pw_and1 (ha : PT X a tA) : PW X (.BoolOp .And [a] pos) tA := by
  intro wh pins s σ H Q I h
  refine isTrue_and (thn (ha pins s σ H Q I h) fun c s1 e => ?_)
  cases c with
  | true => exact isTrue_and_nil e
  | false => exact e
theorem pw_or1 (ha : PT X a tA) : PW X (.BoolOp .Or [a] pos) tA := by
  intro wh pins s σ H Q I h
  refine isTrue_or (thn (ha pins s σ H Q I h) fun c s1 e => ?_)
  cases c with
  | false => exact isTrue_or_nil e
  | true => exact e
theorem pw_and (ha : PT X a tA) (hb : PW X (.BoolOp .And (b :: rest) pos) tB') : PW X (.BoolOp .And (a :: b :: rest) pos) (tAnd tA tB') := by
  intro wh pins s σ H Q I h
  refine isTrue_and (thn (ha pins s σ H _ I h) fun c s1 ⟨H1, I1, q1⟩ => ?_)
  cases c with
  | true => exact hb wh pins s1 σ H1 Q I1 q1
  | false => exact ⟨H1, I1, q1⟩
theorem pw_or (ha : PT X a tA) (hb : PW X (.BoolOp .Or (b :: rest) pos) tB') : PW X (.BoolOp .Or (a :: b :: rest) pos) (tOr tA tB') := by
  intro wh pins s σ H Q I h
  refine isTrue_or (thn (ha pins s σ H _ I h) fun c s1 ⟨H1, I1, q1⟩ => ?_)
  cases c with
  | true => exact ⟨H1, I1, q1⟩
  | false => exact hb wh pins s1 σ H1 Q I1 q1
theorem pt_not (ha : PT X a tA) : PT X (.UnaryOp .Not a pos) (tNot tA) := by
  intro pins s σ H Q I h
  exact isTrue_not (ha pins s σ H (fun c H1 => Q (!c) H1) I h)
def tAndV (ta tb : TE) : TE := fun σ H Q => ta σ H fun x H1 => ∃ c, x = .bl c ∧ if c = true then tb σ H1 Q else Q (.bl false) H1
def tOrV (ta tb : TE) : TE := fun σ H Q => ta σ H fun x H1 => ∃ c, x = .bl c ∧ if c = true then Q (.bl true) H1 else tb σ H1 Q
def tNotV (ta : TE) : TE := fun σ H Q => ta σ H fun x H1 => ∃ c, x = .bl c ∧ Q (.bl (!c)) H1
theorem pe_one {op} {t : TE} (h : PE X a t) : PE X (.BoolOp op [a] pos) t := fun pins s σ H Q I hw => BoolOp_one (h pins s σ H Q I hw)
theorem pe_and (ha : PE X a ta) (hb : PE X (.BoolOp .And (b :: rest) pos) tb) : PE X (.BoolOp .And (a :: b :: rest) pos) (tAndV ta tb) := by
  intro pins s σ H Q I h
  refine BoolOp_and (thn (ha pins s σ H _ I h) fun v s1 ⟨x, H1, I1, r1, q1⟩ => ?_)
  obtain ⟨c, rfl, q1⟩ := q1
  cases r1
  refine wpAny_truthy_bool ?_
  cases c with
  | true => exact hb pins s1 σ H1 Q I1 q1
  | false => exact ⟨.bl false, H1, I1, rfl, q1⟩
theorem pe_or (ha : PE X a ta) (hb : PE X (.BoolOp .Or (b :: rest) pos) tb) : PE X (.BoolOp .Or (a :: b :: rest) pos) (tOrV ta tb) := by
  intro pins s σ H Q I h
  refine BoolOp_or (thn (ha pins s σ H _ I h) fun v s1 ⟨x, H1, I1, r1, q1⟩ => ?_)
  obtain ⟨c, rfl, q1⟩ := q1
  cases r1
  refine wpAny_truthy_bool ?_
  cases c with
  | false => exact hb pins s1 σ H1 Q I1 q1
  | true => exact ⟨.bl true, H1, I1, rfl, q1⟩
theorem pe_not (ha : PE X a ta) : PE X (.UnaryOp .Not a pos) (tNotV ta) := by
  intro pins s σ H Q I h
  refine UnaryOp_ (thn (ha pins s σ H _ I h) fun v s1 ⟨x, H1, I1, r1, q1⟩ => ?_)
  obtain ⟨c, rfl, q1⟩ := q1
  cases r1
  exact not_of (wpAny_truthy_bool ⟨.bl (!c), H1, I1, rfl, q1⟩)
def tIf (t : TT) (ta tb : TE) : TE := fun σ H Q => t σ H fun c H1 => if c = true then ta σ H1 Q else tb σ H1 Q
theorem pe_ifExp {c : Expr} (hc : PT X c tA) (ha : PE X a ta) (hb : PE X b tb) : PE X (.IfExp c a b pos) (tIf tA ta tb) := by
  intro pins s σ H Q I h
  refine wpAny_IfExp (thn (hc pins s σ H _ I h) fun d s1 ⟨H1, I1, q1⟩ => ?_)
  cases d with
  | true => exact ha pins s1 σ H1 Q I1 q1
  | false => exact hb pins s1 σ H1 Q I1 q1
end
end L2
namespace L2
open PySem PySem.Spec PyProof.Rows
def SqL (K : PySem.W.Frag) (H : Hp) (a : Addr) (xs : List V) : Prop :=
  Rd H a (.lst xs) ∨
    ∃ (o : Obj) (its : Array Value) (n : Nat), K.lookup a = some o ∧ o.cls = .type "list" ∧ o.dict = none ∧ o.data = .seq its n ∧ its.size ≤ sizeLine ∧ Vals xs its.toList
def SqT (K : PySem.W.Frag) (H : Hp) (a : Addr) (xs : List V) : Prop :=
  Rd H a (.tup xs) ∨
    ∃ (o : Obj) (its : Array Value) (n : Nat), K.lookup a = some o ∧ o.cls = .type "tuple" ∧ o.data = .seq its n ∧ its.size ≤ sizeLine ∧ Vals xs its.toList
def absV : Value → Option V
  | .none => some .non
  | .bool b => some (.bl b)
  | .int i _ => some (.int i)
  | .str x _ => some (.str x)
  | .bytes b _ => some (.byt b)
  | .float b _ => some (.flt b)
  | .ref a => some (.ref a)
  | .type n => some (.ty n)
  | _ => none
theorem RelV.abs {x : V} {u : Value} (r : RelV x u) : absV u = some x := by
  cases x with
  | non => cases r; rfl
  | bl _ => cases r; rfl
  | int _ => obtain ⟨t, rfl⟩ := r; rfl
  | str _ => obtain ⟨t, rfl⟩ := r; rfl
  | byt _ => obtain ⟨t, rfl⟩ := r; rfl
  | flt _ => obtain ⟨t, rfl⟩ := r; rfl
  | ref _ => cases r; rfl
  | ty _ => cases r; rfl
theorem RelV.inj {x y : V} {u : Value} (r : RelV x u) (q : RelV y u) : x = y := Option.some.inj (r.abs.symm.trans q.abs)
theorem Vals.inj : ∀ {xs ys : List V} {us : List Value}, Vals xs us → Vals ys us → xs = ys
  | _, _, _, .nil, .nil => rfl
  | _, _, _, .cons r t, .cons r' t' => by rw [r.inj r', Vals.inj t t']
section
variable {X : Cx} {pins : List (Addr × Obj)} {σ : St} {H : Hp} {s : Shared} {a : Addr} {xs ys : List V}
theorem SqL.of {K : PySem.W.Frag} (h : H a = some (.lst xs)) : SqL K H a xs := .inl (.inl h)
theorem SqT.of {K : PySem.W.Frag} (h : H a = some (.tup xs)) : SqT K H a xs := .inl (.inl h)
theorem Inv.list (I : Inv X pins σ H s) (h : SqL X.K H a xs) : ∃ its : List Value, Vals xs its ∧ PlainL s.heap a its.toArray ∧ xs.length ≤ sizeLine := by
  rcases h with h | ⟨o, its, n, hk, hc, hd, hs, hz, r⟩
  · obtain ⟨z, its, n, r, e⟩ := h.ok I.hok
    exact ⟨its, r, ⟨_, n, e, rfl, rfl, rfl⟩, z⟩
  · refine ⟨its.toList, r, ⟨o, n, I.kIn a o hk, hc, hd, by simpa using hs⟩, ?_⟩
    have e := r.length
    simp only [Array.length_toList] at e
    omega
theorem Inv.tuple (I : Inv X pins σ H s) (h : SqT X.K H a xs) : ∃ its : List Value, Vals xs its ∧ IsTup s.heap a its.toArray ∧ xs.length ≤ sizeLine := by
  rcases h with h | ⟨o, its, n, hk, hc, hs, hz, r⟩
  · obtain ⟨z, its, r, p⟩ := h.ok I.hok
    exact ⟨its, r, p, z⟩
  · refine ⟨its.toList, r, ⟨o, I.kIn a o hk, hc, n, by simpa using hs⟩, ?_⟩
    have e := r.length
    simp only [Array.length_toList] at e
    omega
theorem Inv.list_inj (I : Inv X pins σ H s) (h : SqL X.K H a xs) (h' : SqL X.K H a ys) : xs = ys := by
  obtain ⟨its, r, ⟨o, n, e, _, _, d⟩, _⟩ := I.list h
  obtain ⟨its', r', ⟨o', n', e', _, _, d'⟩, _⟩ := I.list h'
  rw [e] at e'; cases e'
  rw [d] at d'
  injection d' with d1 _
  have : its = its' := by simpa using congrArg Array.toList d1
  subst this
  exact r.inj r'
theorem Inv.tuple_inj (I : Inv X pins σ H s) (h : SqT X.K H a xs) (h' : SqT X.K H a ys) : xs = ys := by
  obtain ⟨its, r, ⟨o, e, _, n, d⟩, _⟩ := I.tuple h
  obtain ⟨its', r', ⟨o', e', _, n', d'⟩, _⟩ := I.tuple h'
  rw [e] at e'; cases e'
  rw [d] at d'
  injection d' with d1 _
  have : its = its' := by simpa using congrArg Array.toList d1
  subst this
  exact r.inj r'
end
abbrev Cx.wish (X : Cx) (E : Value → Shared → Prop) : Cx := { X with xe := E }
abbrev Cx.nox (X : Cx) : Cx := X.wish fun _ _ => False
theorem Cx.Ok.wish {X : Cx} (ok : X.Ok) (E : Value → Shared → Prop) : (X.wish E).Ok :=
  ⟨ok.mod, ok.kind, ok.glob, ok.blt, ok.above, ok.inj, ok.has, ok.cab, ok.hd, ok.frames, ok.stk, ok.exf, ok.bs, ok.bsz, ok.noex, ok.exfs, ok.funs, ok.frf⟩
theorem Cx.Ok.unwish {X : Cx} {E : Value → Shared → Prop} (ok : (X.wish E).Ok) : X.Ok :=
  ⟨ok.mod, ok.kind, ok.glob, ok.blt, ok.above, ok.inj, ok.has, ok.cab, ok.hd, ok.frames, ok.stk, ok.exf, ok.bs, ok.bsz, ok.noex, ok.exfs, ok.funs, ok.frf⟩
section
variable {X : Cx} {pins : List (Addr × Obj)} {σ : St} {H : Hp} {s : Shared} {E : Value → Shared → Prop}
theorem Inv.wish (I : Inv X pins σ H s) (E : Value → Shared → Prop) : Inv (X.wish E) pins σ H s := ⟨I.ok.wish E, I.os, I.bare, I.base, I.loc, I.cell, I.free, I.freeC, I.pin, I.hok, I.len⟩
theorem Inv.unwish (I : Inv (X.wish E) pins σ H s) : Inv X pins σ H s := ⟨I.ok.unwish, I.os, I.bare, I.base, I.loc, I.cell, I.free, I.freeC, I.pin, I.hok, I.len⟩
theorem SP.unwish {D : Ends} {f : Flow} {s' : Shared} (h : SP (X.wish E) pins D f s') : SP X pins D f s' := by
  cases f with
  | next => obtain ⟨σ', H', I, q⟩ := h; exact ⟨σ', H', I.unwish, q⟩
  | brk => obtain ⟨σ', H', I, q⟩ := h; exact ⟨σ', H', I.unwish, q⟩
  | cont => obtain ⟨σ', H', I, q⟩ := h; exact ⟨σ', H', I.unwish, q⟩
  | ret u => obtain ⟨v, σ', H', I, r, q⟩ := h; exact ⟨v, σ', H', I.unwish, r, q⟩
theorem PE.nox {e : Expr} {t : TE} (h : PE X.nox e t) : PE X e t := fun pins s σ H Q I hw =>
  wpAny_mono (h pins s σ H Q (I.wish _) hw) (fun _ _ ⟨v, H', I', r, q⟩ => ⟨v, H', I'.unwish, r, q⟩) fun _ _ z => False.elim z
theorem PT.nox {e : Expr} {t : TT} (h : PT X.nox e t) : PT X e t := fun pins s σ H Q I hw =>
  wpAny_mono (h pins s σ H Q (I.wish _) hw) (fun _ _ ⟨H', I', q⟩ => ⟨H', I'.unwish, q⟩) fun _ _ z => False.elim z
theorem PSs.nox {st : List Stmt} {t : TS} (h : PSs X.nox st t) : PSs X st t := fun pins s σ H D I hw =>
  wpAny_mono (h pins s σ H D (I.wish _) hw) (fun _ _ q => q.unwish) fun _ _ z => False.elim z
end
section
variable {X : Cx} {st : Stmt} {rest : List Stmt} {t u : TS} {e : Expr} {te : TE} {pos : Pos}
def tNext : TS := fun D σ H => D.nx σ H
def tSeq (t u : TS) : TS := fun D σ H => t { D with nx := u D } σ H
theorem pss_nil : PSs X [] tNext := fun _ _ σ H _ I h => wpAny_execs_nil ⟨σ, H, I, h⟩
theorem pss_cons (h1 : PS X st t) (h2 : PSs X rest u) : PSs X (st :: rest) (tSeq t u) := by
  intro pins s σ H D I h
  refine wpAny_execs_cons (thn (h1 pins s σ H { D with nx := u D } I h) fun f s1 q => ?_)
  cases f with
  | next =>
    obtain ⟨σ', H', I', q⟩ := q
    exact h2 pins s1 σ' H' D I' q
  | ret v => exact q
  | brk => exact q
  | cont => exact q
theorem pss_one (h1 : PS X st t) : PSs X [st] t := by
  intro pins s σ H D I h
  refine wpAny_execs_cons (thn (h1 pins s σ H D I h) fun f s1 q => ?_)
  cases f with
  | next => exact wpAny_execs_nil q
  | ret v => exact q
  | brk => exact q
  | cont => exact q
def tBreak : TS := fun D σ H => D.bk σ H
theorem ps_break : PS X (.Break pos) tBreak := fun _ _ σ H _ I h => wpAny_Break ⟨σ, H, I, h⟩
theorem Inv.quiet {pins : List (Addr × Obj)} {σ : St} {H : Hp} {s : Shared} (I : Inv X pins σ H s) : interactive X.env = false := by simp [interactive, I.ok.kind]
def tDrop (te : TE) : TS := fun D σ H => te σ H fun _ H1 => D.nx σ H1
theorem ps_expr (he : PE X e te) (hs : swapsWith e none pos.line X.env = pure false := by rfl) : PS X (.Expr e pos) (tDrop te) := by
  intro pins s σ H D I h
  exact wpAny_Expr_any (thn (he pins s σ H _ I h) fun v s1 ⟨x, H1, I1, r1, q1⟩ => ⟨σ, H1, I1, q1⟩) I.quiet hs
def tRet (te : TE) : TS := fun D σ H => te σ H D.rt
theorem ps_ret (he : PE X e te) : PS X (.Return (some e) pos) (tRet te) := by
  intro pins s σ H D I h
  exact wpAny_Return_some (thn (he pins s σ H _ I h) fun v s1 ⟨x, H1, I1, r1, q1⟩ => ⟨x, σ, H1, I1, r1, q1⟩)
def tRetN : TS := fun D _ H => D.rt .non H
def tIfS (c : TT) (t u : TS) : TS := fun D σ H => c σ H fun b H1 => if b = true then t D σ H1 else u D σ H1
theorem ps_if {c : Expr} {a b : List Stmt} {tc : TT} (hc : PT X c tc) (ha : PSs X a t) (hb : PSs X b u) : PS X (.If c a b pos) (tIfS tc t u) := by
  intro pins s σ H D I h
  refine wpAny_If (thn (hc pins s σ H _ I h) fun d s1 ⟨H1, I1, q1⟩ => ?_)
  cases d with
  | true => exact ha pins s1 σ H1 D I1 q1
  | false => exact hb pins s1 σ H1 D I1 q1
end
abbrev TG := V → St → Hp → (St → Hp → Prop) → Prop
abbrev TGs := List V → St → Hp → (St → Hp → Prop) → Prop
def PG (X : Cx) (target : Expr) (t : TG) : Prop :=
  ∀ (pins : List (Addr × Obj)) (s : Shared) (σ : St) (H : Hp) (v : V) (u : Value) (Q : St → Hp → Prop), Inv X pins σ H s → RelV v u → t v σ H Q →
    wpAny (model X.prog X.w) X.A (assign target X.env u) (fun _ s' => ∃ σ' H', Inv X pins σ' H' s' ∧ Q σ' H') X.xe s
def PGs (X : Cx) (ts : List Expr) (t : TGs) : Prop :=
  ∀ (pins : List (Addr × Obj)) (s : Shared) (σ : St) (H : Hp) (vs : List V) (us : List Value) (Q : St → Hp → Prop), Inv X pins σ H s → Vals vs us → t vs σ H Q →
    wpAny (model X.prog X.w) X.A (assignInOrder ((assignEach ts X.env).map (·.2)) us) (fun _ s' => ∃ σ' H', Inv X pins σ' H' s' ∧ Q σ' H') X.xe s
abbrev TSet := V → V → V → Hp → (Hp → Prop) → Prop
abbrev TIp := V → V → Hp → VK → Prop
section
variable {X : Cx} {pos : Pos}
def gName (i : Nat) : TG := fun v σ H Q => Q (σ.set i (some v)) H
theorem pg_name {i : Nat} {x : Str} (hN : X.N.Nodup) (hi : X.N[i]? = some x) (hx : Loc X.env.scope x) (hf : X.fn x = true ∨ X.env.scope.names.lookup x = some .local := by first | exact .inl rfl | exact .inr rfl | assumption) : PG X (.Name x pos) (gName i) := by
  intro pins s σ H v u Q I r h
  exact wpAny_assign_Name (store_ok I hN hi hx r (fun s' I' => ⟨_, H, I', h⟩) hf)
def gNil : TGs := fun vs σ H Q => vs = [] ∧ Q σ H
def gCons (t : TG) (u : TGs) : TGs := fun vs σ H Q => ∃ v r, vs = v :: r ∧ t v σ H fun σ' H' => u r σ' H' Q
theorem pgs_nil : PGs X [] gNil := by
  intro pins s σ H vs us Q I r h
  obtain ⟨e, h⟩ := h
  subst e
  cases r
  exact assignInOrder_nil ⟨σ, H, I, h⟩
theorem pgs_cons {e : Expr} {es : List Expr} {t : TG} {u : TGs} (h1 : PG X e t) (h2 : PGs X es u)
    (hs : (assignEach (e :: es) X.env).map (·.2) = assign e X.env :: (assignEach es X.env).map (·.2) := by rfl) : PGs X (e :: es) (gCons t u) := by
  intro pins s σ H vs us Q I r h
  obtain ⟨v, vr, e1, h⟩ := h
  subst e1
  cases r with
  | cons r rr =>
    rw [hs]
    refine assignInOrder_cons (thn (h1 pins s σ H _ _ _ I r h) fun _ s1 ⟨σ1, H1, I1, q1⟩ => ?_)
    exact h2 pins s1 σ1 H1 _ _ Q I1 rr q1
def gTup (K : PySem.W.Frag) (n : Nat) (t : TGs) : TG := fun v σ H Q => ∃ a xs, v = .ref a ∧ SqT K H a xs ∧ xs.length = n ∧ t xs σ H Q
theorem pg_tup {es : List Expr} {k : Nat} {t : TGs} {n : Nat} (hc : X.calm = true) (h : PGs X es t)
    (hn : (assignEach es X.env).length = n := by rfl) (hst : (assignEach es X.env).findIdx? (·.1) = none := by rfl) : PG X (.Tuple es k pos) (gTup X.K n t) := by
  intro pins s σ H v u Q I r hw
  obtain ⟨a, xs, e1, hq, hl, hw⟩ := hw
  subst e1
  cases r
  obtain ⟨its, rv, ht, hz⟩ := I.tuple hq
  refine assign_Tuple_tuple (I.ok.hd hc) ht (by simp [hn, ← hl, rv.length]) hst fun h' hx => ?_
  have I1 : Inv X pins σ H { s with heap := h' } := I.kept (t' := s.toks) fun b o e => hx b o (Nat.ne_of_lt (Heap.lt_size e)) e
  exact h pins _ σ H xs _ Q I1 (by simpa using rv) hw
def gSub (to ti : TE) (t : TSet) : TG := fun v σ H Q => to σ H fun o H1 => ti σ H1 fun i H2 => t o i v H2 fun H3 => Q σ H3
def tAsg (te : TE) (g : TG) : TS := fun D σ H => te σ H fun x H1 => g x σ H1 D.nx
theorem ps_set {i : Nat} {x : Str} {e : Expr} {te : TE} {pos' : Pos} (hN : X.N.Nodup) (hi : X.N[i]? = some x) (hx : Loc X.env.scope x) (he : PE X e te) (hs : swapsWith e (some (.Name x pos')) pos.line X.env = pure false := by rfl) (hf : X.fn x = true ∨ X.env.scope.names.lookup x = some .local := by first | exact .inl rfl | exact .inr rfl | assumption) :
    PS X (.Assign [.Name x pos'] e pos) (tAsg te (gName i)) := by
  intro pins s σ H D I h
  refine wpAny_Assign_Name (thn (he pins s σ H _ I h) fun v s1 ⟨y, H1, I1, r1, q1⟩ => ?_) hs
  exact store_ok I1 hN hi hx r1 (fun s2 I2 => ⟨_, H1, I2, q1⟩) hf
def tPar (i j : Nat) (ta : TA) : TS := fun D σ H => ta σ H fun vs H1 => ∃ v w, vs = [v, w] ∧ D.nx ((σ.set i (some v)).set j (some w)) H1
def tAugS (to ti te : TE) (tget : V → V → Hp → VK → Prop) (tip : TIp) (tset : TSet) : TS := fun D σ H => to σ H fun o H1 => ti σ H1 fun i H2 => tget o i H2 fun x H3 => te σ H3 fun y H4 => tip x y H4 fun z H5 => tset o i z H5 fun H6 => D.nx σ H6
def ipI (f : Int → Int → Int) : TIp := fun x y H Q => ∃ i j, x = .int i ∧ y = .int j ∧ Q (.int (f i j)) H
end
section
variable {X : Cx} {pos : Pos}
end
structure It where
  go : Nat → Hp → Prop
  yld : Nat → Hp → V → Hp → Prop
  stop : Nat → Hp → Prop
def FpOk (X : Cx) (pins : List (Addr × Obj)) (H : Hp) (b : Addr) : Prop :=
  H b = none ∧ b ≠ X.env.locals ∧ b ∉ X.fs ∧ (b ∈ X.ex ∨ X.s₀.heap.objs.size ≤ b) ∧ (∀ x c, X.env.cells.lookup x = some c → c ≠ b) ∧ ∀ p ∈ X.pn ++ pins, p.1 ≠ b
theorem Inv.fpOk {X : Cx} {pins : List (Addr × Obj)} {σ : St} {H H' : Hp} {s : Shared} {b : Addr} (I : Inv X pins σ H s) (hb : s.heap.objs.size ≤ b) (hn : H' b = none) : FpOk X pins H' b := by
  refine ⟨hn, Nat.ne_of_gt (Nat.lt_of_lt_of_le I.lt hb), I.nofs hb, .inr (Nat.le_trans I.sz hb), fun x c e z => ?_, fun p hp z => ?_⟩
  · obtain ⟨v, q⟩ := I.cell x c e
    exact absurd (Nat.lt_of_lt_of_le q.lt (by rw [z]; exact hb)) (Nat.lt_irrefl _)
  · exact absurd (Nat.lt_of_lt_of_le (Heap.lt_size (I.pin p hp).1) (by rw [z]; exact hb)) (Nat.lt_irrefl _)
structure Turn (P : Program) (w : World) (K : PySem.W.Frag) (tg : Expr) (J : It) (fp : List Addr) (it : Addr) (tn : Nat → Heap → Prop) : Prop where
  mem : it ∈ fp
  obj : ∀ i h, tn i h → ∀ b ∈ fp, ∃ o, h.get? b = some o ∧ ∀ v, o.data ≠ .cell v
  keep : ∀ i h h', tn i h → (∀ b ∈ fp, ∀ o, h.get? b = some o → h'.get? b = some o) → tn i h'
  item : ∀ (X : Cx), X.prog = P → X.w = w → X.K = K → X.calm = true → ∀ (i : Nat) (pins : List (Addr × Obj)) (s : Shared) (σ : St) (H : Hp) (E : Value → Shared → Prop), Inv X pins σ H s → (∀ b ∈ fp, FpOk X pins H b) → tn i s.heap → J.go i H →
    wpAny (model P w) X.A (pyNext (.ref it)) (fun r s1 => ∃ u, r = some u ∧
      wpAny (model P w) X.A (letOwnedTupleGo tg (.ref it) u) (fun _ s2 => ∃ x H', Inv X pins σ H' s2 ∧ RelV x u ∧ J.yld i H x H' ∧ tn (i + 1) s2.heap ∧ ∀ b ∈ fp, H' b = none) E s1) E s
  done : ∀ (X : Cx), X.prog = P → X.w = w → X.K = K → X.calm = true → ∀ (i : Nat) (pins : List (Addr × Obj)) (s : Shared) (σ : St) (H : Hp) (E : Value → Shared → Prop), Inv X pins σ H s → (∀ b ∈ fp, FpOk X pins H b) → tn i s.heap → J.stop i H →
    wpAny (model P w) X.A (pyNext (.ref it)) (fun r s1 => r = none ∧ Inv X pins σ H s1) E s
  self : ∀ (A : Around) (i : Nat) (s : Shared) (Q : Value → Shared → Prop) (E : Value → Shared → Prop), tn i s.heap → Q (.ref it) s → wpAny (model P w) A (pyIter (.ref it)) Q E s
abbrev TI := St → Hp → (It → Hp → Prop) → Prop
def PIE (X : Cx) (pins : List (Addr × Obj)) (σ : St) (tg : Expr) (R : It → Hp → Prop) (itv : Value) (s2 : Shared) : Prop :=
  ∃ (it : Addr) (fp : List Addr) (tn : Nat → Heap → Prop) (J : It) (H' : Hp), itv = .ref it ∧ Inv X pins σ H' s2 ∧ Turn X.prog X.w X.K tg J fp it tn ∧ tn 0 s2.heap ∧ (∀ b ∈ fp, FpOk X pins H' b) ∧ R J H'
def PI (X : Cx) (tg iter : Expr) (wi : TI) : Prop :=
  ∀ (pins : List (Addr × Obj)) (s : Shared) (σ : St) (H : Hp) (R : It → Hp → Prop), Inv X pins σ H s → wi σ H R →
    wpAny (model X.prog X.w) X.A (eval iter X.env) (fun v s1 => wpAny (model X.prog X.w) X.A (pyIter v) (PIE X pins σ tg R) X.xe s1) X.xe s
theorem go_of {M : Model} {A : Around} {E : Value → Shared → Prop} {s : Shared} {tg : Expr} {it : Addr} {u : Value} {o : Obj} {n : String} {vs : Array Value} {Q : Unit → Shared → Prop} (ho : s.heap.get? it = some o) (hc : o.cls = .type n) (hd : o.data = .fields vs)
    (hn : ["enumerate", "zip", "dict_itemiterator", "dict_reverseitemiterator", "odict_iterator", "itertools.zip_longest", "itertools.pairwise"].contains n = false) (hQ : Q () s) : wpAny M A (letOwnedTupleGo tg (.ref it) u) Q E s := by
  unfold letOwnedTupleGo
  cases tg <;> first
    | exact wpAny_pure hQ
    | (cases u <;> first
        | exact wpAny_pure hQ
        | (refine wpAny_bind (wpAny_load ho ?_)
           rw [hc, hd]
           show wpAny M A (if (["enumerate", "zip", "dict_itemiterator", "dict_reverseitemiterator", "odict_iterator", "itertools.zip_longest", "itertools.pairwise"].contains n && vs[0]? == some (rawInt _)) = true then _ else _) Q E s
           rw [if_neg (by intro h; rw [hn, Bool.false_and] at h; cases h)]
           exact wpAny_pure hQ))
def Itr (lo : Int) (n : Nat) : It := ⟨fun i _ => i < n, fun i H x H' => H' = H ∧ x = .int (lo + i), fun i _ => n ≤ i⟩
theorem turn_range {P : Program} {w : World} {K : PySem.W.Frag} {tg : Expr} (it : Addr) (lo : Int) (n : Nat) : Turn P w K tg (Itr lo n) [it] it (fun i h => IsRangeIter h it (lo + (i : Nat) * 1) ((n : Int) - (i : Nat)) 1) where
  mem := by simp
  obj := fun i h st b hb => by
    have e : b = it := by simpa using hb
    subst e
    exact ⟨_, st, fun v z => by
      have z' : Data.fields _ = Data.cell v := z
      cases z'⟩
  keep := fun i h h' st k => k it (by simp) _ st
  item := by
    intro X hP hw hK hc i pins s σ H E I hf st hg
    subst hP hw hK
    obtain ⟨f0, f1, f2, f3, f4, f5⟩ := hf it (by simp)
    have W := Walks.range (prog := X.prog) (w := X.w) (I.ok.hd hc) it lo 1 n
    refine W.item i s _ _ hg st fun v h' tk hv st' kk => ?_
    obtain ⟨t, rfl⟩ := hv
    have I1 : Inv X pins σ H { s with heap := h', toks := tk } := I.turned (fun b o hb e => kk b o (by simpa using hb) e) f0 f1 f3 f4 f5
    refine ⟨_, rfl, go_of (s := { s with heap := h', toks := tk }) (n := "range_iterator") st' rfl rfl (by decide) ⟨.int (lo + i), H, I1, ⟨t, ?_⟩, ⟨rfl, rfl⟩, st', fun b hb => (hf b hb).1⟩⟩
    rw [Int.mul_one]
  done := by
    intro X hP hw hK hc i pins s σ H E I hf st hg
    subst hP hw hK
    obtain ⟨f0, f1, f2, f3, f4, f5⟩ := hf it (by simp)
    exact wpAny_pyNext_range_end (I.ok.hd hc) st (by have : n ≤ i := hg; omega) fun h' eb => ⟨rfl, I.turned (t' := s.toks) (fun b o hb e => eb b o hb e) f0 f1 f3 f4 f5⟩
  self := fun _ _ _ _ _ st h => wpAny_pyIter_rangeiter st h
end L2
namespace L2
open PySem PySem.Spec PyProof.Rows
section
variable {X : Cx} {tg : Expr}
theorem range_it {pins : List (Addr × Obj)} {σ : St} {H : Hp} {s : Shared} {R : It → Hp → Prop} {E : Value → Shared → Prop} {lo hi : Int} {t u v : Tok} {tk : Nat} (I : Inv X pins σ H s) (h1 : -(2 ^ 62) ≤ lo) (h2 : lo < 2 ^ 62) (h3 : -(2 ^ 62) ≤ hi) (h4 : hi < 2 ^ 62)
    (q : R (Itr lo (hi - lo).toNat) H) : wpAny (model X.prog X.w) X.A (pyIter (.ref s.heap.objs.size)) (PIE X pins σ tg R) E { s with heap := s.heap.push { cls := .type "range", data := .fields #[.int lo t, .int hi u, .int 1 v] }, toks := tk } := by
  refine wpAny_pyIter_range (IsRange.new ..) (small_one h1 h2 h3 h4) ?_
  have I1 : Inv X pins σ H { s with heap := s.heap.push { cls := .type "range", data := .fields #[.int lo t, .int hi u, .int 1 v] }, toks := tk } := I.kept fun b o e => Heap.get?_push_of_some _ e
  refine ⟨(s.heap.push { cls := .type "range", data := .fields #[.int lo t, .int hi u, .int 1 v] }).objs.size, [(s.heap.push { cls := .type "range", data := .fields #[.int lo t, .int hi u, .int 1 v] }).objs.size], _, _, H, rfl,
    I1.kept (t' := tk) fun b o e => Heap.get?_push_of_some _ e, turn_range _ lo (hi - lo).toNat, ?_, fun b hb => ?_, q⟩
  · have e1 : lo + ((0 : Nat) : Int) * 1 = lo := by simp
    have e2 : (((hi - lo).toNat : Nat) : Int) - ((0 : Nat) : Int) = Builtin.Range.rangeSize lo hi 1 := by rw [rangeSize_one]; split <;> omega
    show IsRangeIter _ _ (lo + ((0 : Nat) : Int) * 1) ((((hi - lo).toNat : Nat) : Int) - ((0 : Nat) : Int)) 1
    rw [e1, e2]
    exact Heap.get?_push_size _ rfl
  · have e : b = (s.heap.push { cls := .type "range", data := .fields #[.int lo t, .int hi u, .int 1 v] }).objs.size := by simpa using hb
    subst e
    exact I1.fpOk (Nat.le_refl _) (I1.hok.fresh (Nat.le_refl _))
def iRng1 (ta : TA) : TI := fun σ H R => ta σ H fun vs H1 => ∃ j : Int, vs = [.int j] ∧ -(2 ^ 62) ≤ j ∧ j < 2 ^ 62 ∧ R (Itr 0 j.toNat) H1
theorem pi_range1 {a : Expr} {ta : TA} {p pos : Pos} (hg : Gl X "range") (hm : X.mg "range" = none) (ha : PA X [a] ta) (hs : starEach [a] X.env = [(false, eval a X.env)] := by rfl) : PI X tg (.Call (.Name "range" p) [a] [] pos) (iRng1 ta) := by
  intro pins s σ H R I h
  refine Call_ (ld_blt I hg hm boot_range (PyProof.Rows.callWith_type1 (thn (ha pos pins s σ H _ I h) fun us s1 ⟨vs, H1, I1, r1, q1⟩ => ?_) hs rfl))
  obtain ⟨j, e, q1, q2, q⟩ := q1
  subst e
  cases r1 with
  | cons r rr =>
    cases rr
    obtain ⟨t, rfl⟩ := r
    exact call_range_1 (range_it I1 (by omega) (by omega) q1 q2 (by simpa using q))
def tFor (wi : TI) (g : TG) (tb : TS) : TS := fun D σ H => wi σ H fun J H1 => ∃ W : Nat → Nat → St → Hp → Prop, (∃ m, W 0 m σ H1) ∧ ∀ i m σ H, W i m σ H →
  (J.stop i H ∧ D.nx σ H) ∨ (J.go i H ∧ ∃ N : St → Hp → Prop, (∀ σ' H', N σ' H' → ∃ m', m' < m ∧ W (i + 1) m' σ' H') ∧ ∀ x H', J.yld i H x H' → g x σ H' fun σ2 H2 => tb { D with nx := N, ct := N, bk := D.nx } σ2 H2)
def pinsAt (fp : List Addr) (h : Heap) : List (Addr × Obj) := fp.filterMap fun b => (h.get? b).map fun o => (b, o)
theorem mem_pinsAt {fp : List Addr} {h : Heap} {b : Addr} {o : Obj} (hb : b ∈ fp) (e : h.get? b = some o) : (b, o) ∈ pinsAt fp h := List.mem_filterMap.mpr ⟨b, hb, by rw [e]; rfl⟩
theorem of_pinsAt {fp : List Addr} {h : Heap} {p : Addr × Obj} (hp : p ∈ pinsAt fp h) : p.1 ∈ fp ∧ h.get? p.1 = some p.2 := by
  obtain ⟨b, hb, e⟩ := List.mem_filterMap.mp hp
  cases q : h.get? b with
  | none => rw [q] at e; cases e
  | some o =>
    rw [q] at e
    have e' : (b, o) = p := Option.some.inj e
    subst e'
    exact ⟨hb, q⟩
theorem Inv.pinned {pins : List (Addr × Obj)} {σ : St} {H : Hp} {s : Shared} {fp : List Addr} (I : Inv X pins σ H s) (hf : ∀ b ∈ fp, FpOk X pins H b) (ho : ∀ b ∈ fp, ∃ o, s.heap.get? b = some o ∧ ∀ v, o.data ≠ .cell v) : Inv X (pins ++ pinsAt fp s.heap) σ H s :=
  I.pins_of fun p hp => (List.mem_append.mp hp).elim (fun z => I.pin p (List.mem_append_right _ z)) fun z => by
    obtain ⟨hb, e⟩ := of_pinsAt z
    obtain ⟨f0, f1, f2, _⟩ := hf p.1 hb
    obtain ⟨o, e', d⟩ := ho p.1 hb
    rw [e] at e'; cases e'
    exact ⟨e, f0, f1, f2, d⟩
theorem Inv.unpinned {pins pl : List (Addr × Obj)} {σ : St} {H : Hp} {s : Shared} (I : Inv X (pins ++ pl) σ H s) : Inv X pins σ H s := I.pins_of fun p hp => I.pin p (List.mem_append_right _ (List.mem_append_left _ hp))
theorem ps_for {iter : Expr} {body : List Stmt} {wi : TI} {g : TG} {tb : TS} {pos : Pos} (hp : PassesOwn (model X.prog X.w) X.A X.env X.xe) (hc : X.calm = true) (hi : PI X tg iter wi) (hg : PG X tg g) (hb : PSs X body tb)
    (hs : ∀ x, foldedSetIterable iter X.env x = pure x := by intro _; rfl) : PS X (.For tg iter body [] pos) (tFor wi g tb) := by
  intro pins s σ H D I h
  refine wpAny_For (thn (hi pins s σ H _ I h) fun v s1 h1 => thn h1 fun itv s2 h2 => ?_) hs
  obtain ⟨it, fp, tn, J, H2, e, I2, T, st2, f2, W, ⟨m0, w0⟩, turn⟩ := h2
  subst e
  -- what stays true of the iterator's objects through the loop
  have stat : ∀ {H' : Hp}, (∀ b ∈ fp, H' b = none) → ∀ b ∈ fp, FpOk X pins H' b := fun hn b hb => ⟨hn b hb, (f2 b hb).2⟩
  refine codeAny_forLoop_any (fun n s' => ∃ i σ' H', Inv X pins σ' H' s' ∧ tn i s'.heap ∧ (∀ b ∈ fp, H' b = none) ∧ W i n σ' H') ?_ m0 ⟨0, σ, H2, I2, st2, fun b hb => (f2 b hb).1, w0⟩
  rintro n s3 ⟨i, σ3, H3, I3, st3, fr3, w3⟩
  rcases turn i n σ3 H3 w3 with ⟨stop, qn⟩ | ⟨go, N, hN, step⟩
  · refine wpAny_passesOwn hp (thn (T.done X rfl rfl rfl hc i pins s3 σ3 H3 X.xe I3 (stat fr3) st3 stop) fun r s4 ⟨hr, I4⟩ => ?_)
    subst hr
    exact wpAny_execs_nil ⟨σ3, H3, I4, qn⟩
  · refine wpAny_passesOwn hp (thn (T.item X rfl rfl rfl hc i pins s3 σ3 H3 X.xe I3 (stat fr3) st3 go) fun r s4 ⟨u, hr, h4⟩ => ?_)
    subst hr
    refine wpAny_passesOwn hp (thn h4 fun _ s5 ⟨x, H5, I5, r5, y5, st5, fr5⟩ => ?_)
    have I5' := I5.pinned (stat fr5) (T.obj _ _ st5)
    refine wpAny_passesOwn hp (thn (hg _ s5 σ3 H5 x u _ I5' r5 (step x H5 y5)) fun _ s6 ⟨σ6, H6, I6, q6⟩ => ?_)
    refine wpAny_passesOwn hp (thn (hb _ s6 σ6 H6 _ I6 q6) fun f s7 q7 => ?_)
    have again : ∀ {σ7 : St} {H7 : Hp}, Inv X (pins ++ pinsAt fp s5.heap) σ7 H7 s7 → N σ7 H7 → ∃ m, m < n ∧ ∃ i σ' H', Inv X pins σ' H' s7 ∧ tn i s7.heap ∧ (∀ b ∈ fp, H' b = none) ∧ W i m σ' H' := fun {σ7 H7} I7 n7 => by
      obtain ⟨m', hm, w7⟩ := hN σ7 H7 n7
      refine ⟨m', hm, i + 1, σ7, H7, I7.unpinned, T.keep _ _ _ st5 fun b hb o e => (I7.pin (b, o) (List.mem_append_right _ (List.mem_append_right _ (mem_pinsAt hb e)))).1, fun b hb => ?_, w7⟩
      obtain ⟨o, e, d⟩ := T.obj _ _ st5 b hb
      exact (I7.pin (b, o) (List.mem_append_right _ (List.mem_append_right _ (mem_pinsAt hb e)))).2.1
    cases f with
    | next => obtain ⟨σ7, H7, I7, n7⟩ := q7; exact again I7 n7
    | cont => obtain ⟨σ7, H7, I7, n7⟩ := q7; exact again I7 n7
    | brk => obtain ⟨σ7, H7, I7, q7⟩ := q7; exact ⟨σ7, H7, I7.unpinned, q7⟩
    | ret v => obtain ⟨x7, σ7, H7, I7, r7, q7⟩ := q7; exact ⟨x7, σ7, H7, I7.unpinned, r7, q7⟩
end
theorem for_range {lo : Int} {n : Nat} {g : TG} {tb : TS} {D : Ends} {σ : St} {H : Hp} (Pv : Nat → St → Hp → Prop) (h0 : Pv 0 σ H)
    (hs : ∀ i σ H, i < n → Pv i σ H → g (.int (lo + i)) σ H fun σ2 H2 => tb { D with nx := Pv (i + 1), ct := Pv (i + 1), bk := D.nx } σ2 H2) (hd : ∀ σ H, Pv n σ H → D.nx σ H) :
    ∃ W : Nat → Nat → St → Hp → Prop, (∃ m, W 0 m σ H) ∧ ∀ i m σ H, W i m σ H →
      ((Itr lo n).stop i H ∧ D.nx σ H) ∨ ((Itr lo n).go i H ∧ ∃ N : St → Hp → Prop, (∀ σ' H', N σ' H' → ∃ m', m' < m ∧ W (i + 1) m' σ' H') ∧ ∀ x H', (Itr lo n).yld i H x H' → g x σ H' fun σ2 H2 => tb { D with nx := N, ct := N, bk := D.nx } σ2 H2) := by
  refine ⟨fun i m σ H => m = n - i ∧ i ≤ n ∧ Pv i σ H, ⟨n, by simp, Nat.zero_le _, h0⟩, ?_⟩
  rintro i m σ H ⟨rfl, hi, p⟩
  by_cases hlt : i < n
  · refine .inr ⟨hlt, Pv (i + 1), fun σ' H' p' => ⟨n - (i + 1), by omega, rfl, hlt, p'⟩, fun x H' y => ?_⟩
    obtain ⟨e, y⟩ := y
    subst e y
    exact hs i σ _ hlt p
  · have e : i = n := by omega
    subst e
    exact .inl ⟨Nat.le_refl _, hd σ H p⟩
end L2
namespace L2
open PySem PySem.Spec PyProof.Rows
abbrev R2 := V → V → Hp → VK → Prop
def OpR (X : Cx) (f : Value → Value → Sem Value) (r : R2) : Prop :=
  ∀ (pins : List (Addr × Obj)) (s : Shared) (σ : St) (H : Hp) (x y : V) (v u : Value) (Q : VK), Inv X pins σ H s → RelV x v → RelV y u → r x y H Q →
    wpAny (model X.prog X.w) X.A (f v u) (EP X pins σ Q) X.xe s
def UnR (X : Cx) (f : Value → Sem Value) (r : V → Hp → VK → Prop) : Prop :=
  ∀ (pins : List (Addr × Obj)) (s : Shared) (σ : St) (H : Hp) (x : V) (v : Value) (Q : VK), Inv X pins σ H s → RelV x v → r x H Q →
    wpAny (model X.prog X.w) X.A (f v) (EP X pins σ Q) X.xe s
def CallR (X : Cx) (f : Value) (r : List V → Hp → VK → Prop) : Prop :=
  ∀ (pins : List (Addr × Obj)) (s : Shared) (σ : St) (H : Hp) (xs : List V) (us : List Value) (Q : VK), Inv X pins σ H s → Vals xs us → r xs H Q →
    wpAny (model X.prog X.w) X.A (call f us) (EP X pins σ Q) X.xe s
def tOp (r : R2) (ta tb : TE) : TE := fun σ H Q => ta σ H fun x H1 => tb σ H1 fun y H2 => r x y H2 Q
def tUn (r : V → Hp → VK → Prop) (ta : TE) : TE := fun σ H Q => ta σ H fun x H1 => r x H1 Q
def rI (C : Int → Int → Prop) (g : Int → Int → V) : R2 := fun x y H Q => ∃ i j, x = .int i ∧ y = .int j ∧ C i j ∧ Q (g i j) H
def rI0 (g : Int → Int → V) : R2 := fun x y H Q => ∃ i j, x = .int i ∧ y = .int j ∧ Q (g i j) H
def rU (g : Int → V) : V → Hp → VK → Prop := fun x H Q => ∃ i, x = .int i ∧ Q (g i) H
section
variable {X : Cx} {a b c : Expr} {ta tb tc : TE} {pos : Pos}
theorem binT (ha : PE X a ta) (hb : PE X b tb) {pins : List (Addr × Obj)} {s : Shared} {σ : St} {H : Hp} {R : V → V → Hp → Prop} (I : Inv X pins σ H s)
    (h : ta σ H fun x H1 => tb σ H1 fun y H2 => R x y H2) {Q : Value → Shared → Prop} {f : Value → Value → Sem Value}
    (hf : ∀ v u s2 x y H2, Inv X pins σ H2 s2 → RelV x v → RelV y u → R x y H2 → wpAny (model X.prog X.w) X.A (f v u) Q X.xe s2) :
    wpAny (model X.prog X.w) X.A (eval a X.env) (fun v s₁ => wpAny (model X.prog X.w) X.A (eval b X.env) (fun u s₂ => wpAny (model X.prog X.w) X.A (f v u) Q X.xe s₂) X.xe s₁) X.xe s := by
  refine thn (ha pins s σ H _ I h) fun v s1 ⟨x, H1, I1, r1, q1⟩ => ?_
  refine thn (hb pins s1 σ H1 _ I1 q1) fun u s2 ⟨y, H2, I2, r2, q2⟩ => ?_
  exact hf v u s2 x y H2 I2 r1 r2 q2
theorem pe_op {op : Operator} {r : R2} (ho : OpR X (binaryOp op) r) (ha : PE X a ta) (hb : PE X b tb) : PE X (.BinOp a op b pos) (tOp r ta tb) := by
  intro pins s σ H Q I h
  exact wpAny_BinOp (binT ha hb I h fun v u s2 x y H2 I2 rx ry q => ho pins s2 σ H2 x y v u Q I2 rx ry q)
theorem pe_un {op : UnaryOp} {r : V → Hp → VK → Prop} (ho : UnR X (unaryOp op) r) (ha : PE X a ta) : PE X (.UnaryOp op a pos) (tUn r ta) := by
  intro pins s σ H Q I h
  exact UnaryOp_ (thn (ha pins s σ H _ I h) fun v s1 ⟨x, H1, I1, r1, q1⟩ => ho pins s1 σ H1 x v Q I1 r1 q1)
theorem opI {f : Value → Value → Sem Value} {C : Int → Int → Prop} {g : Int → Int → Int}
    (rule : ∀ (i j : Int) (t u : Tok) (s : Shared) (Q : Value → Shared → Prop) (E : Value → Shared → Prop), C i j → Q (.int (g i j) s.toks) { s with toks := s.toks + 1 } → wpAny (model X.prog X.w) X.A (f (.int i t) (.int j u)) Q E s) :
    OpR X f (rI C fun i j => .int (g i j)) := by
  intro pins s σ H x y v u Q I rx ry h
  obtain ⟨i, j, rfl, rfl, hc, q⟩ := h
  obtain ⟨t, rfl⟩ := rx
  obtain ⟨t', rfl⟩ := ry
  exact rule i j t t' s _ _ hc ⟨.int (g i j), H, I.tok _, ⟨_, rfl⟩, q⟩
theorem opI0 {f : Value → Value → Sem Value} {g : Int → Int → Int}
    (rule : ∀ (i j : Int) (t u : Tok) (s : Shared) (Q : Value → Shared → Prop) (E : Value → Shared → Prop), Q (.int (g i j) s.toks) { s with toks := s.toks + 1 } → wpAny (model X.prog X.w) X.A (f (.int i t) (.int j u)) Q E s) :
    OpR X f (rI0 fun i j => .int (g i j)) := by
  intro pins s σ H x y v u Q I rx ry h
  obtain ⟨i, j, rfl, rfl, q⟩ := h
  obtain ⟨t, rfl⟩ := rx
  obtain ⟨t', rfl⟩ := ry
  exact rule i j t t' s _ _ ⟨.int (g i j), H, I.tok _, ⟨_, rfl⟩, q⟩
theorem opB0 {f : Value → Value → Sem Value} {g : Int → Int → Bool}
    (rule : ∀ (i j : Int) (t u : Tok) (s : Shared) (Q : Value → Shared → Prop) (E : Value → Shared → Prop), Q (.bool (g i j)) s → wpAny (model X.prog X.w) X.A (f (.int i t) (.int j u)) Q E s) :
    OpR X f (rI0 fun i j => .bl (g i j)) := by
  intro pins s σ H x y v u Q I rx ry h
  obtain ⟨i, j, rfl, rfl, q⟩ := h
  obtain ⟨t, rfl⟩ := rx
  obtain ⟨t', rfl⟩ := ry
  exact rule i j t t' s _ _ ⟨.bl (g i j), H, I, rfl, q⟩
def CPow (i j : Int) : Prop := 0 ≤ j ∧ j ≤ 1000000 ∧ i.natAbs < 2 ^ 64
def CMul (i j : Int) : Prop := (-(2 ^ 64) < i ∧ i < 2 ^ 64) ∨ (-(2 ^ 64) < j ∧ j < 2 ^ 64)
theorem CMul.ok {i j : Int} (h : CMul i j) : IntMulOk i j := by
  rcases h with ⟨h1, h2⟩ | ⟨h1, h2⟩
  · exact .of_left (intBits_le_64 h1 h2)
  · exact .of_right (intBits_le_64 h1 h2)
theorem op_add : OpR X (binaryOp .Add) (rI0 fun i j => .int (i + j)) := opI0 fun _ _ _ _ _ _ _ q => add_int q
theorem op_sub : OpR X (binaryOp .Sub) (rI0 fun i j => .int (i - j)) := opI0 fun _ _ _ _ _ _ _ q => sub_int q
theorem op_mul : OpR X (binaryOp .Mult) (rI CMul fun i j => .int (i * j)) := opI fun _ _ _ _ _ _ _ hc q => mul_int q hc.ok
theorem op_mod : OpR X (binaryOp .Mod) (rI (fun _ j => 0 < j) fun i j => .int (i % j)) := opI fun i j _ _ _ _ _ hc q => by
  have h1 : (0 : Int) < j := hc
  exact mod_int' (by omega) (by rw [Int.fmod_eq_emod_of_nonneg i (by omega)]; exact q)
theorem op_pow : OpR X (binaryOp .Pow) (rI CPow fun i j => .int (i ^ j.toNat)) := opI fun _ _ _ _ _ _ _ hc q => pow_int_small hc.1 hc.2.1 hc.2.2 q
theorem unI {f : Value → Sem Value} {g : Int → Int}
    (rule : ∀ (i : Int) (t : Tok) (s : Shared) (Q : Value → Shared → Prop) (E : Value → Shared → Prop), Q (.int (g i) s.toks) { s with toks := s.toks + 1 } → wpAny (model X.prog X.w) X.A (f (.int i t)) Q E s) :
    UnR X f (rU fun i => .int (g i)) := by
  intro pins s σ H x v Q I rx h
  obtain ⟨i, rfl, q⟩ := h
  obtain ⟨t, rfl⟩ := rx
  exact rule i t s _ _ ⟨.int (g i), H, I.tok _, ⟨_, rfl⟩, q⟩
theorem un_neg : UnR X (unaryOp .USub) (rU fun i => .int (-i)) := unI fun _ _ _ _ _ q => neg_int q
end
def scal : V → V → Bool
  | .non, .non => true | .non, .int _ => true | .int _, .non => true | .non, .bl _ => true | .bl _, .non => true | .non, .str _ => true | .str _, .non => true
  | .int _, .int _ => true | .bl _, .bl _ => true | .str _, .str _ => true | .byt _, .byt _ => true
  | .int _, .str _ => true | .str _, .int _ => true | .bl _, .str _ => true | .str _, .bl _ => true
  | _, _ => false
def rEq : R2 := fun x y H Q => scal x y = true ∧ Q (.bl (decide (x = y))) H
def rNe : R2 := fun x y H Q => scal x y = true ∧ Q (.bl (!decide (x = y))) H
theorem dec_int {i j : Int} : decide (V.int i = V.int j) = (i == j) := by
  rw [Bool.eq_iff_iff]
  simp
theorem dec_bl {i j : Bool} : decide (V.bl i = V.bl j) = (i == j) := by
  rw [Bool.eq_iff_iff]
  simp
theorem dec_str {i j : Str} : decide (V.str i = V.str j) = (i == j) := by
  rw [Bool.eq_iff_iff]
  simp
theorem dec_byt {i j : Array UInt8} : decide (V.byt i = V.byt j) = (i.toList == j.toList) := by
  rw [Bool.eq_iff_iff]
  cases i
  cases j
  simp
section
variable {X : Cx} {a b c : Expr} {ta tb tc : TE} {pos : Pos}
theorem fin_bl {pins : List (Addr × Obj)} {σ : St} {H : Hp} {s : Shared} {Q : VK} {k k' : Bool} (I : Inv X pins σ H s) (q : Q (.bl k) H) (e : k = k') : EP X pins σ Q (.bool k') s := by
  subst e
  exact ⟨.bl k, H, I, rfl, q⟩
theorem op_eq : OpR X (compareOp .Eq) rEq := by
  intro pins s σ H x y v u Q I rx ry h
  obtain ⟨hs, q⟩ := h
  cases x with
  | non =>
    cases rx
    cases y with
    | non => cases ry; exact PySem.EqNone.eq_none_none (fin_bl I q (by simp))
    | bl j => cases ry; exact PySem.EqNone.eq_none_bool (fin_bl I q (by simp))
    | int j => obtain ⟨t', rfl⟩ := ry; exact PySem.EqNone.eq_none_int (fin_bl I q (by simp))
    | str j => obtain ⟨t', rfl⟩ := ry; exact PySem.EqNone.eq_none_str (fin_bl I q (by simp))
    | _ => exact absurd (show false = true from hs) Bool.false_ne_true
  | bl i =>
    cases rx
    cases y with
    | non => cases ry; exact PySem.EqNone.eq_bool_none (fin_bl I q (by simp))
    | bl j => cases ry; exact eq_bool (fin_bl I q dec_bl)
    | str j => obtain ⟨t', rfl⟩ := ry; exact PySem.EqMixed.eq_bool_str (fin_bl I q (by simp))
    | _ => exact absurd (show false = true from hs) Bool.false_ne_true
  | int i =>
    obtain ⟨t, rfl⟩ := rx
    cases y with
    | non => cases ry; exact PySem.EqNone.eq_int_none (fin_bl I q (by simp))
    | int j => obtain ⟨t', rfl⟩ := ry; exact eq_int (fin_bl I q dec_int)
    | str j => obtain ⟨t', rfl⟩ := ry; exact PySem.EqMixed.eq_int_str (fin_bl I q (by simp))
    | _ => exact absurd (show false = true from hs) Bool.false_ne_true
  | str i =>
    obtain ⟨t, rfl⟩ := rx
    cases y with
    | non => cases ry; exact PySem.EqNone.eq_str_none (fin_bl I q (by simp))
    | bl j => cases ry; exact PySem.EqMixed.eq_str_bool (fin_bl I q (by simp))
    | int j => obtain ⟨t', rfl⟩ := ry; exact PySem.EqMixed.eq_str_int (fin_bl I q (by simp))
    | str j => obtain ⟨t', rfl⟩ := ry; exact eq_str (fin_bl I q dec_str)
    | _ => exact absurd (show false = true from hs) Bool.false_ne_true
  | byt i =>
    obtain ⟨t, rfl⟩ := rx
    cases y with
    | byt j => obtain ⟨t', rfl⟩ := ry; exact PySem.W.eq_bytes (fin_bl I q dec_byt)
    | _ => exact absurd (show false = true from hs) Bool.false_ne_true
  | _ => cases y <;> exact absurd (show false = true from hs) Bool.false_ne_true
theorem op_ne : OpR X (compareOp .NotEq) rNe := by
  intro pins s σ H x y v u Q I rx ry h
  obtain ⟨hs, q⟩ := h
  cases x with
  | non =>
    cases rx
    cases y with
    | non => cases ry; exact PySem.EqNone.ne_none_none (fin_bl I q (by simp))
    | bl j => cases ry; exact PySem.EqNone.ne_none_bool (fin_bl I q (by simp))
    | int j => obtain ⟨t', rfl⟩ := ry; exact PySem.EqNone.ne_none_int (fin_bl I q (by simp))
    | str j => obtain ⟨t', rfl⟩ := ry; exact PySem.EqNone.ne_none_str (fin_bl I q (by simp))
    | _ => exact absurd (show false = true from hs) Bool.false_ne_true
  | bl i =>
    cases rx
    cases y with
    | non => cases ry; exact PySem.EqNone.ne_bool_none (fin_bl I q (by simp))
    | bl j => cases ry; exact ne_bool (fin_bl I q (congrArg not dec_bl))
    | str j => obtain ⟨t', rfl⟩ := ry; exact PySem.EqMixed.ne_bool_str (fin_bl I q (by simp))
    | _ => exact absurd (show false = true from hs) Bool.false_ne_true
  | int i =>
    obtain ⟨t, rfl⟩ := rx
    cases y with
    | non => cases ry; exact PySem.EqNone.ne_int_none (fin_bl I q (by simp))
    | int j => obtain ⟨t', rfl⟩ := ry; exact ne_int (fin_bl I q (congrArg not dec_int))
    | str j => obtain ⟨t', rfl⟩ := ry; exact PySem.EqMixed.ne_int_str (fin_bl I q (by simp))
    | _ => exact absurd (show false = true from hs) Bool.false_ne_true
  | str i =>
    obtain ⟨t, rfl⟩ := rx
    cases y with
    | non => cases ry; exact PySem.EqNone.ne_str_none (fin_bl I q (by simp))
    | bl j => cases ry; exact PySem.EqMixed.ne_str_bool (fin_bl I q (by simp))
    | int j => obtain ⟨t', rfl⟩ := ry; exact PySem.EqMixed.ne_str_int (fin_bl I q (by simp))
    | str j => obtain ⟨t', rfl⟩ := ry; exact ne_str (fin_bl I q (congrArg not dec_str))
    | _ => exact absurd (show false = true from hs) Bool.false_ne_true
  | byt i =>
    obtain ⟨t, rfl⟩ := rx
    cases y with
    | byt j => obtain ⟨t', rfl⟩ := ry; exact PySem.W.ne_bytes (fin_bl I q (congrArg not dec_byt))
    | _ => exact absurd (show false = true from hs) Bool.false_ne_true
  | _ => cases y <;> exact absurd (show false = true from hs) Bool.false_ne_true
theorem op_lt : OpR X (compareOp .Lt) (rI0 fun i j => .bl (decide (i < j))) := opB0 fun _ _ _ _ _ _ _ q => lt_int q
theorem op_le : OpR X (compareOp .LtE) (rI0 fun i j => .bl (decide (i ≤ j))) := opB0 fun _ _ _ _ _ _ _ q => le_int q
theorem op_gt : OpR X (compareOp .Gt) (rI0 fun i j => .bl (decide (j < i))) := opB0 fun _ _ _ _ _ _ _ q => gt_int q
theorem op_ge : OpR X (compareOp .GtE) (rI0 fun i j => .bl (decide (j ≤ i))) := opB0 fun _ _ _ _ _ _ _ q => ge_int q
theorem op_lt_str : OpR X (compareOp .Lt) (fun x y H Q => ∃ i j, x = .str i ∧ y = .str j ∧ Q (.bl (decide (i.cps.toList < j.cps.toList))) H) := by
  intro pins s σ H x y v u Q I rx ry h
  obtain ⟨i, j, rfl, rfl, q⟩ := h
  obtain ⟨t, rfl⟩ := rx
  obtain ⟨t', rfl⟩ := ry
  exact lt_str (fin_bl I q rfl)
theorem op_isN : OpR X (compareOp .Is) (fun x y H Q => y = .non ∧ Q (.bl (decide (x = .non))) H) := by
  intro pins s σ H x y v u Q I rx ry h
  obtain ⟨rfl, q⟩ := h
  cases ry
  refine is_none_gen (fin_bl I q ?_)
  cases x <;> first
    | (cases rx; rfl)
    | (obtain ⟨t, rfl⟩ := rx; rfl)
theorem op_notN : OpR X (compareOp .IsNot) (fun x y H Q => y = .non ∧ Q (.bl (!decide (x = .non))) H) := by
  intro pins s σ H x y v u Q I rx ry h
  obtain ⟨rfl, q⟩ := h
  cases ry
  refine isnot_none_gen (fin_bl I q ?_)
  cases x <;> first
    | (cases rx; rfl)
    | (obtain ⟨t, rfl⟩ := rx; rfl)
theorem OpR.or {f : Value → Value → Sem Value} {r r' : R2} (h : OpR X f r) (h' : OpR X f r') : OpR X f (fun x y H Q => r x y H Q ∨ r' x y H Q) := by
  intro pins s σ H x y v u Q I rx ry q
  rcases q with q | q
  · exact h pins s σ H x y v u Q I rx ry q
  · exact h' pins s σ H x y v u Q I rx ry q
theorem nomark (b : Expr) {op : CmpOp} (h : op ≠ .In := by decide) (h2 : op ≠ .NotIn := by decide) : behindInMarks op b = false := by
  have e1 : (op == CmpOp.In) = false := by cases op <;> first | rfl | exact absurd rfl h
  have e2 : (op == CmpOp.NotIn) = false := by cases op <;> first | rfl | exact absurd rfl h2
  cases b <;> simp [behindInMarks, e1, e2]
theorem pe_cmpR {op : CmpOp} {r : R2} (ho : OpR X (compareOp op) r) (ha : PE X a ta) (hb : PE X b tb) (hm : behindInMarks op b = false) : PE X (.Compare a [op] [b] pos) (tOp r ta tb) := by
  intro pins s σ H Q I h
  exact wpAny_Compare1 (binT ha hb I h fun v u s2 x y H2 I2 rx ry q => ho pins s2 σ H2 x y v u Q I2 rx ry q) hm
def tTest (t : TE) : TT := fun σ H Q => t σ H fun x H' => ∃ k, x = .bl k ∧ Q k H'
theorem pt_cmpR {op : CmpOp} {r : R2} (ho : OpR X (compareOp op) r) (ha : PE X a ta) (hb : PE X b tb) (hm : behindInMarks op b = false) : PT X (.Compare a [op] [b] pos) (tTest (tOp r ta tb)) := by
  intro pins s σ H Q I h
  refine wpAny_isTrue_Compare1 (thn (ha pins s σ H _ I h) fun v s1 ⟨x, H1, I1, r1, q1⟩ => thn (hb pins s1 σ H1 _ I1 q1) fun u s2 ⟨y, H2, I2, r2, q2⟩ =>
    thn (ho pins s2 σ H2 x y v u _ I2 r1 r2 q2) fun c s3 ⟨z, H3, I3, r3, k, e, q3⟩ => ?_) hm
  subst e
  cases r3
  exact wpAny_truthy_bool ⟨H3, I3, q3⟩
def tChain (r r' : R2) (ta tb tc : TE) : TE := fun σ H Q => ta σ H fun x H1 => tb σ H1 fun y H2 => r x y H2 fun z H3 => ∃ k, z = .bl k ∧
  (if k = true then tc σ H3 fun w' H4 => r' y w' H4 Q else Q (.bl false) H3)
theorem pt_chain {op op' : CmpOp} {r r' : R2} (ho : OpR X (compareOp op) r) (ho' : OpR X (compareOp op') r') (ha : PE X a ta) (hb : PE X b tb) (hc : PE X c tc)
    (hm : lastMarks [op, op'] [b, c] = false := by with_unfolding_all rfl) : PT X (.Compare a [op, op'] [b, c] pos) (tTest (tChain r r' ta tb tc)) := by
  intro pins s σ H Q I h
  refine isTrue_chain (thn (ha pins s σ H _ I h) fun v s1 ⟨x, H1, I1, r1, q1⟩ => test_link (thn (hb pins s1 σ H1 _ I1 q1) fun u s2 ⟨y, H2, I2, r2, q2⟩ =>
    thn (ho pins s2 σ H2 x y v u _ I2 r1 r2 q2) fun d s3 ⟨z, H3, I3, r3, k, e, q3⟩ => ?_)) hm
  subst e
  cases r3
  refine wpAny_truthy_bool ?_
  cases k with
  | false =>
    obtain ⟨k', e', q'⟩ := q3
    cases e'
    exact ite_ff ⟨H3, I3, q'⟩
  | true =>
    refine ite_tt (test_last (thn (hc pins s3 σ H3 _ I3 q3) fun w' s4 ⟨z', H4, I4, r4, q4⟩ => thn (ho' pins s4 σ H4 y z' u w' _ I4 r2 r4 q4) fun d' s5 ⟨z2, H5, I5, r5, k2, e2, q5⟩ => ?_))
    subst e2
    cases r5
    exact wpAny_truthy_bool ⟨H5, I5, q5⟩
theorem line63 : (sizeLine : Nat) < 2 ^ 63 := by rw [sizeLine_eq]; decide
theorem op_add_str : OpR X (binaryOp .Add) (fun x y H Q => ∃ i j, x = .str i ∧ y = .str j ∧ i.length + j.length ≤ sizeLine ∧ Q (.str (i ++ j)) H) := by
  intro pins s σ H x y v u Q I rx ry h
  obtain ⟨i, j, rfl, rfl, hz, q⟩ := h
  obtain ⟨t, rfl⟩ := rx
  obtain ⟨t', rfl⟩ := ry
  exact add_str (fun t' tk => ⟨.str (i ++ j), H, I.tok _, ⟨_, rfl⟩, q⟩) hz
theorem vals1 {x : V} {us : List Value} (r : Vals [x] us) : ∃ u, us = [u] ∧ RelV x u := by
  cases r with
  | cons r1 r2 => cases r2; exact ⟨_, rfl, r1⟩
theorem vals2 {x y : V} {us : List Value} (r : Vals [x, y] us) : ∃ u w', us = [u, w'] ∧ RelV x u ∧ RelV y w' := by
  cases r with
  | cons r1 r2 =>
    cases r2 with
    | cons r3 r4 => cases r4; exact ⟨_, _, rfl, r1, r3⟩
end
end L2
namespace L2
open PySem PySem.Spec PyProof.Rows
structure ObjM (h : Heap) (x dx C : Addr) (mA : Str → Option Value) : Prop where
  obj : h.get? x = some (PySem.W.instObj C dx)
  ns : h.Ns1 dx mA
  ne : dx ≠ x
theorem lookIn_ns {h : Heap} {dx : Addr} {mA : Str → Option Value} (n : h.Ns1 dx mA) : ∃ od, h.get? dx = some od ∧ ∀ name, PySem.W.lookIn name od = some (mA name) := by
  obtain ⟨o, es, ep, ho, hd, hk, _, hm⟩ := n
  refine ⟨o, ho, fun name => ?_⟩
  have e := hm name
  unfold nsFind findBy at e
  rw [← Array.find?_toList] at e
  unfold PySem.W.lookIn
  rw [hd]
  dsimp only
  split
  · rename_i y q
    rw [q] at e
    exact congrArg some e
  · rename_i q
    rw [q] at e
    have a : es.toList.any (·.refKey) = false := by
      rw [List.any_eq_false]
      intro y hy
      obtain ⟨z, t, hkey⟩ := hk y (Array.mem_toList_iff.mp hy)
      simp [DictEntry.refKey, hkey]
    have a' : ¬ es.toList.any (·.refKey) = true := by rw [a]; exact Bool.false_ne_true
    rw [if_neg a']
    exact congrArg some e
theorem ObjM.look {h : Heap} {x dx C : Addr} {mA : Str → Option Value} (I : ObjM h x dx C mA) : ∃ od, PySem.W.InstAt h x (PySem.W.instObj C dx) C (some od) ∧ ∀ name, PySem.W.lookIn name od = some (mA name) :=
  let ⟨od, ho, hl⟩ := lookIn_ns I.ns
  ⟨od, ⟨I.obj, rfl, rfl, ho⟩, hl⟩
section
variable {prog : Program} {w : World} {A : Around} {E : Value → Shared → Prop} {s : Shared} {K : PySem.W.Frag} {x dx C f : Addr} {mA : Str → Option Value} {name : Str} {v : Value}
end
theorem RelO.some_of {v : V} {o : Option Value} (r : RelO (some v) o) : ∃ u, o = some u ∧ RelV v u := by
  cases o with
  | none => exact (show False from r).elim
  | some u => exact ⟨u, rfl, r⟩
theorem handed_of {v : V} {u : Value} (r : RelV v u) : PySem.W.handedIn u = true := by
  cases v with
  | non => cases (show u = Value.none from r); rfl
  | bl b => cases (show u = Value.bool b from r); rfl
  | int i => obtain ⟨t, e⟩ := (show ∃ t, u = Value.int i t from r); cases e; rfl
  | str x => obtain ⟨t, e⟩ := (show ∃ t, u = Value.str x t from r); cases e; rfl
  | byt b => obtain ⟨t, e⟩ := (show ∃ t, u = Value.bytes b t from r); cases e; rfl
  | flt b => obtain ⟨t, e⟩ := (show ∃ t, u = Value.float b t from r); cases e; rfl
  | ref a => cases (show u = Value.ref a from r); rfl
  | ty n => cases (show u = Value.type n from r); rfl
section
variable {P : Program} {w : World} {H H' : Hp} {h h' : Heap} {a C dx : Addr} {fs fs' : List (Str × V)}
theorem ins_get (hok : HOk P w H h) (e : H a = some (.ins C dx fs)) : ∃ mA, ObjM h a dx C mA ∧ (∀ f, RelO (fs.lookup f) (mA f)) ∧ PySem.Within mA (fs.map (·.1)) ∧ fs.length ≤ 1000 ∧ H dx = some (.own a) := by
  obtain ⟨d, z, ne, ob, mA, n, r, q⟩ := (show ObjOk P w H h a (.ins C dx fs) from hok a _ e)
  exact ⟨mA, ⟨ob, n, ne⟩, r, q, z, d⟩
end
structure Cls (K : PySem.W.Frag) (C : Addr) : Prop where
  pg : PySem.W.plainGet K C Str.empty = true
  hd : PySem.W.hasDictIn K C = true
  po : PySem.W.plainOver K C = true
  sa : PySem.W.findIn K (.ref C) "__setattr__" = some (some (.builtin "object.__setattr__"))
theorem Cls.get {K : PySem.W.Frag} {C : Addr} (c : Cls K C) (f : Str) : PySem.W.plainGet K C f = true := c.pg
section
variable {X : Cx} {pins : List (Addr × Obj)} {σ : St} {H : Hp} {s : Shared} {a C dx : Addr} {fs : List (Str × V)} {f : Str} {v : V} {A : Around} {E : Value → Shared → Prop}
theorem Inv.made (I : Inv X pins σ H s) : Inv X pins σ (upd (upd H s.heap.objs.size (.own (s.heap.objs.size + 1))) (s.heap.objs.size + 1) (.ins C s.heap.objs.size []))
    { s with heap := (s.heap.push PySem.W.emptyDict).push (PySem.W.instObj C s.heap.objs.size) } := by
  have e1 : (s.heap.push PySem.W.emptyDict).get? s.heap.objs.size = some PySem.W.emptyDict := Heap.get?_push_size s.heap rfl
  have e2 : ((s.heap.push PySem.W.emptyDict).push (PySem.W.instObj C s.heap.objs.size)).get? (s.heap.objs.size + 1) = some (PySem.W.instObj C s.heap.objs.size) := by
    have := Heap.get?_push_size (s.heap.push PySem.W.emptyDict) (o := PySem.W.instObj C s.heap.objs.size) rfl
    rwa [Heap.size_push] at this
  have e3 : (s.heap.push PySem.W.emptyDict).Ns s.heap.objs.size (fun _ => none) := ⟨PySem.W.emptyDict, #[], _, e1, rfl, (fun e he => absurd he (by simp)), fun _ => rfl⟩
  have I1 := I.laid (a := s.heap.objs.size) (o := .own (s.heap.objs.size + 1)) (h' := s.heap.push PySem.W.emptyDict) (t' := s.toks) (fun b u q => Heap.get?_push_of_some _ q) (Nat.le_refl _) ⟨_, e1⟩
  refine I1.laid (a := s.heap.objs.size + 1) (o := .ins C s.heap.objs.size []) (t' := s.toks) (fun b u q => Heap.get?_push_of_some _ q) (Nat.le_of_eq (Heap.size_push _ _)) ?_
  have ne : s.heap.objs.size ≠ s.heap.objs.size + 1 := Nat.ne_of_lt (Nat.lt_succ_self _)
  refine ⟨by rw [upd_ne ne, upd_same], Nat.zero_le _, ne, e2, fun _ => none, (Heap.Ns1.of_empty e3).at fun o q => Heap.get?_push_of_some _ q, fun _ => True.intro, fun y hy => absurd rfl hy⟩
theorem attr_of {prog : Program} {w : World} {env : Env} {e : Expr} {f : Str} {pos : Pos} {s : Shared} {Q : Value → Shared → Prop} (hb : attributeBase e f env (eval e env) = eval e env)
    (h : wpAny (model prog w) A (eval e env) (fun o s₁ => wpAny (model prog w) A (getAttr o f true) Q E s₁) E s) : wpAny (model prog w) A (eval (.Attribute e f pos) env) Q E s :=
  Attribute_any_ h (by rw [arm_eval_Attribute, hb])
end
section
variable {X : Cx} {o e value : Expr} {f : Str} {pos pos' tpos : Pos} {ta tv : TE}
end
section
variable {X : Cx} {pins : List (Addr × Obj)} {σ : St} {H : Hp} {s : Shared} {A : Around} {E : Value → Shared → Prop} {Q : Value → Shared → Prop} {c : Value} {b : Bool}
inductive TyOf (K : PySem.W.Frag) (H : Hp) : V → Value → Prop where
  | non : TyOf K H .non (.type "NoneType")
  | bl (x : Bool) : TyOf K H (.bl x) (.type "bool")
  | int (i : Int) : TyOf K H (.int i) (.type "int")
  | str (x : Str) : TyOf K H (.str x) (.type "str")
  | flt (x : UInt64) : TyOf K H (.flt x) (.type "float")
  | lst {a : Addr} {xs : List V} (e : H a = some (.lst xs)) : TyOf K H (.ref a) (.type "list")
  | frz {a : Addr} {o : Obj} {xs : List V} (e : H a = some (.frz o (.lst xs))) : TyOf K H (.ref a) (.type "list")
  | tup {a : Addr} {xs : List V} (e : H a = some (.tup xs)) : TyOf K H (.ref a) (.type "tuple")
  | dK {a : Addr} {kvs : List (Key × V)} (e : H a = some (.dK kvs)) : TyOf K H (.ref a) (.type "dict")
  | dT {a : Addr} {kvs : List (List Key × V)} (e : H a = some (.dT kvs)) : TyOf K H (.ref a) (.type "dict")
  | ins {a C dx : Addr} {fs : List (Str × V)} (e : H a = some (.ins C dx fs)) (cl : Cls K C) (ha : PySem.W.findIn K (.ref C) "__class__" = some (some (.builtin "object.__class__")))
      (hn : PySem.W.specialIn K (.builtin "object.__class__") "__get__" = some (some (.builtin "getset_descriptor.__get__"))) (htk : PySem.W.takesIn K (.builtin "object.__class__") = some true)
      (hm : PySem.W.mroIn K C (.type "object") = some true) : TyOf K H (.ref a) (.ref C)
theorem isinst_ok {x : V} {u t : Value} (I : Inv X pins σ H s) (rx : RelV x u) (ty : TyOf X.K H x t) (e : PySem.W.kitOne X.K t c = some b) (h : ∀ tk, Q (.bool b) { s with toks := tk }) :
    wpAny (model X.prog X.w) A (call (.builtin "isinstance") [u, c]) Q E s := by
  cases ty with
  | non => cases (show u = Value.none from rx); exact PySem.W.kia_one PySem.W.kitx_none I.kIn True.intro e (fun z => nomatch z) h
  | bl y => cases (show u = Value.bool y from rx); exact PySem.W.kia_one PySem.W.kitx_bool I.kIn True.intro e (fun z => nomatch z) h
  | int i => obtain ⟨t, q⟩ := (show ∃ t, u = Value.int i t from rx); cases q; exact PySem.W.kia_one PySem.W.kitx_int I.kIn True.intro e (fun z => nomatch z) h
  | str y => obtain ⟨t, q⟩ := (show ∃ t, u = Value.str y t from rx); cases q; exact PySem.W.kia_one PySem.W.kitx_str I.kIn True.intro e (fun z => nomatch z) h
  | flt y => obtain ⟨t, q⟩ := (show ∃ t, u = Value.float y t from rx); cases q; exact PySem.W.kia_one PySem.W.kitx_float I.kIn True.intro e (fun z => nomatch z) h
  | @lst a xs ea =>
    cases (show u = Value.ref a from rx)
    obtain ⟨_, _, n, _, h1⟩ := (show ObjOk X.prog X.w H s.heap a (.lst xs) from I.hok a _ ea)
    exact PySem.W.kia_one PySem.W.kitx_list I.kIn ⟨_, h1, rfl⟩ e (fun z => nomatch z) h
  | @frz a ob xs ea =>
    cases (show u = Value.ref a from rx)
    obtain ⟨_, _, _, n, _, h1⟩ := (show ObjOk X.prog X.w H s.heap a (.frz ob (.lst xs)) from I.hok a _ ea)
    exact PySem.W.kia_one PySem.W.kitx_list I.kIn ⟨_, h1, rfl⟩ e (fun z => nomatch z) h
  | @tup a xs ea =>
    cases (show u = Value.ref a from rx)
    obtain ⟨_, _, _, p⟩ := (show ObjOk X.prog X.w H s.heap a (.tup xs) from I.hok a _ ea)
    obtain ⟨o, h1, h2, _⟩ := p
    exact PySem.W.kia_one PySem.W.kitx_tuple I.kIn ⟨o, h1, h2⟩ e (fun z => nomatch z) h
  | @dK a kvs ea =>
    cases (show u = Value.ref a from rx)
    obtain ⟨_, _, vs, _, p⟩ := (show ObjOk X.prog X.w H s.heap a (.dK kvs) from I.hok a _ ea)
    obtain ⟨o, es, ep, h1, h2, _⟩ := p
    exact PySem.W.kia_one PySem.W.kitx_dict I.kIn ⟨o, h1, h2.1⟩ e (fun z => nomatch z) h
  | @dT a kvs ea =>
    cases (show u = Value.ref a from rx)
    obtain ⟨_, _, xs, _, o, es, ep, h1, h2, _⟩ := (show ObjOk X.prog X.w H s.heap a (.dT kvs) from I.hok a _ ea)
    exact PySem.W.kia_one PySem.W.kitx_dict I.kIn ⟨o, h1, h2.1⟩ e (fun z => nomatch z) h
  | @ins a C dx fs ea cl ha hn htk hm =>
    cases (show u = Value.ref a from rx)
    obtain ⟨mA, O, _⟩ := ins_get I.hok ea
    obtain ⟨od, J, _⟩ := O.look
    exact PySem.W.kia_one (PySem.W.kitx_own (cl.get _) cl.hd ha hn htk hm) I.kIn J e (fun z => nomatch z) h
end
end L2
namespace L2
open PySem PySem.Spec PyProof.Rows
structure Room (k : Nat) (A : Around) : Prop where
  hd : A.handled = none
  dp : A.depth + 3 * k + 5 < recursionLimit
  un : A.units + 16 * k + 200 < cLine
theorem Room.mono {j k : Nat} {A : Around} (r : Room k A) (h : j ≤ k) : Room j A := ⟨r.hd, by have := r.dp; omega, by have := r.un; omega⟩
theorem Room.deeper {k : Nat} {A : Around} (r : Room (k + 1) A) (env : Env) : Room k (A.deeper env) :=
  ⟨r.hd, by have := r.dp; show A.depth + 1 + 3 * k + 5 < _; omega, by have := r.un; show A.units + 3 + 16 * k + 200 < _; omega⟩
theorem Room.in1 {k : Nat} {A : Around} (r : Room (k + 1) A) : Room k A.in1 :=
  ⟨r.hd, by have := r.dp; show A.depth + 3 * k + 5 < _; omega, by have := r.un; show A.units + 1 + 16 * k + 200 < _; omega⟩
theorem make_depth {A : Around} {C : Addr} {us : List Value} {kw : List (Str × Value)} : (A.under (.builtin "type.__call__" ⟨.ref C :: us, kw⟩)).depth = A.depth + 1 := by
  first | rfl | simp [Around.under, Code.weight, Code.isCreation, Code.isGuard, Code.isCaller, Code.frames, Code.isFrame, guardIds]
theorem make_units {A : Around} {C : Addr} {us : List Value} {kw : List (Str × Value)} : (A.under (.builtin "type.__call__" ⟨.ref C :: us, kw⟩)).units = A.units + 1 := by
  first | rfl | simp [Around.under, Code.cUnits, Code.frames, Code.isFrame]
theorem Room.make {k : Nat} {A : Around} (r : Room (k + 1) A) (C : Addr) (us : List Value) (kw : List (Str × Value)) : Room k (A.under (.builtin "type.__call__" ⟨.ref C :: us, kw⟩)) :=
  ⟨r.hd, by have := r.dp; rw [make_depth]; omega, by have := r.un; rw [make_units]; omega⟩
theorem Room.depth {k : Nat} {A : Around} (r : Room k A) : A.depth < recursionLimit := by have := r.dp; omega
theorem Room.units {k : Nat} {A : Around} (r : Room k A) : A.units + 64 < cLine := by have := r.un; omega
def tNil : TA := fun _ H Q => Q [] H
def tCons (ta : TE) (tr : TA) : TA := fun σ H Q => ta σ H fun x H1 => tr σ H1 fun xs H2 => Q (x :: xs) H2
section
variable {X : Cx} {e : Expr} {es : List Expr} {te : TE} {t : TA} {pos : Pos}
theorem pa_nil : PA X [] tNil := fun _ _ _ _ H Q I h => Calls.spliced_nil ⟨[], H, I, .nil, h⟩
theorem pa_cons (ha : PE X e te) (hr : PA X es t) (hs : starEach (e :: es) X.env = (false, eval e X.env) :: starEach es X.env := by rfl) : PA X (e :: es) (tCons te t) := by
  intro pos pins s σ H Q I h
  rw [hs]
  show wpAny _ _ (spliced ((false, eval e X.env) :: backTo pos (starEach es X.env))) _ _ s
  refine Calls.spliced_cons (thn (ha pins s σ H _ I h) fun u s1 ⟨x, H1, I1, r1, q1⟩ => ?_)
  exact thn (hr pos pins s1 σ H1 _ I1 q1) fun us s2 ⟨xs, H2, I2, r2, q2⟩ => ⟨x :: xs, H2, I2, .cons r1 r2, q2⟩
def tTup (t : TA) : TE := fun σ H Q => t σ H fun xs H1 => xs.length ≤ sizeLine ∧ ∀ p, H1 p = none → Q (.ref p) (upd H1 p (.tup xs))
def tLst (t : TA) : TE := fun σ H Q => t σ H fun xs H1 => xs.length ≤ sizeLine ∧ ∀ p, H1 p = none → Q (.ref p) (upd H1 p (.lst xs))
theorem pe_tup {x1} (h : PA X es t) : PE X (.Tuple es x1 pos) (tTup t) := by
  intro pins s σ H Q I hq
  refine wpAny_Tuple_spliced (thn (h pos pins s σ H _ I hq) fun us s1 ⟨xs, H1, I1, r, z, q⟩ => ⟨by rw [← r.length]; exact z, ?_⟩)
  have hf : H1 s1.heap.objs.size = none := I1.hok.fresh (Nat.le_refl _)
  refine ⟨.ref s1.heap.objs.size, upd H1 s1.heap.objs.size (.tup xs), I1.laid (t' := s1.toks) (fun b u e => Heap.get?_push_of_some _ e) (Nat.le_refl _) ?_, rfl, q _ hf⟩
  exact ⟨z, us, r, ⟨_, Heap.get?_push_size _ rfl, rfl, _, rfl⟩⟩
theorem pe_lst (h : PA X es t) : PE X (.List es pos) (tLst t) := by
  intro pins s σ H Q I hq
  refine wpAny_List_spliced (thn (h pos pins s σ H _ I hq) fun us s1 ⟨xs, H1, I1, r, z, q⟩ => ⟨by rw [← r.length]; exact z, ?_⟩)
  have hf : H1 s1.heap.objs.size = none := I1.hok.fresh (Nat.le_refl _)
  refine ⟨.ref s1.heap.objs.size, upd H1 s1.heap.objs.size (.lst xs), I1.laid (t' := s1.toks) (fun b u e => Heap.get?_push_of_some _ e) (Nat.le_refl _) ?_, rfl, q _ hf⟩
  exact ⟨z, us, 0, r, Heap.get?_push_size _ rfl⟩
end
abbrev Sp := List V → Hp → VK → XK → Prop
abbrev CXT := List Env → Hp → Shared → XK → Value → Shared → Prop
structure Env0 (P : Program) (w : World) (K : PySem.W.Frag) (mg : Str → Option Value) (base : Heap) (A : Around) (outer : List Env) (s : Shared) (H : Hp) : Prop where
  frames : A.frames = some outer
  mod : Mod K mg base
  bs : ∀ b o, base.get? b = some o → s.heap.get? b = some o ∧ H b = none
  bsz : base.objs.size ≤ s.heap.objs.size
  funs : s.heap.FunFrames base outer
  frf : ∀ b ∈ frs outer, H b = none
  hok : HOk P w H s.heap
  bare : AllBare s.gens
def CE (outer : List Env) (P : Program) (w : World) (H : Hp) (s : Shared) (Q : VK) (u : Value) (s' : Shared) : Prop :=
  ∃ v H', s'.os = s.os ∧ AllBare s'.gens ∧ Un (frs outer) [] H H' s.heap s'.heap ∧ HOk P w H' s'.heap ∧ RelV v u ∧ Q v H'
def CR (CX : CXT) (outer : List Env) (P : Program) (w : World) (H : Hp) (s : Shared) (Q : VK) (E : XK) (r : Result) (s' : Shared) : Prop :=
  match r with
  | .ok (.ret u) => CE outer P w H s Q u s'
  | .ok _ => False
  | .error e => CX outer H s E e s'
structure FnOk (P : Program) (w : World) (K : PySem.W.Frag) (mg : Str → Option Value) (base : Heap) (CX : CXT) (k : Nat) (f : Addr) (fd : FuncData) (ps : List Str) (sp : Sp) : Prop where
  len : ∀ vs H Q E, sp vs H Q E → vs.length = ps.length
  run : ∀ (A : Around) (outer : List Env) (s : Shared) (H : Hp) (args : Args) (us : List Value) (vs : List V) (Q : VK) (E : XK), Room k A → Env0 P w K mg base A outer s H → BindsTo s fd args (ps.zip us) → Vals vs us → sp vs H Q E →
    codeAny (model P w) A (.call (.ref f) args) (CR CX outer P w H s Q E) s
theorem FnOk.mono {P : Program} {w : World} {K : PySem.W.Frag} {mg : Str → Option Value} {base : Heap} {CX : CXT} {j k : Nat} {f : Addr} {fd : FuncData} {ps : List Str} {sp : Sp} (F : FnOk P w K mg base CX j f fd ps sp) (h : j ≤ k) :
    FnOk P w K mg base CX k f fd ps sp := ⟨F.len, fun A outer s H args us vs Q E hr => F.run A outer s H args us vs Q E (hr.mono h)⟩
theorem Env0.make {P : Program} {w : World} {K : PySem.W.Frag} {mg : Str → Option Value} {base : Heap} {A : Around} {outer : List Env} {s : Shared} {H : Hp} (e : Env0 P w K mg base A outer s H) (C : Addr) (us : List Value) (kw : List (Str × Value)) :
    Env0 P w K mg base (A.under (.builtin "type.__call__" ⟨.ref C :: us, kw⟩)) outer s H := ⟨by first | exact e.frames | (simpa [Around.under, Code.envs, Code.isFrame, pushEnvs] using e.frames), e.mod, e.bs, e.bsz, e.funs, e.frf, e.hok, e.bare⟩
theorem Env0.in1 {P : Program} {w : World} {K : PySem.W.Frag} {mg : Str → Option Value} {base : Heap} {A : Around} {outer : List Env} {s : Shared} {H : Hp} (e : Env0 P w K mg base A outer s H) :
    Env0 P w K mg base A.in1 outer s H := ⟨e.frames, e.mod, e.bs, e.bsz, e.funs, e.frf, e.hok, e.bare⟩
section
variable {X : Cx} {pins : List (Addr × Obj)} {σ : St} {H : Hp} {s s' : Shared}
theorem Inv.env0 (I : Inv X pins σ H s) : Env0 X.prog X.w X.K X.mg X.base X.A X.stack s H :=
  ⟨I.ok.frames, I.ok.mod, I.bs, Nat.le_trans I.ok.bsz I.sz, I.stack, I.stkFree, I.hok, I.bare⟩
theorem Inv.after {Q : VK} {u : Value} (I : Inv X pins σ H s) (h : CE X.stack X.prog X.w H s Q u s') : EP X pins σ Q u s' := by
  obtain ⟨v, H', os, bare, un, hok, r, q⟩ := h
  obtain ⟨hh, g, d, t, os'⟩ := s'
  obtain rfl : os' = s.os := os
  exact ⟨v, H', I.call (h' := hh) (g' := g) (d' := d) (t' := t) (ch := []) un hok bare (fun b z => absurd z (by simp)), r, q⟩
end
def tCall (sp : Sp) (dvs : List V) (E : XK) (t : TA) : TE := fun σ H Q => t σ H fun vs H1 => sp (vs ++ dvs) H1 Q E
def Binds (K : PySem.W.Frag) (fd : FuncData) (ps : List Str) (ds : List Value) : Prop :=
  ∀ (s : Shared) (us : List Value), K.In s.heap → (us ++ ds).length = ps.length → BindsTo s fd ⟨us, []⟩ (ps.zip (us ++ ds))
theorem Binds.all {K : PySem.W.Frag} {fd : FuncData} {ps : List Str} (h : ∀ us : List Value, us.length = ps.length → bindArgs fd ⟨us, []⟩ = pure (ps.zip us)) : Binds K fd ps [] := fun s us _ hl => by
  rw [List.append_nil] at hl ⊢
  exact .of_eq (h us hl)
def Passes (CX : CXT) (X : Cx) (E : XK) : Prop := ∀ (pins : List (Addr × Obj)) (σ : St) (H : Hp) (s : Shared) (e : Value) (s' : Shared), Inv X pins σ H s → CX X.stack H s E e s' → X.xe e s'
section
variable {X : Cx} {CX : CXT} {k : Nat} {f C : Addr} {fd : FuncData} {ps : List Str} {sp : Sp} {dvs : List V} {ds : List Value} {E : XK} {x m : Str} {p pos apos : Pos} {e o : Expr} {es : List Expr} {ta : TE} {t : TA}
theorem run_fn {pins : List (Addr × Obj)} {σ : St} {H : Hp} {s : Shared} {Q : VK} {us : List Value} {vs : List V} (F : FnOk X.prog X.w X.K X.mg X.base CX k f fd ps sp) (hr : Room k X.A) (hb : Binds X.K fd ps ds) (hd : Vals dvs ds) (hx : Passes CX X E)
    (I : Inv X pins σ H s) (r : Vals vs us) (h : sp (vs ++ dvs) H Q E) : wpAny (model X.prog X.w) X.A (call (.ref f) us) (EP X pins σ Q) X.xe s := by
  have r2 : Vals (vs ++ dvs) (us ++ ds) := r.append hd
  have hl : (us ++ ds).length = ps.length := by rw [← r2.length]; exact F.len _ _ _ _ h
  refine wpAny_call (codeAny_mono (F.run X.A X.stack s H ⟨us, []⟩ (us ++ ds) (vs ++ dvs) Q E hr I.env0 (hb s us I.kIn hl) r2 h) fun r s' hq => ?_)
  cases r with
  | error e => exact hx pins σ H s e s' I hq
  | ok fl =>
    cases fl with
    | ret u => exact I.after hq
    | next => exact False.elim hq
    | brk => exact False.elim hq
    | cont => exact False.elim hq
theorem pe_call (F : FnOk X.prog X.w X.K X.mg X.base CX k f fd ps sp) (hr : Room k X.A) (hg : Gl X x) (hm : X.mg x = some (.ref f)) (hk : PySem.W.keepIn X.K (.ref f) = true) (hb : Binds X.K fd ps ds) (hd : Vals dvs ds) (hx : Passes CX X E)
    (ha : PA X (e :: es) t) (hdb : (x == ("__debug__" : Str)) = false := by decide) (he : starEach (e :: es) X.env = (false, eval e X.env) :: starEach es X.env := by rfl) (hpl : (backTo pos (starEach es X.env)).any (·.1) = false := by rfl) :
    PE X (.Call (.Name x p) (e :: es) [] pos) (tCall sp dvs E t) := by
  intro pins s σ H Q I h
  refine wpAny_Call_Name_kw (ld_glob I hg hm ?_ hdb)
  refine PySem.W.callWith_K (h₀ := X.base) I.ok.mod.kin hk (thn (ha pos pins s σ H _ I h) fun us s1 ⟨vs, H1, I1, r, q⟩ => ⟨I1.kIn, ?_⟩) he hpl
  exact run_fn F hr hb hd hx I1 r q
end
section
variable {X : Cx} {CX : CXT} {k : Nat} {f C : Addr} {fd : FuncData} {ps ks : List Str} {sp : Sp} {E : XK} {x m : Str} {p pos apos kpos : Pos} {e o : Expr} {es : List Expr} {kws : List Keyword} {te ta : TE} {t tk : TA} {nm : Option Str}
variable {g : List Value → List Value → List Value} {gV : List V → List V → List V}
end
structure FnScope (N P : List Str) (sc : Scope) : Prop where
  kind : sc.kind = .function
  co : sc.isCoroutine = false
  gen : sc.isGenerator = false
  nd : N.Nodup
  pre : N.take P.length = P
  par : ∀ x ∈ P, sc.names.lookup x = some .local ∨ sc.names.lookup x = some .cell
  nofree : ∀ y ∈ sc.names, y.2 ≠ .free
theorem bindL_out {kindOf : Str → Option NameKind} {x : Str} : ∀ {binds : List (Str × Value)} {m : Str → Option Value}, (∀ v, (x, v) ∉ binds) → bindL kindOf binds m x = m x
  | [], _, _ => rfl
  | (n, v) :: r, m, h => by
    unfold bindL
    rw [bindL_out fun w hw => h w (List.mem_cons_of_mem _ hw)]
    split
    · have : x ≠ n := by rintro rfl; exact h v List.mem_cons_self
      simp [this]
    · rfl
theorem bindC_out {kindOf : Str → Option NameKind} {x : Str} : ∀ {binds : List (Str × Value)} {m : Str → Option Value}, (∀ v, (x, v) ∉ binds) → bindC kindOf binds m x = m x
  | [], _, _ => rfl
  | (n, v) :: r, m, h => by
    unfold bindC
    rw [bindC_out fun w hw => h w (List.mem_cons_of_mem _ hw)]
    split
    · rfl
    · have : x ≠ n := by rintro rfl; exact h v List.mem_cons_self
      simp [this]
theorem bindL_get {kindOf : Str → Option NameKind} {x : Str} {v : Value} : ∀ {P : List Str} {vs : List Value} {i : Nat} {m : Str → Option Value}, P.Nodup → P[i]? = some x → vs[i]? = some v → kindOf x = some .local →
    bindL kindOf (P.zip vs) m x = some v
  | [], _, _, _, _, h, _, _ => by simp at h
  | _ :: _, [], _, _, _, _, h, _ => by simp at h
  | p :: P, w :: vs, 0, m, nd, h1, h2, hk => by
    simp at h1 h2; subst h1; subst h2
    show bindL kindOf ((p, w) :: P.zip vs) m p = _
    unfold bindL
    rw [bindL_out fun v hv => (List.nodup_cons.mp nd).1 (List.of_mem_zip hv).1, if_pos hk]
    simp
  | p :: P, w :: vs, i + 1, m, nd, h1, h2, hk => by
    show bindL kindOf ((p, w) :: P.zip vs) m x = _
    unfold bindL
    exact bindL_get (i := i) (List.nodup_cons.mp nd).2 (by simpa using h1) (by simpa using h2) hk
theorem bindC_get {kindOf : Str → Option NameKind} {x : Str} {v : Value} : ∀ {P : List Str} {vs : List Value} {i : Nat} {m : Str → Option Value}, P.Nodup → P[i]? = some x → vs[i]? = some v → kindOf x ≠ some .local →
    bindC kindOf (P.zip vs) m x = some v
  | [], _, _, _, _, h, _, _ => by simp at h
  | _ :: _, [], _, _, _, _, h, _ => by simp at h
  | p :: P, w :: vs, 0, m, nd, h1, h2, hk => by
    simp at h1 h2; subst h1; subst h2
    show bindC kindOf ((p, w) :: P.zip vs) m p = _
    unfold bindC
    rw [bindC_out fun v hv => (List.nodup_cons.mp nd).1 (List.of_mem_zip hv).1, if_neg hk]
    simp
  | p :: P, w :: vs, i + 1, m, nd, h1, h2, hk => by
    show bindC kindOf ((p, w) :: P.zip vs) m x = _
    unfold bindC
    exact bindC_get (i := i) (List.nodup_cons.mp nd).2 (by simpa using h1) (by simpa using h2) hk
def start (N : List Str) (vs : List V) : St := vs.map some ++ List.replicate (N.length - vs.length) none
def cxOf (CX : CXT) (P : Program) (w : World) (K : PySem.W.Frag) (mg : Str → Option Value) (base : Heap) (N : List Str) (qual : Str) (scope : Scope) (f : Addr) (cd : Value) (A : Around) (outer : List Env) (s : Shared) (H : Hp) (E : XK) : Cx where
  prog := P
  w := w
  K := K
  mg := mg
  base := base
  A := A.deeper (envOfC qual scope s.heap.objs.size f cd)
  N := N
  s₀ := s
  H₀ := H
  env := envOfC qual scope s.heap.objs.size f cd
  outer := outer
  stack := envOfC qual scope s.heap.objs.size f cd :: outer
  ex := []
  calm := true
  fn := fun _ => true
  pn := []
  xe := fun e s' => wpAny (model P w) (A.deeper (envOfC qual scope s.heap.objs.size f cd)) (leaving (envOfC qual scope s.heap.objs.size f cd) e) (fun _ s'' => CX outer H s E e s'') (fun e' s'' => CX outer H s E e' s'') s'
theorem cell_has {sc : Scope} {n : Nat} {x : Str} (h : sc.names.lookup x = some .cell) : ∃ c, (cellsFrom n sc.names []).lookup x = some c := by
  have q := PySem.W.cellsFrom_some sc.names n [] (.inl h)
  exact Option.isSome_iff_exists.mp q
theorem inv_start {CX : CXT} {P : Program} {w : World} {K : PySem.W.Frag} {mg : Str → Option Value} {base : Heap} {N ps : List Str} {qual : Str} {scope : Scope} {f : Addr} {cd : Value} {A : Around} {outer : List Env} {s s1 : Shared} {H : Hp} {E : XK} {us : List Value} {vs : List V}
    (S : FnScope N ps scope) (hd : A.handled = none) (e0 : Env0 P w K mg base A outer s H) (hl : vs.length = ps.length) (r : Vals vs us)
    (x : InCallC s s.heap.objs.size (bindL (envOfC qual scope s.heap.objs.size f cd).kindOf (ps.zip us) fun _ => none) (cellsFrom (s.heap.objs.size + 1) scope.names []) (bindC (envOfC qual scope s.heap.objs.size f cd).kindOf (ps.zip us) fun _ => none) s1) :
    Inv (cxOf CX P w K mg base N qual scope f cd A outer s H E) [] (start N vs) H s1 := by
  have hpl : ps.length ≤ N.length := by have := congrArg List.length S.pre; rw [List.length_take] at this; omega
  obtain ⟨h1, tk, rfl, hk⟩ := x.done
  have noA : ∀ b : Addr, b ∉ (cxOf CX P w K mg base N qual scope f cd A outer s H E).ex := fun b z => absurd (show b ∈ ([] : List Addr) from z) (by simp)
  refine ⟨⟨e0.mod, S.kind, rfl, rfl, Nat.le_refl _, fun y z c h1 h2 => ?_, fun y hy => ?_, fun y c _ h => ?_, fun _ => hd, Around.frames_deeper e0.frames, .inr ⟨rfl, rfl⟩, fun b z => absurd z (noA b), e0.bs, e0.bsz, fun b _ _ => noA b, fun b z => absurd z (noA b), e0.funs, e0.frf⟩,
    rfl, e0.bare, Un.kept hk, ⟨_, x.toInCall.ns, fun i y v h1 h2 h3 => ?_⟩, fun y c h => ⟨_, x.cell y c h⟩, e0.hok.fresh (Nat.le_refl _), fun y c h => ?_, fun p hp => absurd (show p ∈ ([] : List (Addr × Obj)) from hp) (by simp), e0.hok.kept hk, ?_⟩
  · exact name_of_addr x.apart (PySem.mem_of_lookup h1) (PySem.mem_of_lookup h2)
  · have hy : scope.names.lookup y = some .cell ∨ scope.names.lookup y = some .free := hy
    rcases hy with hy | hy
    · exact cell_has hy
    · exact absurd rfl (S.nofree _ (PySem.mem_of_lookup hy))
  · exact Nat.le_of_lt (x.above y c (PySem.mem_of_lookup h))
  · have hi : i < vs.length := by
      unfold start at h2
      by_cases hi : i < vs.length
      · exact hi
      · rw [List.getElem?_append_right (by simpa using hi)] at h2
        rw [List.getElem?_replicate] at h2
        split at h2 <;> cases h2
    have ha : vs[i]? = some v := by
      unfold start at h2
      rw [List.getElem?_append_left (by simpa using hi), List.getElem?_map] at h2
      cases e : vs[i]? with
      | none => rw [e] at h2; cases h2
      | some a => rw [e] at h2; cases h2; rfl
    obtain ⟨u, hu, rv⟩ := r.get ha
    have hp : ps[i]? = some y := by
      rw [← S.pre, List.getElem?_take_of_lt (by omega)]; exact h1
    have ndP : ps.Nodup := by rw [← S.pre]; exact S.nd.sublist (List.take_sublist _ _)
    refine ⟨u, rv, ?_⟩
    rcases S.par y (List.mem_of_getElem? hp) with k | k
    · exact .inl ⟨k, bindL_get ndP hp hu k⟩
    · obtain ⟨c, e⟩ := cell_has (n := s.heap.objs.size + 1) k
      refine .inr ⟨.inl k, c, e, ?_⟩
      have q := x.cell y c e
      rw [bindC_get ndP hp hu (by show scope.names.lookup y ≠ _; rw [k]; decide)] at q
      exact q
  · exact e0.hok.fresh (Nat.le_of_lt (x.above y c (PySem.mem_of_lookup h)))
  · unfold start
    show _ = N.length
    rw [List.length_append, List.length_map, List.length_replicate]
    omega
theorem fn_of {CX : CXT} {P : Program} {w : World} {K : PySem.W.Frag} {mg : Str → Option Value} {base : Heap} {k : Nat} {f : Addr} {name qual : Str} {params : Arguments} {body : List Stmt} {scope : Scope} {dV kV doc pm cdv ct oc : Value} {an od : Option Addr}
    {osl : Array (Option Value)} {N ps : List Str} {sp : Sp} (lk : K.lookup f = some ⟨oc, od, .func (PySem.W.fnOf name qual params body scope dV kV doc pm an cdv ct), osl⟩) (hcd : PySem.W.codeIn K cdv qual = true) (S : FnScope N ps scope)
    (len : ∀ vs H Q E, sp vs H Q E → vs.length = ps.length)
    (hbody : ∀ (A : Around) (outer : List Env) (s : Shared) (H : Hp) (vs : List V) (Q : VK) (E : XK), Room k (A.deeper (envOfC qual scope s.heap.objs.size f cdv)) → sp vs H Q E →
      ∃ t, PSs (cxOf CX P w K mg base N qual scope f cdv A outer s H E) body t ∧ t { nx := fun _ H' => Q .non H', rt := Q } (start N vs) H) :
    FnOk P w K mg base CX (k + 1) f (PySem.W.fnOf name qual params body scope dV kV doc pm an cdv ct) ps sp := by
  refine ⟨len, fun A outer s H args us vs Q E hr e0 hb r hsp => ?_⟩
  have hl := len _ _ _ _ hsp
  have KX : K.In s.heap := e0.mod.kin.keeps fun b o e => (e0.bs b o e).1
  have lim : s.heap.NoLimit := e0.mod.nolimit.keeps fun b o e => (e0.bs b o e).1
  have hkind : ∀ y ∈ ps.zip us, scope.names.lookup y.1 = some .local ∨ (scope.names.lookup y.1 = some .cell ∧ ((cellsFrom (s.heap.objs.size + 1) scope.names []).lookup y.1).isSome = true) := fun ⟨n, v⟩ hy => by
    rcases S.par n (List.of_mem_zip hy).1 with q | q
    · exact .inl q
    · exact .inr ⟨q, PySem.W.cellsFrom_some _ _ _ (.inl q)⟩
  refine codeAny_call_function hr.depth (KX _ _ lk) rfl S.co S.gen rfl (PySem.W.codeRec_of KX hcd) (hb _ _ _ _ ?_)
  refine wpAny_newFunctionEnv_cells S.kind hkind fun env he s1 x => ?_
  subst he
  refine ⟨lim.keeps x.toInCall.keep, codeAny_func ?_⟩
  obtain ⟨t, ht, hq⟩ := hbody A outer s H vs Q E (hr.deeper _) hsp
  have I : Inv (cxOf CX P w K mg base N qual scope f cdv A outer s H E) [] (start N vs) H s1 := inv_start S hr.hd e0 hl r x
  refine wpAny_mono (ht [] s1 (start N vs) H _ I hq) (fun fl s' hs => ?_) fun e s' hs => hs
  have fin : ∀ {σ' : St} {H' : Hp} {v : V} {u : Value}, Inv (cxOf CX P w K mg base N qual scope f cdv A outer s H E) [] σ' H' s' → RelV v u → Q v H' → CE outer P w H s Q u s' :=
    fun {σ' H' v u} J rv q => ⟨v, H', J.os, J.bare, J.base, J.hok, rv, q⟩
  cases fl with
  | ret u =>
    obtain ⟨v, σ', H', J, rv, q⟩ := hs
    exact fin J rv q
  | next =>
    obtain ⟨σ', H', J, q⟩ := hs
    exact fin (v := V.non) (u := Value.none) J rfl q
  | brk =>
    obtain ⟨_, _, _, q⟩ := hs
    exact False.elim q
  | cont =>
    obtain ⟨_, _, _, q⟩ := hs
    exact False.elim q
end L2
namespace L2
open PySem PySem.Spec PyProof.Rows
section
variable {X : Cx} {x : Str} {p pos : Pos} {e : Expr} {es : List Expr} {t : TA} {id T : String} {r : List V → Hp → VK → Prop}
def tCB (r : List V → Hp → VK → Prop) (t : TA) : TE := fun σ H Q => t σ H fun vs H1 => r vs H1 Q
theorem pe_callB (hc : CallR X (.builtin id) r) (hg : Gl X x) (hm : X.mg x = none) (hv : bootBuiltins x = some (.builtin id)) (ha : PA X (e :: es) t) (hn : x ≠ "__name__" := by decide) (hdb : (x == ("__debug__" : Str)) = false := by decide)
    (he : starEach (e :: es) X.env = (false, eval e X.env) :: starEach es X.env := by rfl) (hpl : (backTo pos (starEach es X.env)).any (·.1) = false := by rfl) : PE X (.Call (.Name x p) (e :: es) [] pos) (tCB r t) := by
  intro pins s σ H Q I h
  refine wpAny_Call_Name_kw (ld_blt I hg hm hv ?_ hn hdb)
  exact PyProof.Rows.callWith_builtin1 (thn (ha pos pins s σ H _ I h) fun us s1 ⟨vs, H1, I1, r1, q1⟩ => hc pins s1 σ H1 vs us Q I1 r1 q1) he hpl
theorem pe_callTy (hc : CallR X (.type T) r) (hg : Gl X x) (hm : X.mg x = none) (hv : bootBuiltins x = some (.type T)) (ha : PA X (e :: es) t) (hn : x ≠ "__name__" := by decide) (hdb : (x == ("__debug__" : Str)) = false := by decide)
    (he : starEach (e :: es) X.env = (false, eval e X.env) :: starEach es X.env := by rfl) (hpl : (backTo pos (starEach es X.env)).any (·.1) = false := by rfl) : PE X (.Call (.Name x p) (e :: es) [] pos) (tCB r t) := by
  intro pins s σ H Q I h
  refine wpAny_Call_Name_kw (ld_blt I hg hm hv ?_ hn hdb)
  exact PyProof.Rows.callWith_type1 (thn (ha pos pins s σ H _ I h) fun us s1 ⟨vs, H1, I1, r1, q1⟩ => hc pins s1 σ H1 vs us Q I1 r1 q1) he hpl
end
end L2
namespace HT
open PySem PyProof.Rows
section
open PySem.SeqAt
open PySem.AutoSeq1 (wpAny_loadPart')
open PySem.MeetsSeq PySem.MeetsSeq2 PySem.MeetsSeq3
end
section
variable {prog : Program} {w : World} {A : Around} {E : Value → Shared → Prop} {s : Shared}
def sIx (n d : Nat) : Option Int → Nat
  | none => d
  | some v => if v < 0 then (v + (n : Int)).toNat else min v.toNat n
end
end HT
namespace L2
open PySem PySem.Spec PyProof.Rows
abbrev TO := St → Hp → (Option Int → Hp → Prop) → Prop
def PO (X : Cx) (e : Option Expr) (t : TO) : Prop :=
  ∀ (pins : List (Addr × Obj)) (s : Shared) (σ : St) (H : Hp) (Q : Option Int → Hp → Prop), Inv X pins σ H s → t σ H Q →
    wpAny (model X.prog X.w) X.A (evalPart e X.env) (fun u s' => ∃ o H', Inv X pins σ H' s' ∧ IsPart u o ∧ Q o H') X.xe s
def tNoPart : TO := fun _ H Q => Q none H
def tPart (t : TE) : TO := fun σ H Q => t σ H fun x H1 => ∃ i, x = .int i ∧ Q (some i) H1
theorem intsAre_of {ns : List Int} : ∀ {us : List Value}, Vals (ns.map V.int) us → IntsAre us ns := by
  induction ns with
  | nil => intro us r; rw [List.map_nil] at r; cases r; exact .nil
  | cons n ns ih =>
    intro us r
    rw [List.map_cons] at r
    cases r with
    | cons r1 r2 =>
      obtain ⟨t, e⟩ := r1
      subst e
      exact .cons n t (ih r2)
section
variable {X : Cx} {e : Expr} {te : TE} {lo hi : Option Expr} {tl th : TO} {pos p2 : Pos}
theorem po_none : PO X none tNoPart := by
  intro pins s σ H Q I h
  rw [evalPart_none]
  exact wpAny_pure ⟨none, H, I, .none, h⟩
theorem po_some (h : PE X e te) : PO X (some e) (tPart te) := by
  intro pins s σ H Q I hw
  rw [evalPart_some]
  refine thn (h pins s σ H _ I hw) fun u s1 ⟨x, H1, I1, r1, q1⟩ => ?_
  obtain ⟨i, rfl, q⟩ := q1
  obtain ⟨t, rfl⟩ := r1
  exact ⟨some i, H1, I1, .int i t, q⟩
def SlR (X : Cx) (r : V → Option Int → Option Int → Hp → VK → Prop) : Prop :=
  ∀ (pins : List (Addr × Obj)) (s : Shared) (σ : St) (H : Hp) (x : V) (v vl vu : Value) (lo hi : Option Int) (sl : Addr) (Q : VK), Inv X pins σ H s → RelV x v → s.heap.IsSliceOf sl vl vu .none → IsPart vl lo → IsPart vu hi → r x lo hi H Q →
    ∃ T id, typeLookup (.type T) "__getitem__" = pure (some (.builtin id)) ∧ s.TypeIs v T ∧ wpAny (model X.prog X.w) X.A (getItem v (.ref sl)) (EP X pins σ Q) X.xe s
theorem SlR.or {r r' : V → Option Int → Option Int → Hp → VK → Prop} (h : SlR X r) (h' : SlR X r') : SlR X (fun x lo hi H Q => r x lo hi H Q ∨ r' x lo hi H Q) := by
  intro pins s σ H x v vl vu lo hi sl Q I rx hs pl pu q
  rcases q with q | q
  · exact h pins s σ H x v vl vu lo hi sl Q I rx hs pl pu q
  · exact h' pins s σ H x v vl vu lo hi sl Q I rx hs pl pu q
def tSl (r : V → Option Int → Option Int → Hp → VK → Prop) (te : TE) (tl th : TO) : TE := fun σ H Q => te σ H fun x H1 => tl σ H1 fun l H2 => th σ H2 fun u H3 => r x l u H3 Q
theorem pe_slice {r : V → Option Int → Option Int → Hp → VK → Prop} (hr : SlR X r) (he : PE X e te) (hl : PO X lo tl) (hu : PO X hi th) : PE X (.Subscript e (.Slice lo hi none p2) pos) (tSl r te tl th) := by
  intro pins s σ H Q I h
  refine Subscript_ (thn (he pins s σ H _ I h) fun v s1 ⟨x, H1, I1, r1, q1⟩ => ?_)
  refine wpAny_Slice (thn (hl pins s1 σ H1 _ I1 q1) fun vl s2 ⟨l, H2, I2, pl, q2⟩ => thn (hu pins s2 σ H2 _ I2 q2) fun vu s3 ⟨u, H3, I3, pu, q3⟩ => ?_)
  rw [evalPart_none]
  refine wpAny_pure ?_
  have I4 : Inv X pins σ H3 { s3 with heap := s3.heap.push { cls := .type "slice", data := .fields #[vl, vu, .none] } } := I3.kept (t' := s3.toks) fun b ob q => Heap.get?_push_of_some _ q
  obtain ⟨T, id, hT, ht, hg⟩ := hr pins { s3 with heap := s3.heap.push { cls := .type "slice", data := .fields #[vl, vu, .none] } } σ H3 x v vl vu l u s3.heap.objs.size Q I4 r1 (Heap.IsSliceOf.new ..) pl pu q3
  show wpAny (model X.prog X.w) X.A (subscriptTail e (.Slice lo hi none p2) v (.ref s3.heap.objs.size)) (EP X pins σ Q) X.xe { s3 with heap := s3.heap.push { cls := .type "slice", data := .fields #[vl, vu, .none] } }
  exact tail_any (ops := [.ref s3.heap.objs.size, v]) ht hT hg (by with_unfolding_all rfl)
def cutV (xs : List V) (lo hi : Option Int) : List V := (xs.drop (HT.sIx xs.length 0 lo)).take (HT.sIx xs.length xs.length hi - HT.sIx xs.length 0 lo)
theorem cutV_length (xs : List V) (lo hi : Option Int) : (cutV xs lo hi).length ≤ xs.length := by
  unfold cutV
  rw [List.length_take, List.length_drop]
  omega
end
end L2
namespace L2
open PySem PySem.Spec PyProof.Rows
def ixN (n : Nat) (i : Int) : Option Nat := if 0 ≤ i then (if i < n then some i.toNat else none) else if -(n : Int) ≤ i then some (i + n).toNat else none
def atI {α : Type} (xs : List α) (i : Int) : Option α := (ixN xs.length i).bind fun j => xs[j]?
theorem ixN_seq {n : Nat} {i : Int} {j : Nat} (h : ixN n i = some j) : seqIndex? i n = some j ∧ j < n ∧ -(n : Int) ≤ i ∧ i < n := by
  unfold ixN at h
  by_cases h0 : 0 ≤ i
  · rw [if_pos h0] at h
    by_cases h1 : i < n
    · rw [if_pos h1] at h
      have e : i.toNat = j := Option.some.inj h
      exact ⟨by rw [seqIndex_of h0 h1, e], by omega, by omega, h1⟩
    · rw [if_neg h1] at h; cases h
  · rw [if_neg h0] at h
    by_cases h1 : -(n : Int) ≤ i
    · rw [if_pos h1] at h
      have e : (i + n).toNat = j := Option.some.inj h
      exact ⟨by rw [seqIndex_neg (by omega) h1, e], by omega, h1, by omega⟩
    · rw [if_neg h1] at h; cases h
theorem atI_get {α : Type} {xs : List α} {i : Int} {v : α} (h : atI xs i = some v) : ∃ j, seqIndex? i xs.length = some j ∧ xs[j]? = some v ∧ j < xs.length ∧ -(xs.length : Int) ≤ i ∧ i < xs.length := by
  unfold atI at h
  cases e : ixN xs.length i with
  | none => rw [e] at h; cases h
  | some j =>
    rw [e] at h
    obtain ⟨h1, h2, h3, h4⟩ := ixN_seq e
    exact ⟨j, h1, h, h2, h3, h4⟩
theorem atI_nat {α : Type} {xs : List α} {j : Nat} {v : α} (h : xs[j]? = some v) : atI xs (j : Int) = some v := by
  have hj : j < xs.length := (List.getElem?_eq_some_iff.mp h).1
  have e : ixN xs.length (j : Int) = some j := by
    unfold ixN
    rw [if_pos (by omega), if_pos (by omega)]; simp
  unfold atI; rw [e]; exact h
def PlainIx (b : Expr) : Prop := ∀ o i, subscripted b false o i = operate [o, i] (getItem o i)
def IxR (X : Cx) (r : R2) : Prop :=
  ∀ (value slice : Expr) (pins : List (Addr × Obj)) (s : Shared) (σ : St) (H : Hp) (x y : V) (v u : Value) (Q : VK), Inv X pins σ H s → RelV x v → RelV y u → r x y H Q →
    subscripted slice false v u = operate [v, u] (getItem v u) → wpAny (model X.prog X.w) X.A (subscriptTail value slice v u) (EP X pins σ Q) X.xe s
def MtR (X : Cx) (id : String) (r : V → List V → Hp → VK → Prop) : Prop :=
  ∀ (pins : List (Addr × Obj)) (s : Shared) (σ : St) (H : Hp) (x : V) (xs : List V) (v : Value) (us : List Value) (Q : VK), Inv X pins σ H s → RelV x v → Vals xs us → r x xs H Q →
    wpAny (model X.prog X.w) X.A (call (.builtin id) (v :: us)) (EP X pins σ Q) X.xe s
section
variable {X : Cx} {a b : Expr} {ta tb : TE} {pos : Pos}
theorem IxR.or {r r' : R2} (h : IxR X r) (h' : IxR X r') : IxR X (fun x y H Q => r x y H Q ∨ r' x y H Q) := by
  intro value slice pins s σ H x y v u Q I rx ry q hs
  rcases q with q | q
  · exact h value slice pins s σ H x y v u Q I rx ry q hs
  · exact h' value slice pins s σ H x y v u Q I rx ry q hs
theorem MtR.or {id : String} {r r' : V → List V → Hp → VK → Prop} (h : MtR X id r) (h' : MtR X id r') : MtR X id (fun x xs H Q => r x xs H Q ∨ r' x xs H Q) := by
  intro pins s σ H x xs v us Q I rx rs q
  rcases q with q | q
  · exact h pins s σ H x xs v us Q I rx rs q
  · exact h' pins s σ H x xs v us Q I rx rs q
theorem pe_ix {r : R2} (hr : IxR X r) (ha : PE X a ta) (hb : PE X b tb) (hs : PlainIx b) : PE X (.Subscript a b pos) (tOp r ta tb) := by
  intro pins s σ H Q I h
  exact Subscript_ (binT ha hb I h fun v u s2 x y H2 I2 rx ry q => hr a b pins s2 σ H2 x y v u Q I2 rx ry q (hs _ _))
def rIxL (K : PySem.W.Frag) : R2 := fun x y H Q => ∃ p xs i v, x = .ref p ∧ y = .int i ∧ SqL K H p xs ∧ atI xs i = some v ∧ Q v H
def rIxT (K : PySem.W.Frag) : R2 := fun x y H Q => ∃ p xs i v, x = .ref p ∧ y = .int i ∧ SqT K H p xs ∧ atI xs i = some v ∧ Q v H
def rIxS : R2 := fun x y H Q => ∃ z i c, x = .str z ∧ y = .int i ∧ z.length ≤ sizeLine ∧ atI z.cps.toList i = some c ∧ Q (.str ⟨#[c]⟩) H
theorem ix_list : IxR X (rIxL X.K) := by
  intro value slice pins s σ H x y v u Q I rx ry h hs
  obtain ⟨p, xs, i, z, rfl, rfl, hq, he, q⟩ := h
  cases rx
  obtain ⟨t, rfl⟩ := ry
  obtain ⟨its, r, pl, hz⟩ := I.list hq
  obtain ⟨j, h1, h2, h3, h4, h5⟩ := atI_get he
  obtain ⟨w, ew, rw'⟩ := r.get h2
  have hl := r.length
  have hn := line63
  have fin : EP X pins σ Q w s := ⟨z, H, I, rw', q⟩
  by_cases h0 : 0 ≤ i
  · have hj : i.toNat = j := by
      rw [seqIndex_of h0 h5] at h1
      exact Option.some.inj h1
    exact item_listR pl.isList h0 (by omega) (by rw [hj]; simpa using ew) fin hs
  · have hj : (i + (its.toArray.size : Int)).toNat = j := by
      rw [seqIndex_neg (by omega) h4] at h1
      rw [List.size_toArray, ← hl]
      exact Option.some.inj h1
    exact subscriptTail_builtinR (x := w) pl.isList.typeIs slot_list_getitem.lookup
      (wpAny_getItem_list_neg (Q := fun r s' => r = w ∧ EP X pins σ Q r s') pl.isList (by omega) (by rw [List.size_toArray] <;> omega) (by omega) (by rw [hj]; simpa using ew) ⟨rfl, fin⟩) hs
theorem ix_tup : IxR X (rIxT X.K) := by
  intro value slice pins s σ H x y v u Q I rx ry h hs
  obtain ⟨p, xs, i, z, rfl, rfl, hq, he, q⟩ := h
  cases rx
  obtain ⟨t, rfl⟩ := ry
  obtain ⟨its, r, pl, hz⟩ := I.tuple hq
  obtain ⟨j, h1, h2, h3, h4, h5⟩ := atI_get he
  obtain ⟨w, ew, rw'⟩ := r.get h2
  have hl := r.length
  have hn := line63
  have fin : EP X pins σ Q w s := ⟨z, H, I, rw', q⟩
  exact subscriptTail_builtinR (x := w) pl.typeIs slot_tuple_getitem.lookup
    (getItem_tuple (j := j) (Q := fun r s' => r = w ∧ EP X pins σ Q r s') pl (by omega) (by omega) (by rw [List.size_toArray, ← hl]; exact h1) (by simpa using ew) ⟨rfl, fin⟩) hs
theorem ix_str : IxR X rIxS := by
  intro value slice pins s σ H x y v u Q I rx ry h hs
  obtain ⟨z, i, c, rfl, rfl, hz, he, q⟩ := h
  obtain ⟨t, rfl⟩ := rx
  obtain ⟨t', rfl⟩ := ry
  obtain ⟨j, h1, h2, h3, h4, h5⟩ := atI_get he
  have hl : z.cps.toList.length = z.length := by simp [Str.length]
  rw [hl] at h1 h4 h5
  have hn := line63
  exact tail_any (typeIs_str s z t) slot_str_getitem.lookup (getItem_str (c := c) (by
    have e1 : decide (i < -(2 ^ 63 : Int)) = false := decide_eq_false (by omega)
    have e2 : decide (i ≥ 2 ^ 63) = false := decide_eq_false (by omega)
    rw [e1, e2, Bool.or_false]) (by rw [h1]; simpa using h2) ⟨.str ⟨#[c]⟩, H, I.tok _, ⟨_, rfl⟩, q⟩) hs
theorem Inv.lst {pins : List (Addr × Obj)} {σ : St} {H : Hp} {s : Shared} {p : Addr} {xs : List V} (I : Inv X pins σ H s) (h : H p = some (.lst xs)) :
    ∃ (its : List Value) (n : Nat), Vals xs its ∧ s.heap.get? p = some { cls := .type "list", data := .seq its.toArray n } ∧ xs.length ≤ sizeLine := by
  obtain ⟨z, its, n, r, e⟩ := I.hok p _ h
  exact ⟨its, n, r, e, z⟩
def rSetL : V → V → V → Hp → (Hp → Prop) → Prop := fun o i v H Q => ∃ p xs k j, o = .ref p ∧ i = .int k ∧ H p = some (.lst xs) ∧ ixN xs.length k = some j ∧ Q (upd H p (.lst (xs.set j v)))
theorem slice_bounds (lo hi : Option Int) (n : Nat) : (sliceBounds lo hi none n).1 = ((HT.sIx n 0 lo : Nat) : Int) ∧ (sliceBounds lo hi none n).2.1 = ((HT.sIx n n hi : Nat) : Int) ∧ (sliceBounds lo hi none n).2.2 = 1 := by
  refine ⟨?_, ?_, rfl⟩
  · cases lo with
    | none => simp [sliceBounds, HT.sIx]
    | some i =>
      simp only [sliceBounds, HT.sIx, Option.getD_none, show (1 : Int) > 0 by decide, if_true]
      by_cases h : i < 0
      · simp only [h, if_true] <;> omega
      · simp only [h, if_false] <;> omega
  · cases hi with
    | none => simp [sliceBounds, HT.sIx]
    | some i =>
      simp only [sliceBounds, HT.sIx, Option.getD_none, show (1 : Int) > 0 by decide, if_true]
      by_cases h : i < 0
      · simp only [h, if_true] <;> omega
      · simp only [h, if_false] <;> omega
theorem slicePick_cut (its : List Value) (lo hi : Option Int) : slicePick its.toArray lo hi none = ((its.drop (HT.sIx its.length 0 lo)).take (HT.sIx its.length its.length hi - HT.sIx its.length 0 lo)).toArray := by
  obtain ⟨h1, h2, h3⟩ := slice_bounds lo hi its.toArray.size
  unfold slicePick
  rw [h1, h2, h3]
  simp only [sliceRange_one, pick_run, List.size_toArray] <;> rfl
def rSlL (K : PySem.W.Frag) : V → Option Int → Option Int → Hp → VK → Prop := fun x lo hi H Q => ∃ a xs, x = .ref a ∧ SqL K H a xs ∧ ∀ p, H p = none → Q (.ref p) (upd H p (.lst (cutV xs lo hi)))
theorem sl_list : SlR X (rSlL X.K) := by
  intro pins s σ H x v vl vu lo hi sl Q I rx hs pl pu h
  obtain ⟨a, xs, rfl, hx, q⟩ := h
  cases rx
  obtain ⟨its, r, ht, hz⟩ := I.list hx
  have hlen := r.length
  refine ⟨"list", _, slot_list_getitem.lookup, ht.isList.typeIs, ?_⟩
  refine wpAny_getItem_list_slice ht.isList hs pl pu .none (by simp) ?_ (by rw [List.size_toArray] <;> omega)
  rw [slicePick_cut, ← hlen]
  refine ⟨.ref s.heap.objs.size, _, I.laid (t' := s.toks) (o := .lst (cutV xs lo hi)) (fun b ob q => Heap.get?_push_of_some _ q) (Nat.le_refl _) ?_, rfl, q _ (I.hok.fresh (Nat.le_refl _))⟩
  exact ⟨Nat.le_trans (cutV_length xs lo hi) hz, _, 0, (r.drop (HT.sIx xs.length 0 lo)).take (HT.sIx xs.length xs.length hi - HT.sIx xs.length 0 lo), Heap.get?_push_size _ rfl⟩
def flatV : V → Bool
  | .non => true
  | .bl _ => true
  | .int _ => true
  | .str _ => true
  | _ => false
def eqV : V → V → Bool
  | .non, .non => true
  | .bl a, .bl b => a == b
  | .bl a, .int b => (if a then 1 else 0) == b
  | .int a, .bl b => a == (if b then 1 else 0)
  | .int a, .int b => a == b
  | .str a, .str b => a == b
  | _, _ => false
theorem eqAt_V {A : Around} {s : Shared} {y x : V} {u v : Value} (ry : RelV y u) (rx : RelV x v) (fy : flatV y = true) (fx : flatV x = true) : SeqAt.EqAt A s u v (eqV y x) := by
  cases y with
  | non =>
    cases ry
    cases x with
    | non => cases rx; exact SeqAt.EqAt.same _
    | bl b => cases rx; exact SeqAt.EqAt.none_bool b
    | int b => obtain ⟨t, rfl⟩ := rx; exact SeqAt.EqAt.none_int b t
    | str b => obtain ⟨t, rfl⟩ := rx; exact SeqAt.EqAt.none_str b t
    | _ => exact absurd (show false = true from fx) Bool.false_ne_true
  | bl a =>
    cases ry
    cases x with
    | non => cases rx; exact SeqAt.EqAt.bool_none a
    | bl b => cases rx; exact SeqAt.EqAt.bool_bool a b
    | int b => obtain ⟨t, rfl⟩ := rx; exact SeqAt.EqAt.bool_int a b t
    | str b => obtain ⟨t, rfl⟩ := rx; exact SeqAt.EqAt.bool_str a b t
    | _ => exact absurd (show false = true from fx) Bool.false_ne_true
  | int a =>
    obtain ⟨t', rfl⟩ := ry
    cases x with
    | non => cases rx; exact SeqAt.EqAt.int_none a t'
    | bl b => cases rx; exact SeqAt.EqAt.int_bool a t' b
    | int b => obtain ⟨t, rfl⟩ := rx; exact SeqAt.EqAt.int_int a t' b t
    | str b => obtain ⟨t, rfl⟩ := rx; exact SeqAt.EqAt.int_str a t' b t
    | _ => exact absurd (show false = true from fx) Bool.false_ne_true
  | str a =>
    obtain ⟨t', rfl⟩ := ry
    cases x with
    | non => cases rx; exact SeqAt.EqAt.str_none a t'
    | bl b => cases rx; exact SeqAt.EqAt.str_bool a t' b
    | int b => obtain ⟨t, rfl⟩ := rx; exact SeqAt.EqAt.str_int a t' b t
    | str b => obtain ⟨t, rfl⟩ := rx; exact SeqAt.EqAt.str_str a t' b t
    | _ => exact absurd (show false = true from fx) Bool.false_ne_true
  | _ => exact absurd (show false = true from fy) Bool.false_ne_true
def eqU (x : V) (u : Value) : Bool := match u with
  | .none => eqV .non x
  | .bool b => eqV (.bl b) x
  | .int i _ => eqV (.int i) x
  | .str z _ => eqV (.str z) x
  | _ => false
theorem eqU_of {x y : V} {u : Value} (r : RelV y u) (f : flatV y = true) : eqU x u = eqV y x := by
  cases y with
  | non => cases r; rfl
  | bl b => cases r; rfl
  | int i => obtain ⟨t, rfl⟩ := r; rfl
  | str z => obtain ⟨t, rfl⟩ := r; rfl
  | _ => exact absurd (show false = true from f) Bool.false_ne_true
theorem any_eqU {x : V} : ∀ {xs : List V} {us : List Value}, Vals xs us → xs.all flatV = true → us.any (eqU x) = xs.any fun y => eqV y x
  | _, _, .nil, _ => rfl
  | y :: xs, u :: us, .cons r t, f => by
    rw [List.all_cons, Bool.and_eq_true] at f
    rw [List.any_cons, List.any_cons, eqU_of r f.1, any_eqU t f.2]
theorem mem_eqAt {A : Around} {s : Shared} {x : V} {v : Value} (rx : RelV x v) (fx : flatV x = true) : ∀ {xs : List V} {us : List Value}, Vals xs us → xs.all flatV = true → ∀ u ∈ us, SeqAt.EqAt A s u v (eqU x u)
  | _, _, .nil, _ => fun u hu => by cases hu
  | y :: xs, u :: us, .cons r t, f => fun u' hu => by
    rw [List.all_cons, Bool.and_eq_true] at f
    rcases List.mem_cons.mp hu with rfl | hu
    · rw [eqU_of r f.1]; exact eqAt_V r rx f.1 fx
    · exact mem_eqAt rx fx t f.2 u' hu
def inV (x : V) (xs : List V) : Bool := xs.any fun y => eqV y x
def rIn (K : PySem.W.Frag) (neg : Bool) : R2 := fun x y H Q => ∃ p xs, y = .ref p ∧ (SqL K H p xs ∨ SqT K H p xs) ∧ flatV x = true ∧ xs.all flatV = true ∧ Q (.bl (if neg then !inV x xs else inV x xs)) H
theorem op_in_seq : OpR X (compareOp .In) (rIn X.K false) := by
  intro pins s σ H x y v u Q I rx ry h
  obtain ⟨p, xs, rfl, hq, fx, fs, q⟩ := h
  cases ry
  rcases hq with hq | hq
  · obtain ⟨its, r, pl, hz⟩ := I.list hq
    refine SeqAt.in_listAt (eqU x) pl.isList (fun w hw => mem_eqAt rx fx r fs w (by simpa using hw)) ⟨.bl _, H, I, rfl, ?_⟩
    rw [show its.toArray.any (eqU x) = its.any (eqU x) by simp, any_eqU r fs]
    exact q
  · obtain ⟨its, r, pl, hz⟩ := I.tuple hq
    refine SeqAt.in_tupleAt (eqU x) pl (fun w hw => mem_eqAt rx fx r fs w (by simpa using hw)) ⟨.bl _, H, I, rfl, ?_⟩
    rw [show its.toArray.any (eqU x) = its.any (eqU x) by simp, any_eqU r fs]
    exact q
theorem op_notIn_seq : OpR X (compareOp .NotIn) (rIn X.K true) := by
  intro pins s σ H x y v u Q I rx ry h
  obtain ⟨p, xs, rfl, hq, fx, fs, q⟩ := h
  cases ry
  rcases hq with hq | hq
  · obtain ⟨its, r, pl, hz⟩ := I.list hq
    refine SeqAt.notIn_listAt (eqU x) pl.isList (fun w hw => mem_eqAt rx fx r fs w (by simpa using hw)) ⟨.bl _, H, I, rfl, ?_⟩
    rw [show its.toArray.any (eqU x) = its.any (eqU x) by simp, any_eqU r fs]
    exact q
  · obtain ⟨its, r, pl, hz⟩ := I.tuple hq
    refine SeqAt.notIn_tupleAt (eqU x) pl (fun w hw => mem_eqAt rx fx r fs w (by simpa using hw)) ⟨.bl _, H, I, rfl, ?_⟩
    rw [show its.toArray.any (eqU x) = its.any (eqU x) by simp, any_eqU r fs]
    exact q
theorem call_len_seq : CallR X (.builtin "len") (fun xs H Q => ∃ p ys, xs = [.ref p] ∧ (SqL X.K H p ys ∨ SqT X.K H p ys) ∧ Q (.int ys.length) H) := by
  intro pins s σ H xs us Q I r h
  obtain ⟨p, ys, rfl, hq, q⟩ := h
  obtain ⟨u, rfl, rx⟩ := vals1 r
  cases rx
  have hn := line63
  rcases hq with hq | hq
  · obtain ⟨its, r', pl, hz⟩ := I.list hq
    have hlen := r'.length
    exact Calls.call_len_list pl.isList (by simp only [List.size_toArray] <;> omega) ⟨.int ys.length, H, I.tok _, ⟨s.toks + 1, by rw [List.size_toArray, hlen]⟩, q⟩
  · obtain ⟨its, r', pl, hz⟩ := I.tuple hq
    have hlen := r'.length
    exact len_tuple pl (by simp only [List.size_toArray] <;> omega) ⟨.int ys.length, H, I.tok _, ⟨s.toks + 1, by rw [List.size_toArray, hlen]⟩, q⟩
theorem call_len_str : CallR X (.builtin "len") (fun xs H Q => ∃ z, xs = [.str z] ∧ z.length ≤ sizeLine ∧ Q (.int z.length) H) := by
  intro pins s σ H xs us Q I r h
  obtain ⟨z, rfl, hz, q⟩ := h
  obtain ⟨u, rfl, t, rfl⟩ := vals1 r
  have hn := line63
  exact len_str (by omega) ⟨.int z.length, H, I.tok _, ⟨_, rfl⟩, q⟩
theorem CallR.or {f : Value} {r r' : List V → Hp → VK → Prop} (h : CallR X f r) (h' : CallR X f r') : CallR X f (fun xs H Q => r xs H Q ∨ r' xs H Q) := by
  intro pins s σ H xs us Q I rs q
  rcases q with q | q
  · exact h pins s σ H xs us Q I rs q
  · exact h' pins s σ H xs us Q I rs q
theorem call_tuple_of : CallR X (.type "tuple") (fun xs H Q => ∃ p ys, xs = [.ref p] ∧ ((SqL X.K H p ys ∧ ∀ l, H l = none → Q (.ref l) (upd H l (.tup ys))) ∨ (SqT X.K H p ys ∧ Q (.ref p) H))) := by
  intro pins s σ H xs us Q I r h
  obtain ⟨p, ys, rfl, h⟩ := h
  obtain ⟨u, rfl, rx⟩ := vals1 r
  cases rx
  rcases h with ⟨hq, q⟩ | ⟨hq, q⟩
  · obtain ⟨its, r', pl, hz⟩ := I.list hq
    have hlen := r'.length
    refine call_tuple_list pl.isList (fun h' kp => ?_) (by simp only [List.size_toArray] <;> omega)
    have I1 : Inv X pins σ H { s with heap := h' } := I.kept (t' := s.toks) kp
    have I2 : Inv X pins σ (upd H h'.objs.size (.tup ys)) { s with heap := h'.push { cls := .type "tuple", data := .seq its.toArray } } :=
      I1.laid (t' := s.toks) (fun b o e => Heap.get?_push_of_some _ e) (Nat.le_refl _) (show ObjOk X.prog X.w _ _ _ (.tup ys) from ⟨hz, its, r', IsTup.new _ _⟩)
    exact ⟨.ref h'.objs.size, _, I2, rfl, q _ (I1.hok.fresh (Nat.le_refl _))⟩
  · obtain ⟨its, r', pl, hz⟩ := I.tuple hq
    exact call_tuple_same pl ⟨.ref p, H, I, rfl, q⟩
def tyV (K : PySem.W.Frag) (T : String) (x : V) (H : Hp) : Prop := match x with
  | .str _ => T = "str"
  | .int _ => T = "int"
  | .ref p => (T = "list" ∧ ∃ xs, SqL K H p xs) ∨ (T = "tuple" ∧ ∃ o, K.lookup p = some o ∧ o.cls = .type "tuple" ∧ o.dict = none) ∨
      (T = "dict" ∧ ((∃ kvs, H p = some (.dK kvs)) ∨ ∃ kvs, H p = some (.dT kvs))) ∨ (T = "set" ∧ ∃ S n, H p = some (.set S n))
  | _ => False
theorem tyV_is {pins : List (Addr × Obj)} {σ : St} {H : Hp} {s : Shared} {T : String} {x : V} {v : Value} (I : Inv X pins σ H s) (r : RelV x v) (ty : tyV X.K T x H) :
    s.TypeIs v T ∧ ∀ a, v = .ref a → ∃ ob, s.heap.get? a = some ob ∧ ob.dict = none := by
  cases x with
  | str z =>
    obtain ⟨t, rfl⟩ := r
    cases (show T = "str" from ty)
    exact ⟨typeIs_str s z t, fun _ e => nomatch e⟩
  | int i =>
    obtain ⟨t, rfl⟩ := r
    cases (show T = "int" from ty)
    exact ⟨typeIs_int s i t, fun _ e => nomatch e⟩
  | ref p =>
    cases r
    rcases ty with ⟨rfl, xs, hq⟩ | ⟨rfl, o, hk, hc, hd⟩ | ⟨rfl, hk⟩ | ⟨rfl, S, n, hk⟩
    · obtain ⟨its, _, pl, _⟩ := I.list hq
      refine ⟨pl.isList.typeIs, fun a e => ?_⟩
      cases e
      obtain ⟨o, n, e, c, hd, _⟩ := pl
      exact ⟨o, e, hd⟩
    · refine ⟨⟨o, I.kIn p o hk, hc⟩, fun a e => ?_⟩
      cases e
      exact ⟨o, I.kIn _ o hk, hd⟩
    · have z : ∃ o, s.heap.get? p = some o ∧ o.ExactDict := by
        rcases hk with ⟨kvs, hk⟩ | ⟨kvs, hk⟩
        · obtain ⟨_, _, _, _, o, _, _, e, ex, _⟩ := I.hok p _ hk
          exact ⟨o, e, ex⟩
        · obtain ⟨_, _, _, _, o, _, _, e, ex, _⟩ := I.hok p _ hk
          exact ⟨o, e, ex⟩
      obtain ⟨o, e, ex⟩ := z
      refine ⟨⟨o, e, ex.1⟩, fun a e2 => ?_⟩
      cases e2
      exact ⟨o, e, ex.2.1⟩
    · obtain ⟨o, _, _, _, e, ex, _⟩ := I.hok p _ hk
      refine ⟨⟨o, e, ex.1⟩, fun a e2 => ?_⟩
      cases e2
      exact ⟨o, e, ex.2.1⟩
  | _ => exact False.elim ty
def tBM0 (K : PySem.W.Frag) (T : String) (r : V → List V → Hp → VK → Prop) (to : TE) : TE := fun σ H Q => to σ H fun x H1 => tyV K T x H1 ∧ r x [] H1 Q
def tBM (K : PySem.W.Frag) (T : String) (r : V → List V → Hp → VK → Prop) (to : TE) (t : TA) : TE := fun σ H Q => to σ H fun x H1 => tyV K T x H1 ∧ t σ H1 fun xs H2 => r x xs H2 Q
variable {o e : Expr} {es : List Expr} {to : TE} {t : TA} {name : Str} {apos cpos : Pos} {T id : String} {r : V → List V → Hp → VK → Prop}
theorem pe_bm (pa : PlainAttrs T) (slot : Slot T name id) (hty : typeOf (.builtin id) = pure (.type "method_descriptor")) (hm : MtR X id r) (ho : PE X o to) (ha : PA X (e :: es) t)
    (hbase : attributeBase o name X.env (eval o X.env) = eval o X.env := by rfl)
    (hfew : ((backTo cpos (starEach (e :: es) X.env)).all (fun x => !x.1) && (backToKw cpos (keywordEach [] X.env)).all (fun x => x.1.isSome)
      && decide ((e :: es).length + ([] : List Keyword).length + (if ([] : List Keyword).isEmpty then 0 else 1) < 30)) = true := by rfl)
    (hline : (apos.endLine == cpos.line) = true := by rfl) (hs : starEach (e :: es) X.env = (false, eval e X.env) :: starEach es X.env := by rfl) (hplain : (backTo cpos (starEach es X.env)).any (·.1) = false := by rfl) :
    PE X (.Call (.Attribute o name apos) (e :: es) [] cpos) (tBM X.K T r to t) := by
  intro pins s σ H Q I h
  refine wpAny_Call_method_late hbase hfew hline rfl (thn (ho pins s σ H _ I h) fun v s1 ⟨x, H1, I1, r1, ty, q1⟩ => ?_)
  obtain ⟨h1, h2⟩ := tyV_is I1 r1 ty
  refine ⟨T, id, pa, slot, hty, h1, h2, ?_⟩
  have hA := ha cpos pins s1 σ H1 _ I1 q1
  rw [hs] at hA ⊢
  refine Calls.callWith_builtin (by show (false || (backTo cpos (starEach es X.env)).any (·.1)) = false; rw [hplain] <;> rfl) (Calls.evalArgs_plain ?_)
  exact thn hA fun us s2 ⟨vs, H2, I2, r2, q2⟩ => hm pins s2 σ H2 x vs v us Q I2 r1 r2 q2
/- xs.append(e), list.index on a module's tuple .. are MtR facts of 06m -/
end
end L2
namespace L2
open PySem PySem.Spec PyProof.Rows
def MtM (X : Cx) (id : String) (r : V → List V → Hp → VK → Prop) : Prop :=
  ∀ (pins : List (Addr × Obj)) (s : Shared) (σ : St) (H : Hp) (x : V) (xs : List V) (v : Value) (us : List Value) (Q : VK), Inv X pins σ H s → RelV x v → Vals xs us → r x xs H Q →
    wpAny (model X.prog X.w) X.A (call (.builtin id) (v :: us)) (EP X pins σ Q) X.xe s
theorem Vals.one : ∀ {x : V} {us : List Value}, Vals [x] us → ∃ u, us = [u] ∧ RelV x u
  | _, _, .cons r .nil => ⟨_, rfl, r⟩
theorem Vals.zero : ∀ {us : List Value}, Vals [] us → us = []
  | _, .nil => rfl
theorem Vals.reverse {xs : List V} {us : List Value} (h : Vals xs us) : Vals xs.reverse us.reverse := by
  induction h with
  | nil => exact .nil
  | cons r t ih => rw [List.reverse_cons, List.reverse_cons]; exact Vals.append ih (.cons r .nil)
section
variable {X : Cx} {pins : List (Addr × Obj)} {σ : St} {H : Hp} {s : Shared} {l b : Addr} {xs ys zs : List V}
theorem Inv.lset {its its' : List Value} {n : Nat} {f : Array Value → Array Value} {t' : Nat} (I : Inv X pins σ H s) (hH : H l = some (.lst xs))
    (e : s.heap.get? l = some { cls := .type "list", data := .seq its.toArray n }) (hf : f its.toArray = its'.toArray) (hv : Vals ys its') (hz : ys.length ≤ sizeLine) :
    Inv X pins σ (upd H l (.lst ys)) { s with heap := s.heap.update l (Obj.mapSeq f), toks := t' } := by
  have q := PySem.IsL.update e f
  rw [hf] at q
  refine I.write (x := l) (e := l) (by rw [hH]; exact trivial) (.inl rfl) (fun b' u hb hu => (Heap.get?_update_other s.heap (Obj.mapSeq f) (Ne.symm hb)).trans hu) ⟨_, q⟩ ?_
  exact ⟨hz, its', _, hv, q⟩
theorem Inv.lnew {its : List Value} {t' : Nat} (I : Inv X pins σ H s) (hv : Vals ys its) (hz : ys.length ≤ sizeLine) :
    Inv X pins σ (upd H s.heap.objs.size (.lst ys)) { s with heap := s.heap.push { cls := .type "list", data := .seq its.toArray }, toks := t' } :=
  I.laid (fun _ _ q => Heap.get?_push_of_some _ q) (Nat.le_refl _) ⟨hz, its, 0, hv, Heap.get?_push_size _ rfl⟩
theorem Inv.fresh (I : Inv X pins σ H s) : H s.heap.objs.size = none := I.hok.fresh (Nat.le_refl _)
theorem Inv.lstM (I : Inv X pins σ H s) (hH : H l = some (.lst xs)) : xs.length ≤ sizeLine ∧ ∃ (its : List Value) (n : Nat), Vals xs its ∧ xs.length = its.length ∧ s.heap.get? l = some { cls := .type "list", data := .seq its.toArray n } := by
  obtain ⟨z, its, n, r, e⟩ := I.hok l _ hH
  exact ⟨z, its, n, r, r.length, e⟩
end
section
variable {X : Cx}
def rAppend : V → List V → Hp → VK → Prop := fun x vs H Q => ∃ l xs y, x = .ref l ∧ vs = [y] ∧ H l = some (.lst xs) ∧ xs.length < sizeLine ∧ Q .non (upd H l (.lst (xs ++ [y])))
theorem mt_append : MtM X "list.append" rAppend := by
  intro pins s σ H x vs v us Q I rx rv h
  obtain ⟨l, xs, y, rfl, rfl, hH, hz, q⟩ := h
  cases rx
  obtain ⟨u, rfl, ru⟩ := rv.one
  obtain ⟨z, its, n, r, hl, e⟩ := I.lstM hH
  refine call_meets F.slot_list_append ⟨_, e, rfl⟩ F.entry_list_append (F.args_list_append_2 _ _) (PySem.list_append l its.toArray n u (by rw [List.size_toArray]; omega)) ⟨e, ?_⟩
  refine ⟨.non, _, I.lset (its' := its ++ [u]) hH e (by simp) (r.append (.cons ru .nil)) ?_, rfl, q⟩
  rw [List.length_append, List.length_singleton]
  omega
def rReverse : V → List V → Hp → VK → Prop := fun x vs H Q => ∃ l xs, x = .ref l ∧ vs = [] ∧ H l = some (.lst xs) ∧ Q .non (upd H l (.lst xs.reverse))
def rClear : V → List V → Hp → VK → Prop := fun x vs H Q => ∃ l xs, x = .ref l ∧ vs = [] ∧ H l = some (.lst xs) ∧ Q .non (upd H l (.lst []))
def rCat : R2 := fun x y H Q => ∃ l b xs zs, x = .ref l ∧ y = .ref b ∧ H l = some (.lst xs) ∧ H b = some (.lst zs) ∧ xs.length + zs.length ≤ sizeLine ∧ ∀ p, H p = none → Q (.ref p) (upd H p (.lst (xs ++ zs)))
theorem op_cat : OpR X (binaryOp .Add) rCat := by
  intro pins s σ H x y v u Q I rx ry h
  obtain ⟨l, b, xs, zs, rfl, rfl, hH, hB, hz, q⟩ := h
  cases rx
  cases ry
  obtain ⟨z, its, n, r, hl, e⟩ := I.lstM hH
  obtain ⟨z2, its2, n2, r2, hl2, e2⟩ := I.lstM hB
  refine PySem.P.add_list e e2 ?_ (by rw [List.size_toArray, List.size_toArray]; omega)
  have ea : its.toArray ++ its2.toArray = (its ++ its2).toArray := by simp
  rw [ea]
  exact ⟨.ref _, _, I.lnew (t' := s.toks) (r.append r2) (by rw [List.length_append]; omega), rfl, q _ I.fresh⟩
def rRep : R2 := fun x y H Q => ∃ l k xs, x = .ref l ∧ y = .int k ∧ H l = some (.lst xs) ∧ -(2 ^ 63) ≤ k ∧ k < 2 ^ 63 ∧ xs.length * k.toNat ≤ sizeLine ∧
  ∀ p, H p = none → Q (.ref p) (upd H p (.lst (List.replicate k.toNat xs).flatten))
end
section
variable {prog : Program} {w : World} {A : Around} {E : Value → Shared → Prop} {s : Shared}
end
section
variable {X : Cx}
end
end L2
namespace Att
open PySem PySem.W PySem.Calls PyProof.Rows
theorem ints_of_wellAll {P : Params} {h : Heap} : ∀ (ns : List Int) (vs : List Value), WellAll P h vs (ns.map WData.int) → IntsAre vs ns := by
  intro ns
  induction ns with
  | nil =>
    intro vs w
    rw [List.map_nil] at w
    cases w
    exact .nil
  | cons n ns ih =>
    intro vs w
    rw [List.map_cons] at w
    cases w with
    | cons a b =>
      cases a
      exact .cons _ _ (ih _ b)
theorem script_of {l : OpenLaw} {n : Nat} (hn : l.most = some n) {P : Params} {h : Heap} {args : List WData} {vals : List Value}
    (hpre : l.row.toRowW.claim.pre args = true) (hwl : WellAll P h vals args) :
    ∃ a vs ns, vals = [Value.ref a] ∧ args = [WData.list (ns.map WData.int)] ∧ h.get? a = some { cls := .type "list", data := .seq vs.toArray } ∧ IntsAre vs ns ∧ ns.length ≤ n := by
  have hsh : WShape.hasAll [] args [.list .int] = true := (pre_splitW hpre).1
  have hc : l.pre.holds [] { args := args } = true := (pre_splitW hpre).2
  obtain ⟨d, r, rfl, h1, h2⟩ := hasAllW_cons hsh
  obtain rfl := hasAllW_nil h2
  obtain ⟨xs, rfl, h3⟩ := hasW_list h1
  obtain ⟨ns, rfl⟩ := items_int h3
  have hlen : ns.length ≤ n := by
    unfold OpenLaw.pre at hc
    have h4 : (WTm.not (.lt (.lit (.int (n : Int))) (.len (.arg 0)))).holds [] { args := [.list (ns.map .int)] } = true := by
      have h4 := (holds_andW hc).1
      rw [hn] at h4
      exact h4
    have h5 := condW_of h4 (w_not (w_lt w_lit (w_len_list (w_arg rfl))))
    rw [List.length_map] at h5
    refine Nat.le_of_not_lt fun q => ?_
    have q' : (n : Int) < ((ns.length : Nat) : Int) := by omega
    first
      | (rw [decide_eq_true q'] at h5; exact absurd h5 (by decide))
      | (simp at h5; omega)
  cases hwl with
  | cons w1 w2 =>
    cases w2
    cases w1 with
    | list ho hall => exact ⟨_, _, ns, rfl, rfl, ho, ints_of_wellAll ns _ hall, hlen⟩
theorem post_true (l : OpenLaw) (args : List WData) : l.row.toRowW.claim.post args (.bool true) args = true :=
  postW_of (r := l.row.toRowW) (X := (true == true))
    (show WShape.has [] (.bool true) .bool = true by first | rfl | decide | simp [WShape.has, WShape.arms, WShape.armsAll])
    (show (WTm.eq .res (.lit (.bool true))).value [] { args := args, res := some (.bool true), after := args } = some (.bool (true == true)) from w_eq_bool (w_res rfl) w_lit) rfl
theorem attach_call {l : OpenLaw} {n : Nat} {q : Program} {loose : List Str} {XP : (Str → Option Value) → Heap → Prop} {YP : World → Heap → Prop} {d : DefRec}
    (hn : l.most = some n) (hdf : d.params.defaults = [])
    (call : ∀ (w : World) (s₀ s₁ : Shared) (mg mb : Str → Option Value) (fa : Addr) (o : Obj) (pm cd doc : Value) (a : Addr) (vs : List Value) (ns : List Int),
      Ground q loose [] XP w s₀ mg mb s₁.heap → YP w s₁.heap →
      s₁.heap.get? fa = some o → o.data = .func (docDef d.name d.params d.body d.scope pm cd doc) → s₁.heap.CodeRec cd d.name → mg d.name = some (.ref fa) →
      s₁.heap.get? a = some { cls := .type "list", data := .seq vs.toArray } → IntsAre vs ns → ns.length ≤ n → s₁.gens = #[] →
      codeAny (model l.prog w) callerA (.call (.ref fa) ⟨[.ref a], []⟩) (fun r s' => r = .ok (.ret (.bool true)) ∧ OldK s₁.heap s'.heap ∧ s'.os = s₁.os ∧ AllBare s'.gens) s₁) :
    WalkO q loose XP YP l.row.toRowW d [] (fun f vs => PySem.call f vs) := by
  intro w s₀ s₁ mg mb G Y fa o pm cd doc dV kV ho hd hcd hD hmg hg args vals as hpre hlay hrd hwl hlo
  obtain rfl : dV = .none := Dflts.none hD hdf
  obtain rfl : kV = .none := Dflts.noKw hD
  obtain ⟨a, vs, ns, rfl, rfl, hobj, hints, hlen⟩ := script_of hn hpre hwl
  refine enter_call (codeAny_mono (call w s₀ s₁ mg mb fa o pm cd doc a vs ns G Y ho (fd_plain hd) hcd hmg hobj hints hlen hg) fun r s' hq => ?_)
  obtain ⟨rfl, h2, h3, h4⟩ := hq
  exact ⟨.inl ⟨.bool true, .bool true, [], rfl, fun _ => rfl, .bool true, post_true l _, fun _ => ⟨List.Pairwise.nil, fun _ hm => (nomatch hm)⟩⟩, h2, h3, h4⟩
section
variable {prog : Program} {w : World} {A : Around} {E : Value → Shared → Prop} {s : Shared} {K : Frag}
end
end Att
namespace L2
open PySem PySem.Spec PyProof.Rows
theorem vals_ints : ∀ {vs : List Value} {ns : List Int}, IntsAre vs ns → Vals (ns.map V.int) vs
  | _, _, .nil => .nil
  | _, _, .cons n t h => .cons ⟨t, rfl⟩ (vals_ints h)
def Only (H : Hp) : Prop := ∀ b, H b = none ∨ ∃ o xs, H b = some (.frz o (.lst xs))
theorem law_call {P : Program} {w : World} {K : PySem.W.Frag} {mg mb : Str → Option Value} {CX : CXT} {k : Nat} {fa a : Addr} {fd : FuncData} {x : Str} {sp : Sp} {s₁ : Shared} {vs : List Value} {ns : List Int}
    (KX : K.In s₁.heap) (hns : s₁.heap.Ns mainGlobals mg) (hb : s₁.heap.Ns builtinsNs mb) (hbb : ∀ x : Str, x ≠ "__name__" → mb x = bootBuiltins x) (hlim : s₁.heap.NoLimit) (hg : s₁.gens = #[])
    (ha : s₁.heap.get? a = some { cls := .type "list", data := .seq vs.toArray }) (hi : IntsAre vs ns) (hl : ns.length ≤ sizeLine) (hr : Room k callerA)
    (F : ∀ base : Heap, K.In base → base.Ns mainGlobals mg → FnOk P w K mg base CX k fa fd [x] sp) (hbind : ∀ (s : Shared) (u : Value), BindsTo s fd ⟨[u], []⟩ [(x, u)])
    (hsp : ∀ H : Hp, Only H → SqL K H a (ns.map V.int) → sp [.ref a] H (fun v _ => v = .bl true) fun _ _ _ => False)
    (hCX : ∀ H e s', CX [] H s₁ (fun _ _ _ => False) e s' → False) :
    codeAny (model P w) callerA (.call (.ref fa) ⟨[.ref a], []⟩) (fun r s' => r = .ok (.ret (.bool true)) ∧ OldK s₁.heap s'.heap ∧ s'.os = s₁.os ∧ AllBare s'.gens) s₁ := by
  have rv := vals_ints hi
  have lenV := hi.length
  -- from an abstract heap in which nothing but the script may be tracked
  have core : ∀ H : Hp, Only H → SqL K H a (ns.map V.int) → HOk P w H s₁.heap → (∀ b, H b ≠ none → b = a) → (H a ≠ none → K.lookup a = none) →
      codeAny (model P w) callerA (.call (.ref fa) ⟨[.ref a], []⟩) (fun r s' => r = .ok (.ret (.bool true)) ∧ OldK s₁.heap s'.heap ∧ s'.os = s₁.os ∧ AllBare s'.gens) s₁ := by
    intro H hO hS hok hA hK
    have base_of : ∀ {b : Addr} {o : Obj}, s₁.heap.get? b = some o → H b = none → (hidT s₁.heap H).get? b = some o := fun e n => hidT_get e n
    have noA : ∀ {b : Addr} {o : Obj} {es : Array DictEntry} {ep : Nat}, s₁.heap.get? b = some o → o.data = .dict es ep → H b = none := fun {b o es ep} e d => by
      cases q : H b with
      | none => rfl
      | some u =>
        have e' : b = a := hA b (by rw [q]; simp)
        subst e'
        rw [ha] at e; cases e
        have d' : Data.seq vs.toArray _ = Data.dict es ep := d
        cases d'
    have nsK : ∀ {b : Addr} {m : Str → Option Value}, s₁.heap.Ns b m → (hidT s₁.heap H).Ns b m := fun {b m} ⟨o, es, ep, e, d, r⟩ => ⟨o, es, ep, base_of e (noA e d), d, r⟩
    have hKb : K.In (hidT s₁.heap H) := fun b o e => base_of (KX b o e) (by
      cases q : H b with
      | none => rfl
      | some u =>
        have e' : b = a := hA b (by rw [q]; simp)
        subst e'
        rw [hK (by rw [q]; simp)] at e; cases e)
    have hM : Mod K mg (hidT s₁.heap H) := ⟨hKb, nsK hns, ⟨mb, nsK hb, hbb⟩, let ⟨mc, h1, h2⟩ := hlim; ⟨mc, nsK h1, h2⟩⟩
    have e0 : Env0 P w K mg (hidT s₁.heap H) callerA [] s₁ H := ⟨rfl, hM, fun b o e => of_hidT e, Nat.le_of_eq (hidT_size _ _), trivial, fun b hb => absurd (show b ∈ ([] : List Addr) from hb) (by simp), hok, .of_eq hg⟩
    refine codeAny_mono ((F _ hKb (nsK hns)).run callerA [] s₁ H ⟨[.ref a], []⟩ [.ref a] [.ref a] _ _ hr e0 (hbind s₁ (.ref a)) (.cons rfl .nil) (hsp H hO hS)) fun r s' h => ?_
    cases r with
    | error e => exact (hCX H e s' h).elim
    | ok fl =>
      cases fl with
      | next => exact False.elim h
      | brk => exact False.elim h
      | cont => exact False.elim h
      | ret u =>
        obtain ⟨v, H', os, bare, un, hok', r', q⟩ := h
        have q' : v = .bl true := q
        subst q'
        obtain rfl : u = Value.bool true := r'
        refine ⟨rfl, OldK.of_keep fun b o e => ?_, os, bare⟩
        cases q : H b with
        | none => exact un.keep b o e q (by intro z; exact absurd (show b ∈ ([] : List Addr) from z) (by simp)) (by simp)
        | some u =>
          rcases hO b with z | ⟨ob, xs, z⟩
          · rw [q] at z; cases z
          · have z2 := un.frzs b ob _ z
            obtain ⟨e1, _⟩ := hok b _ z
            obtain ⟨e2, _⟩ := hok' b _ z2
            rw [e] at e1; cases e1
            exact e2
  cases hk : K.lookup a with
  | some o =>
    -- the script is one of the module's own objects
    have e := KX a o hk
    rw [ha] at e
    cases e
    refine core (fun _ => none) (fun _ => .inl rfl) (.inr ⟨_, vs.toArray, _, hk, rfl, rfl, rfl, by rw [List.size_toArray, lenV]; exact hl, by simpa using rv⟩) (fun b u z => by have z' : (none : Option HO) = some u := z; cases z') (fun b z => absurd rfl z) fun z => absurd rfl z
  | none =>
    refine core (fun b => if b = a then some (.frz { cls := .type "list", data := .seq vs.toArray } (.lst (ns.map V.int))) else none) (fun b => ?_) (.inl (.inr ⟨{ cls := .type "list", data := .seq vs.toArray }, if_pos rfl⟩)) (fun b u z => ?_) (fun b z => ?_) fun _ => hk
    · by_cases hb : b = a
      · exact .inr ⟨_, _, if_pos hb⟩
      · exact .inl (if_neg hb)
    · by_cases hb : b = a
      · have z' := (if_pos hb).symm.trans z
        cases z'
        subst hb
        exact ⟨ha, by rw [List.length_map]; exact hl, vs, _, rv, ha⟩
      · have z' := (if_neg hb).symm.trans z
        cases z'
    · by_cases hb : b = a
      · exact hb
      · exact absurd (if_neg hb) z
end L2
namespace L2
open PySem PySem.Spec PyProof.Rows
abbrev KOf {K : PySem.W.Frag} {h : Heap} (_ : K.In h) : PySem.W.Frag := K
theorem walk_of {l : PySem.W.OpenLaw} {n k : Nat} {q : Program} {loose : List Str} {XP : (Str → Option Value) → Heap → Prop} {YP : World → Heap → Prop} {d : DefRec} {K : Params → PySem.W.Frag} {CX : World → CXT} {sp : World → Sp} {x : Str}
    (hn : l.most = some n) (hn2 : n ≤ sizeLine) (hdf : d.params.defaults = []) (hr : Room k callerA)
    (hY : ∀ (w : World) (h : Heap), YP w h → (K w.params).In h)
    (F : ∀ (w : World) (mg : Str → Option Value) (fa : Addr) (h : Heap), (K w.params).In h → h.Ns mainGlobals mg → mg d.name = some (.ref fa) →
      ∃ fd : FuncData, (∀ (s : Shared) (u : Value), BindsTo s fd ⟨[u], []⟩ [(x, u)]) ∧
        ∀ base : Heap, (K w.params).In base → base.Ns mainGlobals mg → FnOk l.prog w (K w.params) mg base (CX w) k fa fd [x] (sp w))
    (hsp : ∀ (w : World) (H : Hp) (a : Addr) (ns : List Int), ns.length ≤ n → Only H → SqL (K w.params) H a (ns.map V.int) → sp w [.ref a] H (fun v _ => v = .bl true) fun _ _ _ => False)
    (hCX : ∀ (w : World) (H : Hp) (s : Shared) (e : Value) (s' : Shared), CX w [] H s (fun _ _ _ => False) e s' → False) :
    PySem.W.WalkO q loose XP YP l.row.toRowW d [] (fun f vs => PySem.call f vs) := by
  refine Att.attach_call hn hdf fun w s₀ s₁ mg mb fa o pm cd doc a vs ns G Y ho hd hcd hmg hobj hints hlen hg => ?_
  have KX := hY w _ Y
  obtain ⟨fd, hb, hF⟩ := F w mg fa _ KX G.T.g hmg
  exact law_call KX G.T.g G.T.b G.T.builtins G.T.nolimit hg hobj hints (Nat.le_trans hlen hn2) hr hF hb (fun H hO hS => hsp w H a ns hlen hO hS) fun H e s' => hCX w H s₁ e s'
end L2
/- THE LAST THEOREM (shape; LID, My.* are yours):
   My.Adr: a structure of the addresses that your layer names (classes, functions); My.Txt K t: a structure (Prop) of the equations over K;
   My.txt_mk : {K} {implicit addresses ..} (e1 : nsIn K mainGlobals "law" = some (some (.ref f))) (e2 : K.lookup f = some ⟨oc, od, .func (fnOf "law" "law" params body scope dV kV doc pm an cdv ct), sl⟩) (e3 : codeIn K cdv "law" = true) .. : ∃ t, My.Txt K t
set_option maxRecDepth 100000 in
set_option maxHeartbeats 0 in
theorem PySem.Challenge.cw_LID_holds : PySem.Challenge.rw_LID.Holds := by
  w_on; o_law; k_head; (case hw => w_witness2)
  k_fill
  refine L2.walk_of (l := PySem.Challenge.rw_LID) (n := 63) (k := 40) (x := "script") (CX := fun w => ..) (sp := fun _ => My.sp_law) rfl (by decide) rfl ⟨rfl, by decide, by decide⟩ (fun w h Y => PySem.W.kIn_of Y) ?F ?S ?C
  case F =>
    intro w mg fa h KX G hmg
    have T : ∃ t, My.Txt (L2.KOf KX) t := by
      dsimp only [L2.KOf]                          -- K must stand as «<heap const> w.params» for k_is
      refine' My.txt_mk ?e1 ?e2 ?e3 ..
      (case e1 => PySem.W.k_is)                    -- in the order: a name -> its address -> its object -> its parts
      (case e2 => PySem.W.k_is)
      ..
    obtain ⟨t, T⟩ := T
    have e0 := hmg.symm.trans (PySem.W.mg_of KX G T.law)
    cases e0                                       -- fa is the law's own address
    exact ⟨_, fun s u => .of_eq rfl, fun base kb nb => My.law_fn T kb nb⟩     -- if «.of_eq rfl» comes too early: refine' ⟨_, ?b, fun base kb nb => My.law_fn T kb nb⟩; exact fun s u => .of_eq rfl
  case S => exact fun w H a ns hl hO hS => ..
  case C => exact ..
(the tactic k_is has no namespace: write k_is) -/
namespace L2
open PySem PySem.Spec PyProof.Rows
def defArgs (s : Stmt) : Arguments := match s with
  | .FunctionDef _ a _ _ _ _ _ _ _ _ => a
  | _ => { posonlyargs := [], args := [], vararg := none, kwonlyargs := [], kw_defaults := [], kwarg := none, defaults := [] }
def defBody (s : Stmt) : List Stmt := match s with
  | .FunctionDef _ _ b _ _ _ _ _ _ _ => b
  | _ => []
def defScope (s : Stmt) : Scope := match s with
  | .FunctionDef _ _ _ _ _ _ sc _ _ _ => sc
  | _ => { kind := .function, names := [], isGenerator := false, isCoroutine := false }
abbrev CX0 : CXT := fun _ _ _ _ _ _ => False
abbrev E0 : XK := fun _ _ _ => False
structure Fun (K : PySem.W.Frag) (x qual : Str) (st : Stmt) (f : Addr) (fd : FuncData) : Prop where
  ex : ∃ (oc : Value) (od : Option Addr) (kV doc pm : Value) (an : Option Addr) (cdv ct : Value) (osl : Array (Option Value)),
    fd = PySem.W.fnOf x qual (defArgs st) (defBody st) (defScope st) .none kV doc pm an cdv ct ∧ K.lookup f = some ⟨oc, od, .func fd, osl⟩ ∧ PySem.W.codeIn K cdv qual = true
  kp : PySem.W.keepIn K (.ref f) = true
section
variable {P : Program} {w : World} {K : PySem.W.Frag} {mg : Str → Option Value} {base : Heap}
theorem Fun.ok {x qual : Str} {st : Stmt} {f : Addr} {fd : FuncData} {N ps : List Str} {k : Nat} {sp : Sp} (F : Fun K x qual st f fd) (S : FnScope N ps (defScope st)) (len : ∀ vs H Q E, sp vs H Q E → vs.length = ps.length)
    (hbody : ∀ (cdv : Value) (A : Around) (outer : List Env) (s : Shared) (H : Hp) (vs : List V) (Q : VK) (E : XK), Room k (A.deeper (envOfC qual (defScope st) s.heap.objs.size f cdv)) → sp vs H Q E →
      ∃ t, PSs (cxOf CX0 P w K mg base N qual (defScope st) f cdv A outer s H E).nox (defBody st) t ∧ t { nx := fun _ H' => Q .non H', rt := Q } (start N vs) H) : FnOk P w K mg base CX0 (k + 1) f fd ps sp := by
  obtain ⟨oc, od, kV, doc, pm, an, cdv, ct, osl, rfl, lk, hcd⟩ := F.ex
  refine fn_of lk hcd S len fun A outer s H vs Q E hr hsp => ?_
  obtain ⟨t, h, q⟩ := hbody cdv A outer s H vs Q E hr hsp
  exact ⟨t, h.nox, q⟩
theorem Fun.binds {x qual : Str} {st : Stmt} {f : Addr} {fd : FuncData} {ps : List Str} (F : Fun K x qual st f fd)
    (h : ∀ (kV doc pm : Value) (an : Option Addr) (cdv ct : Value) (us : List Value), us.length = ps.length → bindArgs (PySem.W.fnOf x qual (defArgs st) (defBody st) (defScope st) .none kV doc pm an cdv ct) ⟨us, []⟩ = pure (ps.zip us)) : Binds K fd ps [] := by
  obtain ⟨oc, od, kV, doc, pm, an, cdv, ct, osl, rfl, lk, hcd⟩ := F.ex
  exact .all (h kV doc pm an cdv ct)
theorem fun_mk {x qual : Str} {st : Stmt} {f : Addr} {oc : Value} {od an : Option Addr} {osl : Array (Option Value)} {kV doc pm cdv ct : Value} (l : K.lookup f = some ⟨oc, od, .func (PySem.W.fnOf x qual (defArgs st) (defBody st) (defScope st) .none kV doc pm an cdv ct), osl⟩)
    (c : PySem.W.codeIn K cdv qual = true) (k : PySem.W.keepIn K (.ref f) = true) : Fun K x qual st f (PySem.W.fnOf x qual (defArgs st) (defBody st) (defScope st) .none kV doc pm an cdv ct) := ⟨⟨oc, od, kV, doc, pm, an, cdv, ct, osl, rfl, l, c⟩, k⟩
end
theorem hu_of {A : Around} {k : Nat} (hr : Room k A) : A.units + 1 < cLine := Nat.lt_of_le_of_lt (Nat.add_le_add_left (by decide : 1 ≤ 64) _) hr.units
theorem small1000 {n : Nat} (h : n ≤ 1000) : n < sizeLine := Nat.lt_of_le_of_lt h (by decide)
section
variable {X : Cx}
theorem pv (i : Nat) {x : Str} {pos : Pos} (hN : X.N[i]? = some x := by rfl) (hv : Vis X.env.scope x := by first | exact Or.inl rfl | exact Or.inr (Or.inl rfl) | exact Or.inr (Or.inr rfl)) (hd : (x == ("__debug__" : Str)) = false := by decide)
    (hcd : (x == ("__classdict__" : Str)) = false := by decide) : PE X (.Name x pos) (tVar i) := pe_var hN hv hd hcd
end
def Same (H H' : Hp) : Prop := ∀ b o, H b = some o → H' b = some o
theorem Same.refl (H : Hp) : Same H H := fun _ _ h => h
theorem Same.trans {H H1 H2 : Hp} (a : Same H H1) (b : Same H1 H2) : Same H H2 := fun c o h => b c o (a c o h)
theorem Same.free {H H' : Hp} (e : Same H H') {l : Addr} (h : H' l = Option.none) : H l = Option.none := by
  cases q : H l with
  | none => rfl
  | some o =>
    rw [e l o q] at h
    cases h
theorem Same.seq {K : PySem.W.Frag} {H H' : Hp} {a : Addr} {xs : List V} (e : Same H H') (h : SqL K H a xs) : SqL K H' a xs := by
  rcases h with (h | ⟨o, h⟩) | h
  · exact .inl (.inl (e _ _ h))
  · exact .inl (.inr ⟨o, e _ _ h⟩)
  · exact .inr h
end L2
namespace L2
open PySem PySem.Spec PyProof.Rows
def Dic (h : Heap) (e : Addr) (dv : Option Addr) : Prop := ∃ ob ws, h.get? e = some ob ∧ ob.dict = dv ∧ ob.data = .fields ws ∧ ws[2]? = some Value.none
structure Rest (fs : List Addr) (x : Addr) (ex : Option Addr) (h h' : Heap) : Prop where
  out : ∀ b o, h.get? b = some o → b ≠ x → some b ≠ ex → b ∉ fs → h'.get? b = some o
  sl : ∀ b o, h.get? b = some o → b ≠ x → some b ≠ ex → ∃ z, h'.get? b = some { o with slots := z }
section
variable {M : Model} {A : Around} {E : Value → Shared → Prop} {s : Shared} {B : Heap} {env : Env} {outer : List Env} {L e : Addr}
theorem dict_mapF (f : Array Value → Array Value) (o : Obj) : (Obj.mapFields f o).dict = o.dict := by
  obtain ⟨c, d, dt, sl⟩ := o
  cases dt <;> rfl
theorem entry_made {ob : Obj} {ws : Array Value} {hd : Value} {had : Bool} {Q : Unit → Shared → Prop} (gf : A.frames = some (env :: outer)) (ff : s.heap.FunFrames B (env :: outer)) (ge : env.frame = some L)
    (o1 : s.heap.get? e = some ob) (o2 : ob.data = .fields ws) (o3 : 1 < ws.size)
    (k : ∀ (h' : Heap) (T : Addr) (oT : Obj) (ts : Array Value), h'.get? e = some (Obj.mapFields (·.setIfInBounds 1 (.ref T)) ob) → T ≠ e → s.heap.get? T = none → h'.get? T = some oT → oT.data = .fields ts → ts[3]? = some (rawInt L) →
      Rest (frs (env :: outer)) e none s.heap h' → Q () { s with heap := h' }) :
    wpAny M A (do let a ← frameOf env; let pl ← entryPlaceOf L had; let b ← EntryCells.newEntry hd a .none (rawInt L) .none pl; setField (.ref e) 1 b) Q E s := by
  have en : e ∉ frs (env :: outer) := fun m => by
    obtain ⟨_, o, q, n⟩ := ff.mem m
    rw [o1] at q; cases q
    exact n ws o2
  refine wpAny_bind (wpAny_frameOf_fun gf ff ge fun h1 so => wpAny_bind (wpAny_entryPlaceOf fun pl place => ?_))
  unfold EntryCells.newEntry newFields
  refine wpAny_bind (wpAny_newObj_type ?_ (place.sizeOk5 _ _ _ _ _))
  have q1 : h1.get? e = some ob := (so.2.1 e en).trans o1
  have q2 := fun oT => Heap.get?_push_of_some (h := h1) oT q1
  refine wpAny_setField (q2 _) o2 o3 ?_
  refine k _ h1.objs.size _ _ ?_ (Nat.ne_of_gt (Heap.lt_size q1)) (Heap.get?_none_of_le (by rw [so.1]; exact Nat.le_refl _)) ((Heap.get?_update_other _ _ (Nat.ne_of_lt (Heap.lt_size q1))).trans (Heap.get?_push_size h1 rfl)) rfl ?_ ?_
  · exact Heap.get?_update_self _ (q2 _) (Obj.isFreed_of_fields (Obj.data_mapFields o2 _))
  · rcases place with rfl | ⟨_, _, _, _, _, _, _, rfl⟩ <;> simp
  · refine ⟨fun b o q n _ nf => ?_, fun b o q n _ => ?_⟩
    · exact (Heap.get?_update_other _ _ (Ne.symm n)).trans (Heap.get?_push_of_some _ ((so.2.1 b nf).trans q))
    · obtain ⟨z, y⟩ := so.2.2 b o q
      exact ⟨z, (Heap.get?_update_other _ _ (Ne.symm n)).trans (Heap.get?_push_of_some _ y)⟩
theorem rest_fly {h h' : Heap} {ex : Option Addr} {l : List Env} (st : B.StaysIn h) (be : B.get? e = none) (bx : ∀ t, ex = some t → B.get? t = none) (ff : h.FunFrames B l) (hx : ∀ t o, ex = some t → h.get? t = some o → ∃ ts, o.data = .fields ts)
    (he : ∀ o, h.get? e = some o → ∃ ts, o.data = .fields ts) (r : Rest (frs l) e ex h h') : B.StaysIn h' ∧ h'.FunFrames B l ∧ h.UpToSlots h' := by
  have up : h.UpToSlots h' := fun b o q nd => r.sl b o q (fun z => by subst z; obtain ⟨ts, y⟩ := he o q; exact nd ts y) fun z => by obtain ⟨ts, y⟩ := hx b o z.symm q; exact nd ts y
  refine ⟨fun b o q => r.out b o (st b o q) (fun z => by rw [z, be] at q; cases q) (fun z => by rw [bx b z.symm] at q; cases q) (fun m => by rw [(ff.mem m).1] at q; cases q), ff.of_keeps fun b o q nd => ?_, up⟩
  obtain ⟨z, y⟩ := up b o q nd
  exact ⟨_, y, rfl⟩
theorem note_first {ob : Obj} {ws : Array Value} {a0 : Value} {Q : Unit → Shared → Prop} (gf : A.frames = some (env :: outer)) (ge : env.frame = some L) (ff : s.heap.FunFrames B (env :: outer)) (st : B.StaysIn s.heap) (be : B.get? e = none)
    (o1 : s.heap.get? e = some ob) (o2 : ob.data = .fields ws) (o3 : ws[1]? = some .none) (o4 : ws[0]? = some a0) (o5 : ws[2]? = some Value.none)
    (k : ∀ h', Heap.HeldW B (env :: outer) e ob.cls a0 L h' → Dic h' e ob.dict → s.heap.UpToSlots h' → Q () { s with heap := h' }) : wpAny M A (noteFrame (.ref e) env) Q E s := by
  have z1 : 1 < ws.size := (Array.getElem?_eq_some_iff.mp o3).1
  unfold noteFrame
  simp only [ge]
  refine wpAny_bind (wpAny_field o1 o2 o3 ?_)
  rw [if_neg (by decide)]
  refine entry_made gf ff ge o1 o2 z1 fun h' T oT ts e1 e2 e3 e4 e5 e6 r => ?_
  obtain ⟨k1, k2, k3⟩ := rest_fly (ex := none) st be (by intro _ z; cases z) ff (by intro _ _ z; cases z) (fun o q => by rw [o1] at q; cases q; exact ⟨ws, o2⟩) r
  refine k h' ⟨k1, be, k2, _, _, T, oT, ts, e1, ⟨Obj.cls_mapFields _ _, ?_⟩, Obj.data_mapFields o2 _, by simp [z1], ?_, e2, e4, e5, e6⟩ ⟨_, _, e1, dict_mapF _ _, Obj.data_mapFields o2 _, by rw [Array.getElem?_setIfInBounds_ne (by decide)]; exact o5⟩ k3
  · rw [Array.getElem?_setIfInBounds_ne (by decide)]; exact o4
  · cases q : B.get? T with
    | none => rfl
    | some o => rw [st T o q] at e3; cases e3
theorem note_next {cls a0 : Value} {dv : Option Addr} {Q : Unit → Shared → Prop} (gf : A.frames = some (env :: outer)) (ge : env.frame = some L) (fl : Heap.FlyingW B (env :: outer) e cls a0 s.heap) (dc : Dic s.heap e dv)
    (k : ∀ h', Heap.HeldW B (env :: outer) e cls a0 L h' → Dic h' e dv → s.heap.UpToSlots h' → Q () { s with heap := h' }) : wpAny M A (noteFrame (.ref e) env) Q E s := by
  obtain ⟨st, be, ff, ob, ws, T, oT, ts, o1, ⟨rfl, o4⟩, o2, o3, bT, nT, t1, t2, t3⟩ := fl
  obtain ⟨ob', ws', q, rfl, d5, o5⟩ := dc
  rw [o1] at q; cases q
  rw [o2] at d5; cases d5
  have z1 : 1 < ws.size := (Array.getElem?_eq_some_iff.mp o3).1
  unfold noteFrame
  simp only [ge]
  refine wpAny_bind (wpAny_field o1 o2 o3 ?_)
  rw [if_pos (by simp)]
  refine wpAny_bind (wpAny_field t1 t2 t3 ?_)
  rw [if_neg (by simp [rawInt])]
  refine wpAny_bind (wpAny_setField t1 t2 (Array.getElem?_eq_some_iff.mp t3).1 ?_)
  have r0 : Rest (frs (env :: outer)) e (some T) s.heap (s.heap.update T (Obj.mapFields (·.setIfInBounds 3 Value.none))) :=
    ⟨fun b o q _ n _ => (Heap.get?_update_other _ _ fun z => n (by rw [z])).trans q, fun b o q _ n => ⟨o.slots, (Heap.get?_update_other _ _ fun z => n (by rw [z])).trans q⟩⟩
  obtain ⟨s1, s2, s3⟩ := rest_fly st be (fun t z => by cases z; exact bT) ff (fun t o z q => by cases z; rw [t1] at q; cases q; exact ⟨ts, t2⟩) (fun o q => by rw [o1] at q; cases q; exact ⟨ws, o2⟩) r0
  have o1' : (s.heap.update T (Obj.mapFields (·.setIfInBounds 3 Value.none))).get? e = some ob := (Heap.get?_update_other _ _ nT).trans o1
  refine entry_made (s := { s with heap := _ }) gf s2 ge o1' o2 z1 fun h' T' oT' ts' e1 e2 e3 e4 e5 e6 r => ?_
  obtain ⟨k1, k2, k3⟩ := rest_fly (ex := none) s1 be (by intro _ z; cases z) s2 (by intro _ _ z; cases z) (fun o q => by have := o1'.symm.trans q; cases this; exact ⟨ws, o2⟩) r
  refine k h' ⟨k1, be, k2, _, _, T', oT', ts', e1, ⟨Obj.cls_mapFields _ _, ?_⟩, Obj.data_mapFields o2 _, by simp [z1], ?_, e2, e4, e5, e6⟩ ⟨_, _, e1, dict_mapF _ _, Obj.data_mapFields o2 _, by rw [Array.getElem?_setIfInBounds_ne (by decide)]; exact o5⟩ (s3.trans k3)
  · rw [Array.getElem?_setIfInBounds_ne (by decide)]; exact o4
  · cases q : B.get? T' with
    | none => rfl
    | some o => have := (s1 T' o q).symm.trans e3; cases this
theorem lands_dic {l : List Env} {cls a0 v : Value} {dv : Option Addr} {Q : Unit → Shared → Prop} (fl : B.StaysIn s.heap ∧ B.get? e = none ∧ s.heap.FunFrames B l ∧ s.heap.TracedAtW B e cls a0 v) (dc : Dic s.heap e dv)
    (k : ∀ h', Heap.FlyingW B l e cls a0 h' → Dic h' e dv → s.heap.UpToSlots h' → Q () { s with heap := h' }) : wpAny M A (setFlight (.ref e) none) Q E s := by
  obtain ⟨st, be, ff, ob, ws, T, oT, ts, o1, oc, o2, o3, bT, nT, t1, t2, t3⟩ := fl
  have z3 : 3 < ts.size := (Array.getElem?_eq_some_iff.mp t3).1
  unfold setFlight
  refine wpAny_bind (wpAny_field o1 o2 o3 ?_)
  rw [if_pos (by simp)]
  refine wpAny_setField t1 t2 z3 ?_
  have r0 : Rest (frs l) e (some T) s.heap (s.heap.update T (Obj.mapFields (·.setIfInBounds 3 ((none : Option Addr).elim Value.none fun f => rawInt f)))) :=
    ⟨fun b o q _ n _ => (Heap.get?_update_other _ _ fun z => n (by rw [z])).trans q, fun b o q _ n => ⟨o.slots, (Heap.get?_update_other _ _ fun z => n (by rw [z])).trans q⟩⟩
  obtain ⟨s1, s2, s3⟩ := rest_fly st be (fun t z => by cases z; exact bT) ff (fun t o z q => by cases z; rw [t1] at q; cases q; exact ⟨ts, t2⟩) (fun o q => by rw [o1] at q; cases q; exact ⟨ws, o2⟩) r0
  have o1' := (Heap.get?_update_other s.heap (Obj.mapFields (·.setIfInBounds 3 ((none : Option Addr).elim Value.none fun f => rawInt f))) nT).trans o1
  refine k _ ⟨s1, be, s2, ob, ws, T, _, _, o1', oc, o2, o3, bT, nT, Heap.get?_update_self _ t1 (Obj.isFreed_of_fields (Obj.data_mapFields t2 _)), Obj.data_mapFields t2 _, by simp [z3]⟩ ?_ s3
  obtain ⟨ob', ws', q, d, d5, o5⟩ := dc
  rw [o1] at q; cases q
  exact ⟨ob, ws', o1', d, d5, o5⟩
theorem leaves_next {cls a0 : Value} {dv : Option Addr} {Q : Unit → Shared → Prop} (gf : A.frames = some (env :: outer)) (ge : env.frame = some L) (fl : Heap.FlyingW B (env :: outer) e cls a0 s.heap) (dc : Dic s.heap e dv)
    (k : ∀ h', Heap.FlyingW B outer e cls a0 h' → Dic h' e dv → s.heap.UpToSlots h' → Q () { s with heap := h' }) : wpAny M A (leaving env (.ref e)) Q E s := by
  unfold leaving
  refine wpAny_bind (note_next gf ge fl dc fun h1 x1 d1 u1 => lands_dic x1 d1 fun h2 x2 d2 u2 => ?_)
  obtain ⟨y1, y2, ⟨_, _, y3⟩, y4⟩ := x2
  exact k h2 ⟨y1, y2, y3, y4⟩ d2 (u1.trans u2)
theorem leaves_first {ob : Obj} {ws : Array Value} {a0 : Value} {Q : Unit → Shared → Prop} (gf : A.frames = some (env :: outer)) (ge : env.frame = some L) (ff : s.heap.FunFrames B (env :: outer)) (st : B.StaysIn s.heap) (be : B.get? e = none)
    (o1 : s.heap.get? e = some ob) (o2 : ob.data = .fields ws) (o3 : ws[1]? = some .none) (o4 : ws[0]? = some a0) (o5 : ws[2]? = some Value.none)
    (k : ∀ h', Heap.FlyingW B outer e ob.cls a0 h' → Dic h' e ob.dict → s.heap.UpToSlots h' → Q () { s with heap := h' }) : wpAny M A (leaving env (.ref e)) Q E s := by
  unfold leaving
  refine wpAny_bind (note_first gf ge ff st be o1 o2 o3 o4 o5 fun h1 x1 d1 u1 => lands_dic x1 d1 fun h2 x2 d2 u2 => ?_)
  obtain ⟨y1, y2, ⟨_, _, y3⟩, y4⟩ := x2
  exact k h2 ⟨y1, y2, y3, y4⟩ d2 (u1.trans u2)
theorem lands_againD {l : List Env} {cls a0 : Value} {dv : Option Addr} {Q : Unit → Shared → Prop} (fl : Heap.FlyingW B l e cls a0 s.heap) (dc : Dic s.heap e dv)
    (k : ∀ h', Heap.FlyingW B l e cls a0 h' → Dic h' e dv → s.heap.UpToSlots h' → Q () { s with heap := h' }) : wpAny M A (setFlight (.ref e) none) Q E s := lands_dic (v := .none) fl dc k
end
end L2
namespace L2
open PySem PySem.Spec PyProof.Rows
theorem ObjOk.there {P : Program} {w : World} {H : Hp} {h : Heap} {a : Addr} {o : HO} (x : ObjOk P w H h a o) : ∃ ob, h.get? a = some ob := by
  cases o with
  | lst xs => obtain ⟨_, _, _, _, q⟩ := x; exact ⟨_, q⟩
  | tup xs => obtain ⟨_, _, _, ob, q, _⟩ := x; exact ⟨ob, q⟩
  | dK kvs => obtain ⟨_, _, _, _, ob, _, _, q, _⟩ := x; exact ⟨ob, q⟩
  | dT kvs => obtain ⟨_, _, _, _, ob, _, _, q, _⟩ := x; exact ⟨ob, q⟩
  | set S n => obtain ⟨ob, _, _, _, q, _⟩ := x; exact ⟨ob, q⟩
  | ins C dx fs => obtain ⟨_, _, _, q, _⟩ := x; exact ⟨_, q⟩
  | own y => exact x
  | xd fs => obtain ⟨_, ⟨ob, _, _, q, _⟩, _⟩ := x; exact ⟨ob, q⟩
  | rng lo hi => obtain ⟨_, _, _, q⟩ := x; exact ⟨_, q⟩
  | frz ob u => obtain ⟨q, _⟩ := x; exact ⟨_, q⟩
  | tbl ps => exact ⟨_, x⟩
  | met f y => exact ⟨_, x⟩
  | ext φ => obtain ⟨_, q, _⟩ := x; exact q
theorem HOk.there {P : Program} {w : World} {H : Hp} {h : Heap} {a : Addr} (k : HOk P w H h) (n : H a ≠ none) : ∃ ob, h.get? a = some ob := by
  cases e : H a with
  | none => exact absurd e n
  | some o => exact (k a o e).there
structure Flown (P : Program) (w : World) (outer : List Env) (H : Hp) (s : Shared) (H' : Hp) (s' : Shared) (B : Heap) (e : Addr) (cls a0 : Value) (dv : Option Addr) : Prop where
  os : s'.os = s.os
  bare : AllBare s'.gens
  un : Un (frs outer) [] H H' s.heap s'.heap
  hok : HOk P w H' s'.heap
  fly : Heap.FlyingW B outer e cls a0 s'.heap
  cond : ∀ b o, s'.heap.get? b = some o → b ∉ frs outer → ((∃ o', s.heap.get? b = some o') ∨ H' b ≠ none) → B.get? b = some o
  frf : ∀ b ∈ frs outer, H' b = none
  dic : Dic s'.heap e dv
def CXe (P : Program) (w : World) : CXT := fun outer H s E ev s' => ∃ (e : Addr) (cls a0 : Value) (dv : Option Addr) (H' : Hp) (B : Heap), ev = .ref e ∧ Flown P w outer H s H' s' B e cls a0 dv ∧ E cls dv H'
theorem fly_notframe {B : Heap} {l : List Env} {e : Addr} {cls a0 : Value} {h : Heap} (x : Heap.FlyingW B l e cls a0 h) : e ∉ frs l := fun hm => by
  obtain ⟨_, _, f3, oe, vs, T, oT, ts, he, _, hd, _⟩ := x
  obtain ⟨_, o, ho, hn⟩ := f3.mem hm
  rw [he] at ho; cases ho
  exact hn vs hd
section
variable {P : Program} {w : World} {outer : List Env} {H H' : Hp} {s s' : Shared} {B : Heap} {e : Addr} {cls a0 : Value} {dv : Option Addr} {h' : Heap}
theorem Flown.unh (F : Flown P w outer H s H' s' B e cls a0 dv) (k : B.StaysIn h') (u : s'.heap.UpToSlots h') : Un (frs outer) [] H H' s.heap h' where
  keep := fun b o q n hb hx => k b o (F.cond b o (F.un.keep b o q n hb hx) hb (.inl ⟨o, q⟩))
  slot := fun b o q n hb hx => by
    obtain ⟨sl, q1⟩ := F.un.slot b o q n hb hx
    obtain ⟨_, o2, q2, nd⟩ := F.fly.2.2.1.mem hb
    rw [q1] at q2; cases q2
    obtain ⟨sl', q3⟩ := u b _ q1 nd
    exact ⟨sl', q3⟩
  free := F.un.free
  there := fun b o q hx => by
    obtain ⟨o1, q1⟩ := F.un.there b o q hx
    by_cases hb : b ∈ frs outer
    · obtain ⟨_, o2, q2, nd⟩ := F.fly.2.2.1.mem hb
      rw [q1] at q2; cases q2
      obtain ⟨sl', q3⟩ := u b _ q1 nd
      exact ⟨_, q3⟩
    · exact ⟨o1, k b o1 (F.cond b o1 q1 hb (.inl ⟨o, q⟩))⟩
  tups := F.un.tups
  frzs := F.un.frzs
  tbls := F.un.tbls
theorem Flown.trk (F : Flown P w outer H s H' s' B e cls a0 dv) (k : B.StaysIn h') : ∀ b o, H' b ≠ none → s'.heap.get? b = some o → h'.get? b = some o := fun b o n q =>
  k b o (F.cond b o q (fun hb => n (F.frf b hb)) (.inr n))
theorem Flown.hokh (F : Flown P w outer H s H' s' B e cls a0 dv) (k : B.StaysIn h') : HOk P w H' h' := fun a o q =>
  (F.hok a o q).stay (fun b u hb z => F.trk k b u (by
    rcases hb with rfl | hb
    · rw [q]; exact fun z => nomatch z
    · rw [hb]; exact fun z => nomatch z) z) (fun _ z => z) fun _ _ z => z
theorem Flown.go (F : Flown P w outer H s H' s' B e cls a0 dv) (x : Heap.FlyingW B outer e cls a0 h') (u : s'.heap.UpToSlots h') (dc : Dic h' e dv) : Flown P w outer H s H' { s' with heap := h' } B e cls a0 dv where
  os := F.os
  bare := F.bare
  un := F.unh x.1 u
  hok := F.hokh x.1
  fly := x
  cond := fun b o q hb hc => by
    have back : ∀ o', s'.heap.get? b = some o' → B.get? b = some o := fun o' q' => by
      have z := F.cond b o' q' hb hc
      have z' := x.1 b o' z
      have q2 : h'.get? b = some o := q
      rw [z'] at q2; cases q2
      exact z
    rcases id hc with ⟨o1, q1⟩ | n
    · obtain ⟨o2, q2⟩ := F.un.there b o1 q1 (by simp)
      exact back o2 q2
    · obtain ⟨o2, q2⟩ := F.hok.there n
      exact back o2 q2
  frf := F.frf
  dic := dc
theorem Flown.enew (F : Flown P w outer H s H' s' B e cls a0 dv) : s.heap.get? e = none ∧ H' e = none := by
  have ne := fly_notframe F.fly
  obtain ⟨oe, q, _⟩ := F.fly.there
  constructor
  · cases z : s.heap.get? e with
    | none => rfl
    | some o => have := F.cond e oe q ne (.inl ⟨o, z⟩); rw [F.fly.2.1] at this; cases this
  · cases z : H' e with
    | none => rfl
    | some o => have := F.cond e oe q ne (.inr (by rw [z]; exact fun z => nomatch z)); rw [F.fly.2.1] at this; cases this
end
def excD (e : Addr) (cls : Value) (dv : Option Addr) : HO := .ext fun h => ∃ oe ws, h.get? e = some oe ∧ oe.cls = cls ∧ oe.data = .fields ws ∧ oe.dict = dv ∧ ws[2]? = some Value.none
theorem excD_ok {P : Program} {w : World} {H : Hp} {h : Heap} {e : Addr} {cls : Value} {dv : Option Addr} {oe : Obj} {ws : Array Value} (q : h.get? e = some oe) (c : oe.cls = cls) (d : oe.data = .fields ws) (y : oe.dict = dv) (cx : ws[2]? = some Value.none) : ObjOk P w H h e (excD e cls dv) :=
  ⟨⟨oe, ws, q, c, d, y, cx⟩, ⟨oe, q⟩, fun _ _ ⟨o, v, q, c, d, y, cx⟩ k => ⟨o, v, k o q, c, d, y, cx⟩⟩
section
variable {X : Cx} {pins : List (Addr × Obj)} {σ : St} {H H' : Hp} {s s' : Shared} {B : Heap} {e : Addr} {cls a0 : Value} {dv : Option Addr}
theorem Flown.inv (F : Flown X.prog X.w X.stack H s H' s' B e cls a0 dv) (I : Inv X pins σ H s) : Inv X pins σ (upd H' e (excD e cls dv)) s' := by
  obtain ⟨n1, n2⟩ := F.enew
  obtain ⟨oe, ws, he, hc, hd, _⟩ := F.fly.first
  obtain ⟨oe', ws', he', hdv, hd', hcx⟩ := F.dic
  rw [he] at he'; cases he'
  rw [hd] at hd'; cases hd'
  refine I.call' (ch := []) F.os ⟨F.un.keep, F.un.slot, fun b o q n hx => ?_, F.un.there, fun b xs q => ?_, fun b o u q => ?_, fun b ps q => ?_⟩ (fun b u q => ?_) F.bare (fun b z => absurd z (by simp))
  · rw [upd_ne (by rintro rfl; rw [n1] at q; cases q)]
    exact F.un.free b o q n hx
  · rw [upd_ne (by rintro rfl; have := F.un.tups _ _ q; rw [n2] at this; cases this)]
    exact F.un.tups b xs q
  · rw [upd_ne (by rintro rfl; have := F.un.frzs _ _ _ q; rw [n2] at this; cases this)]
    exact F.un.frzs b o u q
  · obtain ⟨m, z⟩ := F.un.tbls b ps q
    exact ⟨m, by rw [upd_ne (by rintro rfl; rw [n2] at z; cases z)]; exact z⟩
  · by_cases hb : b = e
    · subst hb
      rw [upd_same] at q; cases q
      exact excD_ok he hc hd hdv hcx
    · rw [upd_ne hb] at q
      exact (F.hok b u q).stay (fun _ _ _ z => z) (fun c z => by rw [upd_ne (ne_of_none z n2)]; exact z) fun c xs z => by rw [upd_ne (ne_of_none z n2)]; exact z
end
section
variable {P : Program} {w : World} {K : PySem.W.Frag} {mg : Str → Option Value} {base : Heap} {N : List Str} {qual : Str} {scope : Scope} {f : Addr} {cd : Value} {A : Around} {outer : List Env} {s : Shared} {H : Hp} {E : XK}
  {pins : List (Addr × Obj)} {σ : St} {H1 : Hp} {s1 : Shared}
theorem cx_frames (I : Inv (cxOf (CXe P w) P w K mg base N qual scope f cd A outer s H E) pins σ H1 s1) : (A.deeper (envOfC qual scope s.heap.objs.size f cd)).frames = some (envOfC qual scope s.heap.objs.size f cd :: outer) := I.ok.frames
theorem xe_core {e : Addr} {ob : Obj} {ws : Array Value} {a0 : Value} (gf : (A.deeper (envOfC qual scope s.heap.objs.size f cd)).frames = some (envOfC qual scope s.heap.objs.size f cd :: outer)) (os : s1.os = s.os) (bare : AllBare s1.gens) (un1 : Un (frs outer) [] H H1 s.heap s1.heap) (hok : HOk P w H1 s1.heap)
    (fr0 : s1.heap.FunFrames base (envOfC qual scope s.heap.objs.size f cd :: outer)) (free1 : ∀ b ∈ frs (envOfC qual scope s.heap.objs.size f cd :: outer), H1 b = none) (ge : s1.heap.get? e = some ob) (od : ob.data = .fields ws) (w1 : ws[1]? = some .none) (w0 : ws[0]? = some a0) (w2 : ws[2]? = some Value.none)
    (en : s.heap.get? e = none) (eH : H1 e = none) (q : E ob.cls ob.dict H1) :
    wpAny (model P w) (A.deeper (envOfC qual scope s.heap.objs.size f cd)) (leaving (envOfC qual scope s.heap.objs.size f cd) (.ref e)) (fun _ s'' => CXe P w outer H s E (.ref e) s'') (fun e' s'' => CXe P w outer H s E e' s'') s1 := by
  have fsE : frs (envOfC qual scope s.heap.objs.size f cd :: outer) = s.heap.objs.size :: frs outer := rfl
  have hin : ∀ env ∈ (envOfC qual scope s.heap.objs.size f cd :: outer), ∀ b, env.frame = some b → b ∈ e :: frs (envOfC qual scope s.heap.objs.size f cd :: outer) := fun env he b hb => List.mem_cons_of_mem _ (List.mem_filterMap.mpr ⟨env, he, hb⟩)
  refine leaves_first (B := PySem.W.hideAll s1.heap (e :: frs (envOfC qual scope s.heap.objs.size f cd :: outer))) (L := s.heap.objs.size) gf rfl (PySem.W.funFrames_hide fr0 hin) (fun b o z => PySem.W.of_hideAll _ z) (PySem.W.hideAll_none _ List.mem_cons_self) ge od w1 w0 w2 fun h2 fl dc up => ?_
  have inB : ∀ b o, s1.heap.get? b = some o → b ≠ e → b ∉ frs (envOfC qual scope s.heap.objs.size f cd :: outer) → (PySem.W.hideAll s1.heap (e :: frs (envOfC qual scope s.heap.objs.size f cd :: outer))).get? b = some o := fun b o z n1 n => PySem.W.hideAll_get _ z fun m => by
    rcases List.mem_cons.mp m with y | y
    · exact n1 y
    · exact n y
  have olde : ∀ b o, s.heap.get? b = some o → b ≠ e := fun b o z y => by rw [y, en] at z; cases z
  have old : ∀ b o, s.heap.get? b = some o → b ∉ frs outer → b ∉ frs (envOfC qual scope s.heap.objs.size f cd :: outer) := fun b o z n hm => by
    rw [fsE] at hm
    rcases List.mem_cons.mp hm with rfl | hm
    · exact absurd (Heap.lt_size z) (Nat.lt_irrefl _)
    · exact n hm
  have slots : ∀ b o, s1.heap.get? b = some o → b ∈ frs outer → ∃ sl, h2.get? b = some { o with slots := sl } := fun b o z hb => by
    obtain ⟨_, o2, q2, nd⟩ := fr0.mem (b := b) (by show b ∈ frs _; rw [fsE]; exact List.mem_cons_of_mem _ hb)
    rw [z] at q2; cases q2
    exact up b o z nd
  have keepT : ∀ b o, H1 b ≠ none → s1.heap.get? b = some o → h2.get? b = some o := fun b o n z => fl.1 b o (inB b o z (fun y => n (y ▸ eH)) fun hm => n (free1 b hm))
  refine ⟨e, ob.cls, a0, ob.dict, H1, _, rfl, ⟨os, bare, ⟨fun b o z n hb hx' => ?_, fun b o z n hb hx' => ?_, un1.free, fun b o z hx' => ?_, un1.tups, un1.frzs, un1.tbls⟩, fun a o z => ?_, fl, fun b o z hb hc => ?_, fun b hb => ?_, dc⟩, q⟩
  · exact fl.1 b o (inB b o (un1.keep b o z n hb hx') (olde b o z) (old b o z hb))
  · obtain ⟨sl, z1⟩ := un1.slot b o z n hb hx'
    obtain ⟨sl', z2⟩ := slots b _ z1 hb
    exact ⟨sl', z2⟩
  · obtain ⟨o1, z1⟩ := un1.there b o z hx'
    by_cases hb : b ∈ frs outer
    · obtain ⟨sl', z2⟩ := slots b _ z1 hb
      exact ⟨_, z2⟩
    · exact ⟨o1, fl.1 b o1 (inB b o1 z1 (olde b o z) (old b o z hb))⟩
  · refine (hok a o z).stay (fun b u hb y => keepT b u ?_ y) (fun _ y => y) fun _ _ y => y
    rcases hb with rfl | hb
    · rw [z]; exact fun y => nomatch y
    · rw [hb]; exact fun y => nomatch y
  · have back : ∀ o', s1.heap.get? b = some o' → b ≠ e → b ∉ frs (envOfC qual scope s.heap.objs.size f cd :: outer) → (PySem.W.hideAll s1.heap (e :: frs (envOfC qual scope s.heap.objs.size f cd :: outer))).get? b = some o := fun o' y ne nb => by
      have y1 := inB b o' y ne nb
      have y2 := fl.1 b o' y1
      have z2 : h2.get? b = some o := z
      rw [y2] at z2; cases z2
      exact y1
    rcases hc with ⟨o1, z1⟩ | n
    · obtain ⟨o2, z2⟩ := un1.there b o1 z1 (by simp)
      exact back o2 z2 (olde b o1 z1) (old b o1 z1 hb)
    · obtain ⟨o2, z2⟩ := hok.there n
      exact back o2 z2 (fun y => n (y ▸ eH)) fun hm => n (free1 b hm)
  · exact free1 b (by rw [fsE]; exact List.mem_cons_of_mem _ hb)
theorem xe_raise {h' : Heap} {e : Addr} {cls : Value} {vs : List Value} (I : Inv (cxOf (CXe P w) P w K mg base N qual scope f cd A outer s H E) pins σ H1 s1) (hx : Heap.MadeExcOf s1.heap h' e cls vs) (q : E cls none H1) :
    (cxOf (CXe P w) P w K mg base N qual scope f cd A outer s H E).xe (.ref e) { s1 with heap := h' } := by
  have un1 : Un (frs outer) [] H H1 s.heap s1.heap := I.base
  obtain ⟨t, ge, _, _⟩ := hx.there
  have new : ∀ b o, s1.heap.get? b = some o → b ≠ e := fun b o z y => by rw [y, hx.new] at z; cases z
  have eH : H1 e = none := by
    cases z : H1 e with
    | none => rfl
    | some o => obtain ⟨u, y⟩ := I.hok.there (a := e) (by rw [z]; exact fun y => nomatch y); rw [hx.new] at y; cases y
  refine xe_core (s1 := { s1 with heap := h' }) (w0 := rfl) (cx_frames I) I.os I.bare ⟨fun b o z n hb hx' => hx.keeps _ _ (un1.keep b o z n hb hx'), fun b o z n hb hx' => ?_, un1.free, fun b o z hx' => ?_, un1.tups, un1.frzs, un1.tbls⟩ (I.hok.kept hx.keeps)
    ((show s1.heap.FunFrames base (envOfC qual scope s.heap.objs.size f cd :: outer) from I.stack).of_keeps fun b o z _ => ⟨o, hx.keeps b o z, rfl⟩) I.stkFree ge rfl rfl (w2 := rfl) ?_ eH q
  · obtain ⟨sl, y⟩ := un1.slot b o z n hb hx'
    exact ⟨sl, hx.keeps _ _ y⟩
  · obtain ⟨o1, y⟩ := un1.there b o z hx'
    exact ⟨o1, hx.keeps _ _ y⟩
  · cases z : s.heap.get? e with
    | none => rfl
    | some o => obtain ⟨o1, y⟩ := un1.there e o z (by simp); rw [hx.new] at y; cases y
theorem xe_raiseD {e : Addr} {ob : Obj} {ws : Array Value} {a0 : Value} {φ : Heap → Prop} (I : Inv (cxOf (CXe P w) P w K mg base N qual scope f cd A outer s H E) pins σ H1 s1) (h1 : H1 e = some (.ext φ)) (ge : s1.heap.get? e = some ob) (od : ob.data = .fields ws) (w1 : ws[1]? = some .none) (w0 : ws[0]? = some a0) (w2 : ws[2]? = some Value.none)
    (en : s.heap.get? e = none) (q : E ob.cls ob.dict (fun b => if b = e then none else H1 b)) : (cxOf (CXe P w) P w K mg base N qual scope f cd A outer s H E).xe (.ref e) s1 := by
  have un1 : Un (frs outer) [] H H1 s.heap s1.heap := I.base
  have free1 : ∀ b ∈ frs (envOfC qual scope s.heap.objs.size f cd :: outer), H1 b = none := I.stkFree
  have he : ∀ b u, (∀ φ, u ≠ .ext φ) → H1 b = some u → (fun b => if b = e then none else H1 b) b = some u := fun b u nu z => by
    by_cases y : b = e
    · subst y; rw [h1] at z; cases z; exact absurd rfl (nu _)
    · show (if b = e then none else H1 b) = _
      rw [if_neg y]; exact z
  have hn : ∀ b, H1 b = none → (fun b => if b = e then none else H1 b) b = none := fun b z => by
    show (if b = e then none else H1 b) = _
    split
    · rfl
    · exact z
  refine xe_core (H1 := fun b => if b = e then none else H1 b) (cx_frames I) I.os I.bare ⟨un1.keep, un1.slot, fun b o z n hx' => hn b (un1.free b o z n hx'), un1.there, fun b xs z => he b _ (fun _ y => nomatch y) (un1.tups b xs z), fun b o u z => he b _ (fun _ y => nomatch y) (un1.frzs b o u z), fun b ps z => ?_⟩ (fun b o z => ?_) I.stack (fun b hb => hn b (free1 b hb)) ge od w1 w0 w2 en (if_pos rfl) q
  · obtain ⟨m, y⟩ := un1.tbls b ps z
    exact ⟨m, he b _ (fun _ y => nomatch y) y⟩
  · dsimp only at z
    have z' : H1 b = some o := by
      by_cases y : b = e
      · rw [if_pos y] at z; cases z
      · rw [if_neg y] at z; exact z
    exact (I.hok b o z').stay (fun _ _ _ y => y) (fun c y => he c _ (fun _ y => nomatch y) y) fun c xs y => he c _ (fun _ y => nomatch y) y
theorem xe_pass {ev : Value} {s' : Shared} (I : Inv (cxOf (CXe P w) P w K mg base N qual scope f cd A outer s H E) pins σ H1 s1) (h : CXe P w (envOfC qual scope s.heap.objs.size f cd :: outer) H1 s1 E ev s') :
    (cxOf (CXe P w) P w K mg base N qual scope f cd A outer s H E).xe ev s' := by
  obtain ⟨e, cls, a0, dv, H', B, rfl, F, q⟩ := h
  show wpAny (model P w) (A.deeper (envOfC qual scope s.heap.objs.size f cd)) (leaving (envOfC qual scope s.heap.objs.size f cd) (.ref e)) (fun _ s'' => CXe P w outer H s E (.ref e) s'') (fun e' s'' => CXe P w outer H s E e' s'') s'
  have fsE : frs (envOfC qual scope s.heap.objs.size f cd :: outer) = s.heap.objs.size :: frs outer := rfl
  have un1 : Un (frs outer) [] H H1 s.heap s1.heap := I.base
  have old : ∀ b o, s.heap.get? b = some o → b ∉ frs outer → b ∉ frs (envOfC qual scope s.heap.objs.size f cd :: outer) := fun b o z n hm => by
    rw [fsE] at hm
    rcases List.mem_cons.mp hm with rfl | hm
    · exact absurd (Heap.lt_size z) (Nat.lt_irrefl _)
    · exact n hm
  refine leaves_next (L := s.heap.objs.size) (cx_frames I) rfl F.fly F.dic fun h2 fl dc up => ?_
  have un2 := F.unh fl.1 up
  have sub : ∀ b, b ∈ frs outer → b ∈ frs (envOfC qual scope s.heap.objs.size f cd :: outer) := fun b hb => by rw [fsE]; exact List.mem_cons_of_mem _ hb
  refine ⟨e, cls, a0, dv, H', B, rfl, ⟨F.os.trans I.os, F.bare, ⟨fun b o z n hb hx' => ?_, fun b o z n hb hx' => ?_, fun b o z n hx' => ?_, fun b o z hx' => ?_, fun b xs z => F.un.tups b xs (un1.tups b xs z), fun b o u z => F.un.frzs b o u (un1.frzs b o u z), fun b ps z => ?_⟩, F.hokh fl.1, fl, fun b o z hb hc => ?_, fun b hb => F.frf b (sub b hb), dc⟩, q⟩
  · exact un2.keep b o (un1.keep b o z n hb hx') (un1.free b o z n hx') (old b o z hb) hx'
  · obtain ⟨sl, z1⟩ := un1.slot b o z n hb hx'
    obtain ⟨sl', z2⟩ := un2.slot b _ z1 (un1.free b o z n hx') (sub b hb) hx'
    exact ⟨sl', z2⟩
  · obtain ⟨o1, z1⟩ := un1.there b o z hx'
    exact F.un.free b o1 z1 (un1.free b o z n hx') hx'
  · obtain ⟨o1, z1⟩ := un1.there b o z hx'
    exact un2.there b o1 z1 hx'
  · obtain ⟨m1, z1⟩ := un1.tbls b ps z
    obtain ⟨m2, z2⟩ := F.un.tbls b _ z1
    exact ⟨m1 ++ m2, by rw [z2, Array.append_assoc]⟩
  · rcases hc with ⟨o1, z1⟩ | n
    · obtain ⟨o2, z2⟩ := un1.there b o1 z1 (by simp)
      exact (F.go (h' := h2) ⟨fl.1, fl.2.1, (F.fly.2.2.1.of_keeps fun c oc yc nd => by obtain ⟨sl, y⟩ := up c oc yc nd; exact ⟨_, y, rfl⟩), fl.2.2.2⟩ up dc).cond b o z (old b o1 z1 hb) (.inl ⟨o2, z2⟩)
    · refine (F.go (h' := h2) ⟨fl.1, fl.2.1, (F.fly.2.2.1.of_keeps fun c oc yc nd => by obtain ⟨sl, y⟩ := up c oc yc nd; exact ⟨_, y, rfl⟩), fl.2.2.2⟩ up dc).cond b o z (fun hm => n (F.frf b hm)) (.inr n)
end
theorem passE0 {P : Program} {w : World} {X : Cx} : Passes (CXe P w) X E0 := fun _ _ _ _ _ _ _ ⟨_, _, _, _, _, _, _, _, h⟩ => h.elim
theorem pass_cx {P : Program} {w : World} {K : PySem.W.Frag} {mg : Str → Option Value} {base : Heap} {N : List Str} {qual : Str} {scope : Scope} {f : Addr} {cd : Value} {A : Around} {outer : List Env} {s : Shared} {H : Hp} {E : XK} :
    Passes (CXe P w) (cxOf (CXe P w) P w K mg base N qual scope f cd A outer s H E) E := fun _ _ _ _ _ _ I h => xe_pass I h
end L2
namespace L2
open PySem PySem.Spec PyProof.Rows
theorem exc_obj {K : PySem.W.Frag} {h : Heap} {C : Addr} {bmB : List Value} {newId : String} (kin : K.In h) (yes : PySem.W.excIn K C bmB newId = true) :
    ∃ bm N nm q bs hdct sn sub ab col dd k0 k1 k2 k3 k5 mN, h.get? C = some (excClassObj nm q C N bs bm hdct sn sub ab col dd k0 k1 k2 k3 k5 newId) ∧ h.Ns N mN ∧ mN "__init__" = none ∧ OwnTail h bmB bm := by
  unfold PySem.W.excIn at yes
  split at yes
  case h_2 => cases yes
  case h_1 dict cdat slots found =>
    split at yes
    case h_2 => cases yes
    case h_1 C0 bm0 a0 a1 a2 a3 nid a5 em eslots =>
      simp only [Bool.and_eq_true, beq_iff_eq, Bool.not_eq_true'] at yes
      obtain ⟨⟨⟨⟨⟨y1, y2⟩, y3⟩, y4⟩, y5⟩, y6⟩ := yes
      subst y1 y2
      obtain ⟨f1, f2, f3, f4, f5, f6, f7, f8, f9, f10, f11⟩ := cdat
      dsimp only at em y3 y5 y6
      subst em y3
      obtain ⟨sl⟩ := slots
      dsimp only at eslots
      subst eslots
      have Nn := Heap.Ns.of_isNs (PySem.W.isNs_of_in kin y5)
      exact ⟨bm0, f4, f1, f5, f2, f6, f7, f8, f9, f10, dict, a0, a1, a2, a3, a5, _, kin _ _ found, Nn, PySem.W.ns_none_of kin Nn y6, PySem.W.tail_of_in kin y4⟩
def Raises (X : Cx) (E : XK) : Prop := ∀ (pins : List (Addr × Obj)) (σ : St) (H1 : Hp) (s1 : Shared) (h' : Heap) (e : Addr) (cls : Value) (vs : List Value), Inv X pins σ H1 s1 → Heap.MadeExcOf s1.heap h' e cls vs → E cls none H1 → X.xe (.ref e) { s1 with heap := h' }
theorem raises_cx {P : Program} {w : World} {K : PySem.W.Frag} {mg : Str → Option Value} {base : Heap} {N : List Str} {qual : Str} {scope : Scope} {f : Addr} {cd : Value} {A : Around} {outer : List Env} {s : Shared} {H : Hp} {E : XK} :
    Raises (cxOf (CXe P w) P w K mg base N qual scope f cd A outer s H E) E := fun _ _ _ _ _ _ _ _ I hx q => xe_raise I hx q
def vmro : List Value := [.type "ValueError", .type "Exception", .type "BaseException", .type "object"]
def ExcC (K : PySem.W.Frag) (C : Addr) : Prop := PySem.W.excIn K C vmro "ValueError.__new__" = true
def tRaise (C : Addr) (E : XK) (t : TA) : TS := fun _ σ H => t σ H fun vs H1 => vs.length ≤ sizeLine ∧ E (.ref C) none H1
theorem ps_raise {X : Cx} {E : XK} {x : Str} {C : Addr} {e : Expr} {es : List Expr} {t : TA} {np cpos pos : Pos} (hr : Raises X E) (hc : X.calm = true) (hg : Gl X x) (hm : X.mg x = some (.ref C)) (hC : ExcC X.K C) (ha : PA X (e :: es) t)
    (hdb : (x == ("__debug__" : Str)) = false := by decide) (he : starEach (e :: es) X.env = (false, eval e X.env) :: starEach es X.env := by rfl) (hpl : (backTo cpos (starEach es X.env)).any (·.1) = false := by rfl) :
    PS X (.Raise (some (.Call (.Name x np) (e :: es) [] cpos)) none pos) (tRaise C E t) := by
  intro pins s σ H D I h
  obtain ⟨bm, N, nm, q, bs, hdct, sn, sub, ab, col, dd, k0, k1, k2, k3, k5, mN, gC, gN, gi, gT⟩ := exc_obj I.mod.kin hC
  refine wpAny_Raise_call_subU (C := C) (nm := nm) (q := q) (N := N) (bs := bs) (bm := bm) (hdct := hdct) (sn := sn) (sub := sub) (ab := ab) (col := col) (dd := dd) (k0 := k0) (k1 := k1) (k2 := k2) (k3 := k3) (k5 := k5)
    PySem.F.excBase_ValueError (by decide +kernel) PySem.F.excBase_ValueError (mN := mN) (gT.hasType PySem.F.excBase_ValueError.hasBase) (I.ok.hd hc)
    (by rw [he]; show (false || (backTo cpos (starEach es X.env)).any (·.1)) = false; rw [hpl]; rfl) gi (ld_glob I hg hm ⟨rfl, ?_⟩ hdb)
  have hq := ha cpos pins s σ H _ I h
  rw [he] at hq ⊢
  refine Calls.evalArgs_plain (thn hq fun us s1 ⟨vs, H1, I1, r, z, y⟩ => ⟨rfl, by rw [← r.length]; exact z, I1.bk _ _ gC, gN.keeps I1.bk, gT.keeps I1.bk, fun h' e' hx => ?_⟩)
  exact hr pins σ H1 s1 h' e' _ us I1 hx y
def PassesS (CX : CXT) (X : Cx) (E : St → XK) : Prop := ∀ (pins : List (Addr × Obj)) (σ : St) (H : Hp) (s : Shared) (e : Value) (s' : Shared), Inv X pins σ H s → CX X.stack H s (E σ) e s' → X.xe e s'
def tCallS (sp : Sp) (dvs : List V) (E : St → XK) (t : TA) : TE := fun σ H Q => t σ H fun vs H1 => sp (vs ++ dvs) H1 Q (E σ)
section
variable {X : Cx} {CX : CXT} {k : Nat} {f : Addr} {fd : FuncData} {ps : List Str} {sp : Sp} {dvs : List V} {ds : List Value} {E : St → XK} {x : Str} {p pos : Pos} {e : Expr} {es : List Expr} {t : TA}
theorem pe_callS (F : FnOk X.prog X.w X.K X.mg X.base CX k f fd ps sp) (hr : Room k X.A) (hg : Gl X x) (hm : X.mg x = some (.ref f)) (hk : PySem.W.keepIn X.K (.ref f) = true) (hb : Binds X.K fd ps ds) (hd : Vals dvs ds) (hx : PassesS CX X E)
    (ha : PA X (e :: es) t) (hdb : (x == ("__debug__" : Str)) = false := by decide) (he : starEach (e :: es) X.env = (false, eval e X.env) :: starEach es X.env := by rfl) (hpl : (backTo pos (starEach es X.env)).any (·.1) = false := by rfl) :
    PE X (.Call (.Name x p) (e :: es) [] pos) (tCallS sp dvs E t) := by
  intro pins s σ H Q I h
  refine wpAny_Call_Name_kw (ld_glob I hg hm ?_ hdb)
  refine PySem.W.callWith_K (h₀ := X.base) I.ok.mod.kin hk (thn (ha pos pins s σ H _ I h) fun us s1 ⟨vs, H1, I1, r, q⟩ => ⟨I1.kIn, ?_⟩) he hpl
  have r2 : Vals (vs ++ dvs) (us ++ ds) := r.append hd
  have hl : (us ++ ds).length = ps.length := by rw [← r2.length]; exact F.len _ _ _ _ q
  refine wpAny_call (codeAny_mono (F.run X.A X.stack s1 H1 ⟨us, []⟩ (us ++ ds) (vs ++ dvs) Q (E σ) hr I1.env0 (hb s1 us I1.kIn hl) r2 q) fun r s' hq => ?_)
  cases r with
  | error ev => exact hx pins σ H1 s1 ev s' I1 hq
  | ok fl =>
    cases fl with
    | ret u => exact I1.after hq
    | next => exact False.elim hq
    | brk => exact False.elim hq
    | cont => exact False.elim hq
end
abbrev Cx.tr (X : Cx) (pins : List (Addr × Obj)) (xe : Value → Shared → Prop) : Cx := { X with pn := X.pn ++ pins, xe := xe }
abbrev Cx.su (X : Cx) (e : Addr) : Cx := { X with A := X.A.mark (some (.ref e)), calm := false, xe := fun _ _ => False }
section
variable {X : Cx} {pins pins' : List (Addr × Obj)} {σ : St} {H : Hp} {s : Shared} {xe : Value → Shared → Prop} {e : Addr}
theorem Cx.Ok.tr (ok : X.Ok) : (X.tr pins xe).Ok :=
  ⟨ok.mod, ok.kind, ok.glob, ok.blt, ok.above, ok.inj, ok.has, ok.cab, ok.hd, ok.frames, ok.stk, ok.exf, ok.bs, ok.bsz, ok.noex, ok.exfs, ok.funs, ok.frf⟩
theorem Inv.tr (I : Inv X pins σ H s) : Inv (X.tr pins xe) [] σ H s := ⟨I.ok.tr, I.os, I.bare, I.base, I.loc, I.cell, I.free, I.freeC, fun p hp => I.pin p (by
    have z : p ∈ (X.pn ++ pins) ++ [] := hp
    rw [List.append_nil] at z
    exact z), I.hok, I.len⟩
theorem Inv.untr (ok : X.Ok) (I : Inv (X.tr pins xe) pins' σ H s) : Inv X pins σ H s := ⟨ok, I.os, I.bare, I.base, I.loc, I.cell, I.free, I.freeC, fun p hp => I.pin p (List.mem_append_left _ hp), I.hok, I.len⟩
theorem Cx.Ok.su (ok : X.Ok) : (X.su e).Ok :=
  ⟨ok.mod, ok.kind, ok.glob, ok.blt, ok.above, ok.inj, ok.has, ok.cab, fun z => absurd z Bool.false_ne_true, ok.frames, ok.stk, ok.exf, ok.bs, ok.bsz, ok.noex, ok.exfs, ok.funs, ok.frf⟩
theorem Inv.su (I : Inv X pins σ H s) : Inv (X.su e) pins σ H s := ⟨I.ok.su, I.os, I.bare, I.base, I.loc, I.cell, I.free, I.freeC, I.pin, I.hok, I.len⟩
theorem Inv.unsu (ok : X.Ok) (I : Inv (X.su e) pins σ H s) : Inv X pins σ H s := ⟨ok, I.os, I.bare, I.base, I.loc, I.cell, I.free, I.freeC, I.pin, I.hok, I.len⟩
end
abbrev TH := Value → Option Addr → Ends → St → Hp → Prop
def PH (X : Cx) (hs : List ExceptHandler) (t : TH) : Prop := ∀ (pins : List (Addr × Obj)) (s1 s : Shared) (σ : St) (H1 H : Hp) (D : Ends) (B : Heap) (e : Addr) (cls a0 : Value) (dv : Option Addr), Inv X pins σ H1 s1 → Flown X.prog X.w X.stack H1 s1 H s B e cls a0 dv → t cls dv D σ H →
  wpAny (model X.prog X.w) X.A (handleBy (.ref e) X.env hs) (SP X pins D) X.xe s
def Ends.gone (D : Ends) (i : Nat) : Ends := ⟨fun σ H => D.nx (σ.set i none) H, D.rt, fun σ H => D.bk (σ.set i none) H, fun σ H => D.ct (σ.set i none) H⟩
theorem gone_ok {X : Cx} {pins : List (Addr × Obj)} {σ : St} {H : Hp} {s : Shared} {i : Nat} {n : Str} {pos : Pos} {E : Value → Shared → Prop} {Q : Unit → Shared → Prop} (I : Inv X pins σ H s) (hN : X.N.Nodup) (hi : X.N[i]? = some n) (hl : X.env.kindOf n = some .local)
    (h : ∀ s', Inv X pins (σ.set i none) H s' → Q () s') : wpAny (model X.prog X.w) X.A (do bindName X.env n .none; unbindBehindTheSuite X.env n pos) Q E s := by
  obtain ⟨m, hn, hv⟩ := id I.loc
  have hiσ : i < σ.length := by rw [I.len]; exact (List.getElem?_eq_some_iff.mp hi).1
  refine wpAny_nameGoes_keeps hl hn (by rw [I.ok.kind]; rfl) fun h' v hn' hs => h _ ?_
  have nL : ∀ b o, X.s₀.heap.get? b = some o → b ≠ X.env.locals := fun b o z => Nat.ne_of_lt (Nat.lt_of_lt_of_le (Heap.lt_size z) I.ok.above)
  refine ⟨I.ok, I.os, I.bare, ⟨fun b o z nn hb hx => ?_, fun b o z nn hb hx => ?_, I.base.free, fun b o z hx => ?_, I.base.tups, I.base.frzs, I.base.tbls⟩, ⟨_, hn', fun j y v' e1 e2 e3 => ?_⟩, fun y c z => ?_, I.free, I.freeC, fun p hp => ?_, fun b ob z => ?_, by simpa using I.len⟩
  · exact (hs.2 b (nL b o z)).trans (I.base.keep b o z nn hb hx)
  · obtain ⟨sl, q⟩ := I.base.slot b o z nn hb hx
    exact ⟨sl, (hs.2 b (nL b o z)).trans q⟩
  · obtain ⟨o', q⟩ := I.base.there b o z hx
    exact ⟨o', (hs.2 b (nL b o z)).trans q⟩
  · by_cases hj : j = i
    · subst hj
      rw [List.getElem?_set_self hiσ] at e2
      cases e2
    · rw [List.getElem?_set_ne (Ne.symm hj)] at e2
      obtain ⟨u', r', q⟩ := hv j y v' e1 e2 e3
      refine ⟨u', r', ?_⟩
      rcases q with ⟨k, z⟩ | ⟨k, c, z, y2⟩
      · have ny : y ≠ n := fun z => hj (nodup_ix hN e1 (z ▸ hi))
        exact .inl ⟨k, by simp [ny, z]⟩
      · exact .inr ⟨k, c, z, y2.sameBut hs (I.cne y c z)⟩
  · obtain ⟨w', y2⟩ := I.cell y c z
    exact ⟨w', y2.sameBut hs (I.cne y c z)⟩
  · obtain ⟨z, nn, ne, nf, d⟩ := I.pin p hp
    exact ⟨(hs.2 p.1 ne).trans z, nn, ne, nf, d⟩
  · refine (I.hok b ob z).stay (fun c w' hc q => (hs.2 c ?_).trans q) (fun _ q => q) fun _ _ q => q
    have fr := I.free
    rintro rfl
    rcases hc with rfl | hc
    · rw [fr] at z; cases z
    · rw [fr] at hc; cases hc
theorem exc_ty {X : Cx} {H H1 : Hp} {s s1 : Shared} {B : Heap} {e : Addr} {cls a0 : Value} {dv : Option Addr} (F : Flown X.prog X.w X.stack H1 s1 H s B e cls a0 dv) : PySem.W.Looks (model X.prog X.w) s.heap (typeOf (.ref e)) cls := by
  obtain ⟨oe, q, hc⟩ := F.fly.there
  subst hc
  exact (PySem.W.Looks.ld q).andThen .now
def tH (K : PySem.W.Frag) (c : Value) (i : Nat) (ts : TS) (th : TH) : TH := fun cls dv D σ H =>
  (PySem.W.exmOne K cls c = some true ∧ ∀ e, H e = none → ts (D.gone i) (σ.set i (some (.ref e))) (upd H e (excD e cls dv))) ∨ (PySem.W.exmOne K cls c = some false ∧ th cls dv D σ H)
theorem ph_as {X : Cx} {x n : Str} {c : Value} {i : Nat} {b₀ : Stmt} {suite : List Stmt} {rest : List ExceptHandler} {ts : TS} {th : TH} {np pos : Pos} (hN : X.N.Nodup) (hi : X.N[i]? = some n) (hl : X.env.scope.names.lookup n = some .local)
    (hc : ∀ (A : Around) (E : Value → Shared → Prop) (Q : Value → Shared → Prop) (pins : List (Addr × Obj)) (σ : St) (H : Hp) (s : Shared), Inv X pins σ H s → Q c s → wpAny (model X.prog X.w) A (eval (.Name x np) X.env) Q E s)
    (hsu : ∀ e, PSs (X.su e) (b₀ :: suite) ts) (hr : PH X rest th) : PH X (.ExceptHandler (some (.Name x np)) (some n) (b₀ :: suite) pos :: rest) (tH X.K c i ts th) := by
  intro pins s1 s σ H1 H D B e cls a0 dv I F h
  have I2 := F.inv I
  refine wpAny_handleBy_cons (codeAny_handlers_test (hc _ _ _ pins σ _ s I2 ?_)) (by intro q; cases q)
  rcases h with ⟨yes, hs⟩ | ⟨no, hs⟩
  · refine (PySem.W.exm_one I2.kIn (exc_ty F) yes).here ?_
    refine codeAny_handlers_suite_as ?_
    refine lands_againD F.fly F.dic fun h2 fl dc up => ?_
    have F3 := F.go fl up dc
    have I3 := F3.inv I
    refine store_ok (X := X.su e) (v := .ref e) I3.su hN hi (.inl hl) rfl (fun s4 I4 => ?_) (.inr hl)
    refine wpAny_mono (hsu e pins s4 _ _ _ I4 (hs e F.enew.2)) (fun f s5 q5 => ?_) fun _ _ z => False.elim z
    cases f with
    | next =>
      obtain ⟨σ5, H5, I5, q5⟩ := q5
      exact gone_ok (I5.unsu I.ok) hN hi hl fun s6 I6 => ⟨_, H5, I6, q5⟩
    | brk =>
      obtain ⟨σ5, H5, I5, q5⟩ := q5
      exact gone_ok (I5.unsu I.ok) hN hi hl fun s6 I6 => ⟨_, H5, I6, q5⟩
    | cont =>
      obtain ⟨σ5, H5, I5, q5⟩ := q5
      exact gone_ok (I5.unsu I.ok) hN hi hl fun s6 I6 => ⟨_, H5, I6, q5⟩
    | ret u =>
      obtain ⟨v5, σ5, H5, I5, r5, q5⟩ := q5
      exact gone_ok (I5.unsu I.ok) hN hi hl fun s6 I6 => ⟨v5, _, H5, I6, r5, q5⟩
  · refine (PySem.W.exm_one I2.kIn (exc_ty F) no).here ?_
    exact hr pins s1 s σ H1 H D B e cls a0 dv I F hs
def tHno : TH := fun _ _ _ _ _ => False
theorem ph_no {X : Cx} {hs : List ExceptHandler} : PH X hs tHno := fun _ _ _ _ _ _ _ _ _ _ _ _ _ _ h => h.elim
def tTry (tb : (St → XK) → TS) (th : TH) : TS := fun D σ H => tb (fun σ' cls dv H' => th cls dv D σ' H') D σ H
theorem ps_try {X : Cx} {body : List Stmt} {h0 : ExceptHandler} {hs : List ExceptHandler} {tb : (St → XK) → TS} {th : TH} {pos : Pos} (hst : X.stack = X.env :: X.outer) (hfr : X.env.frame = some X.env.locals)
    (hb : ∀ (pins : List (Addr × Obj)) (xe : Value → Shared → Prop) (E : St → XK), PassesS (CXe X.prog X.w) (X.tr pins xe) E → PSs (X.tr pins xe) body (tb E)) (hh : PH X (h0 :: hs) th) : PS X (.Try body (h0 :: hs) [] [] pos) (tTry tb th) := by
  intro pins s σ H D I h
  have pass : PassesS (CXe X.prog X.w) (X.tr pins fun ev s1 => wpAny (model X.prog X.w) X.A (noteFrame ev X.env) (fun _ s2 => wpAny (model X.prog X.w) X.A (setFlight ev none) (fun _ s3 => wpAny (model X.prog X.w) X.A (handleBy ev X.env (h0 :: hs)) (SP X pins D) X.xe s3) X.xe s2) X.xe s1)
      (fun σ' cls dv H' => th cls dv D σ' H') := by
    intro pins' σ' H' s' ev s'' I' hx
    obtain ⟨e, cls, a0, dv, H2, B, rfl, F, q⟩ := hx
    have F : Flown X.prog X.w X.stack H' s' H2 s'' B e cls a0 dv := F
    have fl0 := F.fly
    rw [hst] at fl0
    refine note_next (by rw [I.ok.frames, hst]) hfr fl0 F.dic fun h4 held dc4 up4 => ?_
    refine lands_dic held dc4 fun h5 fl5 dc5 up5 => ?_
    rw [← hst] at fl5
    exact hh pins s' _ σ' H' H2 D B e cls a0 dv (I'.untr I.ok) (F.go fl5 (up4.trans up5) dc5) q
  refine wpAny_Try_except (wpAny_mono (hb pins _ _ pass [] s σ H D I.tr h) (fun f s1 q1 => ?_) fun _ _ z => z)
  cases f with
  | next =>
    obtain ⟨σ1, H1, I1, q1⟩ := q1
    exact wpAny_execs_nil ⟨σ1, H1, I1.untr I.ok, q1⟩
  | brk => obtain ⟨σ1, H1, I1, q1⟩ := q1; exact ⟨σ1, H1, I1.untr I.ok, q1⟩
  | cont => obtain ⟨σ1, H1, I1, q1⟩ := q1; exact ⟨σ1, H1, I1.untr I.ok, q1⟩
  | ret u => obtain ⟨v1, σ1, H1, I1, r1, q1⟩ := q1; exact ⟨v1, σ1, H1, I1.untr I.ok, r1, q1⟩
end L2
namespace L2
open PySem PySem.Spec PyProof.Rows PySem.Builtin PySem.Builtin.ObjectAttr PySem.Builtin.Getset_descriptor PySem.W
structure XCls (K : Frag) (C : Addr) : Prop where
  ga : findIn K (.ref C) "__getattribute__" = some (some (.builtin "BaseException.__getattribute__"))
  gt : findIn K (.ref C) "__getattr__" = some none
  be : mroIn K C (.type "BaseException") = some true
  ob : mroIn K C (.type "object") = some true
  cl : findIn K (.ref C) "__class__" = some (some (.builtin "object.__class__"))
  gs : specialIn K (.builtin "object.__class__") "__get__" = some (some (.builtin "getset_descriptor.__get__"))
  tk : takesIn K (.builtin "object.__class__") = some true
  is : (clsIn K C).isSome = true
section
variable {prog : Program} {w : World} {A : Around} {E : Value → Shared → Prop} {s : Shared} {K : Frag} {x C : Addr} {ox : Obj} {od : Option Obj} {name : Str}
theorem exc_check {nameV : Value} {Q : Unit → Shared → Prop} (kin : K.In s.heap) (L : ∀ M : Model, Looks M s.heap (typeOf (.ref x)) (.ref C)) (c : XCls K C) (h : Q () s) : wpAny (model prog w) A (checkBuiltinCall "BaseException.__getattribute__" ⟨[.ref x, nameV], []⟩) Q E s := by
  obtain ⟨hh, g, d, t, os⟩ := s
  have hk : builtinKind "BaseException.__getattribute__" = some .slot := by decide +kernel
  have hsplit : splitId "BaseException.__getattribute__" = some ("BaseException", "__getattribute__") := by decide +kernel
  have ha := F.args_bexc_ga (.ref x) nameV
  have L0 := L (model prog w)
  have L1 : Looks (model prog w) hh (isInstance (.ref x) (.type "BaseException")) true := L0.andThen (looks_mroIn kin c.be)
  simp only [checkBuiltinCall, hk, hsplit]
  refine wpAny_bind (L1.at ?_)
  rw [if_neg (by decide)]
  exact wpAny_of_eq ha h
theorem exc_by {tk : Tok} {fill expr : Bool} {Q : Value → Shared → Prop} (kin : K.In s.heap) (L : ∀ M : Model, Looks M s.heap (typeOf (.ref x)) (.ref C)) (c : XCls K C)
    (h : wpAny (model prog w) A.in1 (Builtin.«object.__getattribute__» ⟨[.ref x, .str name tk], []⟩) (fun fin s' => match fin with | .done (.ret v) => handedIn v = true ∧ Q v s' | _ => False) (fun _ _ => False) s) :
    wpAny (model prog w) A (getAttrBy (.ref x) (.str name tk) fill expr) Q E s := by
  obtain ⟨hh, g, d, t, os⟩ := s
  have L0 := L (model prog w)
  have L1 := looks_findIn (M := model prog w) kin c.ga
  have L2 := looks_findIn (M := model prog w) kin c.gt
  unfold getAttrBy
  refine wpAny_holding (wpAny_bind (L0.at (wpAny_bind (L1.at ?_))))
  show wpAny _ _ (getAttrByItsOwn _ _ _ _ _ _) _ _ _
  unfold getAttrByItsOwn
  refine wpAny_bind ?_
  show wpAny _ _ (typeLookup (.ref C) "__getattr__") _ _ _
  refine L2.at ?_
  refine wpAny_bind (wpAny_attempt (wpAny_holding ?_))
  have e1 : callGetattribute (.ref x) (.str name tk) (.builtin "BaseException.__getattribute__") expr = boundAndCalled (.builtin "BaseException.__getattribute__") (.ref x) (.str name tk) := by
    unfold callGetattribute
    cases expr <;> rfl
  rw [e1]
  unfold boundAndCalled
  refine wpAny_bind (wpAny_of_eq (PySem.F.attr_ValueError.ga.bind _) ?_)
  refine wpAny_call (codeAny_call_builtin PySem.F.attr_ValueError.ga.plain F.entry_bexc_ga (exc_check (nameV := .str name tk) kin L c ?_))
  refine wpAny_mono h (fun fin s' z => ?_) fun _ _ z => False.elim z
  rcases fin with (_ | _ | _ | _) | _ <;> first | exact z.elim | skip
  exact handed_on z.1 z.2
theorem exc_find_cls {M : Model} {h : Heap} (kin : K.In h) (c : XCls K C) : Looks M h (find (.ref x) (.ref C) "__class__") (.bind (.builtin "getset_descriptor.__get__") (.builtin "object.__class__")) :=
  (looks_findIn kin c.cl).andThen ((show Looks M h (getOf (some (.builtin "object.__class__"))) (some (.builtin "getset_descriptor.__get__")) from looks_specialIn kin c.gs).andThen
    ((show Looks M h (dataDescriptor? (some (.builtin "object.__class__")) (some (.builtin "getset_descriptor.__get__"))) (some (_, _)) from (looks_takesIn kin c.tk).andThen .now).andThen (Looks.tag .now)))
theorem exc_cls_get {tp : Value} {R : Result → Shared → Prop} (kin : K.In s.heap) (L : ∀ M : Model, Looks M s.heap (typeOf (.ref x)) (.ref C)) (c : XCls K C) (q : R (.ok (.ret (.ref C))) s) :
    codeAny (model prog w) A (.call (.builtin "getset_descriptor.__get__") ⟨[.builtin "object.__class__", .ref x, tp], []⟩) R s := by
  obtain ⟨hh, g, dr, t, os⟩ := s
  have T0 := L (model prog w)
  have T1 := looks_mroIn (M := model prog w) kin c.ob
  refine codeAny_call_builtin KF.slot_gs.plain KF.entry_gs (KF.slot_gs.check _ _ _ _ _ _ _ _ KF.type_class (KF.args_gs _ _ _) ?_)
  unfold Builtin.«getset_descriptor.__get__» descrGet
  rw [dga_obj]
  refine wpAny_bind (wpAny_pure ?_)
  unfold descrGetter
  unfold descrCheckInstance descrNameAndClass isInstance
  simp only [KF.owner_class]
  repeat lk
  refine And.intro (Code.quiet_builtin _ (by decide +kernel)) (codeAny_builtin KF.entry_class ?_)
  unfold Builtin.«object.__class__»
  unfold shownTypeOf
  repeat lk
  exact q
theorem exc_ca {Q : Option Value → Shared → Prop} (kin : K.In s.heap) (L : ∀ M : Model, Looks M s.heap (typeOf (.ref x)) (.ref C)) (c : XCls K C) (q : Q (some (.ref C)) { s with toks := s.toks + 1 }) :
    wpAny (model prog w) A (getAttr? (.ref x) "__class__") Q E s := by
  unfold getAttr? getAttrBy?
  refine wpAny_bind (wpAny_mkText (wpAny_bind (wpAny_attempt ?_)))
  refine exc_by (s := { s with toks := s.toks + 1 }) kin L c ?_
  obtain ⟨hh, g, dr, t, os⟩ := s
  have T0 := L (model prog w)
  have T1 := exc_find_cls (x := x) (M := model prog w) kin c
  unfold Builtin.«object.__getattribute__»
  refine wpAny_bind (wpAny_pure (wpAny_bind (wpAny_pure (wpAny_bind (T0.at (wpAny_bind (T1.at ?_)))))))
  show wpAny _ _ (bindTo _ _ _ _) _ _ _
  unfold bindTo
  dsimp only
  refine wpAny_bind (wpAny_holding (wpAny_call (exc_cls_get (s := ⟨hh, g, dr, t + 1, os⟩) kin L c ?_)))
  exact wpAny_pure ⟨rfl, wpAny_pure q⟩
end
def excIs (e : Addr) (cls : Value) (h : Heap) : Prop := ∃ oe ws, h.get? e = some oe ∧ oe.cls = cls ∧ oe.data = .fields ws
theorem excIs.ty {M : Model} {e : Addr} {cls : Value} {h : Heap} (p : excIs e cls h) : Looks M h (typeOf (.ref e)) cls := by
  obtain ⟨oe, ws, q, hc, _⟩ := p
  subst hc
  exact (Looks.ld q).andThen .now
theorem kitx_exc {K : Frag} {e C : Addr} (c : XCls K C) : KitX K (.ref e) (.ref C) (excIs e (.ref C)) where
  ty := fun _ _ _ p => p.ty
  it := fun _ _ kin _ => by
    have z := c.is
    unfold clsIn at z
    split at z
    · rename_i ho
      intro A' Q' E' s' k q
      unfold isType loadHead
      exact wpAny_bind (wpAny_loadPart (k _ _ (kin _ _ ho)) (wpAny_pure q))
    · cases z
  ne := fun h tp dd its n sl kin htp => by
    refine Bool.eq_false_iff.mpr fun q => ?_
    have z := c.is
    cases Value.ref.inj (beq_iff_eq.mp q)
    unfold clsIn at z
    split at z
    · rename_i ho
      cases (kin _ _ ho).symm.trans htp
    · cases z
  ca := fun kin p k => exc_ca kin (fun M => p.ty) c k
inductive TyX (K : Frag) (H : Hp) : V → Value → Prop where
  | of {x : V} {t : Value} (h : TyOf K H x t) : TyX K H x t
  | exc {a C : Addr} {dv : Option Addr} (e : H a = some (excD a (.ref C) dv)) (c : XCls K C) : TyX K H (.ref a) (.ref C)
def clsV : V → Option Value
  | .ref C => some (.ref C)
  | .ty n => some (.type n)
  | _ => none
def rIsi (K : Frag) : List V → Hp → VK → Prop := fun xs H Q => ∃ x c cv t b, xs = [x, c] ∧ clsV c = some cv ∧ TyX K H x t ∧ kitOne K t cv = some b ∧ Q (.bl b) H
theorem call_isi {X : Cx} : CallR X (.builtin "isinstance") (rIsi X.K) := by
  intro pins s σ H xs us Q I r h
  obtain ⟨x, c, cv, t, b, rfl, hc, ty, hk, q⟩ := h
  obtain ⟨u, u', rfl, r1, r2⟩ := vals2 r
  have e2 : u' = cv := by
    cases c with
    | ref C => cases hc; exact r2
    | ty n => cases hc; exact r2
    | _ => cases hc
  subst e2
  have fin : ∀ tk, EP X pins σ Q (.bool b) { s with toks := tk } := fun tk => ⟨.bl b, H, I.tok tk, rfl, q⟩
  cases ty with
  | of z => exact isinst_ok I r1 z hk fin
  | @exc a C dv ea c =>
    cases (show u = Value.ref a from r1)
    obtain ⟨⟨oe, ws, p1, p2, p3, _⟩, _, _⟩ := (show ObjOk X.prog X.w H s.heap a (excD a (.ref C) dv) from I.hok a _ ea)
    exact kia_one (kitx_exc c) I.kIn ⟨oe, ws, p1, p2, p3⟩ hk (fun z => nomatch z) fin
end L2
namespace L2
open PySem PySem.Spec PyProof.Rows
structure RoomU (k : Nat) (A : Around) : Prop where
  dp : A.depth + 3 * k + 5 < recursionLimit
  un : A.units + 16 * k + 200 < cLine
theorem RoomU.mono {j k : Nat} {A : Around} (r : RoomU k A) (h : j ≤ k) : RoomU j A := ⟨by have := r.dp; omega, by have := r.un; omega⟩
theorem RoomU.deeper {k : Nat} {A : Around} (r : RoomU (k + 1) A) (env : Env) : RoomU k (A.deeper env) :=
  ⟨by have := r.dp; show A.depth + 1 + 3 * k + 5 < _; omega, by have := r.un; show A.units + 3 + 16 * k + 200 < _; omega⟩
theorem RoomU.depth {k : Nat} {A : Around} (r : RoomU k A) : A.depth < recursionLimit := by have := r.dp; omega
theorem Room.su {k : Nat} {X : Cx} {e : Addr} (r : Room k X.A) : RoomU k (X.su e).A := ⟨r.dp, r.un⟩
structure FnOkU (P : Program) (w : World) (K : PySem.W.Frag) (mg : Str → Option Value) (base : Heap) (CX : CXT) (k : Nat) (f : Addr) (fd : FuncData) (ps : List Str) (sp : Sp) : Prop where
  len : ∀ vs H Q E, sp vs H Q E → vs.length = ps.length
  run : ∀ (A : Around) (outer : List Env) (s : Shared) (H : Hp) (args : Args) (us : List Value) (vs : List V) (Q : VK) (E : XK), RoomU k A → Env0 P w K mg base A outer s H → BindsTo s fd args (ps.zip us) → Vals vs us → sp vs H Q E →
    codeAny (model P w) A (.call (.ref f) args) (CR CX outer P w H s Q E) s
def cxU (CX : CXT) (P : Program) (w : World) (K : PySem.W.Frag) (mg : Str → Option Value) (base : Heap) (N : List Str) (qual : Str) (scope : Scope) (f : Addr) (cd : Value) (A : Around) (outer : List Env) (s : Shared) (H : Hp) (E : XK) : Cx :=
  { cxOf CX P w K mg base N qual scope f cd A outer s H E with calm := false }
theorem inv_startU {CX : CXT} {P : Program} {w : World} {K : PySem.W.Frag} {mg : Str → Option Value} {base : Heap} {N ps : List Str} {qual : Str} {scope : Scope} {f : Addr} {cd : Value} {A : Around} {outer : List Env} {s s1 : Shared} {H : Hp} {E : XK} {us : List Value} {vs : List V}
    (S : FnScope N ps scope) (e0 : Env0 P w K mg base A outer s H) (hl : vs.length = ps.length) (r : Vals vs us)
    (x : InCallC s s.heap.objs.size (bindL (envOfC qual scope s.heap.objs.size f cd).kindOf (ps.zip us) fun _ => none) (cellsFrom (s.heap.objs.size + 1) scope.names []) (bindC (envOfC qual scope s.heap.objs.size f cd).kindOf (ps.zip us) fun _ => none) s1) :
    Inv (cxU CX P w K mg base N qual scope f cd A outer s H E) [] (start N vs) H s1 := by
  have hpl : ps.length ≤ N.length := by have := congrArg List.length S.pre; rw [List.length_take] at this; omega
  obtain ⟨h1, tk, rfl, hk⟩ := x.done
  have noA : ∀ b : Addr, b ∉ (cxU CX P w K mg base N qual scope f cd A outer s H E).ex := fun b z => absurd (show b ∈ ([] : List Addr) from z) (by simp)
  refine ⟨⟨e0.mod, S.kind, rfl, rfl, Nat.le_refl _, fun y z c h1 h2 => ?_, fun y hy => ?_, fun y c _ h => ?_, fun z => absurd z Bool.false_ne_true, Around.frames_deeper e0.frames, .inr ⟨rfl, rfl⟩, fun b z => absurd z (noA b), e0.bs, e0.bsz, fun b _ _ => noA b, fun b z => absurd z (noA b), e0.funs, e0.frf⟩,
    rfl, e0.bare, Un.kept hk, ⟨_, x.toInCall.ns, fun i y v h1 h2 h3 => ?_⟩, fun y c h => ⟨_, x.cell y c h⟩, e0.hok.fresh (Nat.le_refl _), fun y c h => ?_, fun p hp => absurd (show p ∈ ([] : List (Addr × Obj)) from hp) (by simp), e0.hok.kept hk, ?_⟩
  · exact name_of_addr x.apart (PySem.mem_of_lookup h1) (PySem.mem_of_lookup h2)
  · have hy : scope.names.lookup y = some .cell ∨ scope.names.lookup y = some .free := hy
    rcases hy with hy | hy
    · exact cell_has hy
    · exact absurd rfl (S.nofree _ (PySem.mem_of_lookup hy))
  · exact Nat.le_of_lt (x.above y c (PySem.mem_of_lookup h))
  · have hi : i < vs.length := by
      unfold start at h2
      by_cases hi : i < vs.length
      · exact hi
      · rw [List.getElem?_append_right (by simpa using hi)] at h2
        rw [List.getElem?_replicate] at h2
        split at h2 <;> cases h2
    have ha : vs[i]? = some v := by
      unfold start at h2
      rw [List.getElem?_append_left (by simpa using hi), List.getElem?_map] at h2
      cases e : vs[i]? with
      | none => rw [e] at h2; cases h2
      | some a => rw [e] at h2; cases h2; rfl
    obtain ⟨u, hu, rv⟩ := r.get ha
    have hp : ps[i]? = some y := by
      rw [← S.pre, List.getElem?_take_of_lt (by omega)]; exact h1
    have ndP : ps.Nodup := by rw [← S.pre]; exact S.nd.sublist (List.take_sublist _ _)
    refine ⟨u, rv, ?_⟩
    rcases S.par y (List.mem_of_getElem? hp) with k | k
    · exact .inl ⟨k, bindL_get ndP hp hu k⟩
    · obtain ⟨c, e⟩ := cell_has (n := s.heap.objs.size + 1) k
      refine .inr ⟨.inl k, c, e, ?_⟩
      have q := x.cell y c e
      rw [bindC_get ndP hp hu (by show scope.names.lookup y ≠ _; rw [k]; decide)] at q
      exact q
  · exact e0.hok.fresh (Nat.le_of_lt (x.above y c (PySem.mem_of_lookup h)))
  · unfold start
    show _ = N.length
    rw [List.length_append, List.length_map, List.length_replicate]
    omega
theorem fn_ofU {CX : CXT} {P : Program} {w : World} {K : PySem.W.Frag} {mg : Str → Option Value} {base : Heap} {k : Nat} {f : Addr} {name qual : Str} {params : Arguments} {body : List Stmt} {scope : Scope} {dV kV doc pm cdv ct oc : Value} {an od : Option Addr}
    {osl : Array (Option Value)} {N ps : List Str} {sp : Sp} (lk : K.lookup f = some ⟨oc, od, .func (PySem.W.fnOf name qual params body scope dV kV doc pm an cdv ct), osl⟩) (hcd : PySem.W.codeIn K cdv qual = true) (S : FnScope N ps scope)
    (len : ∀ vs H Q E, sp vs H Q E → vs.length = ps.length)
    (hbody : ∀ (A : Around) (outer : List Env) (s : Shared) (H : Hp) (vs : List V) (Q : VK) (E : XK), RoomU k (A.deeper (envOfC qual scope s.heap.objs.size f cdv)) → sp vs H Q E →
      ∃ t, PSs (cxU CX P w K mg base N qual scope f cdv A outer s H E) body t ∧ t { nx := fun _ H' => Q .non H', rt := Q } (start N vs) H) :
    FnOkU P w K mg base CX (k + 1) f (PySem.W.fnOf name qual params body scope dV kV doc pm an cdv ct) ps sp := by
  refine ⟨len, fun A outer s H args us vs Q E hr e0 hb r hsp => ?_⟩
  have hl := len _ _ _ _ hsp
  have KX : K.In s.heap := e0.mod.kin.keeps fun b o e => (e0.bs b o e).1
  have lim : s.heap.NoLimit := e0.mod.nolimit.keeps fun b o e => (e0.bs b o e).1
  have hkind : ∀ y ∈ ps.zip us, scope.names.lookup y.1 = some .local ∨ (scope.names.lookup y.1 = some .cell ∧ ((cellsFrom (s.heap.objs.size + 1) scope.names []).lookup y.1).isSome = true) := fun ⟨n, v⟩ hy => by
    rcases S.par n (List.of_mem_zip hy).1 with q | q
    · exact .inl q
    · exact .inr ⟨q, PySem.W.cellsFrom_some _ _ _ (.inl q)⟩
  refine codeAny_call_function hr.depth (KX _ _ lk) rfl S.co S.gen rfl (PySem.W.codeRec_of KX hcd) (hb _ _ _ _ ?_)
  refine wpAny_newFunctionEnv_cells S.kind hkind fun env he s1 x => ?_
  subst he
  refine ⟨lim.keeps x.toInCall.keep, codeAny_func ?_⟩
  obtain ⟨t, ht, hq⟩ := hbody A outer s H vs Q E (hr.deeper _) hsp
  have I : Inv (cxU CX P w K mg base N qual scope f cdv A outer s H E) [] (start N vs) H s1 := inv_startU S e0 hl r x
  refine wpAny_mono (ht [] s1 (start N vs) H _ I hq) (fun fl s' hs => ?_) fun e s' hs => hs
  have fin : ∀ {σ' : St} {H' : Hp} {v : V} {u : Value}, Inv (cxU CX P w K mg base N qual scope f cdv A outer s H E) [] σ' H' s' → RelV v u → Q v H' → CE outer P w H s Q u s' :=
    fun {σ' H' v u} J rv q => ⟨v, H', J.os, J.bare, J.base, J.hok, rv, q⟩
  cases fl with
  | ret u =>
    obtain ⟨v, σ', H', J, rv, q⟩ := hs
    exact fin J rv q
  | next =>
    obtain ⟨σ', H', J, q⟩ := hs
    exact fin (v := V.non) (u := Value.none) J rfl q
  | brk =>
    obtain ⟨_, _, _, q⟩ := hs
    exact False.elim q
  | cont =>
    obtain ⟨_, _, _, q⟩ := hs
    exact False.elim q
section
variable {X : Cx} {CX : CXT} {k : Nat} {f : Addr} {fd : FuncData} {ps : List Str} {sp : Sp} {dvs : List V} {ds : List Value} {E : XK} {x : Str} {p pos : Pos} {e : Expr} {es : List Expr} {t : TA}
theorem pe_callU (F : FnOkU X.prog X.w X.K X.mg X.base CX k f fd ps sp) (hr : RoomU k X.A) (hg : Gl X x) (hm : X.mg x = some (.ref f)) (hk : PySem.W.keepIn X.K (.ref f) = true) (hb : Binds X.K fd ps ds) (hd : Vals dvs ds) (hx : Passes CX X E)
    (ha : PA X (e :: es) t) (hdb : (x == ("__debug__" : Str)) = false := by decide) (he : starEach (e :: es) X.env = (false, eval e X.env) :: starEach es X.env := by rfl) (hpl : (backTo pos (starEach es X.env)).any (·.1) = false := by rfl) :
    PE X (.Call (.Name x p) (e :: es) [] pos) (tCall sp dvs E t) := by
  intro pins s σ H Q I h
  refine wpAny_Call_Name_kw (ld_glob I hg hm ?_ hdb)
  refine PySem.W.callWith_K (h₀ := X.base) I.ok.mod.kin hk (thn (ha pos pins s σ H _ I h) fun us s1 ⟨vs, H1, I1, r, q⟩ => ⟨I1.kIn, ?_⟩) he hpl
  have r2 : Vals (vs ++ dvs) (us ++ ds) := r.append hd
  have hl : (us ++ ds).length = ps.length := by rw [← r2.length]; exact F.len _ _ _ _ q
  refine wpAny_call (codeAny_mono (F.run X.A X.stack s1 H1 ⟨us, []⟩ (us ++ ds) (vs ++ dvs) Q E hr I1.env0 (hb s1 us I1.kIn hl) r2 q) fun r s' hq => ?_)
  cases r with
  | error ev => exact hx pins σ H1 s1 ev s' I1 hq
  | ok fl =>
    cases fl with
    | ret u => exact I1.after hq
    | next => exact False.elim hq
    | brk => exact False.elim hq
    | cont => exact False.elim hq
end
section
variable {P : Program} {w : World} {K : PySem.W.Frag} {mg : Str → Option Value} {base : Heap} {x qual : Str} {st : Stmt} {f : Addr} {fd : FuncData} {N ps : List Str} {k : Nat} {sp : Sp}
theorem Fun.okE (F : Fun K x qual st f fd) (S : FnScope N ps (defScope st)) (len : ∀ vs H Q E, sp vs H Q E → vs.length = ps.length)
    (hbody : ∀ (cdv : Value) (A : Around) (outer : List Env) (s : Shared) (H : Hp) (vs : List V) (Q : VK) (E : XK), Room k (A.deeper (envOfC qual (defScope st) s.heap.objs.size f cdv)) → sp vs H Q E →
      ∃ t, PSs (cxOf (CXe P w) P w K mg base N qual (defScope st) f cdv A outer s H E).nox (defBody st) t ∧ t { nx := fun _ H' => Q .non H', rt := Q } (start N vs) H) : FnOk P w K mg base (CXe P w) (k + 1) f fd ps sp := by
  obtain ⟨oc, od, kV, doc, pm, an, cdv, ct, osl, rfl, lk, hcd⟩ := F.ex
  refine fn_of lk hcd S len fun A outer s H vs Q E hr hsp => ?_
  obtain ⟨t, h, q⟩ := hbody cdv A outer s H vs Q E hr hsp
  exact ⟨t, h.nox, q⟩
theorem Fun.okX (F : Fun K x qual st f fd) (S : FnScope N ps (defScope st)) (len : ∀ vs H Q E, sp vs H Q E → vs.length = ps.length)
    (hbody : ∀ (cdv : Value) (A : Around) (outer : List Env) (s : Shared) (H : Hp) (vs : List V) (Q : VK) (E : XK), Room k (A.deeper (envOfC qual (defScope st) s.heap.objs.size f cdv)) → sp vs H Q E →
      ∃ t, PSs (cxOf (CXe P w) P w K mg base N qual (defScope st) f cdv A outer s H E) (defBody st) t ∧ t { nx := fun _ H' => Q .non H', rt := Q } (start N vs) H) : FnOk P w K mg base (CXe P w) (k + 1) f fd ps sp := by
  obtain ⟨oc, od, kV, doc, pm, an, cdv, ct, osl, rfl, lk, hcd⟩ := F.ex
  exact fn_of lk hcd S len fun A outer s H vs Q E hr hsp => hbody cdv A outer s H vs Q E hr hsp
theorem Fun.okU (F : Fun K x qual st f fd) (S : FnScope N ps (defScope st)) (len : ∀ vs H Q E, sp vs H Q E → vs.length = ps.length)
    (hbody : ∀ (cdv : Value) (A : Around) (outer : List Env) (s : Shared) (H : Hp) (vs : List V) (Q : VK) (E : XK), RoomU k (A.deeper (envOfC qual (defScope st) s.heap.objs.size f cdv)) → sp vs H Q E →
      ∃ t, PSs (cxU (CXe P w) P w K mg base N qual (defScope st) f cdv A outer s H E).nox (defBody st) t ∧ t { nx := fun _ H' => Q .non H', rt := Q } (start N vs) H) : FnOkU P w K mg base (CXe P w) (k + 1) f fd ps sp := by
  obtain ⟨oc, od, kV, doc, pm, an, cdv, ct, osl, rfl, lk, hcd⟩ := F.ex
  refine fn_ofU lk hcd S len fun A outer s H vs Q E hr hsp => ?_
  obtain ⟨t, h, q⟩ := hbody cdv A outer s H vs Q E hr hsp
  exact ⟨t, h.nox, q⟩
end
def Bd (n : Nat) (i : Int) : Prop := i.natAbs < 2 ^ n
theorem Bd.mono {m n : Nat} {i : Int} (h : Bd m i) (l : m ≤ n) : Bd n i := Nat.lt_of_lt_of_le h (Nat.pow_le_pow_right (by decide) l)
theorem Bd.mul {m n : Nat} {i j : Int} (h : Bd m i) (k : Bd n j) : Bd (m + n) (i * j) := by
  unfold Bd at *
  rw [Int.natAbs_mul, Nat.pow_add]
  exact Nat.mul_lt_mul'' h k
theorem Bd.add {n : Nat} {i j : Int} (h : Bd n i) (k : Bd n j) : Bd (n + 1) (i + j) := by
  unfold Bd at *
  have := Int.natAbs_add_le i j
  rw [Nat.pow_succ]
  omega
theorem Bd.neg {n : Nat} {i : Int} (h : Bd n i) : Bd n (-i) := by unfold Bd at *; rw [Int.natAbs_neg]; exact h
theorem Bd.sub {n : Nat} {i j : Int} (h : Bd n i) (k : Bd n j) : Bd (n + 1) (i - j) := by rw [Int.sub_eq_add_neg]; exact h.add k.neg
theorem Bd.le {n : Nat} {i j : Int} (h : Bd n i) (k : j.natAbs ≤ i.natAbs) : Bd n j := Nat.lt_of_le_of_lt k h
theorem Bd.log {n : Nat} {i : Int} (h : Bd n i) (z : i ≠ 0) : i.natAbs.log2 < n := (Nat.log2_lt (by omega)).mpr h
theorem Bd.bits {n : Nat} {i : Int} (h : Bd n i) : Builtin.Int.intBits i ≤ n := PySem.intBits_le_iff.mpr h
def CDivB (_ j : Int) : Prop := j ≠ 0 ∧ Bd 9000 j
def CMulB (i j : Int) : Prop := Bd 100000 i ∧ Bd 100000 j
theorem op_fdivB {X : Cx} : OpR X (binaryOp .FloorDiv) (rI CDivB fun i j => .int (i.fdiv j)) := opI fun _ _ _ _ _ _ _ hc q => floordiv_int hc.1 q (.inl (PyProof.noPylong_of_log2 (hc.2.log hc.1)))
end L2
namespace L2
open PySem PySem.Spec PyProof.Rows
section
variable {prog : Program} {w : World} {A : Around} {R : Result → Shared → Prop} {s : Shared}
theorem comp_loop {elt target iter : Expr} {scope : Scope} {pos : Pos} {it acc : Value} {env : Env} (J : Nat → Shared → Prop)
    (turn : ∀ n s, J n s → wpAny (model prog w) A (pyNext it) (fun r s1 => match r with
      | none => R (.ok .next) s1
      | some v => wpAny (model prog w) A (letOwnedTupleGo target it v) (fun _ s2 => wpAny (model prog w) A (assign target env v) (fun _ s3 => wpAny (model prog w) A (eval elt env) (fun x s4 =>
          wpAny (model prog w) A (call (.builtin "list.append") [acc, x]) (fun _ s5 => ∃ m, m < n ∧ J m s5) (fun _ _ => False) s4) (fun _ _ => False) s3) (fun _ _ => False) s2) (fun _ _ => False) s1) (fun _ _ => False) s)
    (n : Nat) (h : J n s) : codeAny (model prog w) A (.compLoop (.ListComp elt [⟨target, iter, [], 0⟩] scope pos) 0 it acc env) R s := by
  refine codeAny_loop rfl J (fun n s hJ => ?_) n h
  show wpAny _ A ((compTurn (.ListComp elt [⟨target, iter, [], 0⟩] scope pos) 0 it acc env).onRaise (fun x => do noteFrame x env; theTreesLotGoes x)) _ _ s
  refine wpAny_noted ?_
  rw [compTurn_list1]
  have no : ∀ {P : Value → Shared → Prop} (a : Value) (b : Shared), (fun _ _ => False : Value → Shared → Prop) a b → P a b := fun _ _ z => False.elim z
  refine wpAny_bind (wpAny_standAt (wpAny_bind (wpAny_mono (turn n s hJ) (fun r s1 h1 => ?_) no)))
  cases r with
  | none => exact wpAny_pure h1
  | some v =>
    refine wpAny_bind (wpAny_mono h1 (fun _ s2 h2 => wpAny_bind (wpAny_mono h2 (fun _ s3 h3 => ?_) no)) no)
    exact wpAny_bind (wpAny_bind (wpAny_mono h3 (fun x s4 h4 => wpAny_bind (wpAny_mono h4 (fun _ s5 h5 => wpAny_pure (wpAny_pure ⟨rfl, h5⟩)) no)) no))
end
abbrev Cx.cp (X : Cx) (Nc : List Str) (scope : Scope) (cl : List (Str × Addr)) (C : Addr) (s₀ : Shared) (H₀ : Hp) (ex : List Addr) (pn : List (Addr × Obj)) : Cx :=
  { X with N := Nc, s₀ := s₀, H₀ := H₀, env := compEnvC scope cl C X.env, outer := X.stack, ex := ex, fn := fun _ => false, pn := pn, xe := fun _ _ => False }
def cσ (js : List (Option Nat)) (σ : St) : St := js.map fun o => o.bind fun j => (σ[j]?).join
def tComp (js : List (Option Nat)) (wi : TI) (g : TG) (te : TE) : TE := fun σ H Q => wi σ H fun J H1 => ∀ D, H1 D = none → ∃ W : Nat → Nat → List V → St → Hp → Prop, (∃ m, W 0 m [] (cσ js σ) (upd H1 D (.lst []))) ∧
  ∀ i m ys σc H, W i m ys σc H → (H D = some (.lst ys) ∧ J.stop i H ∧ Q (.ref D) H) ∨ (J.go i H ∧ ∀ x H', J.yld i H x H' → g x σc H' fun σ2 H2 => te σ2 H2 fun y H3 => H3 D = some (.lst ys) ∧ ys.length < sizeLine ∧ ∃ m', m' < m ∧ W (i + 1) m' (ys ++ [y]) σ2 (upd H3 D (.lst (ys ++ [y]))))
def PCo (X : Cx) (e : Expr) (scope : Scope) (iter : Expr) (t : TE) : Prop :=
  ∀ (pos : Pos) (use : Option (Value → Sem Unit)) (QQ : Value → Shared → Prop) (pins : List (Addr × Obj)) (s : Shared) (σ : St) (H : Hp) (Q : VK), Inv X pins σ H s → t σ H Q →
    (∀ (D C : Addr) (H5 : Hp) (s6 : Shared) (mC : Str → Option Value), Inv X pins σ H5 s6 → s6.heap.Ns C mC → FpOk X pins H5 C → Q (.ref D) H5 → compPost (model X.prog X.w) X.A X.xe use QQ (.ref D) C (.ok .next) s6) →
    wpAny (model X.prog X.w) X.A (comprehension e scope X.env pos (newList []) false (eval iter X.env) use) QQ X.xe s
theorem PCo.of {X : Cx} {e : Expr} {scope : Scope} {iter : Expr} {t t' : TE} (h : PCo X e scope iter t') (k : ∀ σ H Q, t σ H Q → t' σ H Q) : PCo X e scope iter t := fun pos use QQ pins s σ H Q I q fin => h pos use QQ pins s σ H Q I (k σ H Q q) fin
theorem PCo.pe {X : Cx} {elt iter tg : Expr} {scope : Scope} {pos : Pos} {t : TE} (h : PCo X (.ListComp elt [⟨tg, iter, [], 0⟩] scope pos) scope iter t) : PE X (.ListComp elt [⟨tg, iter, [], 0⟩] scope pos) t := by
  intro pins s σ H Q I q
  rw [eval_ListComp]
  exact h _ none (EP X pins σ Q) pins s σ H Q I q fun D C H5 s6 mC I7 hn fp qn => ⟨mC, hn, fun h8 sb => ⟨.ref D, H5, I7.turned (t' := s6.toks) (fun b o hb z => (sb.2 b hb).trans z) fp.1 fp.2.1 fp.2.2.2.1 fp.2.2.2.2.1 fp.2.2.2.2.2, rfl, qn⟩⟩
theorem PCo.ps {X : Cx} {elt iter tg : Expr} {scope : Scope} {cpos pos pos' : Pos} {t : TE} {i : Nat} {x : Str} (h : PCo X (.ListComp elt [⟨tg, iter, [], 0⟩] scope cpos) scope iter t) (hN : X.N.Nodup) (hi : X.N[i]? = some x) (hx : Loc X.env.scope x)
    (hsw : swapsWith (.ListComp elt [⟨tg, iter, [], 0⟩] scope cpos) (some (.Name x pos')) pos.line X.env = pure true := by rfl)
    (hf : X.fn x = true ∨ X.env.scope.names.lookup x = some .local := by first | exact .inl rfl | exact .inr rfl | assumption) : PS X (.Assign [.Name x pos'] (.ListComp elt [⟨tg, iter, [], 0⟩] scope cpos) pos) (tAsg t (gName i)) := by
  intro pins s σ H D0 I q
  rw [exec_Assign_Name_used _ _ _ _ hsw]
  refine wpAny_bind (wpAny_standAt (wpAny_bind ?_))
  show wpAny _ X.A (do let _ ← comprehension (.ListComp elt [⟨tg, iter, [], 0⟩] scope cpos) scope X.env _ (newList []) false (eval iter X.env) (some (assign (.Name x pos') X.env))) _ _ s
  refine wpAny_bind (wpAny_mono (h _ (some (assign (.Name x pos') X.env)) (fun _ s' => SP X pins D0 .next s') pins s σ H _ I q ?_) (fun _ s' hq => wpAny_pure (wpAny_pure hq)) fun _ _ e => e)
  intro D C H5 s6 mC I7 hn fp qn
  refine wpAny_assign_Name (store_ok2 (v := .ref D) I7 hN hi hx rfl (fun s8 I8 sb8 => ?_) hf)
  obtain ⟨a, sb, ha⟩ := sb8
  have hne : C ≠ a := by
    rcases ha with rfl | ha
    · exact fp.2.1
    · exact fun z => fp.2.2.2.2.1 _ _ ha z.symm
  refine ⟨mC, hn.sameBut sb hne, fun h9 sb9 => ⟨_, H5, ?_, qn⟩⟩
  exact I8.turned (t' := s8.toks) (fun b o hb z => (sb9.2 b hb).trans z) fp.1 fp.2.1 fp.2.2.2.1 fp.2.2.2.2.1 fp.2.2.2.2.2
theorem pe_comp {X : Cx} {elt iter tg : Expr} {scope : Scope} {cl : List (Str × Addr)} {Nc : List Str} {js : List (Option Nat)} {wi : TI} {g : TG} {te : TE} {pos : Pos} (hc : X.calm = true) (hi : PI X tg iter wi)
    (hg : ∀ C s₀ H₀ ex pn, PG (X.cp Nc scope cl C s₀ H₀ ex pn) tg g) (he : ∀ C s₀ H₀ ex pn, PE (X.cp Nc scope cl C s₀ H₀ ex pn) elt te)
    (hlen : js.length = Nc.length) (hcl1 : ∀ y c, cl.lookup y = some c → X.env.cells.lookup y = some c) (hcl2 : ∀ y, ((relabel scope X.env).names.lookup y = some .cell ∨ (relabel scope X.env).names.lookup y = some .free) → ∃ c, cl.lookup y = some c)
    (hjs : ∀ (i : Nat) (y : Str) (j : Nat), Nc[i]? = some y → js[i]? = some (some j) → X.N[j]? = some y ∧ Vis X.env.scope y ∧ X.env.kindOf y ≠ some .local ∧ ((relabel scope X.env).names.lookup y = some .cell ∨ (relabel scope X.env).names.lookup y = some .free) ∧ ∀ c, X.env.cells.lookup y = some c → cl.lookup y = some c)
    (hclos : closureFor scope X.env = pure cl) (hcell : ∀ y ∈ scope.names, y.2 ≠ .cell) (hkind : scope.kind = .function) (hnames : ∀ y ∈ scope.names, y.2 = .local → scope.names.lookup y.1 = some .local)
    (hs : ∀ x, foldedSetIterable iter X.env x = pure x := by intro _; rfl) : PCo X (.ListComp elt [⟨tg, iter, [], 0⟩] scope pos) scope iter (tComp js wi g te) := by
  intro pos0 use QQ pins s σ H Q I h fin
  refine wpAny_comprehension_free (use := use) rfl hs hclos hkind hnames (thn (hi pins s σ H _ I h) fun v s1 h1 => thn h1 fun itv s2 h2 => ?_)
  obtain ⟨it, fp, tn, J, H2, rfl, I2, T, st2, f2, R⟩ := h2
  refine wpAny_newObj_type (wpAny_newFunctionEnv hcell (by intro y hy; simp at hy) (fun h1 hns hsb => ?_) hkind)
  dsimp only at hns hsb ⊢
  have hf : H2 s2.heap.objs.size = none := I2.hok.fresh (Nat.le_refl _)
  obtain ⟨W, ⟨m0, w0⟩, turn⟩ := R s2.heap.objs.size hf
  -- D: the list; C: the block's names
  generalize eD : s2.heap.objs.size = D at *
  have I3 : Inv X pins σ (upd H2 D (.lst [])) { s2 with heap := s2.heap.push { cls := .type "list", dict := none, data := .seq ([] : List Value).toArray } } :=
    I2.laid (t' := s2.toks) (fun b u e => Heap.get?_push_of_some _ e) (by rw [eD]; exact Nat.le_refl _) ⟨Nat.zero_le _, [], 0, .nil, by rw [← eD]; exact Heap.get?_push_size _ rfl⟩
  generalize e3 : ({ s2 with heap := s2.heap.push { cls := .type "list", dict := none, data := .seq ([] : List Value).toArray } } : Shared) = s3 at I3
  have hp3 : s2.heap.push { cls := .type "list", dict := none, data := .seq ([] : List Value).toArray } = s3.heap := by rw [← e3]
  rw [hp3] at hns hsb ⊢
  generalize eC : s3.heap.objs.size = C at *
  have old : ∀ b o, s3.heap.get? b = some o → h1.get? b = some o := fun b o z => hsb.extBut b o (by rw [← eC]; exact Nat.ne_of_lt (Heap.lt_size z)) (Heap.get?_push_of_some _ z)
  have fpo : ∀ b ∈ fp, b < D := fun b hb => by
    obtain ⟨o, z, _⟩ := T.obj _ _ st2 b hb
    rw [← eD]; exact Heap.lt_size z
  have eCD : C = D + 1 := by rw [← eC, ← hp3, Heap.size_push, eD]
  have f3 : ∀ b ∈ fp, FpOk X pins (upd H2 D (.lst [])) b := fun b hb => ⟨by rw [upd_ne (Nat.ne_of_lt (fpo b hb))]; exact (f2 b hb).1, (f2 b hb).2⟩
  have okC : (X.cp Nc scope cl C s3 (upd H2 D (.lst [])) fp (X.pn ++ pins)).Ok := by
    have ok := I3.ok
    refine ⟨ok.mod, hkind, ok.glob, ok.blt, by rw [eC]; exact Nat.le_refl _, fun x y c a b => ok.inj x y c (hcl1 x c a) (hcl1 y c b), fun x hx => hcl2 x hx, fun x c z => absurd z Bool.false_ne_true, ok.hd, ok.frames, .inl rfl, fun b hb => ?_, fun b o z => I3.bs b o z, Nat.le_trans ok.bsz I3.sz, fun b o z hb => ?_, fun b hb hm => ?_, I3.stack, I3.stkFree⟩
    · exact ⟨by rw [eCD]; exact Nat.ne_of_lt (Nat.lt_succ_of_lt (fpo b hb)), fun x c z => (f3 b hb).2.2.2.2.1 x c (hcl1 x c z)⟩
    · rcases (f3 b hb).2.2.2.1 with y | y
      · exact ok.noex b o z y
      · exact absurd (Nat.lt_of_lt_of_le (Heap.lt_size z) (Nat.le_trans ok.bsz y)) (Nat.lt_irrefl _)
    · rcases List.mem_cons.mp (I3.stkSub b hm) with y | y
      · exact (f3 b hb).2.1 y
      · exact (f3 b hb).2.2.1 y
  have I4 : Inv (X.cp Nc scope cl C s3 (upd H2 D (.lst [])) fp (X.pn ++ pins)) [] (cσ js σ) (upd H2 D (.lst [])) { s2 with heap := h1, toks := s2.toks + ([] : List (Str × Value)).length } := by
    have os3 : s2.os = s3.os := by rw [← e3]
    have fC : upd H2 D (.lst []) C = none := I3.hok.fresh (by rw [eC]; exact Nat.le_refl _)
    refine ⟨okC, os3, I2.bare, Un.kept old, ⟨_, hns, fun i y v e1 e2 e3' => ?_⟩, fun y c z => ?_, fC, fun y c z => I3.freeC y c (hcl1 y c z), fun p hp => ?_, I3.hok.kept old, by rw [cσ, List.length_map]; exact hlen⟩
    · unfold cσ at e2
      rw [List.getElem?_map] at e2
      cases ej : js[i]? with
      | none => rw [ej] at e2; cases e2
      | some oj =>
        rw [ej] at e2
        cases oj with
        | none => cases e2
        | some j =>
          obtain ⟨a1, a2, a3, a4, a5⟩ := hjs i y j e1 ej
          have e2' : (σ[j]?).join = some v := Option.some.inj e2
          have e4 : σ[j]? = some (some v) := by
            cases q : σ[j]? with
            | none => rw [q] at e2'; cases e2'
            | some o => rw [q] at e2'; exact congrArg some e2'
          obtain ⟨m, hn, hl⟩ := I3.loc
          obtain ⟨u, r, l⟩ := hl j y v a1 e4 a2
          refine ⟨u, r, .inr ⟨a4, ?_⟩⟩
          rcases l with ⟨k, _⟩ | ⟨k, c, z, ⟨o, ho, hd⟩⟩
          · exact absurd k a3
          · exact ⟨c, a5 c z, o, old _ _ ho, hd⟩
    · obtain ⟨w', o, ho, hd⟩ := I3.cell y c (hcl1 y c z)
      exact ⟨w', o, old _ _ ho, hd⟩
    · have hp' : p ∈ X.pn ++ pins := by
        have z : p ∈ (X.pn ++ pins) ++ [] := hp
        rw [List.append_nil] at z; exact z
      obtain ⟨z, n, ne, nf, d⟩ := I3.pin p hp'
      refine ⟨old _ _ z, n, by rw [← eC]; exact Nat.ne_of_lt (Heap.lt_size z), fun hm => ?_, d⟩
      rcases List.mem_cons.mp (I3.stkSub p.1 hm) with y | y
      · exact ne y
      · exact nf y
  have st4 : tn 0 h1 := T.keep _ _ _ st2 fun b hb o z => old b o (by rw [← hp3]; exact Heap.get?_push_of_some _ z)
  have stat : ∀ {H' : Hp}, (∀ b ∈ fp, H' b = none) → ∀ b ∈ fp, FpOk (X.cp Nc scope cl C s3 (upd H2 D (.lst [])) fp (X.pn ++ pins)) [] H' b := fun hn b hb =>
    ⟨hn b hb, (okC.exf b hb).1, okC.exfs b hb, .inl hb, (okC.exf b hb).2 |> fun q x c z => q x c z, fun p hp => (f3 b hb).2.2.2.2.2 p (by
      have z : p ∈ (X.pn ++ pins) ++ [] := hp
      rw [List.append_nil] at z; exact z)⟩
  have loop : codeAny (model X.prog X.w) X.A (.compLoop (.ListComp elt [⟨tg, iter, [], 0⟩] scope pos) 0 (.ref it) (.ref D) (compEnvC scope cl C X.env)) (compPost (model X.prog X.w) X.A X.xe use QQ (.ref D) C) { s2 with heap := h1, toks := s2.toks + ([] : List (Str × Value)).length } := by
    refine comp_loop (fun n s' => ∃ i ys σc H', Inv (X.cp Nc scope cl C s3 (upd H2 D (.lst [])) fp (X.pn ++ pins)) [] σc H' s' ∧ tn i s'.heap ∧ (∀ b ∈ fp, H' b = none) ∧ W i n ys σc H') ?_ m0 ⟨0, [], _, _, I4, st4, fun b hb => (f3 b hb).1, w0⟩
    rintro n s5 ⟨i, ys, σ5, H5, I5, st5, fr5, w5⟩
    rcases turn i n ys σ5 H5 w5 with ⟨hD, stop, qn⟩ | ⟨go, step⟩
    · refine thn (T.done (X.cp Nc scope cl C s3 (upd H2 D (.lst [])) fp (X.pn ++ pins)) rfl rfl rfl hc i [] s5 σ5 H5 _ I5 (stat fr5) st5 stop) fun r s6 ⟨hr, I6⟩ => ?_
      subst hr
      obtain ⟨mC, hnC, _⟩ := id I6.loc
      have I7 : Inv X pins σ H5 s6 := I3.call' (ch := fp) I6.os I6.base I6.hok I6.bare fun b hb => ⟨(f3 b hb).2.2.2.1, (f3 b hb).2.1, (f3 b hb).2.2.2.2.1, (f3 b hb).2.2.2.2.2⟩
      have nC : s3.heap.objs.size ≤ C := by rw [eC]; exact Nat.le_refl _
      exact fin D C H5 s6 mC I7 hnC (I3.fpOk nC I6.free) qn
    · refine thn (T.item (X.cp Nc scope cl C s3 (upd H2 D (.lst [])) fp (X.pn ++ pins)) rfl rfl rfl hc i [] s5 σ5 H5 _ I5 (stat fr5) st5 go) fun r s6 ⟨u, hr, h6⟩ => ?_
      subst hr
      refine thn h6 fun _ s7 ⟨x, H7, I7, r7, y7, st7, fr7⟩ => ?_
      have I7' := I7.pinned (stat fr7) (T.obj _ _ st7)
      refine thn (hg C s3 _ fp _ _ s7 σ5 H7 x u _ I7' r7 (step x H7 y7)) fun _ s8 ⟨σ8, H8, I8, q8⟩ => ?_
      refine thn (he C s3 _ fp _ _ s8 σ8 H8 _ I8 q8) fun v9 s9 ⟨y9, H9, I9, r9, hD9, hz9, m9, lt9, w9⟩ => ?_
      refine thn (mt_append (X := X.cp Nc scope cl C s3 (upd H2 D (.lst [])) fp (X.pn ++ pins)) _ s9 σ8 H9 (.ref D) [y9] (.ref D) [v9] (fun _ H10 => H10 = upd H9 D (.lst (ys ++ [y9]))) I9 rfl (.cons r9 .nil) ⟨D, ys, y9, rfl, rfl, hD9, hz9, rfl⟩) fun v10 s10 ⟨_, H10, I10, _, e10⟩ => ?_
      subst e10
      refine ⟨m9, lt9, i + 1, ys ++ [y9], σ8, _, I10.unpinned, T.keep _ _ _ st7 fun b hb o z => (I10.pin (b, o) (List.mem_append_right _ (List.mem_append_right _ (mem_pinsAt hb z)))).1, fun b hb => ?_, w9⟩
      obtain ⟨o, z, d⟩ := T.obj _ _ st7 b hb
      exact (I10.pin (b, o) (List.mem_append_right _ (List.mem_append_right _ (mem_pinsAt hb z)))).2.1
  exact codeAny_compStart_list loop (T.self X.A 0 _ _ _ st4 loop)
end L2
namespace L2
open PySem PySem.Spec PyProof.Rows
inductive Dt where
  | non | bl (b : Bool) | int (i : Int) | str (x : Str) | tup (l : List Dt) | lst (l : List Dt)
mutual
def Rep (K : PySem.W.Frag) (H : Hp) : Dt → V → Prop
  | .non, v => v = .non
  | .bl b, v => v = .bl b
  | .int i, v => v = .int i
  | .str x, v => v = .str x
  | .tup l, v => ∃ a xs, v = .ref a ∧ SqT K H a xs ∧ Reps K H l xs
  | .lst l, v => ∃ a xs, v = .ref a ∧ SqL K H a xs ∧ Reps K H l xs
def Reps (K : PySem.W.Frag) (H : Hp) : List Dt → List V → Prop
  | [], xs => xs = []
  | d :: l, xs => ∃ x r, xs = x :: r ∧ Rep K H d x ∧ Reps K H l r
end
mutual
def Dt.sim : Dt → Dt → Bool
  | .non, .non => true
  | .bl _, .bl _ => true
  | .int _, .int _ => true
  | .str _, .str _ => true
  | .tup l, .tup m => Dt.sims l m
  | .lst l, .lst m => Dt.sims l m
  | _, _ => false
def Dt.sims : List Dt → List Dt → Bool
  | d :: l, e :: m => Dt.sim d e && Dt.sims l m
  | _, _ => true
end
mutual
def Dt.eqb : Dt → Dt → Bool
  | .non, .non => true
  | .bl a, .bl b => a == b
  | .int a, .int b => a == b
  | .str a, .str b => a == b
  | .tup l, .tup m => Dt.eqbs l m
  | .lst l, .lst m => Dt.eqbs l m
  | _, _ => false
def Dt.eqbs : List Dt → List Dt → Bool
  | [], [] => true
  | d :: l, e :: m => Dt.eqb d e && Dt.eqbs l m
  | _, _ => false
end
mutual
def Dt.dep : Dt → Nat
  | .tup l => Dt.deps l + 1
  | .lst l => Dt.deps l + 1
  | _ => 0
def Dt.deps : List Dt → Nat
  | [] => 0
  | d :: l => max (Dt.dep d) (Dt.deps l)
end
mutual
theorem Dt.eqb_refl : ∀ d : Dt, Dt.eqb d d = true
  | .non => rfl
  | .bl b => by simp [Dt.eqb]
  | .int i => by simp [Dt.eqb]
  | .str x => by simp [Dt.eqb]
  | .tup l => by rw [Dt.eqb]; exact Dt.eqbs_refl l
  | .lst l => by rw [Dt.eqb]; exact Dt.eqbs_refl l
theorem Dt.eqbs_refl : ∀ l : List Dt, Dt.eqbs l l = true
  | [] => rfl
  | d :: l => by rw [Dt.eqbs, Dt.eqb_refl d, Dt.eqbs_refl l]; rfl
end
mutual
theorem Dt.sim_refl : ∀ d : Dt, Dt.sim d d = true
  | .non => rfl
  | .bl b => rfl
  | .int i => rfl
  | .str x => rfl
  | .tup l => by rw [Dt.sim]; exact Dt.sims_refl l
  | .lst l => by rw [Dt.sim]; exact Dt.sims_refl l
theorem Dt.sims_refl : ∀ l : List Dt, Dt.sims l l = true
  | [] => rfl
  | d :: l => by rw [Dt.sims, Dt.sim_refl d, Dt.sims_refl l]; rfl
end
section
variable {X : Cx} {pins : List (Addr × Obj)} {σ : St} {H : Hp} {s : Shared}
theorem Inv.lt_inj (I : Inv X pins σ H s) {a : Addr} {xs ys : List V} (h : SqL X.K H a xs) (h' : SqT X.K H a ys) : False := by
  obtain ⟨its, _, ⟨ob, n, p, c', _⟩, _⟩ := I.list h
  obtain ⟨its', _, ⟨o, q, c, _⟩, _⟩ := I.tuple h'
  rw [p] at q
  cases q
  rw [c'] at c
  exact absurd c (by decide)
mutual
theorem Rep.inj (I : Inv X pins σ H s) : ∀ (d e : Dt) (v : V), Rep X.K H d v → Rep X.K H e v → d = e := by
  intro d e v h k
  match d, e with
  | .non, .non => rfl
  | .bl a, .bl b => simp only [Rep] at h k; subst h; cases k; rfl
  | .int a, .int b => simp only [Rep] at h k; subst h; cases k; rfl
  | .str a, .str b => simp only [Rep] at h k; subst h; cases k; rfl
  | .tup l, .tup m =>
    simp only [Rep] at h k
    obtain ⟨a, xs, rfl, s1, r1⟩ := h
    obtain ⟨b, ys, e, s2, r2⟩ := k
    cases e
    rw [I.tuple_inj s2 s1] at r2
    rw [Reps.inj I l m xs r1 r2]
  | .lst l, .lst m =>
    simp only [Rep] at h k
    obtain ⟨a, xs, rfl, s1, r1⟩ := h
    obtain ⟨b, ys, e, s2, r2⟩ := k
    cases e
    rw [I.list_inj s2 s1] at r2
    rw [Reps.inj I l m xs r1 r2]
  | .tup l, .lst m =>
    simp only [Rep] at h k
    obtain ⟨a, xs, rfl, s1, r1⟩ := h
    obtain ⟨b, ys, e, s2, r2⟩ := k
    cases e
    exact (I.lt_inj s2 s1).elim
  | .lst l, .tup m =>
    simp only [Rep] at h k
    obtain ⟨a, xs, rfl, s1, r1⟩ := h
    obtain ⟨b, ys, e, s2, r2⟩ := k
    cases e
    exact (I.lt_inj s1 s2).elim
  | .non, .bl _ | .non, .int _ | .non, .str _ | .bl _, .non | .bl _, .int _ | .bl _, .str _ | .int _, .non | .int _, .bl _ | .int _, .str _ | .str _, .non | .str _, .bl _ | .str _, .int _ => simp only [Rep] at h k; subst h; cases k
  | .non, .tup _ | .bl _, .tup _ | .int _, .tup _ | .str _, .tup _ | .non, .lst _ | .bl _, .lst _ | .int _, .lst _ | .str _, .lst _ => simp only [Rep] at h k; subst h; obtain ⟨b, ys, e, _⟩ := k; cases e
  | .tup _, .non | .tup _, .bl _ | .tup _, .int _ | .tup _, .str _ | .lst _, .non | .lst _, .bl _ | .lst _, .int _ | .lst _, .str _ => simp only [Rep] at h k; subst k; obtain ⟨b, ys, e, _⟩ := h; cases e
theorem Reps.inj (I : Inv X pins σ H s) : ∀ (l m : List Dt) (xs : List V), Reps X.K H l xs → Reps X.K H m xs → l = m := by
  intro l m xs h k
  match l, m with
  | [], [] => rfl
  | [], e :: m => simp only [Reps] at h k; subst h; obtain ⟨x, r, z, _⟩ := k; cases z
  | d :: l, [] => simp only [Reps] at h k; subst k; obtain ⟨x, r, z, _⟩ := h; cases z
  | d :: l, e :: m =>
    simp only [Reps] at h k
    obtain ⟨x, r, rfl, h1, h2⟩ := h
    obtain ⟨y, q, z, k1, k2⟩ := k
    cases z
    rw [Rep.inj I d e x h1 k1, Reps.inj I l m r h2 k2]
end
theorem Reps.len {K : PySem.W.Frag} {H : Hp} : ∀ {l : List Dt} {xs : List V}, Reps K H l xs → l.length = xs.length
  | [], xs, h => by simp only [Reps] at h; rw [h]; rfl
  | d :: l, xs, h => by
    simp only [Reps] at h
    obtain ⟨x, r, rfl, _, h2⟩ := h
    simp [Reps.len h2]
theorem Reps.at {K : PySem.W.Frag} {H : Hp} : ∀ {l : List Dt} {xs : List V} {j : Nat} {d : Dt}, Reps K H l xs → l[j]? = some d → ∃ x, xs[j]? = some x ∧ Rep K H d x
  | [], _, _, _, _, e => by simp at e
  | d0 :: l, xs, 0, d, h, e => by
    simp only [Reps] at h
    obtain ⟨x, r, rfl, h1, _⟩ := h
    simp at e; subst e
    exact ⟨x, rfl, h1⟩
  | d0 :: l, xs, j + 1, d, h, e => by
    simp only [Reps] at h
    obtain ⟨x, r, rfl, _, h2⟩ := h
    obtain ⟨y, e1, e2⟩ := Reps.at (j := j) h2 (by simpa using e)
    exact ⟨y, by simpa using e1, e2⟩
theorem Dt.deps_at : ∀ {l : List Dt} {j : Nat} {d : Dt}, l[j]? = some d → d.dep ≤ Dt.deps l
  | [], _, _, e => by simp at e
  | d0 :: l, 0, d, e => by simp at e; subst e; rw [Dt.deps]; exact Nat.le_max_left _ _
  | d0 :: l, j + 1, d, e => by rw [Dt.deps]; exact Nat.le_trans (Dt.deps_at (j := j) (by simpa using e)) (Nat.le_max_right _ _)
theorem Dt.sims_at : ∀ {l m : List Dt} {j : Nat} {d e : Dt}, Dt.sims l m = true → l[j]? = some d → m[j]? = some e → d.sim e = true
  | [], _, _, _, _, _, z, _ => by simp at z
  | _ :: _, [], _, _, _, _, _, z => by simp at z
  | d0 :: l, e0 :: m, 0, d, e, h, z1, z2 => by
    rw [Dt.sims] at h
    simp at z1 z2; subst z1 z2
    exact (Bool.and_eq_true_iff.mp h).1
  | d0 :: l, e0 :: m, j + 1, d, e, h, z1, z2 => by
    rw [Dt.sims] at h
    exact Dt.sims_at (j := j) (Bool.and_eq_true_iff.mp h).2 (by simpa using z1) (by simpa using z2)
theorem Dt.eqbs_all : ∀ {l m : List Dt}, l.length = m.length → Dt.eqbs l m = (List.range l.length).all fun j => match l[j]?, m[j]? with | some d, some e => d.eqb e | _, _ => true
  | [], [], _ => rfl
  | d :: l, e :: m, h => by
    have h' : l.length = m.length := by simpa using h
    rw [Dt.eqbs, Dt.eqbs_all h', List.length_cons, List.range_succ_eq_map, List.all_cons, List.all_map]
    rfl
theorem Dt.eqbs_len : ∀ {l m : List Dt}, l.length ≠ m.length → Dt.eqbs l m = false
  | [], [], h => absurd rfl h
  | [], _ :: _, _ => rfl
  | _ :: _, [], _ => rfl
  | d :: l, e :: m, h => by rw [Dt.eqbs, Dt.eqbs_len (by simpa using h), Bool.and_false]
def pairE (l m : List Dt) (j : Nat) : Bool := match l[j]?, m[j]? with | some d, some e => d.eqb e | _, _ => true
theorem items_at (I : Inv X pins σ H s) {k : Nat} {A : Around} {l m : List Dt} {xs ys : List V} {us vs : List Value}
    (ih : ∀ (A : Around) (d e : Dt) (x y : V) (u v : Value), d.dep ≤ k → A.units + k < cLine → d.sim e = true → Rep X.K H d x → Rep X.K H e y → RelV x u → RelV y v → SeqAt.EqAt A s u v (d.eqb e))
    (hd : Dt.deps l ≤ k) (hu : A.units + (k + 1) < cLine) (hs : Dt.sims l m = true) (r1 : Reps X.K H l xs) (r2 : Reps X.K H m ys) (v1 : Vals xs us) (v2 : Vals ys vs) :
    ∀ j (h1 : j < us.toArray.size) (h2 : j < vs.toArray.size), SeqAt.EqAt A.in1 s us.toArray[j] vs.toArray[j] (pairE l m j) := by
  intro j h1 h2
  have l1 : j < us.length := by simpa using h1
  have l2 : j < vs.length := by simpa using h2
  have n1 : l.length = us.length := r1.len.trans v1.length
  have n2 : m.length = vs.length := r2.len.trans v2.length
  obtain ⟨d, ed⟩ : ∃ d, l[j]? = some d := ⟨l[j], List.getElem?_eq_getElem (by omega)⟩
  obtain ⟨e, ee⟩ : ∃ e, m[j]? = some e := ⟨m[j], List.getElem?_eq_getElem (by omega)⟩
  obtain ⟨x, ex, rx⟩ := r1.at ed
  obtain ⟨y, ey, ry⟩ := r2.at ee
  obtain ⟨u, eu, ru⟩ := v1.get ex
  obtain ⟨v, ev, rv⟩ := v2.get ey
  have e1 : us.toArray[j] = u := by
    have := List.getElem?_eq_getElem l1
    rw [eu] at this
    simpa using (Option.some.inj this).symm
  have e2 : vs.toArray[j] = v := by
    have := List.getElem?_eq_getElem l2
    rw [ev] at this
    simpa using (Option.some.inj this).symm
  have ep : pairE l m j = d.eqb e := by unfold pairE; rw [ed, ee]
  rw [e1, e2, ep]
  exact ih A.in1 d e x y u v (Nat.le_trans (Dt.deps_at ed) hd) (by show A.units + 1 + k < cLine; omega) (Dt.sims_at hs ed ee) rx ry ru rv
theorem tup_b {l m : List Dt} {us vs : List Value} (n1 : l.length = us.length) (n2 : m.length = vs.length) : ((List.range (min us.toArray.size vs.toArray.size)).all (pairE l m) && us.toArray.size == vs.toArray.size) = Dt.eqbs l m := by
  have a1 : us.toArray.size = l.length := by simp [n1]
  have a2 : vs.toArray.size = m.length := by simp [n2]
  rw [a1, a2]
  by_cases h : l.length = m.length
  · rw [Dt.eqbs_all h, h, Nat.min_self]
    simp [pairE]
    rfl
  · rw [Dt.eqbs_len h, (beq_eq_false_iff_ne).mpr h, Bool.and_false]
theorem lst_b {l m : List Dt} {us vs : List Value} (n1 : l.length = us.length) (n2 : m.length = vs.length) (h : us.toArray.size = vs.toArray.size) : (List.range us.toArray.size).all (pairE l m) = Dt.eqbs l m := by
  have a1 : us.toArray.size = l.length := by simp [n1]
  have a2 : vs.toArray.size = m.length := by simp [n2]
  rw [Dt.eqbs_all (by omega), a1]
  rfl
theorem rc_tup (I : Inv X pins σ H s) {k : Nat} {A : Around} {l m : List Dt} {a b : Addr} {xs ys : List V}
    (ih : ∀ (A : Around) (d e : Dt) (x y : V) (u v : Value), d.dep ≤ k → A.units + k < cLine → d.sim e = true → Rep X.K H d x → Rep X.K H e y → RelV x u → RelV y v → SeqAt.EqAt A s u v (d.eqb e))
    (hd : Dt.deps l ≤ k) (hu : A.units + (k + 1) < cLine) (hs : Dt.sims l m = true) (q1 : SqT X.K H a xs) (q2 : SqT X.K H b ys) (r1 : Reps X.K H l xs) (r2 : Reps X.K H m ys) :
    SeqAt.RcAt A s (.ref a) (.ref b) (Dt.eqbs l m) ∧ SeqAt.RcNeAt A s (.ref a) (.ref b) (!Dt.eqbs l m) := by
  obtain ⟨us, v1, p1, _⟩ := I.tuple q1
  obtain ⟨vs, v2, p2, _⟩ := I.tuple q2
  have he := items_at I ih hd hu hs r1 r2 v1 v2
  rw [← tup_b (l := l) (m := m) (us := us) (vs := vs) (r1.len.trans v1.length) (r2.len.trans v2.length)]
  exact ⟨SeqAt.RcAt.tuples (show s.heap.IsTuple a us.toArray from p1) (show s.heap.IsTuple b vs.toArray from p2) (by omega) he, SeqAt.RcNeAt.tuples (show s.heap.IsTuple a us.toArray from p1) (show s.heap.IsTuple b vs.toArray from p2) (by omega) he⟩
theorem rc_lst (I : Inv X pins σ H s) {k : Nat} {A : Around} {l m : List Dt} {a b : Addr} {xs ys : List V}
    (ih : ∀ (A : Around) (d e : Dt) (x y : V) (u v : Value), d.dep ≤ k → A.units + k < cLine → d.sim e = true → Rep X.K H d x → Rep X.K H e y → RelV x u → RelV y v → SeqAt.EqAt A s u v (d.eqb e))
    (hd : Dt.deps l ≤ k) (hu : A.units + (k + 1) < cLine) (hs : Dt.sims l m = true) (q1 : SqL X.K H a xs) (q2 : SqL X.K H b ys) (r1 : Reps X.K H l xs) (r2 : Reps X.K H m ys) :
    SeqAt.RcAt A s (.ref a) (.ref b) (Dt.eqbs l m) ∧ SeqAt.RcNeAt A s (.ref a) (.ref b) (!Dt.eqbs l m) := by
  obtain ⟨us, v1, p1, _⟩ := I.list q1
  obtain ⟨vs, v2, p2, _⟩ := I.list q2
  have he := items_at I ih hd hu hs r1 r2 v1 v2
  by_cases hsz : us.toArray.size = vs.toArray.size
  · rw [← lst_b (l := l) (m := m) (us := us) (vs := vs) (r1.len.trans v1.length) (r2.len.trans v2.length) hsz]
    exact ⟨SeqAt.RcAt.lists p1.isList p2.isList hsz (by omega) he, SeqAt.RcNeAt.lists p1.isList p2.isList hsz (by omega) he⟩
  · have hl : l.length ≠ m.length := fun z => hsz (by
      have a1 := r1.len.trans v1.length
      have a2 := r2.len.trans v2.length
      simp; omega)
    rw [Dt.eqbs_len hl]
    exact ⟨SeqAt.RcAt.lists_lengths p1.isList p2.isList (by simpa using hsz) (by omega), SeqAt.RcNeAt.lists_lengths p1.isList p2.isList (by simpa using hsz) (by omega)⟩
theorem eq_at (I : Inv X pins σ H s) : ∀ (k : Nat) (A : Around) (d e : Dt) (x y : V) (u v : Value), d.dep ≤ k → A.units + k < cLine → d.sim e = true → Rep X.K H d x → Rep X.K H e y → RelV x u → RelV y v → SeqAt.EqAt A s u v (d.eqb e) := by
  intro k
  induction k with
  | zero =>
    intro A d e x y u v hd hu hs h1 h2 r1 r2
    match d, e with
    | .non, .non => simp only [Rep] at h1 h2; subst h1 h2; cases r1; cases r2; exact SeqAt.EqAt.same _
    | .bl a, .bl b => simp only [Rep] at h1 h2; subst h1 h2; cases r1; cases r2; exact SeqAt.EqAt.bool_bool a b
    | .int a, .int b => simp only [Rep] at h1 h2; subst h1 h2; obtain ⟨t, rfl⟩ := r1; obtain ⟨t', rfl⟩ := r2; exact SeqAt.EqAt.int_int a t b t'
    | .str a, .str b => simp only [Rep] at h1 h2; subst h1 h2; obtain ⟨t, rfl⟩ := r1; obtain ⟨t', rfl⟩ := r2; exact SeqAt.EqAt.str_str a t b t'
    | .tup l, _ => rw [Dt.dep] at hd; omega
    | .lst l, _ => rw [Dt.dep] at hd; omega
  | succ k ih =>
    intro A d e x y u v hd hu hs h1 h2 r1 r2
    match d, e with
    | .non, .non => simp only [Rep] at h1 h2; subst h1 h2; cases r1; cases r2; exact SeqAt.EqAt.same _
    | .bl a, .bl b => simp only [Rep] at h1 h2; subst h1 h2; cases r1; cases r2; exact SeqAt.EqAt.bool_bool a b
    | .int a, .int b => simp only [Rep] at h1 h2; subst h1 h2; obtain ⟨t, rfl⟩ := r1; obtain ⟨t', rfl⟩ := r2; exact SeqAt.EqAt.int_int a t b t'
    | .str a, .str b => simp only [Rep] at h1 h2; subst h1 h2; obtain ⟨t, rfl⟩ := r1; obtain ⟨t', rfl⟩ := r2; exact SeqAt.EqAt.str_str a t b t'
    | .tup l, .tup m =>
      have g1 := h1
      have g2 := h2
      simp only [Rep] at h1 h2
      obtain ⟨a, xs, rfl, q1, p1⟩ := h1
      obtain ⟨b, ys, rfl, q2, p2⟩ := h2
      cases r1; cases r2
      by_cases hab : a = b
      · subst hab
        rw [← Rep.inj I _ _ _ g1 g2, Dt.eqb_refl]
        exact SeqAt.EqAt.same _
      · rw [Dt.eqb]
        exact SeqAt.EqAt.of_refs hab (rc_tup I ih (by rw [Dt.dep] at hd; omega) hu (by rw [Dt.sim] at hs; exact hs) q1 q2 p1 p2).1
    | .lst l, .lst m =>
      have g1 := h1
      have g2 := h2
      simp only [Rep] at h1 h2
      obtain ⟨a, xs, rfl, q1, p1⟩ := h1
      obtain ⟨b, ys, rfl, q2, p2⟩ := h2
      cases r1; cases r2
      by_cases hab : a = b
      · subst hab
        rw [← Rep.inj I _ _ _ g1 g2, Dt.eqb_refl]
        exact SeqAt.EqAt.same _
      · rw [Dt.eqb]
        exact SeqAt.EqAt.of_refs hab (rc_lst I ih (by rw [Dt.dep] at hd; omega) hu (by rw [Dt.sim] at hs; exact hs) q1 q2 p1 p2).1
end
def rEqD (K : PySem.W.Frag) (ne : Bool) : R2 := fun x y H Q => ∃ d e, Rep K H d x ∧ Rep K H e y ∧ d.sim e = true ∧ 1 ≤ d.dep ∧ d.dep ≤ 60 ∧ Q (.bl (if ne then !d.eqb e else d.eqb e)) H
theorem eqD_at {X : Cx} {pins : List (Addr × Obj)} {σ : St} {H : Hp} {s : Shared} (I : Inv X pins σ H s) (hu : X.A.units + 64 < cLine) {d e : Dt} {x y : V} {u v : Value} (h1 : Rep X.K H d x) (h2 : Rep X.K H e y) (hs : d.sim e = true) (hd : 1 ≤ d.dep) (hd2 : d.dep ≤ 60) (r1 : RelV x u) (r2 : RelV y v) :
    SeqAt.RcAt X.A s u v (d.eqb e) ∧ SeqAt.RcNeAt X.A s u v (!d.eqb e) := by
  cases d with
  | tup l =>
    cases e with
    | tup m =>
      simp only [Rep] at h1 h2
      obtain ⟨a, xs, rfl, q1, p1⟩ := h1
      obtain ⟨b, ys, rfl, q2, p2⟩ := h2
      cases r1; cases r2
      rw [show Dt.eqb (.tup l) (.tup m) = Dt.eqbs l m from by rw [Dt.eqb]]
      have hd3 : Dt.deps l + 1 ≤ 60 := by rw [Dt.dep] at hd2; exact hd2
      exact rc_tup I (eq_at I (Dt.deps l)) (Nat.le_refl _) (by omega) (by rw [Dt.sim] at hs; exact hs) q1 q2 p1 p2
    | _ => exact absurd hs (by rw [Dt.sim] <;> simp)
  | lst l =>
    cases e with
    | lst m =>
      simp only [Rep] at h1 h2
      obtain ⟨a, xs, rfl, q1, p1⟩ := h1
      obtain ⟨b, ys, rfl, q2, p2⟩ := h2
      cases r1; cases r2
      rw [show Dt.eqb (.lst l) (.lst m) = Dt.eqbs l m from by rw [Dt.eqb]]
      have hd3 : Dt.deps l + 1 ≤ 60 := by rw [Dt.dep] at hd2; exact hd2
      exact rc_lst I (eq_at I (Dt.deps l)) (Nat.le_refl _) (by omega) (by rw [Dt.sim] at hs; exact hs) q1 q2 p1 p2
    | _ => exact absurd hs (by rw [Dt.sim] <;> simp)
  | non => exact absurd (show 1 ≤ 0 from hd) (by decide)
  | bl b => exact absurd (show 1 ≤ 0 from hd) (by decide)
  | int b => exact absurd (show 1 ≤ 0 from hd) (by decide)
  | str b => exact absurd (show 1 ≤ 0 from hd) (by decide)
theorem op_eqD {X : Cx} (hu : X.A.units + 64 < cLine) : OpR X (compareOp .Eq) (rEqD X.K false) := by
  intro pins s σ H x y v u Q I rx ry h
  obtain ⟨d, e, h1, h2, hs, hd, hd2, q⟩ := h
  exact (eqD_at I hu h1 h2 hs hd hd2 rx ry).1 _ _ _ _ ⟨.bl (d.eqb e), H, I, rfl, q⟩
theorem op_neD {X : Cx} (hu : X.A.units + 64 < cLine) : OpR X (compareOp .NotEq) (rEqD X.K true) := by
  intro pins s σ H x y v u Q I rx ry h
  obtain ⟨d, e, h1, h2, hs, hd, hd2, q⟩ := h
  exact (eqD_at I hu h1 h2 hs hd hd2 rx ry).2 _ _ _ _ ⟨.bl (!d.eqb e), H, I, rfl, q⟩
end L2
namespace L2
open PySem PySem.Spec PyProof.Rows
theorem rel_mem {scope : Scope} {env : Env} {y : Str} {k : NameKind} (h : (relabel scope env).names.lookup y = some k) (hk : k = .cell ∨ k = .free) (hc : ∀ p ∈ scope.names, p.2 ≠ .cell) : (y, NameKind.free) ∈ scope.names := by
  have m := PySem.mem_of_lookup h
  obtain ⟨⟨n, k'⟩, hm, e⟩ := List.mem_map.mp (show (y, k) ∈ scope.names.map _ from m)
  dsimp only at e
  split at e
  · rename_i q
    cases e
    have z : (k' == NameKind.free) = true := (Bool.and_eq_true_iff.mp (Bool.and_eq_true_iff.mp q).1).1
    rw [beq_iff_eq.mp z] at hm
    exact hm
  · cases e
    rcases hk with rfl | rfl
    · exact absurd rfl (hc _ hm)
    · exact hm
theorem pe_comp1 {X : Cx} {elt iter tg : Expr} {scope : Scope} (Nl : List Str) (y : Str) (j : Nat) {c : Addr} {wi : TI} {g : TG} {te : TE} {pos : Pos} (hc : X.calm = true) (hi : PI X tg iter wi)
    (hg : ∀ C s₀ H₀ ex pn, PG (X.cp (Nl ++ [y]) scope [(y, c)] C s₀ H₀ ex pn) tg g) (he : ∀ C s₀ H₀ ex pn, PE (X.cp (Nl ++ [y]) scope [(y, c)] C s₀ H₀ ex pn) elt te)
    (hclos : closureFor scope X.env = pure [(y, c)]) (hy : X.env.cells.lookup y = some c) (hN : X.N[j]? = some y) (hk : X.env.kindOf y = some .cell) (hb : (relabel scope X.env).names.lookup y = some .cell)
    (h1 : ∀ p ∈ scope.names, p.2 = .free → p.1 = y := by decide +kernel) (hcell : ∀ y ∈ scope.names, y.2 ≠ .cell := by decide +kernel) (hkind : scope.kind = .function := by rfl) (hnames : ∀ y ∈ scope.names, y.2 = .local → scope.names.lookup y.1 = some .local := by decide +kernel)
    (hs : ∀ x, foldedSetIterable iter X.env x = pure x := by intro _; rfl) : PCo X (.ListComp elt [⟨tg, iter, [], 0⟩] scope pos) scope iter (tComp ((Nl.map fun _ => none) ++ [some j]) wi g te) := by
  have look : ∀ z d, List.lookup z [(y, c)] = some d → z = y ∧ d = c := fun z d h => by
    have m := PySem.mem_of_lookup h
    cases List.mem_singleton.mp m
    exact ⟨rfl, rfl⟩
  have self : List.lookup y [(y, c)] = some c := by simp
  refine pe_comp (cl := [(y, c)]) (Nc := Nl ++ [y]) hc hi hg he (by simp) (fun z d h => ?_) (fun z h => ?_) (fun i z j' e1 e2 => ?_) hclos hcell hkind hnames hs
  · obtain ⟨rfl, rfl⟩ := look z d h
    exact hy
  · have m := h.elim (fun q => rel_mem q (.inl rfl) hcell) fun q => rel_mem q (.inr rfl) hcell
    have e : z = y := h1 _ m rfl
    subst e
    exact ⟨c, self⟩
  · have hi : i = Nl.length := by
      by_cases hlt : i < Nl.length
      · rw [List.getElem?_append_left (by simpa using hlt), List.getElem?_map] at e2
        cases q : Nl[i]? with
        | none => rw [q] at e2; cases e2
        | some z => rw [q] at e2; cases e2
      · have := (List.getElem?_eq_some_iff.mp e1).1
        simp at this
        omega
    subst hi
    have a1 : (Nl ++ [y])[Nl.length]? = some y := by simp
    have a2 : ((Nl.map fun _ => (none : Option Nat)) ++ [some j])[Nl.length]? = some (some j) := by
      rw [List.getElem?_append_right (by simp)]
      simp
    rw [a1] at e1; cases e1
    rw [a2] at e2; cases e2
    exact ⟨hN, .inr (.inl hk), by rw [hk]; exact (fun q => nomatch q), .inl hb, fun d h => by rw [hy] at h; cases h; exact self⟩
structure Callee (P : Program) (w : World) (K : PySem.W.Frag) (mg : Str → Option Value) (base : Heap) (k : Nat) (x : Str) (ps : List Str) (sp : Sp) : Prop where
  ex : ∃ f fd, FnOk P w K mg base (CXe P w) k f fd ps sp ∧ mg x = some (.ref f) ∧ PySem.W.keepIn K (.ref f) = true ∧ Binds K fd ps []
structure CalleeU (P : Program) (w : World) (K : PySem.W.Frag) (mg : Str → Option Value) (base : Heap) (k : Nat) (x : Str) (ps : List Str) (sp : Sp) : Prop where
  ex : ∃ f fd, FnOkU P w K mg base (CXe P w) k f fd ps sp ∧ mg x = some (.ref f) ∧ PySem.W.keepIn K (.ref f) = true ∧ Binds K fd ps []
section
variable {X : Cx} {k : Nat} {sp : Sp} {ps : List Str} {x : Str} {p pos : Pos} {e : Expr} {es : List Expr} {t : TA}
theorem pe_c {E : XK} (G : Callee X.prog X.w X.K X.mg X.base k x ps sp) (hr : Room k X.A) (hx : Passes (CXe X.prog X.w) X E) (ha : PA X (e :: es) t) (hg : Gl X x := by rfl)
    (hdb : (x == ("__debug__" : Str)) = false := by decide) (he : starEach (e :: es) X.env = (false, eval e X.env) :: starEach es X.env := by rfl) (hpl : (backTo pos (starEach es X.env)).any (·.1) = false := by rfl) :
    PE X (.Call (.Name x p) (e :: es) [] pos) (tCall sp [] E t) := by
  obtain ⟨f, fd, F, m, kp, b⟩ := G.ex
  exact pe_call F hr hg m kp b .nil hx ha hdb he hpl
theorem pe_cS {E : St → XK} (G : Callee X.prog X.w X.K X.mg X.base k x ps sp) (hr : Room k X.A) (hx : PassesS (CXe X.prog X.w) X E) (ha : PA X (e :: es) t) (hg : Gl X x := by rfl)
    (hdb : (x == ("__debug__" : Str)) = false := by decide) (he : starEach (e :: es) X.env = (false, eval e X.env) :: starEach es X.env := by rfl) (hpl : (backTo pos (starEach es X.env)).any (·.1) = false := by rfl) :
    PE X (.Call (.Name x p) (e :: es) [] pos) (tCallS sp [] E t) := by
  obtain ⟨f, fd, F, m, kp, b⟩ := G.ex
  exact pe_callS F hr hg m kp b .nil hx ha hdb he hpl
theorem pe_cU {E : XK} (G : CalleeU X.prog X.w X.K X.mg X.base k x ps sp) (hr : RoomU k X.A) (hx : Passes (CXe X.prog X.w) X E) (ha : PA X (e :: es) t) (hg : Gl X x := by rfl)
    (hdb : (x == ("__debug__" : Str)) = false := by decide) (he : starEach (e :: es) X.env = (false, eval e X.env) :: starEach es X.env := by rfl) (hpl : (backTo pos (starEach es X.env)).any (·.1) = false := by rfl) :
    PE X (.Call (.Name x p) (e :: es) [] pos) (tCall sp [] E t) := by
  obtain ⟨f, fd, F, m, kp, b⟩ := G.ex
  exact pe_callU F hr hg m kp b .nil hx ha hdb he hpl
end
theorem np {P : Program} {w : World} {X : Cx} : Passes (CXe P w) X E0 := passE0
end L2
namespace L2
open PySem PySem.Spec PyProof.Rows
def tMo (t : TE) : TE := fun σ H Q => ∃ Q0 : VK, t σ H Q0 ∧ ∀ v H', Q0 v H' → Q v H'
theorem PE.mo {X : Cx} {e : Expr} {t : TE} (h : PE X e t) : PE X e (tMo t) := fun pins s σ H Q I ⟨Q0, h0, k⟩ =>
  thn (h pins s σ H Q0 I h0) fun u s1 ⟨v, H1, I1, r, q⟩ => ⟨v, H1, I1, r, k v H1 q⟩
def FR (n : Nat) (g : TG) (tb : TS) (D : Ends) (σ : St) (H : Hp) : Prop := ∃ Pv : Nat → St → Hp → Prop, Pv 0 σ H ∧ (∀ i σ H, i < n → Pv i σ H → g (.int i) σ H fun σ2 H2 => tb { D with nx := Pv (i + 1), ct := Pv (i + 1), bk := D.nx } σ2 H2) ∧ ∀ σ H, Pv n σ H → D.nx σ H
def tForR (te : TE) (g : TG) (tb : TS) : TS := fun D σ H => te σ H fun v H1 => ∃ j : Int, v = .int j ∧ -(2 ^ 62) ≤ j ∧ j < 2 ^ 62 ∧ FR j.toNat g tb D σ H1
section
variable {X : Cx} {tg a : Expr} {body : List Stmt} {te : TE} {g : TG} {tb : TS} {p pos pos' : Pos}
theorem pi_rangeM (hg : Gl X "range") (hm : X.mg "range" = none) (ha : PE X a te) (hs : starEach [a] X.env = [(false, eval a X.env)]) : PI X tg (.Call (.Name "range" p) [a] [] pos) (iRng1 (tCons (tMo te) tNil)) := pi_range1 hg hm (pa_cons ha.mo pa_nil (by rw [hs]; rfl)) hs
theorem ps_forR (hc : X.calm = true) (hp : PassesOwn (model X.prog X.w) X.A X.env X.xe) (hm : X.mg "range" = none) (ha : PE X a te) (hgt : PG X tg g) (hb : PSs X body tb) (hg : Gl X "range" := by rfl) (hs : starEach [a] X.env = [(false, eval a X.env)] := by rfl) :
    PS X (.For tg (.Call (.Name "range" p) [a] [] pos') body [] pos) (tForR te g tb) := by
  intro pins s σ H D I h
  refine ps_for hp hc (pi_rangeM hg hm ha hs) hgt hb (by intro _; rfl) pins s σ H D I ?_
  refine ⟨_, h, fun v H1 ⟨j, e, b1, b2, Pv, p0, pt, pd⟩ => ⟨j, by rw [e], b1, b2, ?_⟩⟩
  exact for_range (lo := 0) (n := j.toNat) Pv p0 (fun i σ' H' hi q => by rw [show (0 : Int) + (i : Int) = (i : Int) from Int.zero_add _]; exact pt i σ' H' hi q) pd
end
def FL (xs : List V) (at_ : Hp → Prop) (g : TG) (tb : TS) (D : Ends) (σ : St) (H : Hp) : Prop := ∃ Pv : Nat → St → Hp → Prop, Pv 0 σ H ∧ (∀ i σ H, i ≤ xs.length → Pv i σ H → at_ H) ∧ (∀ i x σ H, xs[i]? = some x → Pv i σ H → g x σ H fun σ2 H2 => tb { D with nx := Pv (i + 1), ct := Pv (i + 1), bk := D.nx } σ2 H2) ∧ ∀ σ H, Pv xs.length σ H → D.nx σ H
def tForL (K : PySem.W.Frag) (te : TE) (g : TG) (tb : TS) : TS := fun D σ H => te σ H fun v H1 => ∃ a xs, v = .ref a ∧ SqL K H1 a xs ∧ FL xs (fun H => SqL K H a xs) g tb D σ H1
def tForT (K : PySem.W.Frag) (te : TE) (g : TG) (tb : TS) : TS := fun D σ H => te σ H fun v H1 => ∃ a xs, v = .ref a ∧ SqT K H1 a xs ∧ FL xs (fun H => SqT K H a xs) g tb D σ H1
section
variable {X : Cx} {tg l : Expr} {body : List Stmt} {te : TE} {g : TG} {tb : TS} {p pos pos' : Pos}
end
def CO (n : Nat) (src : Nat → Hp → V → Prop) (st : Hp → Prop) (js : List (Option Nat)) (g : TG) (tl : TE) (σ : St) (H1 : Hp) (Q : VK) : Prop := ∀ D, H1 D = none → ∃ Pv : Nat → List V → St → Hp → Prop, Pv 0 [] (cσ js σ) (upd H1 D (.lst [])) ∧ (∀ i ys σc H, i ≤ n → Pv i ys σc H → st H) ∧
  (∀ i ys σc H x, i < n → Pv i ys σc H → src i H x → g x σc H fun σ2 H2 => tl σ2 H2 fun y H3 => H3 D = some (.lst ys) ∧ ys.length < sizeLine ∧ Pv (i + 1) (ys ++ [y]) σ2 (upd H3 D (.lst (ys ++ [y])))) ∧ ∀ ys σc H, Pv n ys σc H → H D = some (.lst ys) ∧ Q (.ref D) H
def tMoG (g : TG) : TG := fun v σ H Q => ∃ Q0 : St → Hp → Prop, g v σ H Q0 ∧ ∀ σ' H', Q0 σ' H' → Q σ' H'
theorem CO.run {n : Nat} {src : Nat → Hp → V → Prop} {st : Hp → Prop} {js : List (Option Nat)} {g : TG} {tl : TE} {σ : St} {H1 : Hp} {Q : VK} {J : It} (h : CO n src st js g tl σ H1 Q) (hgo : ∀ i H, i < n → st H → J.go i H) (hst : ∀ H, st H → J.stop n H) (hy : ∀ i H x H', i < n → st H → J.yld i H x H' → H' = H ∧ src i H x) :
    ∀ D, H1 D = none → ∃ W : Nat → Nat → List V → St → Hp → Prop, (∃ m, W 0 m [] (cσ js σ) (upd H1 D (.lst []))) ∧
    ∀ i m ys σc H, W i m ys σc H → (H D = some (.lst ys) ∧ J.stop i H ∧ Q (.ref D) H) ∨ (J.go i H ∧ ∀ x H', J.yld i H x H' → tMoG g x σc H' fun σ2 H2 => tMo tl σ2 H2 fun y H3 => H3 D = some (.lst ys) ∧ ys.length < sizeLine ∧ ∃ m', m' < m ∧ W (i + 1) m' (ys ++ [y]) σ2 (upd H3 D (.lst (ys ++ [y])))) := by
  intro D hD
  obtain ⟨Pv, p0, ps, pt, pd⟩ := h D hD
  refine ⟨fun i m ys σc H => m = n - i ∧ i ≤ n ∧ Pv i ys σc H, ⟨n, by simp, Nat.zero_le _, p0⟩, ?_⟩
  rintro i m ys σc H ⟨rfl, hi, p⟩
  have s0 := ps i ys σc H hi p
  by_cases hlt : i < n
  · refine .inr ⟨hgo i H hlt s0, fun x H' y => ?_⟩
    obtain ⟨rfl, hx⟩ := hy i H x H' hlt s0 y
    have z := pt i ys σc H' x hlt p hx
    exact ⟨_, z, fun σ2 H2 z2 => ⟨_, z2, fun y3 H3 ⟨a1, a2, a3⟩ => ⟨a1, a2, n - (i + 1), by omega, rfl, hlt, a3⟩⟩⟩
  · have e : i = n := by omega
    subst e
    obtain ⟨a1, a2⟩ := pd ys σc H p
    exact .inl ⟨a1, hst H s0, a2⟩
def tCoR (js : List (Option Nat)) (te : TE) (g : TG) (tl : TE) : TE := fun σ H Q => te σ H fun v H1 => ∃ j : Int, v = .int j ∧ -(2 ^ 62) ≤ j ∧ j < 2 ^ 62 ∧ CO j.toNat (fun i _ x => x = .int i) (fun _ => True) js g tl σ H1 Q
def tCoL (K : PySem.W.Frag) (js : List (Option Nat)) (te : TE) (g : TG) (tl : TE) : TE := fun σ H Q => te σ H fun v H1 => ∃ a xs, v = .ref a ∧ SqL K H1 a xs ∧ CO xs.length (fun i _ x => xs[i]? = some x) (fun H => SqL K H a xs) js g tl σ H1 Q
def tCoT (K : PySem.W.Frag) (js : List (Option Nat)) (te : TE) (g : TG) (tl : TE) : TE := fun σ H Q => te σ H fun v H1 => ∃ a xs, v = .ref a ∧ SqT K H1 a xs ∧ CO xs.length (fun i _ x => xs[i]? = some x) (fun H => SqT K H a xs) js g tl σ H1 Q
theorem PG.mo {X : Cx} {tg : Expr} {g : TG} (h : PG X tg g) : PG X tg (tMoG g) := fun pins s σ H v u Q I r ⟨Q0, h0, k⟩ =>
  thn (h pins s σ H v u Q0 I r h0) fun _ s1 ⟨σ1, H1, I1, q⟩ => ⟨σ1, H1, I1, k σ1 H1 q⟩
theorem PE.of {X : Cx} {e : Expr} {t t' : TE} (h : PE X e t') (k : ∀ σ H Q, t σ H Q → t' σ H Q) : PE X e t := fun pins s σ H Q I q => h pins s σ H Q I (k σ H Q q)
section
variable {X : Cx} {tg a elt : Expr} {te tl : TE} {g : TG} {p pos pos' : Pos} {scope : Scope} {cl : List (Str × Addr)} {Nc : List Str} {js : List (Option Nat)}
theorem coR (hm : X.mg "range" = none) (ha : PE X a te) (hp : ∀ (wi : TI), PI X tg (.Call (.Name "range" p) [a] [] pos') wi → PCo X (.ListComp elt [⟨tg, .Call (.Name "range" p) [a] [] pos', [], 0⟩] scope pos) scope (.Call (.Name "range" p) [a] [] pos') (tComp js wi (tMoG g) (tMo tl)))
    (hg : Gl X "range" := by rfl) (hs : starEach [a] X.env = [(false, eval a X.env)] := by rfl) : PCo X (.ListComp elt [⟨tg, .Call (.Name "range" p) [a] [] pos', [], 0⟩] scope pos) scope (.Call (.Name "range" p) [a] [] pos') (tCoR js te g tl) := by
  refine (hp _ (pi_rangeM hg hm ha hs)).of fun σ H Q h => ?_
  refine ⟨_, h, fun v H1 ⟨j, e, b1, b2, c⟩ => ⟨j, by rw [e], b1, b2, ?_⟩⟩
  refine CO.run (J := Itr 0 j.toNat) c (fun _ _ h _ => h) (fun _ _ => Nat.le_refl _) fun i H x H' _ _ y => ⟨y.1, ?_⟩
  rw [y.2, Int.zero_add]
end
def tMoT (t : TT) : TT := fun σ H Q => ∃ Q0 : Bool → Hp → Prop, t σ H Q0 ∧ ∀ v H', Q0 v H' → Q v H'
theorem PT.mo {X : Cx} {e : Expr} {t : TT} (h : PT X e t) : PT X e (tMoT t) := fun pins s σ H Q I ⟨Q0, h0, k⟩ => thn (h pins s σ H Q0 I h0) fun u s1 ⟨H1, I1, q⟩ => ⟨H1, I1, k u H1 q⟩
end L2
namespace L2
open PySem PySem.Spec PyProof.Rows
theorem kit_int_int (K : PySem.W.Frag) : PySem.W.kitOne K (.type "int") (.type "int") = some true := by
  unfold PySem.W.kitOne
  rw [if_pos (by decide)]
theorem kit_str_str (K : PySem.W.Frag) : PySem.W.kitOne K (.type "str") (.type "str") = some true := by
  unfold PySem.W.kitOne
  rw [if_pos (by decide)]
theorem kit_int_bool (K : PySem.W.Frag) : PySem.W.kitOne K (.type "int") (.type "bool") = some false := by
  unfold PySem.W.kitOne
  rw [if_neg (by decide)]
  show (if PySem.W.kitMeta "bool" = true then (fastBuiltinMro "int").map (·.contains (.type "bool")) else none) = some false
  decide +kernel
section
variable {K : PySem.W.Frag} {H : Hp} {Q : VK}
theorem isi_ii {a : Int} (q : Q (.bl true) H) : rIsi K [.int a, .ty "int"] H Q := ⟨_, _, _, _, _, rfl, rfl, .of (.int a), kit_int_int K, q⟩
theorem isi_ib {a : Int} (q : Q (.bl false) H) : rIsi K [.int a, .ty "bool"] H Q := ⟨_, _, _, _, _, rfl, rfl, .of (.int a), kit_int_bool K, q⟩
theorem isi_ss {x : Str} (q : Q (.bl true) H) : rIsi K [.str x, .ty "str"] H Q := ⟨_, _, _, _, _, rfl, rfl, .of (.str x), kit_str_str K, q⟩
theorem isi_x {a C : Addr} {c : V} {cv : Value} {b : Bool} {dv : Option Addr} (e : H a = some (excD a (.ref C) dv)) (x : XCls K C) (hc : clsV c = some cv) (k : PySem.W.kitOne K (.ref C) cv = some b) (q : Q (.bl b) H) : rIsi K [.ref a, c] H Q := ⟨_, _, _, _, _, rfl, hc, .exc e x, k, q⟩
end
theorem sz_le (n : Nat) (h : n ≤ 1000) : n ≤ sizeLine := Nat.le_of_lt (small1000 h)
theorem same_upd {H : Hp} {p : Addr} {o : HO} (h : H p = none) : Same H (upd H p o) := fun b u e => by rw [upd_ne (ne_of_none e h)]; exact e
theorem step3 {K : PySem.W.Frag} {C e l : Addr} {dv : Option Addr} {xs : List V} {H : Hp} {c1 c2 c3 : V} {v1 v2 v3 : Value} {b1 b2 b3 : Bool} {R : VK} (he : H e = some (excD e (.ref C) dv)) (hl : H l = some (.lst xs)) (hn : xs.length ≤ 100) (x : XCls K C)
    (d1 : clsV c1 = some v1) (k1 : PySem.W.kitOne K (.ref C) v1 = some b1) (d2 : clsV c2 = some v2) (k2 : PySem.W.kitOne K (.ref C) v2 = some b2) (d3 : clsV c3 = some v3) (k3 : PySem.W.kitOne K (.ref C) v3 = some b3)
    (h : ∀ l' H', Same H H' → H l' = none → H' e = some (excD e (.ref C) dv) → H' l' = some (.lst (xs ++ [.bl b1, .bl b2, .bl b3])) → R (.ref l') H') :
    rIsi K [.ref e, c1] H fun x1 H1 => rIsi K [.ref e, c2] H1 fun x2 H2 => rIsi K [.ref e, c3] H2 fun x3 H3 => 3 ≤ sizeLine ∧ ∀ p, H3 p = none → rCat (.ref l) (.ref p) (upd H3 p (.lst [x1, x2, x3])) R := by
  refine isi_x he x d1 k1 (isi_x he x d2 k2 (isi_x he x d3 k3 ⟨sz_le 3 (by decide), fun p n => ?_⟩))
  have s1 : Same H (upd H p (.lst [.bl b1, .bl b2, .bl b3])) := same_upd n
  refine ⟨l, p, _, _, rfl, rfl, s1 _ _ hl, upd_same, sz_le _ (by simp; omega), fun q m => ?_⟩
  have s2 := s1.trans (same_upd (o := .lst (xs ++ [.bl b1, .bl b2, .bl b3])) m)
  exact h q _ s2 (s1.free m) (s2 _ _ he) upd_same
theorem CO.pure1 {n : Nat} {src : Nat → Hp → V → Prop} {st : Hp → Prop} {js : List (Option Nat)} {tl : TE} {σ : St} {H1 : Hp} {Q : VK} (f : Nat → V) (hn : n ≤ 1000) (hst : ∀ H, Same H1 H → st H)
    (hel : ∀ i H x (R : VK), i < n → Same H1 H → src i H x → (∀ y H3, y = f i → Same H H3 → R y H3) → tl (some x :: cσ js σ) H R)
    (hq : ∀ D H, Same H1 H → H1 D = none → H D = some (.lst ((List.range n).map f)) → Q (.ref D) H) : CO n src st (none :: js) (gName 0) tl σ H1 Q := by
  intro D hD
  refine ⟨fun i ys σc H => (∃ r, σc = r :: cσ js σ) ∧ Same H1 H ∧ H D = some (.lst ys) ∧ ys = (List.range i).map f, ⟨⟨none, rfl⟩, same_upd hD, upd_same, rfl⟩, fun i ys σc H _ h => hst H h.2.1, ?_, ?_⟩
  · rintro i ys σc H x hi ⟨⟨r, rfl⟩, sm, hd, rfl⟩ hx
    refine hel i H x _ hi sm hx fun y H3 hy s3 => ?_
    refine ⟨s3 _ _ hd, small1000 (by simp; omega), ⟨_, rfl⟩, ?_, upd_same, ?_⟩
    · intro b o z
      rw [upd_ne (ne_of_none z hD)]
      exact s3 _ _ (sm _ _ z)
    · rw [hy, List.range_succ, List.map_append]
      rfl
  · rintro ys σc H ⟨_, sm, hd, rfl⟩
    exact ⟨hd, hq D H sm hD hd⟩
theorem neD_same {K : PySem.W.Frag} {H : Hp} {x y : V} {Q : VK} (d : Dt) (h1 : Rep K H d x) (h2 : Rep K H d y) (a : 1 ≤ d.dep) (b : d.dep ≤ 60) (q : Q (.bl false) H) : rEqD K true x y H Q := ⟨d, d, h1, h2, d.sim_refl, a, b, by rw [d.eqb_refl]; exact q⟩
theorem eqD_same {K : PySem.W.Frag} {H : Hp} {x y : V} {Q : VK} (d : Dt) (h1 : Rep K H d x) (h2 : Rep K H d y) (a : 1 ≤ d.dep) (b : d.dep ≤ 60) (q : Q (.bl true) H) : rEqD K false x y H Q := ⟨d, d, h1, h2, d.sim_refl, a, b, by rw [d.eqb_refl]; exact q⟩
theorem reps_bl {K : PySem.W.Frag} {H : Hp} : ∀ bs : List Bool, Reps K H (bs.map Dt.bl) (bs.map V.bl)
  | [] => by simp [Reps]
  | b :: bs => by
    simp only [List.map_cons, Reps]
    exact ⟨_, _, rfl, by simp only [Rep], reps_bl bs⟩
theorem deps_bl : ∀ bs : List Bool, Dt.deps (bs.map Dt.bl) = 0
  | [] => rfl
  | b :: bs => by rw [List.map_cons, Dt.deps, deps_bl bs]; rfl
end L2
namespace Mt
structure Red (t b u v : Int) : Prop where
  pos : 1 ≤ v
  low : Int.gcd u v = 1
  eq : u * b = t * v
  ut : u.natAbs ≤ t.natAbs
  vb : v.natAbs ≤ b.natAbs
theorem gcd_parts {t b : Int} (hb : b ≠ 0) : ∃ u v : Int, t = (Int.gcd t b : Nat) * u ∧ b = (Int.gcd t b : Nat) * v ∧ Int.gcd u v = 1 ∧ 0 < Int.gcd t b := by
  have hp : 0 < Int.gcd t b := Int.gcd_pos_of_ne_zero_right t hb
  refine ⟨t / (Int.gcd t b : Nat), b / (Int.gcd t b : Nat), ?_, ?_, Int.gcd_ediv_gcd_ediv_gcd hp, hp⟩
  · exact (Int.mul_ediv_cancel' (Int.gcd_dvd_left t b)).symm
  · exact (Int.mul_ediv_cancel' (Int.gcd_dvd_right t b)).symm
theorem fdiv_part {x g u : Int} (hg : g ≠ 0) (h : x = g * u) : x.fdiv g = u := by rw [h, Int.mul_fdiv_cancel_left _ hg]
end Mt
namespace Mt
structure Fr (t b : Int) : Prop where
  pos : 1 ≤ b
  low : Int.gcd t b = 1
structure Is (t b u v : Int) : Prop where
  fr : Fr u v
  eq : u * b = t * v
theorem cop {a b : Int} : Int.gcd a b = 1 ↔ Nat.Coprime a.natAbs b.natAbs := Iff.rfl
theorem parts {t b : Int} (hb : b ≠ 0) : ∃ u v g : Int, g = (Int.gcd t b : Nat) ∧ 0 < g ∧ t = g * u ∧ b = g * v ∧ Int.gcd u v = 1 ∧ t.fdiv g = u ∧ b.fdiv g = v := by
  obtain ⟨u, v, h1, h2, hc, hp⟩ := gcd_parts (t := t) hb
  have hg : ((Int.gcd t b : Nat) : Int) ≠ 0 := by omega
  exact ⟨u, v, _, rfl, by omega, h1, h2, hc, fdiv_part hg h1, fdiv_part hg h2⟩
theorem Red.is {t b u v : Int} (h : Red t b u v) : Is t b u v := ⟨⟨h.pos, h.low⟩, h.eq⟩
end Mt
namespace Mt
theorem Is.dvd {t b u v : Int} (h : Is t b u v) : v ∣ b ∧ u ∣ t := by
  have e := h.eq
  have c : Nat.Coprime u.natAbs v.natAbs := h.fr.low
  constructor
  · have d : v.natAbs ∣ u.natAbs * b.natAbs := by
      rw [← Int.natAbs_mul, e, Int.natAbs_mul]
      exact Nat.dvd_mul_left _ _
    exact Int.natAbs_dvd_natAbs.mp (c.symm.dvd_of_dvd_mul_left d)
  · have d : u.natAbs ∣ v.natAbs * t.natAbs := by
      rw [← Int.natAbs_mul, Int.mul_comm, ← e, Int.natAbs_mul]
      exact Nat.dvd_mul_right _ _
    exact Int.natAbs_dvd_natAbs.mp (c.dvd_of_dvd_mul_left d)
theorem fr_rat (a : Rat) : Fr a.num a.den := ⟨by have := a.den_nz; omega, by rw [cop]; exact a.reduced⟩
theorem den_ne (a : Rat) : (a.den : Int) ≠ 0 := by have := a.den_nz; omega
theorem rat_add (a b : Rat) : Rat.divInt (a.num * b.den + b.num * a.den) (a.den * b.den) = a + b := by
  rw [← Rat.divInt_add_divInt _ _ (den_ne a) (den_ne b), Rat.num_divInt_den, Rat.num_divInt_den]
theorem rat_mul (a b : Rat) : Rat.divInt (a.num * b.num) (a.den * b.den) = a * b := by
  rw [← Rat.divInt_mul_divInt, Rat.num_divInt_den, Rat.num_divInt_den]
theorem rat_is (t : Int) {b : Int} (hb : b ≠ 0) : (Rat.divInt t b).num * b = t * (Rat.divInt t b).den := by
  have h := Rat.num_divInt_den (Rat.divInt t b)
  exact ((Rat.divInt_eq_divInt_iff (den_ne _) hb).mp h)
theorem rat_isI (t : Int) {b : Int} (hb : b ≠ 0) : Is t b (Rat.divInt t b).num (Rat.divInt t b).den := ⟨fr_rat _, rat_is t hb⟩
theorem rat_le (t : Int) {b : Int} (hb : b ≠ 0) : (Rat.divInt t b).num.natAbs ≤ t.natAbs ∧ ((Rat.divInt t b).den : Int).natAbs ≤ b.natAbs := by
  obtain ⟨d1, d2⟩ := (rat_isI t hb).dvd
  refine ⟨?_, Nat.le_of_dvd (by omega) (Int.natAbs_dvd_natAbs.mpr d1)⟩
  by_cases ht : t = 0
  · have e := rat_is t hb
    rw [ht, Int.zero_mul] at e
    rcases Int.mul_eq_zero.mp e with z | z
    · rw [ht, z]; exact Nat.le_refl _
    · exact absurd z hb
  · exact Nat.le_of_dvd (by omega) (Int.natAbs_dvd_natAbs.mpr d2)
def Lat (D N : Nat) (q : Rat) : Prop := ∃ m : Int, q * ((D : Int) : Rat) = m ∧ m.natAbs ≤ N
theorem Lat.dvd {D N : Nat} {q : Rat} (h : Lat D N q) (hD : D ≠ 0) : q.den ∣ D ∧ q.num.natAbs ≤ N := by
  obtain ⟨m, e, hm⟩ := h
  have e2 : q = Rat.divInt m D := by
    rw [Rat.divInt_eq_div, ← e]
    have : ((D : Int) : Rat) ≠ 0 := by
      have : (D : Int) ≠ 0 := by omega
      exact fun z => this (Rat.intCast_inj.mp z)
    grind
  have hd : (D : Int) ≠ 0 := by omega
  have l := rat_le m hd
  have d := (rat_isI m hd).dvd.1
  rw [← e2] at l d
  exact ⟨Int.natCast_dvd_natCast.mp d, Nat.le_trans l.1 hm⟩
theorem Lat.le {D N : Nat} {q : Rat} (h : Lat D N q) (hD : D ≠ 0) : q.den ≤ D := Nat.le_of_dvd (by omega) (h.dvd hD).1
theorem Lat.add {D M N : Nat} {a b : Rat} (h : Lat D M a) (k : Lat D N b) : Lat D (M + N) (a + b) := by
  obtain ⟨m, e, hm⟩ := h
  obtain ⟨n, f, hn⟩ := k
  exact ⟨m + n, by rw [Rat.add_mul, e, f, Rat.intCast_add], by omega⟩
theorem Lat.neg {D M : Nat} {a : Rat} (h : Lat D M a) : Lat D M (-a) := by
  obtain ⟨m, e, hm⟩ := h
  exact ⟨-m, by rw [Rat.neg_mul, e, Rat.intCast_neg], by omega⟩
theorem Lat.mul {D E M N : Nat} {a b : Rat} (h : Lat D M a) (k : Lat E N b) : Lat (D * E) (M * N) (a * b) := by
  obtain ⟨m, e, hm⟩ := h
  obtain ⟨n, f, hn⟩ := k
  refine ⟨m * n, ?_, by rw [Int.natAbs_mul]; exact Nat.mul_le_mul hm hn⟩
  rw [Rat.intCast_mul, ← e, ← f, Int.natCast_mul, Rat.intCast_mul]
  grind
theorem Lat.mono {D M N : Nat} {a : Rat} (h : Lat D M a) (k : M ≤ N) : Lat D N a := by
  obtain ⟨m, e, hm⟩ := h
  exact ⟨m, e, Nat.le_trans hm k⟩
theorem Lat.zero {D N : Nat} : Lat D N 0 := ⟨0, by rw [Rat.zero_mul]; rfl, Nat.zero_le _⟩
theorem Lat.of (q : Rat) : Lat q.den q.num.natAbs q := ⟨q.num, by
  have e := Rat.num_divInt_den q
  rw [Rat.divInt_eq_div] at e
  have : ((q.den : Int) : Rat) ≠ 0 := fun z => den_ne q (Rat.intCast_inj.mp z)
  generalize ((q.den : Int) : Rat) = d at *
  generalize (q.num : Rat) = n at *
  grind, Nat.le_refl _⟩
theorem Lat.up {D E M : Nat} {a : Rat} (h : Lat D M a) : Lat (D * E) (M * E) a := by
  obtain ⟨m, e, hm⟩ := h
  refine ⟨m * E, ?_, by rw [Int.natAbs_mul]; exact Nat.mul_le_mul hm (Nat.le_refl _)⟩
  rw [Rat.intCast_mul, ← e, Int.natCast_mul, Rat.intCast_mul, Rat.mul_assoc]
theorem add_le (a b : Rat) : (a + b).num.natAbs ≤ (a.num * b.den + b.num * a.den).natAbs ∧ ((a + b).den : Int).natAbs ≤ ((a.den : Int) * b.den).natAbs := by
  rw [← rat_add]; exact rat_le _ (Int.mul_ne_zero (den_ne a) (den_ne b))
theorem mul_le (a b : Rat) : (a * b).num.natAbs ≤ (a.num * b.num).natAbs ∧ ((a * b).den : Int).natAbs ≤ ((a.den : Int) * b.den).natAbs := by
  rw [← rat_mul]; exact rat_le _ (Int.mul_ne_zero (den_ne a) (den_ne b))
end Mt
namespace L2
open PySem PySem.Spec PyProof.Rows
theorem Same.seqT {K : PySem.W.Frag} {H H' : Hp} {a : Addr} {xs : List V} (e : Same H H') (h : SqT K H a xs) : SqT K H' a xs := by
  rcases h with (h | ⟨o, h⟩) | h
  · exact .inl (.inl (e _ _ h))
  · exact .inl (.inr ⟨o, e _ _ h⟩)
  · exact .inr h
def frO (q : Rat) : HO := .tup [.int q.num, .int (q.den : Int)]
def Fq (K : PySem.W.Frag) (H : Hp) (p : Addr) (q : Rat) : Prop := SqT K H p [.int q.num, .int (q.den : Int)]
theorem Fq.of {K : PySem.W.Frag} {H : Hp} {p : Addr} {q : Rat} (h : H p = some (frO q)) : Fq K H p q := SqT.of h
theorem Fq.same {K : PySem.W.Frag} {H H' : Hp} {p : Addr} {q : Rat} (h : Fq K H p q) (e : Same H H') : Fq K H' p q := e.seqT h
def rFqI (K : PySem.W.Frag) : R2 := fun x y H Q => ∃ p a, x = .ref p ∧ Fq K H p a ∧ ((y = .int 0 ∧ Q (.int a.num) H) ∨ (y = .int 1 ∧ Q (.int (a.den : Int)) H))
structure Sz (n : Nat) (q : Rat) : Prop where
  t : Bd n q.num
  b : Bd n (q.den : Int)
theorem Sz.mono {m n : Nat} {q : Rat} (h : Sz m q) (l : m ≤ n) : Sz n q := ⟨h.t.mono l, h.b.mono l⟩
theorem Sz.low {n : Nat} {t b : Int} (hb : b ≠ 0) (h1 : Bd n t) (h2 : Bd n b) : Sz n (Rat.divInt t b) := ⟨h1.le (Mt.rat_le t hb).1, h2.le (Mt.rat_le t hb).2⟩
theorem Sz.int {n : Nat} {t : Int} (h : Bd n t) (h1 : 1 ≤ n) : Sz n (t : Rat) := ⟨by simpa using h, by simp; exact Bd.mono (m := 1) (by show (_ : Nat) < _; decide) h1⟩
theorem Sz.add {m n : Nat} {a b : Rat} (ha : Sz m a) (hb : Sz n b) : Sz (m + n + 1) (a + b) := by
  refine ⟨?_, ?_⟩
  · refine Bd.le ?_ (Mt.add_le a b).1
    have h1 := ha.t.mul hb.b
    have h2 := hb.t.mul ha.b
    rw [Nat.add_comm n m] at h2
    exact h1.add h2
  · refine Bd.le ?_ (Mt.add_le a b).2
    exact (ha.b.mul hb.b).mono (by omega)
theorem Sz.mul {m n : Nat} {a b : Rat} (ha : Sz m a) (hb : Sz n b) : Sz (m + n) (a * b) :=
  ⟨Bd.le (ha.t.mul hb.t) (Mt.mul_le a b).1, Bd.le (ha.b.mul hb.b) (Mt.mul_le a b).2⟩
theorem Sz.neg {n : Nat} {a : Rat} (h : Sz n a) : Sz n (-a) := ⟨by rw [Rat.neg_num]; exact h.t.neg, by rw [Rat.neg_den]; exact h.b⟩
theorem Sz.sub {m n : Nat} {a b : Rat} (ha : Sz m a) (hb : Sz n b) : Sz (m + n + 1) (a - b) := by rw [Rat.sub_eq_add_neg]; exact ha.add hb.neg
theorem Bd.dv {i j : Int} {n : Nat} (h : Bd n j) (z : j ≠ 0) (l : n ≤ 9000 := by decide) : CDivB i j := ⟨z, h.mono l⟩
theorem Bd.mu {i j : Int} {m n : Nat} (h : Bd m i) (k : Bd n j) (l : m ≤ 100000 := by decide) (l' : n ≤ 100000 := by decide) : CMulB i j := ⟨h.mono l, k.mono l'⟩
theorem tSeq_step {t u : TS} {D : Ends} {σ : St} {H : Hp} (h : ∀ N : St → Hp → Prop, (∀ σ H, u D σ H → N σ H) → t { D with nx := N } σ H) : tSeq t u D σ H := h (u D) fun _ _ z => z
end L2
namespace Mt
def cf (l : List Rat) (n : Nat) : Rat := l.getD n 0
def trim : List Rat → List Rat
  | [] => []
  | a :: l => if trim l = [] ∧ a = 0 then [] else a :: trim l
def NZ (l : List Rat) : Prop := l = [] ∨ cf l (l.length - 1) ≠ 0
theorem cf_nil (n : Nat) : cf [] n = 0 := by simp [cf]
theorem cf_zero (a : Rat) (l : List Rat) : cf (a :: l) 0 = a := by simp [cf]
theorem cf_succ (a : Rat) (l : List Rat) (n : Nat) : cf (a :: l) (n + 1) = cf l n := by simp [cf]
theorem cf_ge {l : List Rat} {n : Nat} (h : l.length ≤ n) : cf l n = 0 := by simp [cf, List.getD, List.getElem?_eq_none h]
theorem cf_at {l : List Rat} {n : Nat} {x : Rat} (h : l[n]? = some x) : cf l n = x := by simp [cf, List.getD, h]
theorem cf_lt {l : List Rat} {n : Nat} (h : n < l.length) : l[n]? = some (cf l n) := by simp [cf, List.getD, h]
theorem cf_trim : ∀ (l : List Rat) (n : Nat), cf (trim l) n = cf l n
  | [], n => rfl
  | a :: l, n => by
    rw [trim]
    split
    · rename_i h
      cases n with
      | zero => rw [cf_zero, cf_nil, h.2]
      | succ n => rw [cf_succ, cf_nil, ← cf_trim l n, h.1, cf_nil]
    · cases n with
      | zero => rw [cf_zero, cf_zero]
      | succ n => rw [cf_succ, cf_succ, cf_trim l n]
theorem NZ.cons {a : Rat} {l : List Rat} (h : NZ l) (k : ¬ (l = [] ∧ a = 0)) : NZ (a :: l) := by
  right
  rcases h with h | h
  · subst h
    simp only [List.length_cons, List.length_nil, Nat.zero_add, Nat.sub_self, cf_zero]
    intro z; exact k ⟨rfl, z⟩
  · cases l with
    | nil => exact absurd (cf_nil _) h
    | cons b r =>
      simp only [List.length_cons, Nat.add_sub_cancel] at *
      rw [cf_succ]; exact h
theorem NZ.len {l m : List Rat} (hl : NZ l) (h : ∀ n, cf l n = cf m n) : l.length ≤ m.length := by
  rcases hl with rfl | hl
  · exact Nat.zero_le _
  · rcases Nat.lt_or_ge m.length l.length with z | z
    · rw [h, cf_ge (by omega)] at hl
      exact absurd rfl hl
    · exact z
theorem NZ.ext {l m : List Rat} (hl : NZ l) (hm : NZ m) (h : ∀ n, cf l n = cf m n) : l = m := by
  have e : l.length = m.length := Nat.le_antisymm (hl.len h) (hm.len fun n => (h n).symm)
  refine List.ext_getElem? fun i => ?_
  rcases Nat.lt_or_ge i l.length with z | z
  · rw [cf_lt z, cf_lt (l := m) (by omega), h]
  · rw [List.getElem?_eq_none z, List.getElem?_eq_none (by omega)]
theorem cf_take {l : List Rat} {k n : Nat} : cf (l.take k) n = if n < k then cf l n else 0 := by
  split
  · rename_i h; simp [cf, List.getD, List.getElem?_take, h]
  · rename_i h; simp [cf, List.getD, List.getElem?_take, h]
def addL (f g : List Rat) : List Rat := (List.range (max f.length g.length)).map fun n => cf f n + cf g n
theorem cf_map_range (m : Nat) (F : Nat → Rat) (n : Nat) : cf ((List.range m).map F) n = if n < m then F n else 0 := by
  split
  · rename_i h; simp [cf, List.getD, h]
  · rename_i h; exact cf_ge (by simp; omega)
theorem cf_addL (f g : List Rat) (n : Nat) : cf (addL f g) n = cf f n + cf g n := by
  rw [addL, cf_map_range]
  split
  · rfl
  · rename_i h; rw [cf_ge (l := f) (by omega), cf_ge (l := g) (by omega)]; grind
def padd (f g : List Rat) : List Rat := trim (addL f g)
def pscale (f : List Rat) (a : Rat) : List Rat := trim (f.map (· * a))
def psub (f g : List Rat) : List Rat := padd f (pscale g (-1))
theorem cf_padd (f g : List Rat) (n : Nat) : cf (padd f g) n = cf f n + cf g n := by rw [padd, cf_trim, cf_addL]
end Mt
namespace Mt
def mc : List Rat → List Rat → Nat → Rat
  | [], _, _ => 0
  | a :: _, g, 0 => a * cf g 0
  | a :: f, g, n + 1 => a * cf g (n + 1) + mc f g n
theorem mc_nil_left (g : List Rat) (n : Nat) : mc [] g n = 0 := by cases n <;> rfl
def addAt (l : List Rat) (k : Nat) (x : Rat) : List Rat := l.set k (cf l k + x)
def rowIn (l : List Rat) (i : Nat) (a : Rat) (g : List Rat) (j : Nat) : List Rat := (List.range j).foldl (fun l j => addAt l (i + j) (a * cf g j)) l
def prodIn (f g : List Rat) (i : Nat) : List Rat := (List.range i).foldl (fun l i => rowIn l i (cf f i) g g.length) (List.replicate (f.length + g.length) 0)
theorem rowIn_zero (l : List Rat) (i : Nat) (a : Rat) (g : List Rat) : rowIn l i a g 0 = l := rfl
theorem rowIn_succ (l : List Rat) (i : Nat) (a : Rat) (g : List Rat) (j : Nat) : rowIn l i a g (j + 1) = addAt (rowIn l i a g j) (i + j) (a * cf g j) := by simp [rowIn, List.range_succ]
theorem prodIn_zero (f g : List Rat) : prodIn f g 0 = List.replicate (f.length + g.length) 0 := rfl
theorem prodIn_succ (f g : List Rat) (i : Nat) : prodIn f g (i + 1) = rowIn (prodIn f g i) i (cf f i) g g.length := by simp [prodIn, List.range_succ]
theorem addAt_len (l : List Rat) (k : Nat) (x : Rat) : (addAt l k x).length = l.length := by simp [addAt]
theorem rowIn_len (l : List Rat) (i : Nat) (a : Rat) (g : List Rat) : ∀ j, (rowIn l i a g j).length = l.length
  | 0 => rfl
  | j + 1 => by rw [rowIn_succ, addAt_len, rowIn_len l i a g j]
theorem prodIn_len (f g : List Rat) : ∀ i, (prodIn f g i).length = f.length + g.length
  | 0 => by simp [prodIn_zero]
  | i + 1 => by rw [prodIn_succ, rowIn_len, prodIn_len f g i]
theorem cf_addAt {l : List Rat} {k : Nat} (h : k < l.length) (x : Rat) (n : Nat) : cf (addAt l k x) n = if n = k then cf l n + x else cf l n := by
  split
  · rename_i e; subst e
    exact cf_at (by simp [addAt, h])
  · rename_i e
    simp only [cf, addAt, List.getD]
    rw [List.getElem?_set_ne (by omega)]
theorem cf_rowIn {l : List Rat} {i : Nat} (a : Rat) (g : List Rat) (n : Nat) : ∀ j, i + j ≤ l.length → cf (rowIn l i a g j) n = cf l n + (if i ≤ n ∧ n < i + j then a * cf g (n - i) else 0)
  | 0, _ => by rw [rowIn_zero, if_neg (by omega)]; grind
  | j + 1, h => by
    rw [rowIn_succ, cf_addAt (by rw [rowIn_len]; omega), cf_rowIn a g n j (by omega)]
    by_cases e : n = i + j
    · rw [if_pos e, if_neg (by omega), if_pos (by omega), show n - i = j by omega]; grind
    · rw [if_neg e]
      by_cases e2 : i ≤ n ∧ n < i + j
      · rw [if_pos e2, if_pos (by omega)]
      · rw [if_neg e2, if_neg (by omega)]
theorem cf_replicate (m n : Nat) : cf (List.replicate m 0) n = 0 := by
  rcases Nat.lt_or_ge n m with z | z
  · exact cf_at (by simp [z])
  · exact cf_ge (by simpa using z)
theorem mc_take_succ : ∀ (f g : List Rat) (i n : Nat), i < f.length → mc (f.take (i + 1)) g n = mc (f.take i) g n + (if i ≤ n then cf f i * cf g (n - i) else 0)
  | [], g, i, n, h => by simp at h
  | a :: f, g, 0, n, h => by
    rw [List.take_succ_cons, List.take_zero, List.take_zero, mc_nil_left, if_pos (by omega), cf_zero]
    cases n with
    | zero => simp only [mc, Nat.sub_self]; grind
    | succ n => simp only [mc, mc_nil_left, Nat.sub_zero]; grind
  | a :: f, g, i + 1, 0, h => by
    rw [List.take_succ_cons, List.take_succ_cons, mc, mc, if_neg (by omega)]; grind
  | a :: f, g, i + 1, n + 1, h => by
    simp only [List.length_cons] at h
    rw [List.take_succ_cons, List.take_succ_cons, mc, mc, mc_take_succ f g i n (by omega), cf_succ]
    by_cases e : i ≤ n
    · rw [if_pos e, if_pos (by omega), show n + 1 - (i + 1) = n - i by omega]; grind
    · rw [if_neg e, if_neg (by omega)]; grind
theorem cf_prodIn (f g : List Rat) (n : Nat) : ∀ i, i ≤ f.length → cf (prodIn f g i) n = mc (f.take i) g n
  | 0, _ => by rw [prodIn_zero, cf_replicate, List.take_zero, mc_nil_left]
  | i + 1, h => by
    rw [prodIn_succ, cf_rowIn _ _ _ _ (by rw [prodIn_len]; omega), cf_prodIn f g n i (by omega), mc_take_succ f g i n (by omega)]
    congr 1
    by_cases e : i ≤ n ∧ n < i + g.length
    · rw [if_pos e, if_pos e.1]
    · rw [if_neg e]
      split
      · rw [cf_ge (l := g) (by omega)]; grind
      · rfl
def pmul (f g : List Rat) : List Rat := trim (prodIn f g f.length)
theorem cf_pmul (f g : List Rat) (n : Nat) : cf (pmul f g) n = mc f g n := by rw [pmul, cf_trim, cf_prodIn f g n _ (Nat.le_refl _), List.take_length]
def val : List Rat → Rat → Rat
  | [], _ => 0
  | c :: f, a => val f a * a + c
end Mt
namespace HT
open PySem PyProof.Rows
section
variable {prog : Program} {w : World} {A : Around} {E : Value → Shared → Prop} {s : Shared}
end
end HT
namespace L2
open PySem PySem.Spec PyProof.Rows
theorem pe_comp2 {X : Cx} {elt iter tg : Expr} {scope : Scope} (Nl : List Str) (y1 : Str) (j1 : Nat) (y2 : Str) (j2 : Nat) {c1 c2 : Addr} {wi : TI} {g : TG} {te : TE} {pos : Pos} (hc : X.calm = true) (hi : PI X tg iter wi)
    (hg : ∀ C s₀ H₀ ex pn, PG (X.cp (Nl ++ [y1, y2]) scope [(y1, c1), (y2, c2)] C s₀ H₀ ex pn) tg g) (he : ∀ C s₀ H₀ ex pn, PE (X.cp (Nl ++ [y1, y2]) scope [(y1, c1), (y2, c2)] C s₀ H₀ ex pn) elt te)
    (hclos : closureFor scope X.env = pure [(y1, c1), (y2, c2)]) (hy1 : X.env.cells.lookup y1 = some c1) (hy2 : X.env.cells.lookup y2 = some c2) (hN1 : X.N[j1]? = some y1) (hN2 : X.N[j2]? = some y2)
    (hk1 : X.env.kindOf y1 = some .cell) (hk2 : X.env.kindOf y2 = some .cell) (hb1 : (relabel scope X.env).names.lookup y1 = some .cell) (hb2 : (relabel scope X.env).names.lookup y2 = some .cell)
    (hne : y2 ≠ y1 := by decide) (h1 : ∀ p ∈ scope.names, p.2 = .free → p.1 = y1 ∨ p.1 = y2 := by decide +kernel) (hcell : ∀ y ∈ scope.names, y.2 ≠ .cell := by decide +kernel) (hkind : scope.kind = .function := by rfl)
    (hnames : ∀ y ∈ scope.names, y.2 = .local → scope.names.lookup y.1 = some .local := by decide +kernel)
    (hs : ∀ x, foldedSetIterable iter X.env x = pure x := by intro _; rfl) : PCo X (.ListComp elt [⟨tg, iter, [], 0⟩] scope pos) scope iter (tComp ((Nl.map fun _ => none) ++ [some j1, some j2]) wi g te) := by
  have self1 : List.lookup y1 [(y1, c1), (y2, c2)] = some c1 := by simp
  have self2 : List.lookup y2 [(y1, c1), (y2, c2)] = some c2 := by
    rw [List.lookup_cons, show (y2 == y1) = false from beq_eq_false_iff_ne.mpr hne]; simp
  have look : ∀ z d, List.lookup z [(y1, c1), (y2, c2)] = some d → (z = y1 ∧ d = c1) ∨ (z = y2 ∧ d = c2) := fun z d h => by
    have m := PySem.mem_of_lookup h
    rcases List.mem_cons.mp m with q | q
    · cases q; exact .inl ⟨rfl, rfl⟩
    · cases List.mem_singleton.mp q; exact .inr ⟨rfl, rfl⟩
  refine pe_comp (cl := [(y1, c1), (y2, c2)]) (Nc := Nl ++ [y1, y2]) hc hi hg he (by simp) (fun z d h => ?_) (fun z h => ?_) (fun i z j' e1 e2 => ?_) hclos hcell hkind hnames hs
  · rcases look z d h with ⟨rfl, rfl⟩ | ⟨rfl, rfl⟩
    · exact hy1
    · exact hy2
  · have m := h.elim (fun q => rel_mem q (.inl rfl) hcell) fun q => rel_mem q (.inr rfl) hcell
    rcases h1 _ m rfl with e | e
    · have e : z = y1 := e
      subst e; exact ⟨c1, self1⟩
    · have e : z = y2 := e
      subst e; exact ⟨c2, self2⟩
  · have hi : i = Nl.length ∨ i = Nl.length + 1 := by
      by_cases hlt : i < Nl.length
      · rw [List.getElem?_append_left (by simpa using hlt), List.getElem?_map] at e2
        cases q : Nl[i]? with
        | none => rw [q] at e2; cases e2
        | some z => rw [q] at e2; cases e2
      · have := (List.getElem?_eq_some_iff.mp e1).1
        simp at this
        omega
    rcases hi with rfl | rfl
    · have a1 : (Nl ++ [y1, y2])[Nl.length]? = some y1 := by simp
      have a2 : ((Nl.map fun _ => (none : Option Nat)) ++ [some j1, some j2])[Nl.length]? = some (some j1) := by
        rw [List.getElem?_append_right (by simp)]; simp
      rw [a1] at e1; cases e1
      rw [a2] at e2; cases e2
      exact ⟨hN1, .inr (.inl hk1), by rw [hk1]; exact (fun q => nomatch q), .inl hb1, fun d h => by rw [hy1] at h; cases h; exact self1⟩
    · have a1 : (Nl ++ [y1, y2])[Nl.length + 1]? = some y2 := by
        rw [List.getElem?_append_right (by omega)]; simp
      have a2 : ((Nl.map fun _ => (none : Option Nat)) ++ [some j1, some j2])[Nl.length + 1]? = some (some j2) := by
        rw [List.getElem?_append_right (by simp)]; simp
      rw [a1] at e1; cases e1
      rw [a2] at e2; cases e2
      exact ⟨hN2, .inr (.inl hk2), by rw [hk2]; exact (fun q => nomatch q), .inl hb2, fun d h => by rw [hy2] at h; cases h; exact self2⟩
mutual
theorem Rep.same {K : PySem.W.Frag} {H H' : Hp} (e : Same H H') : ∀ (d : Dt) (v : V), Rep K H d v → Rep K H' d v := by
  intro d v h
  match d with
  | .non => simp only [Rep] at *; exact h
  | .bl _ => simp only [Rep] at *; exact h
  | .int _ => simp only [Rep] at *; exact h
  | .str _ => simp only [Rep] at *; exact h
  | .tup l => simp only [Rep] at *; obtain ⟨a, xs, rfl, s, r⟩ := h; exact ⟨a, xs, rfl, e.seqT s, Reps.same e l xs r⟩
  | .lst l => simp only [Rep] at *; obtain ⟨a, xs, rfl, s, r⟩ := h; exact ⟨a, xs, rfl, e.seq s, Reps.same e l xs r⟩
theorem Reps.same {K : PySem.W.Frag} {H H' : Hp} (e : Same H H') : ∀ (l : List Dt) (xs : List V), Reps K H l xs → Reps K H' l xs := by
  intro l xs h
  match l with
  | [] => simp only [Reps] at *; exact h
  | d :: l => simp only [Reps] at *; obtain ⟨x, r, rfl, h1, h2⟩ := h; exact ⟨x, r, rfl, Rep.same e d x h1, Reps.same e l r h2⟩
end
def frD (q : Rat) : Dt := .tup [.int q.num, .int (q.den : Int)]
theorem rep_fr {K : PySem.W.Frag} {H : Hp} {p : Addr} {q : Rat} (h : Fq K H p q) : Rep K H (frD q) (.ref p) := by
  simp only [frD, Rep, Reps]
  exact ⟨p, _, rfl, h, _, _, rfl, rfl, _, _, rfl, rfl, rfl⟩
theorem rep_fr' {K : PySem.W.Frag} {H : Hp} {v : V} {q : Rat} (h : Rep K H (frD q) v) : ∃ p, v = .ref p ∧ Fq K H p q := by
  simp only [frD, Rep, Reps] at h
  obtain ⟨p, xs, rfl, s, x, r, rfl, rfl, y, r2, rfl, rfl, rfl⟩ := h
  exact ⟨p, rfl, s⟩
section
variable {K : PySem.W.Frag} {H : Hp} {x y : V} {Q : VK}
end
def Frs (K : PySem.W.Frag) (H : Hp) (f : List Rat) (xs : List V) : Prop := Reps K H (f.map frD) xs
theorem SqT.updL {K : PySem.W.Frag} {H : Hp} {D p : Addr} {ys xs : List V} {o : HO} (hD : H D = some (.lst ys)) (h : SqT K H p xs) : SqT K (upd H D o) p xs := by
  rcases h with (h | ⟨u, h⟩) | h
  · exact .inl (.inl (by rw [upd_ne (by rintro rfl; rw [hD] at h; cases h)]; exact h))
  · exact .inl (.inr ⟨u, by rw [upd_ne (by rintro rfl; rw [hD] at h; cases h)]; exact h⟩)
  · exact .inr h
theorem Frs.same {K : PySem.W.Frag} {H H' : Hp} {f : List Rat} {xs : List V} (h : Frs K H f xs) (e : Same H H') : Frs K H' f xs := Reps.same e _ _ h
theorem Frs.nil {K : PySem.W.Frag} {H : Hp} : Frs K H [] [] := by simp [Frs, Reps]
theorem Frs.cons {K : PySem.W.Frag} {H : Hp} {q : Rat} {f : List Rat} {p : Addr} {xs : List V} (h : Fq K H p q) (k : Frs K H f xs) : Frs K H (q :: f) (.ref p :: xs) := by
  simp only [Frs, List.map_cons, Reps]
  exact ⟨_, _, rfl, rep_fr h, k⟩
theorem Frs.uncons {K : PySem.W.Frag} {H : Hp} {q : Rat} {f : List Rat} {xs : List V} (h : Frs K H (q :: f) xs) : ∃ p ys, xs = .ref p :: ys ∧ Fq K H p q ∧ Frs K H f ys := by
  simp only [Frs, List.map_cons, Reps] at h
  obtain ⟨x, r, rfl, h1, h2⟩ := h
  obtain ⟨p, rfl, h3⟩ := rep_fr' h1
  exact ⟨p, r, rfl, h3, h2⟩
theorem Frs.len {K : PySem.W.Frag} {H : Hp} {f : List Rat} {xs : List V} (h : Frs K H f xs) : f.length = xs.length := by
  have := Reps.len h
  simpa using this
theorem Frs.at {K : PySem.W.Frag} {H : Hp} {f : List Rat} {xs : List V} (h : Frs K H f xs) {j : Nat} (hj : j < f.length) : ∃ p, xs[j]? = some (.ref p) ∧ Fq K H p (Mt.cf f j) := by
  obtain ⟨x, e, r⟩ := Reps.at (d := frD (Mt.cf f j)) h (by rw [List.getElem?_map, Mt.cf_lt hj]; rfl)
  obtain ⟨p, rfl, q⟩ := rep_fr' r
  exact ⟨p, e, q⟩
theorem Frs.snoc {K : PySem.W.Frag} {H : Hp} {q : Rat} {p : Addr} : ∀ {f : List Rat} {xs : List V}, Frs K H f xs → Fq K H p q → Frs K H (f ++ [q]) (xs ++ [.ref p])
  | [], xs, h, k => by
    have e : xs = [] := by simpa [Frs, Reps] using h
    subst e
    exact Frs.cons k Frs.nil
  | a :: f, xs, h, k => by
    obtain ⟨r, ys, rfl, h1, h2⟩ := h.uncons
    exact Frs.cons h1 (Frs.snoc h2 k)
theorem Frs.updL {K : PySem.W.Frag} {H : Hp} {D : Addr} {ys : List V} {o : HO} (hD : H D = some (.lst ys)) : ∀ {f : List Rat} {xs : List V}, Frs K H f xs → Frs K (upd H D o) f xs
  | [], xs, h => by
    have e : xs = [] := by simpa [Frs, Reps] using h
    subst e
    exact Frs.nil
  | a :: f, xs, h => by
    obtain ⟨r, zs, rfl, h1, h2⟩ := h.uncons
    exact Frs.cons (SqT.updL hD h1) (Frs.updL hD h2)
theorem Frs.take {K : PySem.W.Frag} {H : Hp} : ∀ {f : List Rat} {xs : List V} (k : Nat), Frs K H f xs → Frs K H (f.take k) (xs.take k)
  | [], xs, k, h => by
    have e : xs = [] := by simpa [Frs, Reps] using h
    subst e
    simp only [List.take_nil]; exact Frs.nil
  | a :: f, xs, 0, h => by simp only [List.take_zero]; exact Frs.nil
  | a :: f, xs, k + 1, h => by
    obtain ⟨r, zs, rfl, h1, h2⟩ := h.uncons
    simp only [List.take_succ_cons]
    exact Frs.cons h1 (Frs.take k h2)
theorem Frs.drop {K : PySem.W.Frag} {H : Hp} : ∀ {f : List Rat} {xs : List V} (k : Nat), Frs K H f xs → Frs K H (f.drop k) (xs.drop k)
  | [], xs, k, h => by
    have e : xs = [] := by simpa [Frs, Reps] using h
    subst e
    simp only [List.drop_nil]; exact Frs.nil
  | a :: f, xs, 0, h => h
  | a :: f, xs, k + 1, h => by
    obtain ⟨r, zs, rfl, h1, h2⟩ := h.uncons
    simp only [List.drop_succ_cons]
    exact Frs.drop k h2
theorem Frs.append {K : PySem.W.Frag} {H : Hp} : ∀ {f g : List Rat} {xs ys : List V}, Frs K H f xs → Frs K H g ys → Frs K H (f ++ g) (xs ++ ys)
  | [], g, xs, ys, h, k => by
    have e : xs = [] := by simpa [Frs, Reps] using h
    subst e
    exact k
  | a :: f, g, xs, ys, h, k => by
    obtain ⟨r, zs, rfl, h1, h2⟩ := h.uncons
    exact Frs.cons h1 (Frs.append h2 k)
theorem Frs.set {K : PySem.W.Frag} {H : Hp} {q : Rat} {p : Addr} : ∀ {f : List Rat} {xs : List V} (k : Nat), Frs K H f xs → Fq K H p q → Frs K H (f.set k q) (xs.set k (.ref p))
  | [], xs, k, h, _ => by
    have e : xs = [] := by simpa [Frs, Reps] using h
    subst e
    exact Frs.nil
  | a :: f, xs, 0, h, z => by
    obtain ⟨r, zs, rfl, h1, h2⟩ := h.uncons
    exact Frs.cons z h2
  | a :: f, xs, k + 1, h, z => by
    obtain ⟨r, zs, rfl, h1, h2⟩ := h.uncons
    exact Frs.cons h1 (Frs.set k h2 z)
theorem Frs.replicate {K : PySem.W.Frag} {H : Hp} {q : Rat} {p : Addr} (h : Fq K H p q) : ∀ n, Frs K H (List.replicate n q) (List.replicate n (.ref p))
  | 0 => Frs.nil
  | n + 1 => Frs.cons h (Frs.replicate h n)
def Pl (K : PySem.W.Frag) (H : Hp) (p : Addr) (f : List Rat) : Prop := ∃ xs, SqT K H p xs ∧ Frs K H f xs
theorem Pl.same {K : PySem.W.Frag} {H H' : Hp} {p : Addr} {f : List Rat} (h : Pl K H p f) (e : Same H H') : Pl K H' p f := let ⟨xs, h1, h2⟩ := h; ⟨xs, e.seqT h1, h2.same e⟩
theorem Pl.updL {K : PySem.W.Frag} {H : Hp} {D p : Addr} {ys : List V} {o : HO} {f : List Rat} (hD : H D = some (.lst ys)) (h : Pl K H p f) : Pl K (upd H D o) p f := let ⟨xs, h1, h2⟩ := h; ⟨xs, h1.updL hD, h2.updL hD⟩
theorem Same.updL {H0 H : Hp} {D : Addr} {o : HO} (e : Same H0 H) (h : H0 D = none) : Same H0 (upd H D o) := fun b u z => by
  rw [upd_ne (ne_of_none z h)]; exact e b u z
theorem CO.frs {K : PySem.W.Frag} {n : Nat} {src : Nat → Hp → V → Prop} {st : Hp → Prop} {js : List (Option Nat)} {tl : TE} {σ : St} {H1 : Hp} {Q : VK} (F : Nat → Rat) (hn : n ≤ 1000) (hst : ∀ H, Same H1 H → st H)
    (hel : ∀ i H x (R : VK), i < n → Same H1 H → src i H x → (∀ r H3, Same H H3 → Fq K H3 r (F i) → R (.ref r) H3) → tl (some x :: cσ js σ) H R)
    (hq : ∀ D H xs, Same H1 H → H1 D = none → H D = some (.lst xs) → Frs K H ((List.range n).map F) xs → Q (.ref D) H) : CO n src st (none :: js) (gName 0) tl σ H1 Q := by
  intro D hD
  refine ⟨fun i ys σc H => (∃ r, σc = r :: cσ js σ) ∧ Same H1 H ∧ H D = some (.lst ys) ∧ Frs K H ((List.range i).map F) ys, ⟨⟨none, rfl⟩, same_upd hD, upd_same, Frs.nil⟩, fun i ys σc H _ h => hst H h.2.1, ?_, ?_⟩
  · rintro i ys σc H x hi ⟨⟨r, rfl⟩, sm, hd, hf⟩ hx
    refine hel i H x _ hi sm hx fun p H3 s3 hy => ?_
    have hl := hf.len
    refine ⟨s3 _ _ hd, small1000 (by simp at hl; omega), ⟨_, rfl⟩, (sm.trans s3).updL hD, upd_same, ?_⟩
    rw [List.range_succ, List.map_append]
    exact Frs.snoc (Frs.updL (s3 _ _ hd) (hf.same s3)) (SqT.updL (s3 _ _ hd) hy)
  · rintro ys σc H ⟨_, sm, hd, hf⟩
    exact ⟨hd, hq D H ys sm hD hd hf⟩
theorem Sz.zero {n : Nat} (h : 1 ≤ n) : Sz n (0 : Rat) := Sz.mono (m := 1) ⟨by show (_ : Nat) < _; decide, by show (_ : Nat) < _; decide⟩ h
theorem Sz.cf {n : Nat} {f : List Rat} (h : ∀ q ∈ f, Sz n q) (hn : 1 ≤ n) (k : Nat) : Sz n (Mt.cf f k) := by
  rcases Nat.lt_or_ge k f.length with z | z
  · exact h _ (List.mem_of_getElem? (Mt.cf_lt z))
  · rw [Mt.cf_ge z]; exact Sz.zero hn
theorem Pl.nil {K : PySem.W.Frag} {H : Hp} {p : Addr} (h : H p = some (.tup [])) : Pl K H p [] := ⟨[], SqT.of h, Frs.nil⟩
end L2
namespace Mt
structure Ln (d n : Nat) (f : List Rat) : Prop where
  ex : ∃ D N : Nat, 0 < D ∧ D ≤ 2 ^ d ∧ N ≤ 2 ^ n ∧ ∀ k, Lat D N (cf f k)
theorem Ln.bits {d n : Nat} {f : List Rat} (h : Ln d n f) (k : Nat) : (cf f k).num.natAbs < 2 ^ (n + 1) ∧ ((cf f k).den : Int).natAbs < 2 ^ (d + 1) := by
  obtain ⟨D, N, h1, h2, h3, h4⟩ := h.ex
  have a := ((h4 k).dvd (by omega)).2
  have b := (h4 k).le (by omega)
  rw [Nat.pow_succ, Nat.pow_succ]
  constructor
  · have : 0 < 2 ^ n := Nat.two_pow_pos n
    omega
  · have : 0 < 2 ^ d := Nat.two_pow_pos d
    omega
theorem Ln.ext {d n : Nat} {f g : List Rat} (h : Ln d n f) (e : ∀ k, cf g k = cf f k) : Ln d n g := by
  obtain ⟨D, N, h1, h2, h3, h4⟩ := h.ex
  exact ⟨D, N, h1, h2, h3, fun k => by rw [e]; exact h4 k⟩
theorem Ln.trim {d n : Nat} {f : List Rat} (h : Ln d n f) : Ln d n (trim f) := h.ext fun k => cf_trim f k
theorem Ln.mono {d n d' n' : Nat} {f : List Rat} (h : Ln d n f) (hd : d ≤ d') (hn : n ≤ n') : Ln d' n' f := by
  obtain ⟨D, N, h1, h2, h3, h4⟩ := h.ex
  exact ⟨D, N, h1, Nat.le_trans h2 (Nat.pow_le_pow_right (by decide) hd), Nat.le_trans h3 (Nat.pow_le_pow_right (by decide) hn), h4⟩
theorem Ln.of {m : Nat} : ∀ (f : List Rat), (∀ q ∈ f, q.num.natAbs < 2 ^ m ∧ (q.den : Int).natAbs < 2 ^ m) → Ln (m * f.length) (m * f.length) f
  | [], _ => ⟨1, 0, by decide, by simp, by simp, fun k => by rw [cf_nil]; exact Lat.zero⟩
  | a :: f, h => by
    obtain ⟨D, N, h1, h2, h3, h4⟩ := (Ln.of f fun q hq => h q (List.mem_cons_of_mem _ hq)).ex
    obtain ⟨a1, a2⟩ := h a (List.mem_cons_self ..)
    have ad : a.den ≤ 2 ^ m := by omega
    have an : a.num.natAbs ≤ 2 ^ m := by omega
    have e : 2 ^ (m * (a :: f).length) = 2 ^ m * 2 ^ (m * f.length) := by rw [List.length_cons, Nat.mul_succ, Nat.pow_add, Nat.mul_comm]
    refine ⟨a.den * D, 2 ^ m * 2 ^ (m * f.length), Nat.mul_pos (Nat.pos_of_ne_zero a.den_nz) h1, by rw [e]; exact Nat.mul_le_mul ad h2, by rw [e]; exact Nat.le_refl _, fun k => ?_⟩
    cases k with
    | zero => rw [cf_zero]; exact (Lat.of a).up.mono (Nat.mul_le_mul an h2)
    | succ k =>
      rw [cf_succ]
      have := (h4 k).up (E := a.den)
      rw [Nat.mul_comm D] at this
      refine this.mono ?_
      rw [Nat.mul_comm]
      exact Nat.mul_le_mul ad h3
theorem Ln.padd {d n e m : Nat} {f g : List Rat} (h : Ln d n f) (k : Ln e m g) : Ln (d + e) (n + e + (m + d) + 1) (padd f g) := by
  obtain ⟨D, N, h1, h2, h3, h4⟩ := h.ex
  obtain ⟨E, M, k1, k2, k3, k4⟩ := k.ex
  refine ⟨D * E, N * E + M * D, Nat.mul_pos h1 k1, by rw [Nat.pow_add]; exact Nat.mul_le_mul h2 k2, ?_, fun i => ?_⟩
  · have a : N * E ≤ 2 ^ (n + e) := by rw [Nat.pow_add]; exact Nat.mul_le_mul h3 k2
    have b : M * D ≤ 2 ^ (m + d) := by rw [Nat.pow_add]; exact Nat.mul_le_mul k3 h2
    have c : 2 ^ (n + e) ≤ 2 ^ (n + e + (m + d)) := Nat.pow_le_pow_right (by decide) (by omega)
    have c' : 2 ^ (m + d) ≤ 2 ^ (n + e + (m + d)) := Nat.pow_le_pow_right (by decide) (by omega)
    rw [Nat.pow_succ]
    omega
  · rw [cf_padd]
    have z := (k4 i).up (E := D)
    rw [Nat.mul_comm E] at z
    exact (h4 i).up.add z
theorem Lat.mc {D E N M : Nat} {g : List Rat} (k4 : ∀ k, Lat E M (cf g k)) : ∀ (f : List Rat) (_ : ∀ k, Lat D N (cf f k)) (n : Nat), Lat (D * E) (f.length * (N * M)) (mc f g n)
  | [], _, n => by rw [mc_nil_left]; exact Lat.zero
  | a :: f, h, 0 => by
    have := (h 0).mul (k4 0)
    rw [cf_zero] at this
    rw [Mt.mc]
    exact this.mono (Nat.le_mul_of_pos_left _ (by simp))
  | a :: f, h, n + 1 => by
    have z := (h 0).mul (k4 (n + 1))
    rw [cf_zero] at z
    rw [Mt.mc]
    have := z.add (Lat.mc k4 f (fun k => by have := h (k + 1); rw [cf_succ] at this; exact this) n)
    refine this.mono ?_
    rw [List.length_cons, Nat.succ_mul, Nat.add_comm]
    exact Nat.le_refl _
theorem Ln.pmul {d n e m l : Nat} {f g : List Rat} (h : Ln d n f) (k : Ln e m g) (hl : f.length ≤ 2 ^ l) : Ln (d + e) (l + (n + m)) (pmul f g) := by
  obtain ⟨D, N, h1, h2, h3, h4⟩ := h.ex
  obtain ⟨E, M, k1, k2, k3, k4⟩ := k.ex
  refine ⟨D * E, f.length * (N * M), Nat.mul_pos h1 k1, by rw [Nat.pow_add]; exact Nat.mul_le_mul h2 k2, ?_, fun i => by rw [cf_pmul]; exact Lat.mc k4 f h4 i⟩
  rw [Nat.pow_add, Nat.pow_add]
  exact Nat.mul_le_mul hl (Nat.mul_le_mul h3 k3)
theorem Ln.rowIn {d n e m l : Nat} {f g : List Rat} (h : Ln d n f) (k : Ln e m g) (hl : f.length ≤ 2 ^ l) {i j : Nat} (hi : i < f.length) (hj : j ≤ g.length) :
    Ln (d + e) (l + (n + m) + 1) (rowIn (prodIn f g i) i (cf f i) g j) := by
  obtain ⟨D, N, h1, h2, h3, h4⟩ := h.ex
  obtain ⟨E, M, k1, k2, k3, k4⟩ := k.ex
  refine ⟨D * E, f.length * (N * M) + N * M, Nat.mul_pos h1 k1, by rw [Nat.pow_add]; exact Nat.mul_le_mul h2 k2, ?_, fun p => ?_⟩
  · have a : f.length * (N * M) ≤ 2 ^ (l + (n + m)) := by rw [Nat.pow_add, Nat.pow_add]; exact Nat.mul_le_mul hl (Nat.mul_le_mul h3 k3)
    have b : N * M ≤ f.length * (N * M) := Nat.le_mul_of_pos_left _ (by omega)
    rw [Nat.pow_succ]
    omega
  · rw [cf_rowIn _ _ _ _ (by rw [prodIn_len]; omega), cf_prodIn f g p i (by omega)]
    have a : Lat (D * E) ((f.take i).length * (N * M)) (mc (f.take i) g p) := Lat.mc k4 (f.take i) (fun q => by
      rw [cf_take]
      split
      · exact h4 q
      · exact Lat.zero) p
    have a' := a.mono (N := f.length * (N * M)) (Nat.mul_le_mul (by rw [List.length_take]; omega) (Nat.le_refl _))
    refine a'.add ?_
    split
    · exact (h4 i).mul (k4 _)
    · exact Lat.zero
theorem Ln.take {d n : Nat} {f : List Rat} (h : Ln d n f) (k : Nat) : Ln d n (f.take k) := by
  obtain ⟨D, N, h1, h2, h3, h4⟩ := h.ex
  refine ⟨D, N, h1, h2, h3, fun i => ?_⟩
  rw [cf_take]
  split
  · exact h4 i
  · exact Lat.zero
end Mt
namespace L2
open PySem PySem.Spec PyProof.Rows
section
variable {prog : Program} {w : World} {A : Around} {E : Value → Shared → Prop} {s : Shared}
end
def enO (it : Addr) : Obj := { cls := .type "enumerate", data := .fields #[.none, .bool false, .ref it, rawInt 0, .none, .none] }
section
variable {prog : Program} {w : World} {A : Around} {E : Value → Shared → Prop} {s : Shared}
end
theorem Inv.turnLaid {X : Cx} {pins : List (Addr × Obj)} {σ : St} {H : Hp} {s : Shared} {h' : Heap} {t' : Nat} {e it t : Addr} {o : HO} (I : Inv X pins σ H s) (k : ∀ b u, b ≠ e → b ≠ it → s.heap.get? b = some u → h'.get? b = some u) (fe : FpOk X pins H e) (fi : FpOk X pins H it)
    (hn : H t = none) (ht : s.heap.get? t = none) (new : ObjOk X.prog X.w (upd H t o) h' t o) : Inv X pins σ (upd H t o) { s with heap := h', toks := t' } := by
  have nt : ∀ b u, H b = some u → b ≠ t := fun b u z y => by rw [y, hn] at z; cases z
  have ne : ∀ b u, H b = some u → b ≠ e := fun b u z y => by rw [y, fe.1] at z; cases z
  have ni : ∀ b u, H b = some u → b ≠ it := fun b u z y => by rw [y, fi.1] at z; cases z
  have out : ∀ b, b ∉ [e, it] → b ≠ e ∧ b ≠ it := fun b z => ⟨fun y => z (by simp [y]), fun y => z (by simp [y])⟩
  refine I.step (g' := s.gens) (d' := s.drawn) (ch := [e, it]) (fun b hb => ?_) (fun b u _ _ hc z _ => k b u (out b hc).1 (out b hc).2 z) (fun b u _ _ hc z _ => ⟨u.slots, k b u (out b hc).1 (out b hc).2 z⟩) (fun b u hc z y => ?_)
    (fun b u hc z => ⟨u, k b u (out b hc).1 (out b hc).2 z⟩) (fun b xs z => ?_) (fun b u v z => ?_) (fun b ps z => ⟨#[], ?_⟩) (fun m hm => ?_) (fun b u z => ?_) I.bare
  · simp only [List.mem_cons, List.not_mem_nil, or_false] at hb
    rcases hb with rfl | rfl
    · exact ⟨fe.2.2.2.1, fe.2.1, fe.2.2.2.2.1, fe.2.2.2.2.2⟩
    · exact ⟨fi.2.2.2.1, fi.2.1, fi.2.2.2.2.1, fi.2.2.2.2.2⟩
  · rw [upd_ne (by rintro rfl; rw [ht] at z; cases z)]; exact y
  · rw [upd_ne (nt _ _ z)]; exact z
  · rw [upd_ne (nt _ _ z)]; exact z
  · rw [upd_ne (nt _ _ z), z]; simp
  · obtain ⟨u, es, ep, hu, r⟩ := hm
    exact ⟨u, es, ep, k _ u (Ne.symm fe.2.1) (Ne.symm fi.2.1) hu, r⟩
  · by_cases hb : b = t
    · subst hb
      rw [upd_same] at z
      cases z
      exact new
    · rw [upd_ne hb] at z
      refine (I.hok b u z).stay (fun c v hc q => ?_) (fun c q => by rw [upd_ne (nt _ _ q)]; exact q) fun c xs q => by rw [upd_ne (nt _ _ q)]; exact q
      rcases hc with y | y
      · subst y; exact k c v (ne _ _ z) (ni _ _ z) q
      · exact k c v (ne _ _ y) (ni _ _ y) q
section
variable {X : Cx} {es : List Expr} {y1 : Nat} {tp : Pos}
def FE (xs : List V) (at_ : Hp → Prop) (g : TG) (tb : TS) (D : Ends) (σ : St) (H : Hp) : Prop := ∃ Pv : Nat → St → Hp → Prop, Pv 0 σ H ∧ (∀ i σ H, i ≤ xs.length → Pv i σ H → at_ H) ∧
  (∀ i x σ H p, xs[i]? = some x → Pv i σ H → H p = none → g (.ref p) σ (upd H p (.tup [.int i, x])) fun σ2 H2 => tb { D with nx := Pv (i + 1), ct := Pv (i + 1), bk := D.nx } σ2 H2) ∧ ∀ σ H, Pv xs.length σ H → D.nx σ H
def tForE (K : PySem.W.Frag) (te : TE) (g : TG) (tb : TS) : TS := fun D σ H => te σ H fun v H1 => ∃ a xs, v = .ref a ∧ SqT K H1 a xs ∧ FE xs (fun H => SqT K H a xs) g tb D σ H1
end
def IsRevT (h : Heap) (r l : Addr) (i : Int) : Prop := ∃ o, h.get? r = some o ∧ o.cls = .type "reversed" ∧ o.data = .fields #[.ref l, rawInt i]
section
variable {prog : Program} {w : World} {A : Around} {E : Value → Shared → Prop} {s : Shared}
theorem IsRevT.ty {r l : Addr} {i : Int} (y : IsRevT s.heap r l i) : s.TypeIs (.ref r) "reversed" := let ⟨o, z, c, _⟩ := y; ⟨o, z, c⟩
end
section
variable {X : Cx} {tg : Expr}
def tForV (K : PySem.W.Frag) (te : TE) (g : TG) (tb : TS) : TS := fun D σ H => te σ H fun v H1 => ∃ a xs, v = .ref a ∧ SqT K H1 a xs ∧ FL xs.reverse (fun H => SqT K H a xs) g tb D σ H1
end
theorem Ln.sz {b : Nat} {f : List Rat} (h : Mt.Ln b b f) (k : Nat) : Sz (b + 1) (Mt.cf f k) := ⟨(h.bits k).1, (h.bits k).2⟩
end L2
namespace L2
open PySem PySem.Spec PyProof.Rows PySem.W
def excInit (K : Frag) (C fI : Addr) : Bool :=
  match K.lookup C with
  | some ⟨.type "type", _, .cls cd, sl⟩ =>
    (match cd.mro, sl.toList with
      | .ref D :: up, [_, _, _, _, some (.builtin n), _] => D == C && (n == "ValueError.__new__" && (!cd.hasDel && (tailIn K vmro up && (isFn K (.ref fI) && findIn K (.ref C) "__init__" == some (some (.ref fI))))))
      | _, _ => false)
  | _ => false
theorem excInit_obj {K : Frag} {h : Heap} {C fI : Addr} (kin : K.In h) (yes : excInit K C fI = true) :
    ∃ bm N nm q bs hdct sn sub ab col dd k0 k1 k2 k3 k5, h.get? C = some (excClassObj nm q C N bs bm hdct sn sub ab col dd k0 k1 k2 k3 k5 "ValueError.__new__") ∧ isFn K (.ref fI) = true ∧ findIn K (.ref C) "__init__" = some (some (.ref fI)) ∧ OwnTail h vmro bm := by
  unfold excInit at yes
  split at yes
  case h_2 => cases yes
  case h_1 dict cdat slots found =>
    split at yes
    case h_2 => cases yes
    case h_1 C0 bm0 a0 a1 a2 a3 nid a5 em eslots =>
      simp only [Bool.and_eq_true, beq_iff_eq, Bool.not_eq_true'] at yes
      obtain ⟨y1, y2, y3, y4, y5, y6⟩ := yes
      subst y1 y2
      obtain ⟨f1, f2, f3, f4, f5, f6, f7, f8, f9, f10, f11⟩ := cdat
      dsimp only at em y3 y5 y6
      subst em y3
      obtain ⟨sl⟩ := slots
      dsimp only at eslots
      subst eslots
      exact ⟨bm0, f4, f1, f5, f2, f6, f7, f8, f9, f10, dict, a0, a1, a2, a3, a5, kin _ _ found, y5, y6, PySem.W.tail_of_in kin y4⟩
def excH (h : Heap) (C : Addr) (us : List Value) : Heap := (h.push { cls := .type "tuple", data := .seq us.toArray }).push { cls := .ref C, data := .fields #[.ref h.objs.size, .none, .none, .none, .bool false, .none] }
theorem excH_keep {h : Heap} {C : Addr} {us : List Value} {b : Addr} {o : Obj} (q : h.get? b = some o) : (excH h C us).get? b = some o := Heap.get?_push_of_some _ (Heap.get?_push_of_some _ q)
theorem excH_exc {h : Heap} {C : Addr} {us : List Value} : (excH h C us).get? (h.objs.size + 1) = some { cls := .ref C, data := .fields #[.ref h.objs.size, .none, .none, .none, .bool false, .none] } := by
  unfold excH
  exact Heap.get?_push_at (by rw [Heap.size_push]) rfl
section
variable {prog : Program} {w : World} {A : Around} {E : Value → Shared → Prop} {h : Heap} {g : Array GenState} {d : Drawn} {t : Nat} {os : OsState}
variable {nm q : Str} {C N fI : Addr} {bs bm : List Value} {hdct : Bool} {sn : List Str} {sub : List Value} {ab : Bool} {col : Option Bool} {dd : Option Addr} {k0 k1 k2 k3 k5 : Option Value} {K : Frag} {us : List Value}
theorem type_call_excI {Q : Fin → Shared → Prop} (gT : OwnTail h vmro bm) (gC : h.get? C = some (excClassObj nm q C N bs bm hdct sn sub ab col dd k0 k1 k2 k3 k5 "ValueError.__new__")) (kin : K.In h) (gf : isFn K (.ref fI) = true) (gi : findIn K (.ref C) "__init__" = some (some (.ref fI))) (gl : us.length ≤ sizeLine)
    (k : wpAny (model prog w) A (call (.ref fI) (.ref (h.objs.size + 1) :: us)) (fun r s' => r = .none ∧ Q (.done (.ret (.ref (h.objs.size + 1)))) s') E ⟨excH h C us, g, d, t, os⟩) :
    wpAny (model prog w) A (Builtin.«type.__call__» ⟨.ref C :: us, []⟩) Q E ⟨h, g, d, t, os⟩ := by
  repeat (first | with_reducible refine wpAny_loadPart_at gC ?_ | with_reducible refine wpAny_madeBy_exc gC ?_ | wp_step)
  refine codeAny_call_builtin_code (Code.quiet_builtin _ PySem.F.excBase_ValueError.quiet) (wpAny_check_new_subU PySem.F.excBase_ValueError (by decide +kernel) gT gC ?_)
  refine codeAny_exc_new_subU PySem.F.excBase_ValueError (by decide +kernel) PySem.F.excBase_ValueError gT gC ?_ gl
  show wpAny _ _ _ _ _ ⟨excH h C us, g, d, t, os⟩
  have c1 : (excH h C us).get? C = some _ := excH_keep gC
  have x1 := excH_exc (h := h) (C := C) (us := us)
  have kin1 : K.In (excH h C us) := kin.keeps fun b o y => excH_keep y
  have look := looks_findIn (M := model prog w) kin1 gi
  have own : (Value.ref C :: bm).contains (.ref C) = true := by simp
  unfold isInstance
  repeat (first | with_reducible refine wpAny_loadPart_at x1 ?_ | (with_reducible refine wpAny_isSubtype_exc c1 ?_; rw [own]) | wp_step)
  show wpAny _ _ (typeLookup (.ref C) _) _ _ _
  refine look.at ?_
  refine wpAny_holding (wpAny_bind ((bind_fn kin1 _ (beq_iff_eq.mp gf)).at ?_))
  refine wpAny_bind (wpAny_mono k (fun r s' z => ?_) fun _ _ z => z)
  obtain ⟨rfl, z⟩ := z
  wp_walk
  exact z
theorem call_excI {Q : Value → Shared → Prop} (gT : OwnTail h vmro bm) (gC : h.get? C = some (excClassObj nm q C N bs bm hdct sn sub ab col dd k0 k1 k2 k3 k5 "ValueError.__new__")) (kin : K.In h) (gf : isFn K (.ref fI) = true) (gi : findIn K (.ref C) "__init__" = some (some (.ref fI))) (gl : us.length ≤ sizeLine)
    (k : wpAny (model prog w) (A.under (.builtin "type.__call__" ⟨.ref C :: us, []⟩)) (call (.ref fI) (.ref (h.objs.size + 1) :: us)) (fun r s' => r = .none ∧ Q (.ref (h.objs.size + 1)) s') E ⟨excH h C us, g, d, t, os⟩) :
    wpAny (model prog w) A (call (.ref C) us) Q E ⟨h, g, d, t, os⟩ := by
  have f1 := tc_lookup
  have f2 := tc_bind (.ref C)
  have ty : (⟨h, g, d, t, os⟩ : Shared).TypeIs (.ref C) "type" := ⟨_, gC, rfl⟩
  refine wpAny_call (codeAny_of_tree ?_)
  show wpAny _ _ (callAny (.ref C) _) _ _ _
  repeat (any_goals (first | assumption | with_reducible refine wpAny_loadPart_at gC ?_ | wp_step))
  refine ⟨rfl, codeAny_call_builtin_at (Code.quiet_builtin _ (by decide +kernel)) entry_typeCall (wpAny_check_type_call_sub gC (type_call_excI gT gC kin gf gi gl ?_))⟩
  exact k
end
end L2
namespace L2
open PySem PySem.Spec PyProof.Rows PySem.W
def rawX (e : Addr) (cls : Value) (dv : Option Addr) : HO := .ext fun h => ∃ t : Addr, h.get? e = some { cls := cls, dict := dv, data := .fields #[.ref t, .none, .none, .none, .bool false, .none] }
theorem rawX_ok {P : Program} {w : World} {H : Hp} {h : Heap} {e t : Addr} {cls : Value} {dv : Option Addr} (q : h.get? e = some { cls := cls, dict := dv, data := .fields #[.ref t, .none, .none, .none, .bool false, .none] }) : ObjOk P w H h e (rawX e cls dv) :=
  ⟨⟨t, q⟩, ⟨_, q⟩, fun _ _ ⟨t, q⟩ k => ⟨t, k _ q⟩⟩
theorem Inv.raw {X : Cx} {pins : List (Addr × Obj)} {σ : St} {H : Hp} {s : Shared} {e : Addr} {cls : Value} {dv : Option Addr} (I : Inv X pins σ H s) (q : H e = some (rawX e cls dv)) :
    ∃ t : Addr, s.heap.get? e = some { cls := cls, dict := dv, data := .fields #[.ref t, .none, .none, .none, .bool false, .none] } := by
  obtain ⟨z, _, _⟩ := (show ObjOk X.prog X.w H s.heap e (rawX e cls dv) from I.hok e _ q)
  exact z
def era (H : Hp) (e : Addr) : Hp := fun b => if b = e then none else H b
@[simp] theorem era_same (H : Hp) (e : Addr) : era H e e = none := if_pos rfl
theorem era_ne {H : Hp} {e b : Addr} (n : b ≠ e) : era H e b = H b := if_neg n
def RaisesD (X : Cx) (E : XK) : Prop := ∀ (pins : List (Addr × Obj)) (σ : St) (H1 : Hp) (s1 : Shared) (e : Addr) (cls : Value) (dv : Option Addr), Inv X pins σ H1 s1 → H1 e = some (rawX e cls dv) → X.s₀.heap.get? e = none → E cls dv (era H1 e) → X.xe (.ref e) s1
theorem raisesD_cx {P : Program} {w : World} {K : PySem.W.Frag} {mg : Str → Option Value} {base : Heap} {N : List Str} {qual : Str} {scope : Scope} {f : Addr} {cd : Value} {A : Around} {outer : List Env} {s : Shared} {H : Hp} {E : XK} :
    RaisesD (cxOf (CXe P w) P w K mg base N qual scope f cd A outer s H E) E := fun pins σ H1 s1 e cls dv I q n z => by
  obtain ⟨t, g⟩ := I.raw q
  exact xe_raiseD I q g rfl rfl rfl rfl n z
section
variable {M : Model} {A : Around} {E : Value → Shared → Prop} {env : Env}
variable {nm q : Str} {C N : Addr} {bs bm : List Value} {hdct : Bool} {sn : List Str} {sub : List Value} {ab : Bool} {col : Option Bool} {dd : Option Addr} {k0 k1 k2 k3 k5 : Option Value} {nid : String}
theorem raise_made {s : Shared} {x : Sem Value} {Q : Flow → Shared → Prop} (up : bm.contains (.type "BaseException") = true) (hh : A.handled = none)
    (k : wpAny M A x (fun v s1 => ∃ (e t : Addr) (dv : Option Addr), v = .ref e ∧ s1.heap.get? C = some (excClassObj nm q C N bs bm hdct sn sub ab col dd k0 k1 k2 k3 k5 nid) ∧
      s1.heap.get? e = some { cls := .ref C, dict := dv, data := .fields #[.ref t, .none, .none, .none, .bool false, .none] } ∧ E (.ref e) s1) E s) : wpAny M A (raiseStmt env (some x) none) Q E s := by
  have has : (Value.ref C :: bm).contains (.type "BaseException") = true := by rw [List.contains_cons, up, Bool.or_true]
  unfold raiseStmt
  refine wpAny_bind (wpAny_mono k (fun v s1 z => ?_) fun _ _ z => z)
  obtain ⟨e, t, dv, rfl, gC, ge, z⟩ := z
  obtain ⟨hp, g, d, tk, os⟩ := s1
  repeat (first | with_reducible refine wpAny_loadPart_at ge ?_ | with_reducible refine wpAny_loadPart_at gC ?_ | (with_reducible refine wpAny_isSubtype_exc gC ?_; rw [has]) | wp_step)
  exact wpAny_raiseNew_none hh z
end
def tRaiseI (C : Addr) (sp : Sp) (E : XK) (t : TA) : TS := fun _ σ H => t σ H fun vs H1 => vs.length ≤ sizeLine ∧ ∀ e, H1 e = none →
  sp (.ref e :: vs) (upd H1 e (rawX e (.ref C) none)) (fun r H2 => r = .non ∧ ∃ dv, H2 e = some (rawX e (.ref C) dv) ∧ E (.ref C) dv (era H2 e)) E0
theorem Inv.rawMade {X : Cx} {pins : List (Addr × Obj)} {σ : St} {H : Hp} {s : Shared} {C : Addr} {us : List Value} (I : Inv X pins σ H s) :
    Inv X pins σ (upd H (s.heap.objs.size + 1) (rawX (s.heap.objs.size + 1) (.ref C) none)) { s with heap := excH s.heap C us } :=
  I.laid (a := s.heap.objs.size + 1) (t' := s.toks) (h' := excH s.heap C us) (fun b u q => excH_keep q) (Nat.le_succ _) (rawX_ok excH_exc)
theorem ps_raiseI {X : Cx} {CX : CXT} {E : XK} {x : Str} {C fI : Addr} {fd : FuncData} {ps : List Str} {sp : Sp} {k : Nat} {e : Expr} {es : List Expr} {t : TA} {np cpos pos : Pos} (hr : RaisesD X E) (hc : X.calm = true) (hg : Gl X x) (hm : X.mg x = some (.ref C)) (hk : keepIn X.K (.ref C) = true)
    (hC : excInit X.K C fI = true) (F : FnOk X.prog X.w X.K X.mg X.base CX k fI fd ps sp) (rm : Room (k + 1) X.A) (hb : Binds X.K fd ps []) (hx : Passes CX X E0) (ha : PA X (e :: es) t)
    (hdb : (x == ("__debug__" : Str)) = false := by decide) (he : starEach (e :: es) X.env = (false, eval e X.env) :: starEach es X.env := by rfl) (hpl : (backTo cpos (starEach es X.env)).any (·.1) = false := by rfl) :
    PS X (.Raise (some (.Call (.Name x np) (e :: es) [] cpos)) none pos) (tRaiseI C sp E t) := by
  intro pins s σ H D I h
  obtain ⟨bm, N, nm, q, bs, hdct, sn, sub, ab, col, dd, k0, k1, k2, k3, k5, gC, gf, gi, gT⟩ := excInit_obj I.mod.kin hC
  rw [arm_exec_Raise]
  refine wpAny_bind (wpAny_standAt ?_)
  refine raise_made (C := C) (nm := nm) (q := q) (N := N) (bs := bs) (bm := bm) (hdct := hdct) (sn := sn) (sub := sub) (ab := ab) (col := col) (dd := dd) (k0 := k0) (k1 := k1) (k2 := k2) (k3 := k3) (k5 := k5) (nid := "ValueError.__new__") (gT.hasType PySem.F.excBase_ValueError.hasBase) (I.ok.hd hc) ?_
  refine wpAny_bind (wpAny_mono ?_ (fun v s3 z => wpAny_bind (wpAny_standAt (wpAny_pure z))) fun _ _ z => z)
  refine wpAny_Call_Name_kw (ld_glob I hg hm ?_ hdb)
  refine PySem.W.callWith_K (h₀ := X.base) I.ok.mod.kin hk (thn (ha cpos pins s σ H _ I h) fun us s1 ⟨vs, H1, I1, r, hl, hq⟩ => ⟨I1.kIn, ?_⟩) he hpl
  have hq := hq (s1.heap.objs.size + 1) (I1.hok.fresh (Nat.le_succ _))
  have I2 := Inv.rawMade (C := C) (us := us) I1
  have r2 : Vals (V.ref (s1.heap.objs.size + 1) :: vs) (Value.ref (s1.heap.objs.size + 1) :: us ++ []) := by rw [List.append_nil]; exact .cons rfl r
  have hl2 : (Value.ref (s1.heap.objs.size + 1) :: us ++ []).length = ps.length := by
    have z := r2.length
    rw [F.len _ _ _ _ hq] at z
    exact z.symm
  have en : X.s₀.heap.get? (s1.heap.objs.size + 1) = none := Heap.get?_none_of_le (Nat.le_trans I1.sz (Nat.le_succ _))
  obtain ⟨hp, g, d, tk, os⟩ := s1
  show wpAny _ _ (call (.ref C) us) _ _ _
  refine call_excI (gT.keeps I1.bk) (I1.bk _ _ gC) I1.kIn gf gi (by rw [← r.length]; exact hl) ?_
  refine wpAny_call (codeAny_mono (F.run _ X.stack _ _ ⟨Value.ref (hp.objs.size + 1) :: us, []⟩ (Value.ref (hp.objs.size + 1) :: us ++ []) _ _ E0 (rm.make C us []) (I2.env0.make C us []) (hb _ (Value.ref (hp.objs.size + 1) :: us) I2.kIn hl2) r2 hq) fun r s' hq' => ?_)
  cases r with
  | error ev => exact hx pins σ _ _ ev s' I2 hq'
  | ok fl =>
    cases fl with
    | ret u =>
      obtain ⟨v, H', I3, rv, ev, dv, q3, q4⟩ := I2.after hq'
      subst ev
      obtain ⟨t', g3⟩ := I3.raw q3
      exact ⟨rv, _, t', dv, rfl, I3.bk _ _ gC, g3, hr pins σ H' s' _ _ dv I3 q3 en q4⟩
    | next => exact False.elim hq'
    | brk => exact False.elim hq'
    | cont => exact False.elim hq'
end L2
namespace L2
open PySem PySem.Spec PyProof.Rows PySem.W
def initOf (K : Frag) (D : Addr) : Bool := specialIn K (.ref D) "__getattribute__" == some (some (.builtin "type.__getattribute__")) && readsIn K D (.type "type") && (match findCls K (.ref D) (.type "type") "__init__" with
  | some (.val v) => v == .builtin "ValueError.__init__"
  | _ => false)
section
variable {X : Cx} {pins : List (Addr × Obj)} {σ : St} {H : Hp} {s : Shared}
theorem upd_id {H : Hp} {a : Addr} {o : HO} (q : H a = some o) : upd H a o = H := by
  funext b
  by_cases z : b = a
  · subst z; rw [upd_same, q]
  · rw [upd_ne z]
theorem Inv.args {e t : Addr} {cls : Value} {dv : Option Addr} {us : List Value} (I : Inv X pins σ H s) (q : H e = some (rawX e cls dv)) (g : s.heap.get? e = some { cls := cls, dict := dv, data := .fields #[.ref t, .none, .none, .none, .bool false, .none] }) :
    Inv X pins σ H { s with heap := (s.heap.push { cls := .type "tuple", data := .seq us.toArray }).update e (Obj.mapFields (·.setIfInBounds 0 (.ref s.heap.objs.size))) } := by
  have g1 := Heap.get?_push_of_some (h := s.heap) { cls := .type "tuple", data := .seq us.toArray } g
  have g2 := Heap.get?_update_self (Obj.mapFields (·.setIfInBounds 0 (.ref s.heap.objs.size))) g1 rfl
  have I2 := I.write (x := e) (e := e) (o := rawX e cls dv) (t' := s.toks) (h' := (s.heap.push { cls := .type "tuple", data := .seq us.toArray }).update e (Obj.mapFields (·.setIfInBounds 0 (.ref s.heap.objs.size)))) (by rw [q]; exact trivial) (.inl rfl)
    (fun b u n z => (Heap.get?_update_other _ _ (Ne.symm n)).trans (Heap.get?_push_of_some _ z)) ⟨_, g2⟩ (rawX_ok (t := s.heap.objs.size) (by rw [g2]; rfl))
  rw [upd_id q] at I2
  exact I2
def tExcInit (K : Frag) (t : TA) : TE := fun σ H Q => t σ H fun vs H1 => ∃ a C fI dv x, vs = [.ref a, x] ∧ H1 a = some (rawX a (.ref C) dv) ∧ excInit K C fI = true ∧ Q .non H1
theorem run_excInit {a C fI : Addr} {dv : Option Addr} {us : List Value} {Q : VK} (I : Inv X pins σ H s) (q : H a = some (rawX a (.ref C) dv)) (hC : excInit X.K C fI = true) (hl : us.length ≤ sizeLine) (k : Q .non H) :
    wpAny (model X.prog X.w) X.A (call (.builtin "ValueError.__init__") (.ref a :: us)) (EP X pins σ Q) X.xe s := by
  obtain ⟨bm, N, nm, qn, bs, hdct, sn, sub, ab, col, dd, k0, k1, k2, k3, k5, gC, _, _, gT⟩ := excInit_obj I.kIn hC
  obtain ⟨t, g⟩ := I.raw q
  have J := I.args (us := us) q g
  obtain ⟨h, gs, dr, tk, os⟩ := s
  refine wpAny_call (codeAny_call_builtin PySem.F.excBase_ValueError.init.plain PySem.F.excBase_ValueError.initEntry (wpAny_check_init_subU PySem.F.excBase_ValueError gT gC g rfl ?_))
  unfold Builtin.«BaseException.__init__»
  dsimp only
  rw [if_neg (by simp)]
  unfold newTuple Builtin.BaseException.bexcPut
  have g1 := Heap.get?_push_of_some (h := h) { cls := .type "tuple", data := .seq us.toArray } g
  refine wpAny_bind (wpAny_newObj_type ?_ (by show us.toArray.size ≤ sizeLine; rw [List.size_toArray]; exact hl))
  refine wpAny_bind (wpAny_bind (wpAny_field (x := .ref t) g1 rfl rfl (wpAny_bind (wpAny_setField g1 rfl (by show 0 < 6; decide) ?_))))
  exact wpAny_letGo (wpAny_pure ⟨.non, H, J, rfl, k⟩)
end
theorem pe_excInit {X : Cx} {x : Str} {D : Addr} {e1 e2 : Expr} {t : TA} {np apos pos : Pos} {pl : Sem Bool} (hg : Gl X x) (hm : X.mg x = some (.ref D)) (hD : initOf X.K D = true) (ha : PA X [e1, e2] t)
    (hdb : (x == ("__debug__" : Str)) = false := by decide) (he : starEach [e1, e2] X.env = (false, eval e1 X.env) :: starEach [e2] X.env := by rfl) (hpl : (backTo pos (starEach [e2] X.env)).any (·.1) = false := by rfl)
    (ht : eval (.Call (.Attribute (.Name x np) "__init__" apos) [e1, e2] [] pos) X.env = (do
      let ov ← eval (.Name x np) X.env
      standAt apos.atName
      let (f, first) ← holding [ov] (getMethod ov "__init__" pl)
      callWith pos f first (backTo pos (starEach [e1, e2] X.env)) (backToKw pos (keywordEach [] X.env))) := by rfl) :
    PE X (.Call (.Attribute (.Name x np) "__init__" apos) [e1, e2] [] pos) (tExcInit X.K t) := by
  intro pins s σ H Q I h
  unfold initOf at hD
  simp only [Bool.and_eq_true, beq_iff_eq] at hD
  obtain ⟨⟨d1, d2⟩, d3⟩ := hD
  split at d3
  case h_2 => cases d3
  case h_1 v d4 =>
    obtain rfl := beq_iff_eq.mp d3
    refine PySem.W.methodCall_KW (pl := pl) (ld_glob I hg hm ?_ hdb) ht
    refine method_cls I.kIn d1 (cls_value I.kIn d2 d4 rfl ?_)
    have I1 := I.tok (s.toks + 1)
    refine PyProof.Rows.callWith_builtin1 (thn (ha pos pins _ σ H _ I1 h) fun us s2 ⟨vs, H2, I2, r, a, C, fI, dv, y, ev, q1, q2, q3⟩ => ?_) he hpl
    subst ev
    obtain ⟨u1, u2, rfl, r1, r2⟩ := vals2 r
    cases (show u1 = Value.ref a from r1)
    exact run_excInit (us := [u2]) I2 q1 q2 (by show 1 ≤ sizeLine; decide) q3
end L2
namespace L2
open PySem PySem.Spec PyProof.Rows PySem.W Builtin Builtin.ObjectAttr
def tFs (x : Str) (t : TE) : TE := fun σ H Q => t σ H fun v H1 => ∃ n : Int, v = .int n ∧ n.natAbs.log2 < 1920 ∧ (x ++ (toString n : Str)).length ≤ sizeLine ∧ Q (.str (x ++ (toString n : Str))) H1
theorem pe_fs {X : Cx} {x : Str} {e : Expr} {t : TE} {j : Nat} {p1 p2 p3 : Pos} (hx : x.length ≤ sizeLine) (he : PE X e t) : PE X (.JoinedStr [.Constant (.str x) j p1, .FormattedValue e (-1) none p2] p3) (tFs x t) := by
  intro pins s σ H Q I h
  refine JoinedStr_many (joinParts_cons (Calls.Constant_str ⟨?_, ?_⟩))
  · show (Str.empty ++ x).length ≤ sizeLine
    rw [strLen_append]
    show 0 + _ ≤ _
    rw [Nat.zero_add]
    exact hx
  refine joinParts_cons (FormattedValue_plain (thn (he pins _ σ H _ (I.tok _) h) fun u s1 ⟨v, H1, I1, r, n, ev, hn, hl, q⟩ => ?_))
  subst ev
  obtain ⟨tk, rfl⟩ := (show ∃ t, u = Value.int n t from r)
  refine formatField_int_small hn ⟨?_, joinParts_nil ⟨.str _, H1, I1.tok _, ⟨_, rfl⟩, ?_⟩ ?_⟩
  · show ((Str.empty ++ x) ++ _).length ≤ _
    rw [Str.empty_append]; exact hl
  · show Q (.str ((Str.empty ++ x) ++ _)) H1
    rw [Str.empty_append]; exact q
  · show ((Str.empty ++ x) ++ _).length ≤ _
    rw [Str.empty_append]; exact hl
def refsV : List Value → Bool
  | .ref _ :: r => refsV r
  | l => l == vmro
theorem refuse_V (self : Value) : ∀ (l : List Value), refsV l = true → refuseLoop self "__setattr__" l = pure ()
  | [], e => by cases e
  | a :: r, e => by
    cases a with
    | ref c => rw [refuseLoop_ref]; exact refuse_V self r e
    | _ => rw [beq_iff_eq.mp (show (_ == vmro) = true from e)]; exact PySem.F.store_ValueError.passes self
structure XAtt (K : Frag) (C : Addr) (f : Str) : Prop where
  sa : findIn K (.ref C) "__setattr__" = some (some (.builtin "object.__setattr__"))
  no : findIn K (.ref C) f = some none
  ob : mroIn K C (.type "object") = some true
  cl : (clsIn K C).any (fun cd => cd.hasDict && refsV cd.mro) = true
section
variable {prog : Program} {w : World} {A : Around} {E : Value → Shared → Prop} {s : Shared} {K : Frag} {x C t : Addr} {f : Str} {v : Value}
theorem exc_store {Q : Unit → Shared → Prop} (kin : K.In s.heap) (g : s.heap.get? x = some { cls := .ref C, dict := none, data := .fields #[.ref t, .none, .none, .none, .bool false, .none] }) (c : XAtt K C f)
    (k : ∀ (h' : Heap) (tk : Nat), h'.get? x = some { cls := .ref C, dict := some s.heap.objs.size, data := .fields #[.ref t, .none, .none, .none, .bool false, .none] } → h'.Ns1 s.heap.objs.size (fun y => if y = f then some v else none) →
      (∀ b o, b ≠ x → s.heap.get? b = some o → h'.get? b = some o) → Q () { s with heap := h', toks := tk }) : wpAny (model prog w) A (setAttr (.ref x) f v) Q E s := by
  have ia : InstAt s.heap x _ C none := ⟨g, rfl, rfl, trivial⟩
  refine set_plain kin ia c.sa ?_
  have SF := PySem.F.store_object
  obtain ⟨cd, hc, hd⟩ := any_some c.cl
  simp only [Bool.and_eq_true] at hd
  obtain ⟨hd, hp⟩ := hd
  refine codeAny_call_builtin SF.slot.plain SF.entry (@check_slot (model prog w) _ _ { s with toks := s.toks + 1 } "object.__setattr__" "object" "__setattr__" (.ref x) [.str f s.toks, v] [] _ SF.kind SF.split (ia.type.andThen (looks_mroIn kin c.ob)) (SF.args _ _ _) ?_)
  rw [osa_eq, refuse_eq]
  have lm : Looks (model prog w) s.heap (mroOf (.ref C)) cd.mro := (looks_clsIn kin hc).andThen .now
  refine wpAny_bind (wpAny_bind (ia.type.here (s := { s with toks := s.toks + 1 }) (wpAny_bind (lm.here (s := { s with toks := s.toks + 1 }) ?_))))
  rw [refuse_V _ _ hp]
  refine wpAny_pure (wpAny_bind (ia.type.here (s := { s with toks := s.toks + 1 }) (wpAny_bind ((looks_findIn (M := model prog w) kin c.no).here (s := { s with toks := s.toks + 1 }) (wpAny_bind (m := storeTaker? none) (wpAny_pure ?_))))))
  show wpAny _ _ (storeInOwnDict (.ref x) (.ref C) (.str f s.toks) f v false) _ _ _
  unfold storeInOwnDict ownDictForStores instanceDict
  refine wpAny_bind (m := ownStreamTells (.ref x) (.ref C)) (wpAny_pure ?_)
  rw [if_neg (by simp)]
  refine wpAny_bind (wpAny_bind (wpAny_loadPart g ?_))
  dsimp only
  refine wpAny_bind ((looks_clsIn (M := model prog w) kin hc).here (s := { s with toks := s.toks + 1 }) ?_)
  rw [hd, if_neg (by decide), if_neg (by simp [typeHasDict])]
  have xs : x ≠ s.heap.objs.size := Nat.ne_of_lt (Heap.lt_size g)
  have g1 := Heap.get?_push_of_some (h := s.heap) { cls := .type "dict", data := .dict #[] } g
  refine wpAny_bind (wpAny_alloc' (wpAny_bind (wpAny_update' g1 (wpAny_pure ?_))))
  have d1 : ((s.heap.push { cls := .type "dict", data := .dict #[] }).update x fun o => { cls := o.cls, dict := some s.heap.objs.size, data := o.data, slots := o.slots }).get? s.heap.objs.size = some { cls := .type "dict", data := .dict #[] } :=
    (Heap.get?_update_other _ _ xs).trans (Heap.get?_push_at rfl rfl)
  have x1 : ((s.heap.push { cls := .type "dict", data := .dict #[] }).update x fun o => { cls := o.cls, dict := some s.heap.objs.size, data := o.data, slots := o.slots }).get? x = some { cls := .ref C, dict := some s.heap.objs.size, data := .fields #[.ref t, .none, .none, .none, .bool false, .none] } :=
    Heap.get?_update_self _ g1 rfl
  have n1 : ((s.heap.push { cls := .type "dict", data := .dict #[] }).update x fun o => { cls := o.cls, dict := some s.heap.objs.size, data := o.data, slots := o.slots }).Ns s.heap.objs.size (fun _ => none) := ⟨_, #[], _, d1, rfl, fun _ z => absurd z (by simp), fun _ => rfl⟩
  show wpAny _ _ (storeInDict s.heap.objs.size (.str f s.toks) f v) _ _ _
  unfold storeInDict newKeyGuard
  refine wpAny_bind (wpAny_pure (wpAny_bind (wpAny_nsSet1 (Heap.Ns1.of_empty n1) fun h' nn same => ?_)))
  obtain ⟨oD, esD, epD, q1, q2, q3⟩ := nn.count (Within.cons f v Within.nil)
  refine wpAny_bind (wpAny_lookBehind q1 (by rw [q2]; exact pastItsLine_dict (Nat.le_trans q3 (by rw [List.length_cons, List.length_nil, sizeLine_eq]; omega))) ?_)
  wp_walk
  refine k h' _ ((same.2 x xs).trans x1) ?_ fun b o n z => (same.2 b (Nat.ne_of_lt (Heap.lt_size z))).trans ((Heap.get?_update_other _ _ (Ne.symm n)).trans (Heap.get?_push_of_some _ z))
  exact nn
end
section
variable {X : Cx} {pins : List (Addr × Obj)} {σ : St} {H : Hp} {s : Shared}
theorem xd_one {f : Str} {y : V} {u : Value} (r : RelV y u) : ∀ n, RelO (([(f, y)] : List (Str × V)).lookup n) ((fun z => if z = f then some u else none) n) := fun n => by
  by_cases e : n = f
  · subst e
    simp only [List.lookup, beq_self_eq_true, if_true]
    exact r
  · have : (n == f) = false := beq_eq_false_iff_ne.mpr e
    simp only [List.lookup, this, if_neg e]
    exact trivial
theorem setx_ok {a C : Addr} {f : Str} {y : V} {u : Value} {Q : Unit → Shared → Prop} (I : Inv X pins σ H s) (q : H a = some (rawX a (.ref C) none)) (c : XAtt X.K C f) (r : RelV y u)
    (k : ∀ s', Inv X pins σ (upd (upd H a (rawX a (.ref C) (some s.heap.objs.size))) s.heap.objs.size (.xd [(f, y)])) s' → Q () s') : wpAny (model X.prog X.w) X.A (setAttr (.ref a) f u) Q X.xe s := by
  obtain ⟨t, g⟩ := I.raw q
  refine exc_store I.kIn g c fun h' tk g2 nn keep => k _ ?_
  have nd : H s.heap.objs.size = none := I.hok.fresh (Nat.le_refl _)
  have na : a ≠ s.heap.objs.size := Nat.ne_of_lt (Heap.lt_size g)
  have nb : ∀ b o, s.heap.get? b = some o → b ≠ s.heap.objs.size := fun b o z => Nat.ne_of_lt (Heap.lt_size z)
  have old : ∀ b o, H b = some o → (∀ φ, o ≠ .ext φ) → b ≠ a := fun b o z n y => by subst y; rw [q] at z; cases z; exact n _ rfl
  have old' : ∀ b, H b = none → b ≠ a := fun b z y => by subst y; rw [q] at z; cases z
  have same : ∀ b o, H b = some o → (∀ φ, o ≠ .ext φ) → (upd (upd H a (rawX a (.ref C) (some s.heap.objs.size))) s.heap.objs.size (.xd [(f, y)])) b = some o := fun b o z n => by
    rw [upd_ne (ne_of_none z nd), upd_ne (old b o z n)]; exact z
  refine I.un ⟨fun b o z n _ _ => keep b o (old' b n) z, fun b o z n _ _ => ⟨o.slots, keep b o (old' b n) z⟩, fun b o z n _ => ?_, fun b o z _ => ?_, fun b xs z => same b _ z (fun _ y => nomatch y), fun b o u z => same b _ z (fun _ y => nomatch y), fun b ps z => ⟨#[], by rw [Array.append_empty]; exact same b _ z (fun _ y => nomatch y)⟩⟩ fun b o z => ?_
  · rw [upd_ne (nb b o z), upd_ne (old' b n)]; exact n
  · by_cases y : b = a
    · subst y; exact ⟨_, g2⟩
    · exact ⟨o, keep b o y z⟩
  · by_cases y : b = s.heap.objs.size
    · subst y
      rw [upd_same] at z; cases z
      exact ⟨_, nn, xd_one r⟩
    · rw [upd_ne y] at z
      by_cases y2 : b = a
      · subst y2
        rw [upd_same] at z; cases z
        exact rawX_ok g2
      · rw [upd_ne y2] at z
        refine (I.hok b o z).stay (fun e v he w => keep e v ?_ w) (fun e w => same e _ w (fun _ y => nomatch y)) fun e xs w => same e _ w (fun _ y => nomatch y)
        rcases he with rfl | he
        · exact y2
        · exact old e _ he (fun _ y => nomatch y)
end
def sXset (K : Frag) (ta tv : TE) (f : Str) : TS := fun D σ H => tv σ H fun y H1 => ta σ H1 fun x H2 => ∃ a C, x = .ref a ∧ H2 a = some (rawX a (.ref C) none) ∧ XAtt K C f ∧
  ∀ d, H2 d = none → d ≠ a → D.nx σ (upd (upd H2 a (rawX a (.ref C) (some d))) d (.xd [(f, y)]))
theorem ps_xset {X : Cx} {o value : Expr} {f : Str} {ta tv : TE} {pos pos' : Pos} (ha : PE X o ta) (hv : PE X value tv) (hs : swapsWith value (some (.Attribute o f pos')) pos.line X.env = pure false) : PS X (.Assign [.Attribute o f pos'] value pos) (sXset X.K ta tv f) := by
  intro pins s σ H D I h
  refine plainObj_wpAny_Assign_Attribute (thn (hv pins s σ H _ I h) fun u s1 ⟨y, H1, I1, ry, q⟩ => thn (ha pins s1 σ H1 _ I1 q) fun ov s2 ⟨x, H2, I2, rx, a, C, ex, ea, c, q2⟩ => ?_) hs
  subst ex
  obtain rfl : ov = Value.ref a := rx
  obtain ⟨t, g⟩ := I2.raw ea
  exact setx_ok I2 ea c ry fun s3 I3 => ⟨σ, _, I3, q2 _ (I2.hok.fresh (Nat.le_refl _)) (Nat.ne_of_gt (Heap.lt_size g))⟩
end L2
namespace L2
open PySem PySem.Spec PyProof.Rows PySem.W Builtin Builtin.ObjectAttr
theorem exc_field {prog : Program} {w : World} {A : Around} {E : Value → Shared → Prop} {s : Shared} {K : Frag} {x C d : Addr} {f : Str} {v : Value} {oe : Obj} {ws : Array Value} {mA : Str → Option Value} {b : Bool} {Q : Value → Shared → Prop} (kin : K.In s.heap) (c : XCls K C) (hh : hasDictIn K C = true) (no : findIn K (.ref C) f = some none)
    (g : s.heap.get? x = some oe) (g1 : oe.cls = .ref C) (g2 : oe.data = .fields ws) (g3 : oe.dict = some d) (nn : s.heap.Ns1 d mA) (hv : mA f = some v) (hd : handedIn v = true) (q : Q v { s with toks := s.toks + 1 }) :
    wpAny (model prog w) A (getAttr (.ref x) f b) Q E s := by
  obtain ⟨od, ho, hl⟩ := lookIn_ns nn
  have ia : InstAt s.heap x oe C (some od) := ⟨g, g1, by unfold notCls; rw [g2], by rw [g3]; exact ho⟩
  have T1 := looks_find (M := model prog w) kin ia (findObj_own hh no rfl (by rw [hl, hv]))
  have T0 := ia.type (M := model prog w)
  unfold getAttr
  refine wpAny_bind (wpAny_mkText ?_)
  refine exc_by (s := { s with toks := s.toks + 1 }) kin (fun M => ia.type) c ?_
  obtain ⟨hp, gs, dr, t, os⟩ := s
  unfold Builtin.«object.__getattribute__»
  refine wpAny_bind (wpAny_pure (wpAny_bind (wpAny_pure (wpAny_bind (T0.at (wpAny_bind (T1.at ?_)))))))
  exact wpAny_pure ⟨hd, q⟩
structure XGet (K : Frag) (C : Addr) (f : Str) : Prop where
  x : XCls K C
  hd : hasDictIn K C = true
  no : findIn K (.ref C) f = some none
def tXget (K : Frag) (ta : TE) (f : Str) : TE := fun σ H Q => ta σ H fun x H1 => ∃ a C d fs v, x = .ref a ∧ H1 a = some (excD a (.ref C) (some d)) ∧ H1 d = some (.xd fs) ∧ XGet K C f ∧ fs.lookup f = some v ∧ Q v H1
theorem pe_xget {X : Cx} {o : Expr} {f : Str} {ta : TE} {pos : Pos} (ha : PE X o ta) (hb : attributeBase o f X.env (eval o X.env) = eval o X.env) : PE X (.Attribute o f pos) (tXget X.K ta f) := by
  intro pins s σ H Q I h
  refine attr_of hb (thn (ha pins s σ H _ I h) fun u s1 ⟨x, H1, I1, rx, a, C, d, fs, v, ex, ea, ed, c, l, q⟩ => ?_)
  subst ex
  obtain rfl : u = Value.ref a := rx
  obtain ⟨⟨oe, ws, g, g1, g2, g3, _⟩, _, _⟩ := (show ObjOk X.prog X.w H1 s1.heap a (excD a (.ref C) (some d)) from I1.hok a _ ea)
  obtain ⟨mA, nn, r⟩ := (show ObjOk X.prog X.w H1 s1.heap d (.xd fs) from I1.hok d _ ed)
  obtain ⟨u, hu, ru⟩ := RelO.some_of (v := v) (o := mA f) (by rw [← l]; exact r f)
  exact exc_field I1.kIn c.x c.hd c.no g g1 g2 g3 nn hu (handed_of ru) ⟨v, H1, I1.tok _, ru, q⟩
end L2
namespace L2
open PySem PySem.Spec PyProof.Rows Builtin Builtin.Str
section
variable {X : Cx}
end
end L2
namespace L2
open PySem PySem.Spec PyProof.Rows
end L2
namespace L2
open PySem PySem.Spec PyProof.Rows
def rSlS : V → Option Int → Option Int → Hp → VK → Prop := fun x lo hi H Q => ∃ a, x = .str a ∧ a.length ≤ sizeLine ∧ Q (.str (Txt.slice a lo hi)) H
theorem sl_str {X : Cx} : SlR X rSlS := by
  rintro pins s σ H x v vl vu lo hi sl Q I rx hs pl pu ⟨a, rfl, hz, q⟩
  obtain ⟨t, rfl⟩ := (show ∃ t, v = Value.str a t from rx)
  refine ⟨"str", _, F.slot_str_getitem.lookup, typeIs_str _ _ _, ?_⟩
  have fin : ∀ t' k, EP X pins σ Q (.str (Txt.slice a lo hi) t') { s with toks := k } := fun t' k => ⟨.str _, H, I.tok k, ⟨t', rfl⟩, q⟩
  have le := Nat.le_trans (Txt.slice_le a lo hi) hz
  cases pl with
  | none => cases pu with
    | none => exact wpAny_getItem_str_slice (l := none) (u := none) (st := none) hs rfl (post_val_or_str ⟨le, fin⟩)
    | int j tj => exact wpAny_getItem_str_slice (l := none) (u := some (j, tj)) (st := none) hs rfl (post_val_or_str ⟨le, fin⟩)
  | int i ti => cases pu with
    | none => exact wpAny_getItem_str_slice (l := some (i, ti)) (u := none) (st := none) hs rfl (post_val_or_str ⟨le, fin⟩)
    | int j tj => exact wpAny_getItem_str_slice (l := some (i, ti)) (u := some (j, tj)) (st := none) hs rfl (post_val_or_str ⟨le, fin⟩)
end L2
namespace L2
open PySem PySem.Spec PyProof.Rows
section
variable {X : Cx}
def rAll : List V → Hp → VK → Prop := fun xs H Q => ∃ (l : Addr) (bs : List Bool), xs = [.ref l] ∧ H l = some (.lst (bs.map V.bl)) ∧ Q (.bl (bs.all id)) H
end
end L2
namespace L2
open PySem PySem.Spec PyProof.Rows Builtin Builtin.Str
section
variable {prog : Program} {w : World} {A : Around} {E : Value → Shared → Prop} {s : Shared} {it : Addr} {fp wr : List Addr} {G : Array GenState → Array GenState → Prop} {n : Nat} {P : Nat → Value → Prop} {St : Nat → Shared → Prop}
end
def tJoinRev (a : PySem.Str) (te : TE) : TE := fun σ H Q => te σ H fun x H1 => ∃ (l : Addr) (ts : List PySem.Str), x = .ref l ∧ H1 l = some (.lst (ts.map V.str)) ∧ JoinOk a ts.reverse = true ∧ Q (.str (Txt.join a ts.reverse)) H1
end L2
namespace Mt
open PySem PySem.NumText
end Mt
namespace L2
open PySem PySem.Spec PyProof.Rows
def FX (x : Str) (g : TG) (tb : TS) (D : Ends) (σ : St) (H : Hp) : Prop := ∃ Pv : Nat → St → Hp → Prop, Pv 0 σ H ∧ (∀ i c σ H, x.cps[i]? = some c → Pv i σ H → g (.str ⟨#[c]⟩) σ H fun σ2 H2 => tb { D with nx := Pv (i + 1), ct := Pv (i + 1), bk := D.nx } σ2 H2) ∧ ∀ σ H, Pv x.cps.size σ H → D.nx σ H
def tForX (te : TE) (g : TG) (tb : TS) : TS := fun D σ H => te σ H fun v H1 => ∃ x, v = .str x ∧ FX x g tb D σ H1
section
variable {X : Cx} {tg l a elt : Expr} {body : List Stmt} {te tl : TE} {g : TG} {tb : TS} {p pos pos' : Pos} {scope : Scope} {js : List (Option Nat)}
def tCoX (js : List (Option Nat)) (te : TE) (g : TG) (tl : TE) : TE := fun σ H Q => te σ H fun v H1 => ∃ x, v = .str x ∧ CO x.cps.size (fun i _ v => ∃ c, x.cps[i]? = some c ∧ v = .str ⟨#[c]⟩) (fun _ => True) js g tl σ H1 Q
theorem pe_globI {x : Str} {n : Int} (hm : ∃ t, X.mg x = some (.int n t)) (hg : Gl X x := by rfl) (hd : (x == ("__debug__" : Str)) = false := by decide) : PE X (.Name x pos) (tC (.int n)) := by
  obtain ⟨t, hm⟩ := hm
  exact pe_glob hg hm ⟨t, rfl⟩ hd
end
end L2
namespace L2
open PySem PySem.Spec PyProof.Rows
def clsBody : Stmt → List Stmt
  | .ClassDef _ _ _ body _ _ _ _ _ _ _ => body
  | _ => []
abbrev methOf (c : Stmt) (i : Nat) : Stmt := (clsBody c).getD i (.Pass ⟨0, 0, 0, 0⟩)
structure CalleeI (P : Program) (w : World) (K : PySem.W.Frag) (mg : Str → Option Value) (base : Heap) (k : Nat) (C : Addr) (ps : List Str) (sp : Sp) : Prop where
  ex : ∃ fI fd, FnOk P w K mg base (CXe P w) k fI fd ps sp ∧ excInit K C fI = true ∧ PySem.W.keepIn K (.ref C) = true ∧ Binds K fd ps []
theorem ps_rI {X : Cx} {E : XK} {x : Str} {C : Addr} {ps : List Str} {sp : Sp} {k : Nat} {e : Expr} {es : List Expr} {t : TA} {np cpos pos : Pos} (G : CalleeI X.prog X.w X.K X.mg X.base k C ps sp) (rm : Room (k + 1) X.A) (hr : RaisesD X E) (hm : X.mg x = some (.ref C)) (ha : PA X (e :: es) t)
    (hc : X.calm = true := by rfl) (hg : Gl X x := by rfl) (hdb : (x == ("__debug__" : Str)) = false := by decide) (he : starEach (e :: es) X.env = (false, eval e X.env) :: starEach es X.env := by rfl) (hpl : (backTo cpos (starEach es X.env)).any (·.1) = false := by rfl) :
    PS X (.Raise (some (.Call (.Name x np) (e :: es) [] cpos)) none pos) (tRaiseI C sp E t) := by
  obtain ⟨fI, fd, F, yes, kp, b⟩ := G.ex
  exact ps_raiseI hr hc hg hm kp yes F rm b passE0 ha hdb he hpl
end L2
namespace Mt
def wk (L D s : Nat → Rat) (top h : Nat) : Rat := s h * L h + (if 0 < h then s (h - 1) else 0) + (if h + 1 < top then s (h + 1) * D h else 0)
def row (L D : Nat → Rat) (top i : Nat) : Nat → List Rat
  | 0 => (List.range top).map fun h => if h = i then 1 else 0
  | n + 1 => (List.range top).map fun h => wk L D (cf (row L D top i n)) top h
theorem row_len (L D : Nat → Rat) (top i : Nat) : ∀ n, (row L D top i n).length = top
  | 0 => by simp [row]
  | n + 1 => by simp [row]
abbrev sm (L D : Nat → Rat) (top i n j : Nat) : Rat := cf (row L D top i n) j
section
variable {L D : Nat → Rat} {top : Nat}
theorem sm_zero {i j : Nat} (h : j < top) : sm L D top i 0 j = if j = i then 1 else 0 := by rw [sm, row, cf_map_range, if_pos h]
theorem sm_ge {i n j : Nat} (h : top ≤ j) : sm L D top i n j = 0 := cf_ge (by rw [row_len]; exact h)
theorem sm_succ {i n j : Nat} (h : j < top) : sm L D top i (n + 1) j = wk L D (sm L D top i n) top j := by rw [sm, row, cf_map_range, if_pos h]
def Su (f : Nat → Rat) : Nat → Rat
  | 0 => 0
  | n + 1 => Su f n + f n
theorem Su_congr {f g : Nat → Rat} : ∀ {m : Nat}, (∀ h, h < m → f h = g h) → Su f m = Su g m
  | 0, _ => rfl
  | m + 1, e => by rw [Su, Su, Su_congr fun h hh => e h (by omega), e m (by omega)]
theorem Su_add (f g : Nat → Rat) : ∀ m, Su (fun h => f h + g h) m = Su f m + Su g m
  | 0 => by simp only [Su]; grind
  | m + 1 => by rw [Su, Su, Su, Su_add f g m]; grind
theorem Su_mul (f : Nat → Rat) (c : Rat) : ∀ m, Su (fun h => f h * c) m = Su f m * c
  | 0 => by simp only [Su]; grind
  | m + 1 => by rw [Su, Su, Su_mul f c m]; grind
theorem Su_zero : ∀ m, Su (fun _ => 0) m = 0
  | 0 => rfl
  | m + 1 => by rw [Su, Su_zero m]; grind
theorem Su_one (f : Nat → Rat) (j : Nat) : ∀ m, j < m → Su (fun h => f h * (if j = h then 1 else 0)) m = f j
  | 0, h => absurd h (Nat.not_lt_zero _)
  | m + 1, h => by
    rw [Su]
    by_cases e : j = m
    · subst e
      rw [if_pos rfl, Su_congr (g := fun _ => 0) (fun h hh => by rw [if_neg (by omega)]; grind), Su_zero]
      grind
    · rw [if_neg e, Su_one f j m (by omega)]
      grind
theorem comp (i a j : Nat) : ∀ (b m : Nat), top ≤ m → Su (fun h => sm L D top i a h * sm L D top h b j) m = sm L D top i (a + b) j := by
  intro b
  induction b generalizing j with
  | zero =>
    intro m hm
    by_cases hj : j < top
    · rw [Su_congr (g := fun h => sm L D top i a h * (if j = h then 1 else 0)) fun h _ => by rw [sm_zero hj], Su_one _ _ _ (by omega)]
      rfl
    · rw [Su_congr (g := fun _ => 0) (fun h _ => by rw [sm_ge (j := j) (by omega)]; grind), Su_zero, sm_ge (by omega)]
  | succ b ih =>
    intro m hm
    by_cases hj : j < top
    · rw [show a + (b + 1) = (a + b) + 1 by omega, sm_succ hj]
      unfold wk
      rw [← ih j m hm]
      have e1 : (if 0 < j then sm L D top i (a + b) (j - 1) else 0) = Su (fun h => sm L D top i a h * (if 0 < j then sm L D top h b (j - 1) else 0)) m := by
        split
        · rw [← ih (j - 1) m hm]
        · rw [Su_congr (g := fun _ => 0) (fun h _ => by grind), Su_zero]
      have e2 : (if j + 1 < top then sm L D top i (a + b) (j + 1) * D j else 0) = Su (fun h => sm L D top i a h * (if j + 1 < top then sm L D top h b (j + 1) * D j else 0)) m := by
        split
        · rw [← ih (j + 1) m hm, ← Su_mul]
          exact Su_congr fun h _ => by grind
        · rw [Su_congr (g := fun _ => 0) (fun h _ => by grind), Su_zero]
      rw [e1, e2, ← Su_mul, ← Su_add, ← Su_add]
      refine Su_congr fun h _ => ?_
      rw [sm_succ hj]
      unfold wk
      grind
    · rw [Su_congr (g := fun _ => 0) (fun h _ => by rw [sm_ge (j := j) (by omega)]; grind), Su_zero, sm_ge (by omega)]
theorem first {i : Nat} (hi : i < top) : ∀ (n j : Nat), j < top → sm L D top i (n + 1) j = L i * sm L D top i n j + (if i + 1 < top then sm L D top (i + 1) n j else 0) + (if 0 < i then D (i - 1) * sm L D top (i - 1) n j else 0)
  | 0, j, hj => by
    rw [sm_succ hj, sm_zero hj, sm_zero hj, sm_zero hj]
    unfold wk
    rw [sm_zero hj]
    by_cases h1 : j = i
    · subst h1
      rw [if_pos rfl]
      have a : (if 0 < j then sm L D top j 0 (j - 1) else 0) = 0 := by
        split
        · rw [sm_zero (by omega), if_neg (by omega)]
        · rfl
      have b : (if j + 1 < top then sm L D top j 0 (j + 1) * D j else 0) = 0 := by
        split
        · rw [sm_zero (by omega), if_neg (by omega)]; grind
        · rfl
      have c : (if j = j + 1 then (1 : Rat) else 0) = 0 := if_neg (by omega)
      rw [a, b, c]
      by_cases z : 0 < j
      · rw [if_pos z, if_neg (show ¬ j = j - 1 by omega)]; grind
      · rw [if_neg z]; grind
    · rw [if_neg h1]
      have a : (if 0 < j then sm L D top i 0 (j - 1) else 0) = if i + 1 < top then (if j = i + 1 then (1 : Rat) else 0) else 0 := by
        by_cases e : j = i + 1
        · rw [if_pos (by omega), sm_zero (by omega), if_pos (by omega), if_pos (by omega), if_pos e]
        · rw [if_neg e, ite_self]
          split
          · rw [sm_zero (by omega), if_neg (by omega)]
          · rfl
      have b : (if j + 1 < top then sm L D top i 0 (j + 1) * D j else 0) = if 0 < i then D (i - 1) * (if j = i - 1 then (1 : Rat) else 0) else 0 := by
        by_cases e : i = j + 1
        · subst e
          rw [if_pos hi, if_pos (by omega), sm_zero hi, if_pos rfl, if_pos (by omega), show j + 1 - 1 = j by omega]
          grind
        · have z : (if 0 < i then D (i - 1) * (if j = i - 1 then (1 : Rat) else 0) else 0) = 0 := by
            split
            · rw [if_neg (by omega)]; grind
            · rfl
          rw [z]
          split
          · rw [sm_zero (by omega), if_neg (by omega)]; grind
          · rfl
      rw [a, b]
      grind
  | n + 1, j, hj => by
    rw [sm_succ hj, sm_succ (n := n) hj, sm_succ (n := n) hj, sm_succ (n := n) hj]
    unfold wk
    have e0 := first hi n j hj
    by_cases z1 : 0 < j <;> by_cases z2 : j + 1 < top
    · have e1 := first hi n (j - 1) (by omega)
      have e2 := first hi n (j + 1) z2
      simp only [if_pos z1, if_pos z2]
      rw [e0, e1, e2]
      grind
    · have e1 := first hi n (j - 1) (by omega)
      simp only [if_pos z1, if_neg z2]
      rw [e0, e1]
      grind
    · have e2 := first hi n (j + 1) z2
      simp only [if_neg z1, if_pos z2]
      rw [e0, e2]
      grind
    · simp only [if_neg z1, if_neg z2]
      rw [e0]
      grind
end
theorem Lat.one : Lat 1 1 1 := ⟨1, by grind, by decide⟩
abbrev B0 : Nat := 27720
abbrev W0 : Nat := 2000001
abbrev Gd (n : Nat) (q : Rat) : Prop := Lat (B0 ^ n) (W0 ^ n * B0 ^ n) q
theorem Gd.zero {n : Nat} : Gd n 0 := Lat.zero
theorem Gd.one : Gd 0 1 := Lat.one
end Mt
namespace Mt
end Mt
namespace L2
open PySem PySem.Spec PyProof.Rows
def valB : V → Value → Bool
  | .int i, .int j _ => i == j
  | .non, .none => true
  | _, _ => false
theorem valB_rel {v : V} {u : Value} (h : valB v u = true) : RelV v u := by
  cases v with
  | int i =>
    cases u with
    | int j t =>
      have e : i = j := by simpa [valB] using h
      rw [e]
      exact ⟨t, rfl⟩
    | _ => cases h
  | non =>
    cases u with
    | none => rfl
    | _ => cases h
  | _ => cases u <;> cases h
def valsB : List V → List Value → Bool
  | [], [] => true
  | v :: vs, u :: us => valB v u && valsB vs us
  | _, _ => false
theorem valsB_rel : ∀ {vs : List V} {us : List Value}, valsB vs us = true → Vals vs us
  | [], [], _ => .nil
  | v :: vs, u :: us, h => by
    simp only [valsB, Bool.and_eq_true] at h
    exact .cons (valB_rel h.1) (valsB_rel h.2)
  | [], _ :: _, h => by cases h
  | _ :: _, [], h => by cases h
def dflIn (K : PySem.W.Frag) (dV : Value) (dvs : List V) : Bool := match dV with
  | .ref T => match K.lookup T with
    | some ⟨_, _, .seq items _, _⟩ => valsB dvs items.toList
    | _ => false
  | _ => false
theorem Vals.drop' : ∀ {vs : List V} {us : List Value} (m : Nat), Vals vs us → Vals (vs.drop m) (us.drop m)
  | _, _, 0, h => h
  | _, _, _ + 1, .nil => .nil
  | _, _, m + 1, .cons _ r => Vals.drop' m r
structure FunD (K : PySem.W.Frag) (x qual : Str) (st : Stmt) (dvs : List V) (f : Addr) (fd : FuncData) : Prop where
  ex : ∃ (T : Addr) (oc : Value) (od : Option Addr) (kV doc pm : Value) (an : Option Addr) (cdv ct : Value) (osl : Array (Option Value)) (o : Obj) (items : Array Value) (n : Nat),
    fd = PySem.W.fnOf x qual (defArgs st) (defBody st) (defScope st) (.ref T) kV doc pm an cdv ct ∧ K.lookup f = some ⟨oc, od, .func fd, osl⟩ ∧ PySem.W.codeIn K cdv qual = true ∧ K.lookup T = some o ∧ o.data = .seq items n ∧ Vals dvs items.toList
  kp : PySem.W.keepIn K (.ref f) = true
theorem funD_mk {K : PySem.W.Frag} {x qual : Str} {st : Stmt} {f : Addr} {oc : Value} {od an : Option Addr} {osl : Array (Option Value)} {dV kV doc pm cdv ct : Value} {dvs : List V} (l : K.lookup f = some ⟨oc, od, .func (PySem.W.fnOf x qual (defArgs st) (defBody st) (defScope st) dV kV doc pm an cdv ct), osl⟩)
    (c : PySem.W.codeIn K cdv qual = true) (k : PySem.W.keepIn K (.ref f) = true) (d : dflIn K dV dvs = true) : FunD K x qual st dvs f (PySem.W.fnOf x qual (defArgs st) (defBody st) (defScope st) dV kV doc pm an cdv ct) := by
  unfold dflIn at d
  split at d
  · split at d
    · rename_i T _ oc' od' items n sl e
      exact ⟨⟨T, oc, od, kV, doc, pm, an, cdv, ct, osl, _, items, n, rfl, l, c, e, rfl, valsB_rel d⟩, k⟩
    · cases d
  · cases d
structure CalleeD (P : Program) (w : World) (K : PySem.W.Frag) (mg : Str → Option Value) (base : Heap) (k : Nat) (x : Str) (ps : List Str) (dvs : List V) (sp : Sp) : Prop where
  ex : ∃ f fd ds, FnOk P w K mg base (CXe P w) k f fd ps sp ∧ mg x = some (.ref f) ∧ PySem.W.keepIn K (.ref f) = true ∧ Vals dvs ds ∧ ∀ i, i ≤ dvs.length → Binds K fd ps (ds.drop i)
section
variable {P : Program} {w : World} {K : PySem.W.Frag} {mg : Str → Option Value} {base : Heap} {x qual : Str} {st : Stmt} {f : Addr} {fd : FuncData} {N ps : List Str} {k : Nat} {sp : Sp} {dvs : List V}
theorem FunD.callee (F : FunD K x qual st dvs f fd) (m : mg x = some (.ref f)) (h : FnOk P w K mg base (CXe P w) k f fd ps sp)
    (hb : ∀ (i : Nat), i ≤ dvs.length → ∀ (T : Addr) (kV doc pm : Value) (an : Option Addr) (cdv ct : Value) (items : Array Value) (us : List Value), items.toList.length = dvs.length → (us ++ items.toList.drop i).length = ps.length →
      ∃ k, bindArgs (PySem.W.fnOf x qual (defArgs st) (defBody st) (defScope st) (.ref T) kV doc pm an cdv ct) ⟨us, []⟩ = seqItems? (.ref T) >>= k ∧ k (some items) = pure (ps.zip (us ++ items.toList.drop i))) :
    CalleeD P w K mg base k x ps dvs sp := by
  obtain ⟨T, oc, od, kV, doc, pm, an, cdv, ct, osl, o, items, n, rfl, lk, hcd, lT, hd, hv⟩ := F.ex
  refine ⟨f, _, items.toList, h, m, F.kp, hv, fun i hi s us kin hl => ?_⟩
  obtain ⟨k', e1, e2⟩ := hb i hi T kV doc pm an cdv ct items us hv.length.symm hl
  exact BindsTo.of_defaults (T := T) rfl (kin _ _ lT) hd e1 e2
theorem FunD.okE (F : FunD K x qual st dvs f fd) (S : FnScope N ps (defScope st)) (len : ∀ vs H Q E, sp vs H Q E → vs.length = ps.length)
    (hbody : ∀ (cdv : Value) (A : Around) (outer : List Env) (s : Shared) (H : Hp) (vs : List V) (Q : VK) (E : XK), Room k (A.deeper (envOfC qual (defScope st) s.heap.objs.size f cdv)) → sp vs H Q E →
      ∃ t, PSs (cxOf (CXe P w) P w K mg base N qual (defScope st) f cdv A outer s H E).nox (defBody st) t ∧ t { nx := fun _ H' => Q .non H', rt := Q } (start N vs) H) : FnOk P w K mg base (CXe P w) (k + 1) f fd ps sp := by
  obtain ⟨T, oc, od, kV, doc, pm, an, cdv, ct, osl, o, items, n, rfl, lk, hcd, lT, hd, hv⟩ := F.ex
  refine fn_of lk hcd S len fun A outer s H vs Q E hr hsp => ?_
  obtain ⟨t, h, q⟩ := hbody cdv A outer s H vs Q E hr hsp
  exact ⟨t, h.nox, q⟩
theorem FunD.okX (F : FunD K x qual st dvs f fd) (S : FnScope N ps (defScope st)) (len : ∀ vs H Q E, sp vs H Q E → vs.length = ps.length)
    (hbody : ∀ (cdv : Value) (A : Around) (outer : List Env) (s : Shared) (H : Hp) (vs : List V) (Q : VK) (E : XK), Room k (A.deeper (envOfC qual (defScope st) s.heap.objs.size f cdv)) → sp vs H Q E →
      ∃ t, PSs (cxOf (CXe P w) P w K mg base N qual (defScope st) f cdv A outer s H E) (defBody st) t ∧ t { nx := fun _ H' => Q .non H', rt := Q } (start N vs) H) : FnOk P w K mg base (CXe P w) (k + 1) f fd ps sp := by
  obtain ⟨T, oc, od, kV, doc, pm, an, cdv, ct, osl, o, items, n, rfl, lk, hcd, lT, hd, hv⟩ := F.ex
  exact fn_of lk hcd S len fun A outer s H vs Q E hr hsp => hbody cdv A outer s H vs Q E hr hsp
end
section
variable {X : Cx} {k : Nat} {sp : Sp} {ps : List Str} {dvs : List V} {x : Str} {p pos : Pos} {e : Expr} {es : List Expr} {t : TA}
theorem pe_cD {E : XK} (m : Nat) (G : CalleeD X.prog X.w X.K X.mg X.base k x ps dvs sp) (hr : Room k X.A) (hx : Passes (CXe X.prog X.w) X E) (ha : PA X (e :: es) t) (hm : m ≤ dvs.length := by decide) (hg : Gl X x := by rfl)
    (hdb : (x == ("__debug__" : Str)) = false := by decide) (he : starEach (e :: es) X.env = (false, eval e X.env) :: starEach es X.env := by rfl) (hpl : (backTo pos (starEach es X.env)).any (·.1) = false := by rfl) :
    PE X (.Call (.Name x p) (e :: es) [] pos) (tCall sp (dvs.drop m) E t) := by
  obtain ⟨f, fd, ds, F, mm, kp, hv, b⟩ := G.ex
  exact pe_call F hr hg mm kp (b m hm) (hv.drop' m) hx ha hdb he hpl
end
def FR2 (i : Int) (n : Nat) (g : TG) (tb : TS) (D : Ends) (σ : St) (H : Hp) : Prop := ∃ Pv : Nat → St → Hp → Prop, Pv 0 σ H ∧ (∀ m σ H, m < n → Pv m σ H → g (.int (i + m)) σ H fun σ2 H2 => tb { D with nx := Pv (m + 1), ct := Pv (m + 1), bk := D.nx } σ2 H2) ∧ ∀ σ H, Pv n σ H → D.nx σ H
def tForR2 (te te2 : TE) (g : TG) (tb : TS) : TS := fun D σ H => te σ H fun v H1 => te2 σ H1 fun v2 H2 => ∃ i : Int, v = .int i ∧ ∃ j : Int, v2 = .int j ∧ (-(2 ^ 62) ≤ i ∧ i < 2 ^ 62 ∧ -(2 ^ 62) ≤ j ∧ j < 2 ^ 62) ∧ FR2 i (j - i).toNat g tb D σ H2
section
variable {X : Cx} {tg a b : Expr} {body : List Stmt} {te te2 : TE} {g : TG} {tb : TS} {p pos pos' : Pos}
end
section
variable {X : Cx}
end
end L2
namespace L2
open PySem PySem.Spec PyProof.Rows
section
variable {X : Cx}
def nat2 (i j : Int) (n : Nat) : Int := if n = 0 then i else j
theorem at2 {i j : Int} {t u : Tok} {n : Nat} {v : Value} (h : (#[Value.int i t, Value.int j u] : Array Value)[n]? = some v) : ∃ t, v = .int (nat2 i j n) t := by
  rcases n with _ | _ | n
  · exact ⟨t, (by simpa [nat2] using h.symm)⟩
  · exact ⟨u, (by simpa [nat2] using h.symm)⟩
  · simp at h
end
end L2
namespace L2
open PySem PySem.Spec PyProof.Rows
def tVs (vs : List V) : TA := fun _ H Q => Q vs H
end L2
namespace L2
open PySem PySem.Spec PyProof.Rows
section
variable {X : Cx} {e a b : Expr} {es : List Expr} {te ta tb : TE} {t u : TS} {tx : TA} {st : Stmt} {rest body orelse : List Stmt} {pos : Pos}
end
end L2
namespace L2
open PySem PySem.Spec PyProof.Rows
end L2
namespace L2
open PySem PySem.Spec PyProof.Rows
section
variable {prog : Program} {w : World} {A : Around} {E : Value → Shared → Prop} {s : Shared}
end
end L2
namespace L2
open PySem PySem.Spec PyProof.Rows
section
variable {X : Cx} {es : List Expr} {y1 : Nat} {tp : Pos}
end
section
variable {X : Cx} {es : List Expr} {y1 : Nat} {tp : Pos} {a b elt : Expr} {te te2 tl : TE} {g : TG} {p pos pos' : Pos} {scope : Scope} {js : List (Option Nat)}
end
end L2
namespace L2
open PySem PySem.Spec PyProof.Rows
section
variable {κ : Type} [DecidableEq κ]
def valV (kvs : List (κ × V)) (k : κ) : Option V := (kvs.find? fun kv => decide (kv.1 = k)).map (·.2)
def putK (kvs : List (κ × V)) (k : κ) (v : V) : List (κ × V) :=
  if (kvs.any fun kv => decide (kv.1 = k)) = true then kvs.map (fun kv => if kv.1 = k then (kv.1, v) else kv) else kvs ++ [(k, v)]
def dropK (kvs : List (κ × V)) (k : κ) : List (κ × V) := kvs.filter fun kv => decide (kv.1 ≠ k)
theorem valV_pos {p : κ × V} {r : List (κ × V)} {k : κ} (e : p.1 = k) : valV (p :: r) k = some p.2 := by simp [valV, List.find?_cons, e]
theorem valV_neg {p : κ × V} {r : List (κ × V)} {k : κ} (e : ¬ p.1 = k) : valV (p :: r) k = valV r k := by simp [valV, List.find?_cons, e]
theorem valV_any (k : κ) : ∀ kvs : List (κ × V), (kvs.any fun kv => decide (kv.1 = k)) = (valV kvs k).isSome
  | [] => rfl
  | p :: r => by
    rw [List.any_cons]
    by_cases e : p.1 = k
    · simp only [valV_pos e, decide_eq_true e, Bool.true_or, Option.isSome_some]
    · rw [valV_neg e, decide_eq_false e, Bool.false_or]; exact valV_any k r
theorem valV_map (k j : κ) (y : V) : ∀ kvs : List (κ × V), valV (kvs.map fun kv => if kv.1 = k then (kv.1, y) else kv) j = (valV kvs j).map fun x => if j = k then y else x
  | [] => rfl
  | p :: r => by
    have ih := valV_map k j y r
    rw [List.map_cons]
    by_cases h : p.1 = k
    · rw [if_pos h]
      by_cases e : p.1 = j
      · rw [valV_pos (p := (p.1, y)) e, valV_pos e, Option.map_some, if_pos (e.symm.trans h)]
      · rw [valV_neg (p := (p.1, y)) e, valV_neg e, ih]
    · rw [if_neg h]
      by_cases e : p.1 = j
      · rw [valV_pos (p := p) e, valV_pos e, Option.map_some, if_neg (fun z => h (e.trans z))]
      · rw [valV_neg (p := p) e, valV_neg e, ih]
theorem valV_snoc (k j : κ) (y : V) : ∀ kvs : List (κ × V), valV kvs k = none → valV (kvs ++ [(k, y)]) j = if j = k then some y else valV kvs j
  | [], _ => by
    by_cases e : k = j
    · rw [if_pos e.symm]; exact valV_pos (p := (k, y)) e
    · rw [if_neg (fun z => e z.symm)]; exact valV_neg (p := (k, y)) e
  | p :: r, hn => by
    rw [List.cons_append]
    have hk : ¬ p.1 = k := fun z => by rw [valV_pos z] at hn; cases hn
    rw [valV_neg hk] at hn
    have ih := valV_snoc k j y r hn
    by_cases e : p.1 = j
    · rw [valV_pos e, valV_pos e, if_neg (fun z => hk (e.trans z))]
    · rw [valV_neg e, valV_neg e, ih]
theorem valV_put (kvs : List (κ × V)) (k j : κ) (y : V) : valV (putK kvs k y) j = if j = k then some y else valV kvs j := by
  unfold putK
  by_cases a : (kvs.any fun kv => decide (kv.1 = k)) = true
  · rw [if_pos a, valV_map]
    rw [valV_any] at a
    by_cases e : j = k
    · obtain ⟨x, hx⟩ := Option.isSome_iff_exists.mp a
      rw [if_pos e, e, hx, Option.map_some, if_pos rfl]
    · rw [if_neg e]
      cases valV kvs j with
      | none => rfl
      | some x => rw [Option.map_some, if_neg e]
  · rw [if_neg a]
    refine valV_snoc k j y kvs ?_
    rw [valV_any] at a
    cases q : valV kvs k with
    | none => rfl
    | some x => rw [q] at a; exact (a rfl).elim
theorem length_putK (kvs : List (κ × V)) (k : κ) (v : V) : (putK kvs k v).length ≤ kvs.length + 1 := by
  unfold putK
  split
  · rw [List.length_map]; omega
  · rw [List.length_append, List.length_cons, List.length_nil]; omega
theorem RelO.isSome_eq {o : Option V} {u : Option Value} (r : RelO o u) : o.isSome = u.isSome := by
  cases o with
  | none => cases u with
    | none => rfl
    | some _ => exact (show False from r).elim
  | some _ => cases u with
    | none => exact (show False from r).elim
    | some _ => rfl
theorem RelO.getD {o : Option V} {u : Option Value} {d : V} {d' : Value} (r : RelO o u) (rd : RelV d d') : RelV (o.getD d) (u.getD d') := by
  cases o with
  | none => cases u with
    | none => exact rd
    | some _ => exact (show False from r).elim
  | some _ => cases u with
    | none => exact (show False from r).elim
    | some _ => exact r
theorem KV.val {kvs : List (κ × V)} {vs : List (κ × Value)} (r : KV kvs vs) (k : κ) : RelO (valV kvs k) (valueAt vs k) := by
  unfold KV at r
  induction r with
  | nil => exact True.intro
  | @cons p q ps qs h t ih =>
    obtain ⟨h1, h2⟩ := h
    by_cases e : p.1 = k
    · have e' : q.1 = k := h1.symm.trans e
      have b : valueAt (q :: qs) k = some q.2 := by simp [valueAt, List.find?_cons, e']
      rw [valV_pos e, b]; exact h2
    · have e' : ¬ q.1 = k := fun z => e (h1.trans z)
      have b : valueAt (q :: qs) k = valueAt qs k := by simp [valueAt, List.find?_cons, e']
      rw [valV_neg e, b]; exact ih
theorem KV.any {kvs : List (κ × V)} {vs : List (κ × Value)} (r : KV kvs vs) (k : κ) : (kvs.any fun kv => decide (kv.1 = k)) = vs.any fun kv => decide (kv.1 = k) := by
  unfold KV at r
  induction r with
  | nil => rfl
  | cons h t ih => rw [List.any_cons, List.any_cons, ih, h.1]
theorem KV.repl {kvs : List (κ × V)} {vs : List (κ × Value)} (r : KV kvs vs) (k : κ) {y : V} {u : Value} (ry : RelV y u) :
    KV (kvs.map fun kv => if kv.1 = k then (kv.1, y) else kv) (vs.map fun kv => if kv.1 = k then (kv.1, u) else kv) := by
  unfold KV at r ⊢
  induction r with
  | nil => exact .nil
  | @cons p q ps qs h t ih =>
    rw [List.map_cons, List.map_cons]
    refine .cons ?_ ih
    obtain ⟨h1, h2⟩ := h
    by_cases e : p.1 = k
    · rw [if_pos e, if_pos (h1.symm.trans e)]; exact ⟨h1, ry⟩
    · rw [if_neg e, if_neg (fun z => e (h1.trans z))]; exact ⟨h1, h2⟩
theorem KV.put {kvs : List (κ × V)} {vs : List (κ × Value)} (r : KV kvs vs) (k : κ) {y : V} {u : Value} (ry : RelV y u) : KV (putK kvs k y) (stored vs k u) := by
  unfold putK stored
  rw [r.any k]
  by_cases e : (vs.any fun kv => decide (kv.1 = k)) = true
  · rw [if_pos e, if_pos e]; exact r.repl k ry
  · rw [if_neg e, if_neg e]; exact Paired.snoc r ⟨rfl, ry⟩
theorem KV.drop {kvs : List (κ × V)} {vs : List (κ × Value)} (r : KV kvs vs) (k : κ) : KV (dropK kvs k) (without vs k) := by
  unfold KV at r ⊢
  unfold dropK without
  induction r with
  | nil => exact .nil
  | @cons p q ps qs h t ih =>
    obtain ⟨h1, h2⟩ := h
    rw [List.filter_cons, List.filter_cons]
    by_cases e : p.1 = k
    · have a : ¬ decide (p.1 ≠ k) = true := by simp [e]
      have b : ¬ decide (q.1 ≠ k) = true := by simp [h1.symm.trans e]
      rw [if_neg a, if_neg b]; exact ih
    · have e' : ¬ q.1 = k := fun z => e (h1.trans z)
      have a : decide (p.1 ≠ k) = true := by simp [e]
      have b : decide (q.1 ≠ k) = true := by simp [e']
      rw [if_pos a, if_pos b]; exact .cons ⟨h1, h2⟩ ih
theorem KV.keys {kvs : List (κ × V)} {vs : List (κ × Value)} (r : KV kvs vs) : kvs.map (·.1) = vs.map (·.1) := by
  unfold KV at r
  induction r with
  | nil => rfl
  | cons h t ih => rw [List.map_cons, List.map_cons, ih, h.1]
theorem KV.length {kvs : List (κ × V)} {vs : List (κ × Value)} (r : KV kvs vs) : kvs.length = vs.length := Paired.length r
end
theorem kV_is {P : Program} {w : World} {k : Key} {u : Value} (r : RelV (kV k) u) : (mixKind P w).is k u = true := by
  cases k with
  | inl i => obtain ⟨t, e⟩ := (show ∃ t, u = Value.int i t from r); subst e; exact mixKind_int P w i t
  | inr x => obtain ⟨t, e⟩ := (show ∃ t, u = Value.str x t from r); subst e; exact mixKind_str P w x t
theorem items_are {P : Program} {w : World} : ∀ {ks : List Key} {us : List Value}, Vals (ks.map kV) us → ItemsAre (mixKind P w) ks us
  | [], _, r => by rw [List.map_nil] at r; cases r; exact .nil
  | k :: ks, _, r => by
    rw [List.map_cons] at r
    cases r with
    | cons h t => exact .cons (kV_is h) (items_are t)
abbrev KT (H : Hp) : List (List Key × V) → List (List Key × Addr × Value) → Prop := Paired fun p q => p.1 = q.1 ∧ H q.2.1 = some (.tup (p.1.map kV)) ∧ RelV p.2 q.2.2
theorem KT.val {H : Hp} {kvs : List (List Key × V)} {xs : List (List Key × Addr × Value)} (r : KT H kvs xs) (k : List Key) : RelO (valV kvs k) ((atKey xs k).map (·.2)) := by
  induction r with
  | nil => exact True.intro
  | @cons p q ps qs h t ih =>
    obtain ⟨h1, _, h2⟩ := h
    by_cases e : p.1 = k
    · have e' : q.1 = k := h1.symm.trans e
      have b : atKey (q :: qs) k = some q.2 := by simp [atKey, List.find?_cons, e']
      rw [valV_pos e, b]; exact h2
    · have e' : ¬ q.1 = k := fun z => e (h1.trans z)
      have b : atKey (q :: qs) k = atKey qs k := by simp [atKey, List.find?_cons, e']
      rw [valV_neg e, b]; exact ih
theorem KT.repl {H : Hp} {kvs : List (List Key × V)} {xs : List (List Key × Addr × Value)} (r : KT H kvs xs) (k : List Key) {y : V} {u : Value} (ry : RelV y u) :
    KT H (kvs.map fun kv => if kv.1 = k then (kv.1, y) else kv) (xs.map (putAt k u)) := by
  induction r with
  | nil => exact .nil
  | @cons p q ps qs h t ih =>
    rw [List.map_cons, List.map_cons]
    refine .cons ?_ ih
    obtain ⟨h1, h2, h3⟩ := h
    unfold putAt
    by_cases e : p.1 = k
    · rw [if_pos e, if_pos (h1.symm.trans e)]; exact ⟨h1, h2, ry⟩
    · rw [if_neg e, if_neg (fun z => e (h1.trans z))]; exact ⟨h1, h2, h3⟩
theorem KT.put {H : Hp} {kvs : List (List Key × V)} {xs : List (List Key × Addr × Value)} (r : KT H kvs xs) (k : List Key) {b : Addr} {y : V} {u : Value} (hb : H b = some (.tup (k.map kV))) (ry : RelV y u) :
    KT H (putK kvs k y) (storedH xs k b u) := by
  have e : (kvs.any fun kv => decide (kv.1 = k)) = (atKey xs k).isSome := by
    rw [valV_any, (r.val k).isSome_eq, Option.isSome_map]
  unfold putK storedH
  rw [e]
  by_cases q : (atKey xs k).isSome = true
  · rw [if_pos q, if_pos q]; exact r.repl k ry
  · rw [if_neg q, if_neg q]; exact Paired.snoc r ⟨rfl, hb, ry⟩
theorem KT.keeps {H H' : Hp} {kvs : List (List Key × V)} {xs : List (List Key × Addr × Value)} (r : KT H kvs xs) (ht : ∀ b ys, H b = some (.tup ys) → H' b = some (.tup ys)) : KT H' kvs xs :=
  Paired.mapP r fun _ _ z => ⟨z.1, ht _ _ z.2.1, z.2.2⟩
section
variable {P : Program} {w : World} {H : Hp} {h : Heap} {a : Addr}
theorem rd_of {u : HO} (ok : HOk P w H h) (e : Rd H a u) : ObjOk P w H h a u := e.ok ok
theorem dk_rd {kvs : List (Key × V)} (ok : HOk P w H h) (e : Rd H a (.dK kvs)) : kvs.length ≤ sizeLine ∧ (a == sysModules) = false ∧ ∃ vs, KV kvs vs ∧ h.DictOf (mixKind P w) a vs :=
  show ObjOk P w H h a (.dK kvs) from rd_of ok e
theorem dk_of {kvs : List (Key × V)} (ok : HOk P w H h) (e : H a = some (.dK kvs)) : kvs.length ≤ sizeLine ∧ (a == sysModules) = false ∧ ∃ vs, KV kvs vs ∧ h.DictOf (mixKind P w) a vs := dk_rd ok (.inl e)
theorem key_of {ks : List Key} (ok : HOk P w H h) (e : H a = some (.tup (ks.map kV))) : (tupleKind (mixKind P w)).is h ks a := by
  obtain ⟨_, its, r, o, h1, h2, n, h3⟩ := (show ObjOk P w H h a (.tup (ks.map kV)) from ok a _ e)
  exact ⟨o, its.toArray, n, h1, h2, h3, by simpa using items_are r⟩
theorem dt_rd {kvs : List (List Key × V)} (ok : HOk P w H h) (e : Rd H a (.dT kvs)) : kvs.length ≤ sizeLine ∧ (a == sysModules) = false ∧
    ∃ xs, KT H kvs xs ∧ h.DictOfH (tupleKind (mixKind P w)) a xs := by
  obtain ⟨z, y, xs, r, o, es, ep, h1, h2, h3, h4, h5⟩ := (show ObjOk P w H h a (.dT kvs) from rd_of ok e)
  refine ⟨z, y, xs, r, o, es, ep, h1, h2, h3, h4, fun x hx => ?_, h5⟩
  have all : ∀ {l : List (List Key × V)} {m : List (List Key × Addr × Value)}, KT H l m → ∀ x ∈ m, (tupleKind (mixKind P w)).is h x.1 x.2.1 := by
    intro l m q
    induction q with
    | nil => intro x hx; exact nomatch hx
    | @cons p q ps qs hq t ih =>
      intro x hx
      rcases List.mem_cons.mp hx with e | hx
      · subst e
        exact key_of ok (by rw [← hq.1]; exact hq.2.1)
      · exact ih x hx
  exact all r x hx
theorem dt_of {kvs : List (List Key × V)} (ok : HOk P w H h) (e : H a = some (.dT kvs)) : kvs.length ≤ sizeLine ∧ (a == sysModules) = false ∧
    ∃ xs, KT H kvs xs ∧ h.DictOfH (tupleKind (mixKind P w)) a xs := dt_rd ok (.inl e)
end
def DGet (H : Hp) (a : Addr) (y : V) (r : Option V) : Prop :=
  (∃ kvs k, Rd H a (.dK kvs) ∧ y = kV k ∧ r = valV kvs k) ∨ ∃ kvs k b, Rd H a (.dT kvs) ∧ y = .ref b ∧ H b = some (.tup (k.map kV)) ∧ r = valV kvs k
def DPut (H : Hp) (a : Addr) (y v : V) (H' : Hp) : Prop :=
  (∃ kvs k, H a = some (.dK kvs) ∧ y = kV k ∧ kvs.length < sizeLine ∧ H' = upd H a (.dK (putK kvs k v))) ∨
  ∃ kvs k b, H a = some (.dT kvs) ∧ y = .ref b ∧ H b = some (.tup (k.map kV)) ∧ kvs.length < sizeLine ∧ H' = upd H a (.dT (putK kvs k v))
theorem DGet.k {H : Hp} {a : Addr} {kvs : List (Key × V)} {k : Key} (e : H a = some (.dK kvs)) : DGet H a (kV k) (valV kvs k) := .inl ⟨kvs, k, .inl e, rfl, rfl⟩
theorem DGet.t {H : Hp} {a b : Addr} {kvs : List (List Key × V)} {k : List Key} (e : H a = some (.dT kvs)) (eb : H b = some (.tup (k.map kV))) : DGet H a (.ref b) (valV kvs k) := .inr ⟨kvs, k, b, .inl e, rfl, eb, rfl⟩
theorem DPut.k {H : Hp} {a : Addr} {kvs : List (Key × V)} {k : Key} {v : V} (e : H a = some (.dK kvs)) (hl : kvs.length < sizeLine) : DPut H a (kV k) v (upd H a (.dK (putK kvs k v))) := .inl ⟨kvs, k, e, rfl, hl, rfl⟩
theorem DPut.t {H : Hp} {a b : Addr} {kvs : List (List Key × V)} {k : List Key} {v : V} (e : H a = some (.dT kvs)) (eb : H b = some (.tup (k.map kV))) (hl : kvs.length < sizeLine) :
    DPut H a (.ref b) v (upd H a (.dT (putK kvs k v))) := .inr ⟨kvs, k, b, e, rfl, eb, hl, rfl⟩
section
variable {X : Cx} {pins : List (Addr × Obj)} {σ : St} {H : Hp} {s : Shared} {a : Addr} {y v : V} {u r : Value} {o : Option V} {A : Around} {E : Value → Shared → Prop}
theorem Inv.big (I : Inv X pins σ H s) : sysModules < s.heap.objs.size := by
  have h : mainGlobals < s.heap.objs.size := (I.mod.glob.keeps I.bk).lt
  exact Nat.lt_trans (by decide) h
theorem d_getItem {Q : Value → Shared → Prop} (hu : A.units + 1 < cLine) (I : Inv X pins σ H s) (g : DGet H a y (some v)) (ry : RelV y u) (h : ∀ w' s', Inv X pins σ H s' → RelV v w' → Q w' s') :
    wpAny (model X.prog X.w) A (getItem (.ref a) u) Q E s := by
  rcases g with ⟨kvs, k, e, ey, l⟩ | ⟨kvs, k, b, e, ey, eb, l⟩
  · subst ey
    obtain ⟨z, hd, vs, rel, dd⟩ := dk_rd I.hok e
    obtain ⟨w', hw, rw'⟩ := RelO.some_of (v := v) (o := valueAt vs k) (by rw [l]; exact rel.val k)
    exact wpAny_getItem_of (kV_is ry) dd.mapOf hw (h w' _ (I.tok _) rw')
  · subst ey
    cases (show u = Value.ref b from ry)
    obtain ⟨z, hd, xs, rel, dd⟩ := dt_rd I.hok e
    obtain ⟨w', hw, rw'⟩ := RelO.some_of (v := v) (o := (atKey xs k).map (·.2)) (by rw [l]; exact rel.val k)
    obtain ⟨p, hp, hp2⟩ := Option.map_eq_some_iff.mp hw
    refine wpAny_getItem_heap (tupleKind_room_in1 hu) (key_of I.hok eb) dd hp ?_
    rw [hp2]
    exact h w' _ (I.tok _) rw'
theorem d_write {h' : Heap} {t' : Nat} {ob : HO} (I : Inv X pins σ H s) (mu : Mut (H a)) (hs : Heap.SameBut a s.heap h') (he : ∃ q, h'.get? a = some q) (new : ObjOk X.prog X.w (upd H a ob) h' a ob) :
    Inv X pins σ (upd H a ob) { s with heap := h', toks := t' } :=
  I.write (x := a) (e := a) mu (.inl rfl) (fun b q hb z => (hs.2 b hb).trans z) he new
theorem dk_new {P : Program} {w : World} {H' : Hp} {h' : Heap} {kvs : List (Key × V)} {vs : List (Key × Value)} (z : kvs.length ≤ sizeLine) (hd : (a == sysModules) = false) (rel : KV kvs vs) (dd : h'.DictOf (mixKind P w) a vs) :
    ObjOk P w H' h' a (.dK kvs) := ⟨z, hd, vs, rel, dd⟩
theorem d_setItem {H' : Hp} {Q : Unit → Shared → Prop} (hu : A.units + 1 < cLine) (I : Inv X pins σ H s) (g : DPut H a y v H') (ry : RelV y u) (rv : RelV v r) (h : ∀ s', Inv X pins σ H' s' → Q () s') :
    wpAny (model X.prog X.w) A (setItem (.ref a) u r) Q E s := by
  rcases g with ⟨kvs, k, e, ey, l, eH⟩ | ⟨kvs, k, b, e, ey, eb, l, eH⟩
  · subst ey eH
    obtain ⟨z, hd, vs, rel, dd⟩ := dk_of I.hok e
    have hz : vs.length ≤ sizeLine := by rw [← rel.length]; exact z
    have hl : (putK kvs k v).length ≤ sizeLine := by have := length_putK kvs k v; omega
    refine wpAny_setItem_pairs (hsz := hz) (kV_is ry) dd fun h' dd' hs => h _ ?_
    have he : ∃ q, h'.get? a = some q := let ⟨q, _, _, hq, _⟩ := dd'; ⟨q, hq⟩
    exact d_write I (by rw [e]; exact True.intro) hs he (dk_new hl hd (rel.put k rv) dd')
  · subst ey eH
    cases (show u = Value.ref b from ry)
    obtain ⟨z, hd, xs, rel, dd⟩ := dt_of I.hok e
    have hz : xs.length ≤ sizeLine := by rw [← Paired.length rel]; exact z
    have hl : (putK kvs k v).length ≤ sizeLine := by have := length_putK kvs k v; omega
    refine wpAny_setItem_heap (hsz := hz) (tupleKind_room_in1 hu) (key_of I.hok eb) dd fun h' dd' hs => h _ ?_
    obtain ⟨q, es, ep, hq, h2, h3, h4, _, h5⟩ := dd'
    refine d_write I (by rw [e]; exact True.intro) hs ⟨q, hq⟩ ⟨hl, hd, _, (rel.put k eb rv).keeps fun c ys ec => ?_, q, es, ep, hq, h2, h3, h4, h5⟩
    rw [upd_ne (ne_of ec e (fun z => nomatch z))]
    exact ec
end
section
variable {X : Cx} {pins : List (Addr × Obj)} {σ : St} {H : Hp} {s : Shared} {a : Addr} {kvs : List (Key × V)} {k : Key} {u : Value} {A : Around} {E : Value → Shared → Prop}
end
def NoSl (i : Expr) : Prop := ∀ ov iv, subscripted i false ov iv = operate [ov, iv] (getItem ov iv)
theorem subD_of {prog : Program} {w : World} {A : Around} {E : Value → Shared → Prop} {s : Shared} {env : Env} {value slice : Expr} {pos : Pos} {T id : String} {Q : Value → Shared → Prop}
    (hl : typeLookup (.type T) "__getitem__" = pure (some (.builtin id))) (hs : NoSl slice)
    (h : wpAny (model prog w) A (eval value env) (fun o s₁ => wpAny (model prog w) A (eval slice env) (fun i s₂ => s₂.TypeIs o T ∧ wpAny (model prog w) A (getItem o i) Q E s₂) E s₁) E s) :
    wpAny (model prog w) A (eval (.Subscript value slice pos) env) Q E s := by
  refine Subscript_ (wpAny_mono h (fun o s₁ h₁ => wpAny_mono h₁ (fun i s₂ h₂ => ?_) fun _ _ x => x) fun _ _ x => x)
  obtain ⟨hT, h₂⟩ := h₂
  unfold subscriptTail
  refine wpAny_bind ?_
  rw [getitemInPython_of_ne hT.not_modules]
  refine wpAny_bind (wpAny_specialOf hT hl ?_)
  have fin : wpAny (model prog w) A (subscripted slice false o i) (fun r s₃ => wpAny (model prog w) A (letTemporaryGo value o r >>= fun _ => pure r) Q E s₃) E s₂ := by
    rw [hs o i]
    exact wpAny_operating (wpAny_mono h₂ (fun r s₃ h₃ => wpAny_bind (wpAny_letTemporaryGo (wpAny_pure h₃))) fun _ _ x => x)
  first
    | exact wpAny_pure (wpAny_bind fin)
    | exact wpAny_bind (wpAny_pure (wpAny_bind fin))
    | exact wpAny_bind fin
theorem dict_typeIs {X : Cx} {pins : List (Addr × Obj)} {σ : St} {H : Hp} {s : Shared} {a : Addr} {y : V} {o : Option V} (I : Inv X pins σ H s) (g : DGet H a y o) : s.TypeIs (.ref a) "dict" := by
  rcases g with ⟨kvs, k, e, _, _⟩ | ⟨kvs, k, b, e, _, _, _⟩
  · obtain ⟨_, _, vs, _, dd⟩ := dk_rd I.hok e
    exact dd.typeIs
  · obtain ⟨_, _, xs, _, dd⟩ := dt_rd I.hok e
    exact dd.typeIs
def tDGet (td ty : TE) : TE := fun σ H Q => td σ H fun x H1 => ty σ H1 fun y H2 => ∃ a v, x = .ref a ∧ DGet H2 a y (some v) ∧ Q v H2
def sDPut (td ty tv : TE) : TS := fun D σ H => tv σ H fun v H1 => td σ H1 fun x H2 => ty σ H2 fun y H3 => ∃ a H4, x = .ref a ∧ DPut H3 a y v H4 ∧ D.nx σ H4
section
variable {X : Cx} {o i e value : Expr} {pos pos' tpos : Pos} {td ty tv : TE}
theorem pe_dget (hu : X.A.units + 1 < cLine) (ho : PE X o td) (hi : PE X i ty) (hs : NoSl i) : PE X (.Subscript o i pos) (tDGet td ty) := by
  intro pins s σ H Q I h
  refine subD_of PySem.F.slot_dict_getitem.lookup hs (thn (ho pins s σ H _ I h) fun u s1 ⟨x, H1, I1, rx, q1⟩ => thn (hi pins s1 σ H1 _ I1 q1) fun iv s2 ⟨y, H2, I2, ry, a, v, ex, g, q2⟩ => ?_)
  subst ex
  obtain rfl : u = Value.ref a := rx
  exact ⟨dict_typeIs I2 g, d_getItem hu I2 g ry fun w' s3 I3 rw' => ⟨v, H2, I3, rw', q2⟩⟩
theorem ps_dput (hu : X.A.units + 1 < cLine) (ho : PE X o td) (hi : PE X i ty) (hv : PE X value tv) (hs : swapsWith value (some (.Subscript o i pos')) pos.line X.env = pure false) :
    PS X (.Assign [.Subscript o i pos'] value pos) (sDPut td ty tv) := by
  intro pins s σ H D I h
  refine wpAny_Assign_Subscript (thn (hv pins s σ H _ I h) fun r s1 ⟨v, H1, I1, rv, q1⟩ => thn (ho pins s1 σ H1 _ I1 q1) fun u s2 ⟨x, H2, I2, rx, q2⟩ => thn (hi pins s2 σ H2 _ I2 q2) fun iv s3 ⟨y, H3, I3, ry, a, H4, ex, g, q3⟩ => ?_) hs
  subst ex
  obtain rfl : u = Value.ref a := rx
  exact d_setItem hu I3 g ry rv fun s4 I4 => ⟨σ, H4, I4, q3⟩
end
theorem dk_empty {P : Program} {w : World} {H : Hp} (h : Heap) (hb : sysModules < h.objs.size) : ObjOk P w H (h.push { cls := .type "dict", data := .dict #[] }) h.objs.size (.dK []) :=
  ⟨Nat.zero_le _, beq_eq_false_iff_ne.mpr (Ne.symm (Nat.ne_of_lt hb)), [], .nil, Heap.DictOf.new h⟩
def tDNewK : TE := fun _ H Q => ∀ p, H p = none → Q (.ref p) (upd H p (.dK []))
section
variable {X : Cx} {pos : Pos}
theorem pe_dnewK : PE X (.Dict [] [] pos) tDNewK := fun pins s σ H Q I h =>
  wpAny_Dict_empty ⟨.ref s.heap.objs.size, _, I.laid (a := s.heap.objs.size) (o := .dK []) (t' := s.toks) (fun _ _ q => Heap.get?_push_of_some _ q) (Nat.le_refl _) (dk_empty s.heap I.big), rfl, h _ (I.hok.fresh (Nat.le_refl _))⟩
end
def tPairs : List (TE × TE) → St → Hp → (List (V × V) → Hp → Prop) → Prop
  | [], _, H, Q => Q [] H
  | (tk, tv) :: r, σ, H, Q => tk σ H fun x H1 => tv σ H1 fun y H2 => tPairs r σ H2 fun ps H3 => Q ((x, y) :: ps) H3
abbrev VV : List (V × V) → List (Value × Value) → Prop := Paired fun p q => RelV p.1 q.1 ∧ RelV p.2 q.2
def PPs (X : Cx) (pos : Pos) (keys : List (Option Expr)) (values : List Expr) (trs : List (TE × TE)) : Prop :=
  ∀ (pins : List (Addr × Obj)) (s : Shared) (σ : St) (H : Hp) (Q : List (V × V) → Hp → Prop), Inv X pins σ H s → tPairs trs σ H Q →
    wpAny (model X.prog X.w) X.A (evalPairs (pairTrees keys values X.env pos)) (fun vs s' => ∃ ps H', Inv X pins σ H' s' ∧ VV ps vs ∧ Q ps H') X.xe s
theorem pps_nil {X : Cx} {pos : Pos} : PPs X pos [] [] [] := fun pins s σ H Q I h => pairTrees_nil_walk ⟨[], H, I, .nil, h⟩
theorem pps_cons {X : Cx} {pos : Pos} {k v : Expr} {ks : List (Option Expr)} {vs : List Expr} {tk tv : TE} {trs : List (TE × TE)} (hk : PE X k tk) (hv : PE X v tv) (hr : PPs X pos ks vs trs) :
    PPs X pos (some k :: ks) (v :: vs) ((tk, tv) :: trs) := fun pins s σ H Q I h =>
  pairTrees_cons_walk (thn (hk pins s σ H _ I h) fun u s1 ⟨x, H1, I1, rx, q1⟩ => thn (hv pins s1 σ H1 _ I1 q1) fun w2 s2 ⟨y, H2, I2, ry, q2⟩ =>
    thn (hr pins s2 σ H2 _ I2 q2) fun ws s3 ⟨ps, H3, I3, rel, q3⟩ => ⟨(x, y) :: ps, H3, I3, .cons ⟨rx, ry⟩ rel, q3⟩)
def mergeK (kvs more : List (Key × V)) : List (Key × V) := more.foldl (fun acc kv => putK acc kv.1 kv.2) kvs
theorem KV.merge : ∀ {more : List (Key × V)} {rs : List (Key × Value)} {kvs : List (Key × V)} {vs : List (Key × Value)}, KV more rs → KV kvs vs → KV (mergeK kvs more) (merged vs rs) := by
  intro more rs kvs vs r
  unfold KV at r
  induction r generalizing kvs vs with
  | nil => intro q; exact q
  | @cons p q ps qs h t ih =>
    intro r0
    have e : KV (putK kvs p.1 p.2) (stored vs q.1 q.2) := by
      have := r0.put p.1 h.2
      rw [← h.1]; exact this
    exact ih e
theorem length_mergeK : ∀ (more kvs : List (Key × V)), (mergeK kvs more).length ≤ kvs.length + more.length
  | [], kvs => by show kvs.length ≤ kvs.length + 0; omega
  | p :: r, kvs => by
    have h1 := length_mergeK r (putK kvs p.1 p.2)
    have h2 := length_putK kvs p.1 p.2
    show (mergeK (putK kvs p.1 p.2) r).length ≤ _
    rw [List.length_cons]; omega
theorem carries_of {P : Program} {w : World} : ∀ {kvs : List (Key × V)} {ws : List (Value × Value)}, VV (kvs.map fun kv => (kV kv.1, kv.2)) ws → ∃ rs, Carries (mixKind P w) ws rs ∧ KV kvs rs
  | [], _, r => by rw [List.map_nil] at r; cases r; exact ⟨[], True.intro, .nil⟩
  | p :: kvs, _, r => by
    rw [List.map_cons] at r
    cases r with
    | @cons a b as bs h t =>
      obtain ⟨rs, c, q⟩ := carries_of (P := P) (w := w) t
      obtain ⟨b1, b2⟩ := b
      exact ⟨(p.1, b2) :: rs, ⟨kV_is h.1, rfl, c⟩, .cons ⟨rfl, h.2⟩ q⟩
def tDisp (trs : List (TE × TE)) : TE := fun σ H Q => ∀ p, H p = none → tPairs trs σ (upd H p (.dK [])) fun ps H2 => H2 p = some (.dK []) ∧ ∃ kvs : List (Key × V), ps = kvs.map (fun kv => (kV kv.1, kv.2)) ∧ kvs.length ≤ 15 ∧ Q (.ref p) (upd H2 p (.dK (mergeK [] kvs)))
theorem pe_disp {X : Cx} {pos : Pos} {keys : List (Option Expr)} {values : List Expr} {trs : List (TE × TE)} (h : PPs X pos keys values trs) (hall : keys.all (·.isSome) = true) (hl : keys.length = values.length) (h0 : keys ≠ [])
    (h15 : keys.length ≤ 15) : PE X (.Dict keys values pos) (tDisp trs) := by
  intro pins s σ H Q I q
  have hn := I.hok.fresh (Nat.le_refl s.heap.objs.size)
  have I1 := I.laid (a := s.heap.objs.size) (o := .dK []) (h' := s.heap.push { cls := .type "dict", data := .dict #[] }) (t' := s.toks) (fun _ _ q => Heap.get?_push_of_some _ q) (Nat.le_refl _) (dk_empty s.heap I.big)
  refine wpAny_Dict_walk (knd := mixKind X.prog X.w) hall hl h0 h15 (thn (h pins _ σ _ _ I1 (q _ hn)) fun ws s2 ⟨ps, H2, I2, rel, e, kvs, ep, lk, q2⟩ => ?_)
  subst ep
  obtain ⟨rs, c, rk⟩ := carries_of (P := X.prog) (w := X.w) rel
  obtain ⟨z, hd, vs0, r0, dd⟩ := dk_of I2.hok e
  cases r0
  refine ⟨rs, c, dd, fun h' dd' hs => ⟨.ref s.heap.objs.size, _, ?_, rfl, q2⟩⟩
  have hz : (mergeK [] kvs).length ≤ sizeLine := by
    have h1 := length_mergeK kvs []
    rw [List.length_nil] at h1
    rw [sizeLine_eq]; omega
  have he : ∃ q, h'.get? s.heap.objs.size = some q := let ⟨q, _, _, hq, _⟩ := dd'; ⟨q, hq⟩
  exact d_write I2 (by rw [e]; exact True.intro) hs he (dk_new hz hd (rk.merge .nil) dd')
structure M2 (X : Cx) (o : Expr) (m : Str) (apos : Pos) (e f : Expr) (cpos : Pos) : Prop where
  base : attributeBase o m X.env (eval o X.env) = eval o X.env
  few : ((backTo cpos (starEach [e, f] X.env)).all (fun x => !x.1) && (backToKw cpos (keywordEach [] X.env)).all (fun x => x.1.isSome)
    && decide (([e, f] : List Expr).length + ([] : List Keyword).length + (if ([] : List Keyword).isEmpty then 0 else 1) < 30)) = true
  line : (apos.endLine == cpos.line) = true
  trees : backTo cpos (starEach [e, f] X.env) = [(false, eval e X.env), (false, eval f X.env)]
def IsD (H : Hp) (a : Addr) : Prop := (∃ kvs, Rd H a (.dK kvs)) ∨ ∃ kvs, Rd H a (.dT kvs)
theorem isD_at {X : Cx} {pins : List (Addr × Obj)} {σ : St} {H : Hp} {s : Shared} {a : Addr} (I : Inv X pins σ H s) (d : IsD H a) :
    s.TypeIs (.ref a) "dict" ∧ (∀ b, Value.ref a = .ref b → ∃ ob, s.heap.get? b = some ob ∧ ob.dict = none) ∧ (a == sysModules) = false := by
  rcases d with ⟨kvs, e⟩ | ⟨kvs, e⟩
  · obtain ⟨_, hd, vs, _, dd⟩ := dk_rd I.hok e
    refine ⟨dd.typeIs, fun b q => ?_, hd⟩
    cases q
    obtain ⟨ob, _, _, h1, h2, _⟩ := dd
    exact ⟨ob, h1, h2.2.1⟩
  · obtain ⟨_, hd, xs, _, dd⟩ := dt_rd I.hok e
    refine ⟨dd.typeIs, fun b q => ?_, hd⟩
    cases q
    obtain ⟨ob, _, _, h1, h2, _⟩ := dd
    exact ⟨ob, h1, h2.2.1⟩
section
variable {X : Cx} {pins : List (Addr × Obj)} {σ : St} {H : Hp} {s : Shared} {a : Addr} {y d : V} {u r : Value} {o : Option V} {A : Around} {E : Value → Shared → Prop}
theorem d_get2 {Q : Value → Shared → Prop} (hu : A.units + 1 < cLine) (I : Inv X pins σ H s) (g : DGet H a y o) (ry : RelV y u) (rd : RelV d r) (h : ∀ w' s', Inv X pins σ H s' → RelV (o.getD d) w' → Q w' s') :
    wpAny (model X.prog X.w) A (call (.builtin "dict.get") [.ref a, u, r]) Q E s := by
  rcases g with ⟨kvs, k, e, ey, l⟩ | ⟨kvs, k, b, e, ey, eb, l⟩
  · subst ey
    obtain ⟨z, hd, vs, rel, dd⟩ := dk_rd I.hok e
    refine call_meetsIn PySem.F.slot_dict_get dd.typeIs PySem.F.entry_dict_get (PySem.F.args_dict_get_3 _ _ _) (meets_dict_get_default (mixKind X.prog X.w) a (kV_is ry) hd r) ⟨_, dd.mapOf, h _ _ (I.tok _) ?_⟩
    rw [l]
    exact (rel.val k).getD rd
  · subst ey
    cases (show u = Value.ref b from ry)
    obtain ⟨z, hd, xs, rel, dd⟩ := dt_rd I.hok e
    refine call_meetsIn PySem.F.slot_dict_get dd.typeIs PySem.F.entry_dict_get (PySem.F.args_dict_get_3 _ _ _) (meetsH_dict_get_default (tupleKind (mixKind X.prog X.w)) a b hd r) ⟨tupleKind_room_in1 hu, k, xs, key_of I.hok eb, dd, h _ _ (I.tok _) ?_⟩
    rw [l]
    exact (rel.val k).getD rd
end
def tDGet2 (td ty tx : TE) : TE := fun σ H Q => td σ H fun x H1 => ∃ a, x = .ref a ∧ IsD H1 a ∧ ty σ H1 fun y H2 => tx σ H2 fun z H3 => ∃ o, DGet H3 a y o ∧ Q (o.getD z) H3
section
variable {X : Cx} {o e f : Expr} {apos cpos : Pos} {td ty tx : TE}
theorem pe_dget2 (hu : X.A.units + 1 < cLine) (ho : PE X o td) (he : PE X e ty) (hf : PE X f tx) (m : M2 X o "get" apos e f cpos) : PE X (.Call (.Attribute o "get" apos) [e, f] [] cpos) (tDGet2 td ty tx) := by
  intro pins s σ H Q I h
  refine wpAny_Call_method m.base m.few m.line PySem.F.plainAttrs_dict PySem.F.slot_dict_get PySem.F.type_dict_get (thn (ho pins s σ H _ I h) fun u s1 ⟨x, H1, I1, rx, a, ex, d, q1⟩ => ?_)
  subst ex
  obtain rfl : u = Value.ref a := rx
  obtain ⟨t1, t2, _⟩ := isD_at I1 d
  refine ⟨t1, t2, ?_⟩
  rw [m.trees]
  refine Calls.callWith_builtin rfl (Calls.evalArgs_plain (Calls.spliced_cons (thn (he pins s1 σ H1 _ I1 q1) fun iv s2 ⟨y, H2, I2, ry, q2⟩ =>
    Calls.spliced_cons (thn (hf pins s2 σ H2 _ I2 q2) fun fv s3 ⟨z, H3, I3, rz, ov, g, q3⟩ => Calls.spliced_nil ?_))))
  exact d_get2 hu I3 g ry rz fun w' s4 I4 rw' => ⟨_, H3, I4, rw', q3⟩
end
section
variable {X : Cx} {pins : List (Addr × Obj)} {σ : St} {H : Hp} {s : Shared} {a : Addr} {kvs : List (Key × V)} {A : Around} {E : Value → Shared → Prop}
end
section
variable {X : Cx} {pins : List (Addr × Obj)} {σ : St} {H : Hp} {s : Shared} {a : Addr} {y : V} {u : Value} {A : Around} {E : Value → Shared → Prop}
end
end L2
namespace L2
open PySem PySem.Spec PyProof.Rows
structure KD (w : World) (K : PySem.W.Frag) (R : Addr) (kvs : List (Key × V)) : Prop where
  ex : ∃ (o : Obj) (es : Array DictEntry) (ep : Nat) (vs : List (Key × Value)), K.lookup R = some o ∧ o.ExactDict ∧ o.data = .dict es ep ∧ (∀ P, KeysOf (mixKind P w) es) ∧ (∀ P, Pairs (mixKind P w) es.toList vs) ∧ (vs.map (·.1)).Nodup ∧ KV kvs vs
  sm : (R == sysModules) = false
section
variable {X : Cx} {R : Addr} {kvs : List (Key × V)}
theorem KD.at {pins : List (Addr × Obj)} {σ : St} {H : Hp} {s : Shared} (d : KD X.w X.K R kvs) (I : Inv X pins σ H s) : ∃ vs, KV kvs vs ∧ s.heap.DictOf (mixKind X.prog X.w) R vs := by
  obtain ⟨o, es, ep, vs, lk, e1, e2, k1, k2, nd, rel⟩ := d.ex
  exact ⟨vs, rel, o, es, ep, I.kIn _ _ lk, e1, e2, k1 _, k2 _, nd⟩
def rKIx (R : Addr) (kvs : List (Key × V)) : R2 := fun x y H Q => x = .ref R ∧ ∃ k v, y = kV k ∧ valV kvs k = some v ∧ Q v H
def rKIn (ne : Bool) (R : Addr) (kvs : List (Key × V)) : R2 := fun x y H Q => y = .ref R ∧ ∃ k, x = kV k ∧ Q (.bl (if ne then !(valV kvs k).isSome else (valV kvs k).isSome)) H
theorem op_notInK (d : KD X.w X.K R kvs) : OpR X (compareOp .NotIn) (rKIn true R kvs) := by
  rintro pins s σ H x y v u Q I rx ry ⟨rfl, k, rfl, q⟩
  obtain rfl : u = Value.ref R := ry
  obtain ⟨vs, rel, dd⟩ := d.at I
  refine wpAny_notIn_of (kV_is rx) d.sm dd.mapOf ?_
  rw [← (rel.val k).isSome_eq]
  exact ⟨.bl (!(valV kvs k).isSome), H, I.tok _, rfl, by simpa using q⟩
def tKIx (R : Addr) (kvs : List (Key × V)) (td ty : TE) : TE := fun σ H Q => td σ H fun x H1 => ty σ H1 fun y H2 => rKIx R kvs x y H2 Q
theorem pe_kix {o i : Expr} {td ty : TE} {pos : Pos} (d : KD X.w X.K R kvs) (ho : PE X o td) (hi : PE X i ty) (hs : NoSl i) : PE X (.Subscript o i pos) (tKIx R kvs td ty) := by
  intro pins s σ H Q I h
  refine subD_of PySem.F.slot_dict_getitem.lookup hs (thn (ho pins s σ H _ I h) fun u s1 ⟨x, H1, I1, rx, q1⟩ => thn (hi pins s1 σ H1 _ I1 q1) fun iv s2 ⟨y, H2, I2, ry, ex, k, v, ey, l, q2⟩ => ?_)
  subst ex ey
  obtain rfl : u = Value.ref R := rx
  obtain ⟨vs, rel, dd⟩ := d.at I2
  obtain ⟨w', hw, rw'⟩ := RelO.some_of (v := v) (o := valueAt vs k) (by rw [← l]; exact rel.val k)
  exact ⟨dd.typeIs, wpAny_getItem_of (kV_is ry) dd.mapOf hw ⟨v, H2, I2.tok _, rw', q2⟩⟩
end
end L2
namespace L2
open PySem PySem.Spec PyProof.Rows
section
variable {prog : Program} {w : World} {A : Around} {E : Value → Shared → Prop} {s : Shared}
theorem nx_str {it : Addr} {z : Str} {zt : Tok} {i c : Nat} {Q : Value → Shared → Prop} (p : s.heap.IsStrIter it "str_ascii_iterator" z zt i) (e : z.cps[i]? = some c)
    (k : ∀ h', h'.IsStrIter it "str_ascii_iterator" z zt (i + 1) → Heap.SameBut it s.heap h' → Q (.str ⟨#[c]⟩ s.toks) { s with heap := h', toks := s.toks + 1 }) : wpAny (model prog w) A (Builtin.SmallTypes.nextOf (.ref it)) Q E s := by
  obtain ⟨oi, p1, p2, p3⟩ := id p
  unfold Builtin.SmallTypes.nextOf
  refine wpAny_bind (wpAny_callSpecial?_slot (name := Str.ofString "__next__") p.typeIs PySem.F.slot_str_ascii_iterator_next (wpAny_call_entry PySem.F.slot_str_ascii_iterator_next p.typeIs PySem.F.entry_str_ascii_iterator_next ?_ (PySem.F.args_str_ascii_iterator_next_1 _)))
  refine wpAny_bind (m := field (.ref it) 0) (wpAny_field p1 p3 (x := .str z zt) rfl ?_)
  refine wpAny_bind (m := field (.ref it) 1) (wpAny_field p1 p3 (x := .int i 0) rfl ?_)
  simp only [Int.toNat_natCast, e]
  refine wpAny_bind (wpAny_setField p1 p3 (by simp) (wpAny_bind (wpAny_mkStr (wpAny_pure ⟨_, rfl, wpAny_pure (k _ ⟨_, Heap.get?_update_self _ p1 (Obj.isFreed_of_fields (Obj.data_mapFields p3 _)), (Obj.cls_mapFields ..).trans p2, ?_⟩ (Heap.SameBut.update ..))⟩) (by show 1 ≤ sizeLine; decide))))
  rw [Obj.data_mapFields p3]; simp [rawInt]
theorem nx_str_end {it : Addr} {z : Str} {zt : Tok} {i : Nat} {Q : Value → Shared → Prop} (hh : A.handled = none) (p : s.heap.IsStrIter it "str_ascii_iterator" z zt i) (e : z.cps[i]? = none)
    (k : ∀ h' x, Heap.ExtBut it s.heap h' → (∃ o, h'.get? x = some o ∧ o.cls = .type "StopIteration") → E (.ref x) { s with heap := h' }) : wpAny (model prog w) A (Builtin.SmallTypes.nextOf (.ref it)) Q E s := by
  obtain ⟨oi, p1, p2, p3⟩ := id p
  unfold Builtin.SmallTypes.nextOf
  refine wpAny_bind (wpAny_callSpecial?_slot (name := Str.ofString "__next__") p.typeIs PySem.F.slot_str_ascii_iterator_next (wpAny_call_entry PySem.F.slot_str_ascii_iterator_next p.typeIs PySem.F.entry_str_ascii_iterator_next ?_ (PySem.F.args_str_ascii_iterator_next_1 _)))
  refine wpAny_bind (m := field (.ref it) 0) (wpAny_field p1 p3 (x := .str z zt) rfl ?_)
  refine wpAny_bind (m := field (.ref it) 1) (wpAny_field p1 p3 (x := .int i 0) rfl ?_)
  simp only [Int.toNat_natCast, e]
  refine wpAny_bind (wpAny_rule (wpAny_bind (wpAny_setField p1 p3 (by simp) ?_)))
  refine wpAny_bind (m := newExc (.type "StopIteration") []) ?_
  simp only [newExc, newTuple]
  refine wpAny_bind (wpAny_newObj_type ?_ (by size_fits))
  refine wpAny_bind (m := firstArgMember _ _) (wpAny_of_eq (a := Value.none) (by first | rfl | (simp only [firstArgMember]; rfl)) ?_)
  refine wpAny_newObj_type ?_ (by size_fits)
  simp only [raiseNew]
  refine wpAny_bind (wpAny_handled ?_)
  first | rw [show A.in1.handled = none from hh] | rw [hh]
  exact wpAny_bind (wpAny_pure (wpAny_throw (k _ _ (((Heap.SameBut.update ..).extBut.push _).push _) ⟨_, Heap.get?_push_size _ rfl, rfl⟩)))
theorem es_item {e it : Addr} {i c : Nat} {z : Str} {zt : Tok} {old : Value} {Q : Option Value → Shared → Prop} (ye : IsEnum s.heap e it i old) (yi : s.heap.IsStrIter it "str_ascii_iterator" z zt i) (yx : z.cps[i]? = some c) (ne : e ≠ it)
    (k : ∀ h', IsEnumOut h' e it ((i : Int) + 1) (.str ⟨#[c]⟩ s.toks) s.heap.objs.size → h'.IsStrIter it "str_ascii_iterator" z zt (i + 1) → h'.get? s.heap.objs.size = some { cls := .type "tuple", data := .seq #[.int i (s.toks + 1), .str ⟨#[c]⟩ s.toks] } →
      (∀ b o, b ≠ e → b ≠ it → s.heap.get? b = some o → h'.get? b = some o) → Q (some (.ref s.heap.objs.size)) { s with heap := h', toks := s.toks + 1 + 1 }) : wpAny (model prog w) A (pyNext (.ref e)) Q E s := by
  have ty : s.TypeIs (.ref e) "enumerate" := ⟨_, ye, rfl⟩
  obtain ⟨g0, gs, dr, tk, os⟩ := s
  unfold pyNext
  refine wpAny_bind (wpAny_attempt (wpAny_callSpecial?_slot (name := Str.ofString "__next__") ty PySem.F.slot_enumerate_next (wpAny_call_entry PySem.F.slot_enumerate_next ty PySem.F.entry_enumerate_next ?_ (PySem.F.args_enumerate_next_1 _))))
  refine wpAny_bind (m := field (.ref e) 2) (wpAny_field ye rfl (x := .ref it) rfl (wpAny_bind (nx_str yi yx fun g1 yi1 b1 => ?_)))
  have b1 : Heap.SameBut it g0 g1 := b1
  have ye1 : IsEnum g1 e it i old := (b1.2 e ne).trans ye
  refine wpAny_bind (m := field (.ref e) 3) (wpAny_field ye1 rfl (x := rawInt i) rfl ?_)
  refine wpAny_bind (m := field (.ref e) 4) (wpAny_field ye1 rfl (x := .none) rfl ?_)
  refine wpAny_bind (m := mkInt (i : Int)) (wpAny_mkInt ?_)
  refine wpAny_bind (m := setField (.ref e) 3 (rawInt ((i : Int) + 1))) (wpAny_setField_rec ye1 (by simp) fun g2 ye2 b2 => ?_)
  have b2 : Heap.SameBut e g1 g2 := b2
  have ye2 : IsEnum g2 e it ((i : Int) + 1) old := ye2
  refine wpAny_bind (m := setField (.ref e) 4 .none) (wpAny_setField_rec ye2 (by simp) fun g3 ye3 b3 => ?_)
  have b3 : Heap.SameBut e g2 g3 := b3
  have ye3 : IsEnum g3 e it ((i : Int) + 1) old := ye3
  refine wpAny_bind (m := newTuple [.int i (tk + 1), .str ⟨#[c]⟩ tk]) (wpAny_newTuple ?_)
  have sz : g3.objs.size = g0.objs.size := by rw [b3.1, b2.1, b1.1]
  have el : e < g0.objs.size := Heap.lt_size ye
  have yi3 : g3.IsStrIter it "str_ascii_iterator" z zt (i + 1) := let ⟨o, q, r⟩ := yi1; ⟨o, b3.extBut _ _ (Ne.symm ne) (b2.extBut _ _ (Ne.symm ne) q), r⟩
  have k3 : ∀ b o, b ≠ e → b ≠ it → g0.get? b = some o → g3.get? b = some o := fun b o z1 z2 z => b3.extBut b o z1 (b2.extBut b o z1 (b1.extBut b o z2 z))
  have ye4 : IsEnum (g3.push { cls := .type "tuple", data := .seq #[.int i (tk + 1), .str ⟨#[c]⟩ tk] }) e it ((i : Int) + 1) old := Heap.get?_push_of_some _ ye3
  have t4 : (g3.push { cls := .type "tuple", data := .seq #[.int i (tk + 1), .str ⟨#[c]⟩ tk] }).get? g0.objs.size = some { cls := .type "tuple", data := .seq #[.int i (tk + 1), .str ⟨#[c]⟩ tk] } := by rw [← sz]; exact Heap.get?_push_size _ rfl
  have yi4 : (g3.push { cls := .type "tuple", data := .seq #[.int i (tk + 1), .str ⟨#[c]⟩ tk] }).IsStrIter it "str_ascii_iterator" z zt (i + 1) := let ⟨o, z, r⟩ := yi3; ⟨o, Heap.get?_push_of_some _ z, r⟩
  have k4 : ∀ b o, b ≠ e → b ≠ it → g0.get? b = some o → (g3.push { cls := .type "tuple", data := .seq #[.int i (tk + 1), .str ⟨#[c]⟩ tk] }).get? b = some o := fun b o z1 z2 z => Heap.get?_push_of_some _ (k3 b o z1 z2 z)
  rw [sz]
  generalize g3.push { cls := .type "tuple", data := .seq #[.int i (tk + 1), .str ⟨#[c]⟩ tk] } = g4 at ye4 t4 yi4 k4 ⊢
  refine wpAny_bind (m := Builtin.SmallTypes.ownedTupleIsFree (.ref e)) ?_
  unfold Builtin.SmallTypes.ownedTupleIsFree
  refine wpAny_bind (wpAny_field ye4 rfl (x := .none) rfl (wpAny_pure ?_))
  simp only [if_true]
  refine wpAny_bind (wpAny_rule (wpAny_bind (wpAny_field ye4 rfl (x := old) rfl (wpAny_bind (wpAny_setField_rec ye4 (by simp) fun g5 ye5 b5 => ?_)))))
  have b5 : Heap.SameBut e g4 g5 := b5
  have ye5 : IsEnum g5 e it ((i : Int) + 1) (.str ⟨#[c]⟩ tk) := ye5
  refine wpAny_bind (m := Builtin.SmallTypes.ownedTupleHandOut (.ref e) (.ref g0.objs.size)) ?_
  unfold Builtin.SmallTypes.ownedTupleHandOut
  refine wpAny_bind (wpAny_setField_rec ye5 (by simp) fun g6 ye6 b6 => ?_)
  have b6 : Heap.SameBut e g5 g6 := b6
  have ye6 : IsEnumOut g6 e it ((i : Int) + 1) (.str ⟨#[c]⟩ tk) g0.objs.size := ye6
  refine wpAny_setField_rec ye6 (by simp) fun g7 ye7 b7 => ?_
  have b7 : Heap.SameBut e g6 g7 := b7
  have b57 : ∀ b o, b ≠ e → g4.get? b = some o → g7.get? b = some o := fun b o z1 z => b7.extBut b o z1 (b6.extBut b o z1 (b5.extBut b o z1 z))
  refine wpAny_bind (wpAny_letGo (wpAny_pure ⟨_, rfl, wpAny_pure (k g7 ye7 ?_ (b57 _ _ (Nat.ne_of_gt el) t4) fun b o z1 z2 z => b57 b o z1 (k4 b o z1 z2 z))⟩))
  obtain ⟨o, z, r⟩ := yi4
  exact ⟨o, b57 it o (Ne.symm ne) z, r⟩
theorem es_end {e it : Addr} {i : Nat} {z : Str} {zt : Tok} {old : Value} {Q : Option Value → Shared → Prop} (hh : A.handled = none) (ye : IsEnum s.heap e it i old) (yi : s.heap.IsStrIter it "str_ascii_iterator" z zt i) (yx : z.cps[i]? = none)
    (k : ∀ h', Heap.ExtBut it s.heap h' → Q none { s with heap := h' }) : wpAny (model prog w) A (pyNext (.ref e)) Q E s := by
  have ty : s.TypeIs (.ref e) "enumerate" := ⟨_, ye, rfl⟩
  unfold pyNext
  refine wpAny_bind (wpAny_attempt (wpAny_callSpecial?_slot (name := Str.ofString "__next__") ty PySem.F.slot_enumerate_next (wpAny_call_entry PySem.F.slot_enumerate_next ty PySem.F.entry_enumerate_next ?_ (PySem.F.args_enumerate_next_1 _))))
  refine wpAny_bind (m := field (.ref e) 2) (wpAny_field ye rfl (x := .ref it) rfl (wpAny_bind (nx_str_end hh yi yx fun h' x z ⟨o, ho, hc⟩ => ?_)))
  exact wpAny_bind (wpAny_isInstance (T := "StopIteration") (b := true) ⟨o, ho, hc⟩ isSubtype_stop (wpAny_pure (k _ z)))
end
def itS (z : Str) (zt : Tok) : Obj := { cls := .type "str_ascii_iterator", data := .fields #[.str z zt, .int 0 0] }
theorem meets_enS (z : Str) (zt : Tok) (ha : z.cps.all (· < 128) = true) :
    Meets (Builtin.«enumerate.__new__» ⟨[.type "enumerate", .str z zt], []⟩) (fun _ R s => R (.ok (.ret (.ref (s.heap.push (itS z zt)).objs.size))) { s with heap := (s.heap.push (itS z zt)).push (enO s.heap.objs.size) }) :=
  .of_wp fun prog w A R s h => by
    obtain ⟨g0, gs, dr, tk, os⟩ := s
    have sub := sub_enumerate
    wp_walk
    refine wpAny_stack_any fun st => wpAny_pure ?_
    split
    · rename_i c _ _ _ _ _
      cases (c == Value.type "enumerate") <;> (wp_walk using wpAny_pyIter_ascii ha; exact ⟨_, rfl, h⟩)
    · wp_walk using wpAny_pyIter_ascii ha
      exact ⟨_, rfl, h⟩
section
variable {prog : Program} {w : World} {A : Around} {E : Value → Shared → Prop} {s : Shared}
theorem call_enS {z : Str} {zt : Tok} {Q : Value → Shared → Prop} (ha : z.cps.all (· < 128) = true)
    (k : ∀ h', IsEnum h' (s.heap.objs.size + 1) s.heap.objs.size 0 .none → h'.IsStrIter s.heap.objs.size "str_ascii_iterator" z zt 0 → (∀ b o, s.heap.get? b = some o → h'.get? b = some o) → Q (.ref (s.heap.objs.size + 1)) { s with heap := h' }) :
    wpAny (model prog w) A (call (.type "enumerate") [.str z zt]) Q E s := by
  refine callType_new PySem.F.called_enumerate (by decide) (PySem.F.typeCall_enumerate_1 _) (PySem.F.newCall_enumerate_1 _) (fun obj => PySem.F.args_object_init_2 obj _) PySem.F.entry_enumerate_new (meets_enS z zt ha) ?_
  have hz : (s.heap.push (itS z zt)).objs.size = s.heap.objs.size + 1 := Heap.size_push ..
  have ye : IsEnum ((s.heap.push (itS z zt)).push (enO s.heap.objs.size)) (s.heap.objs.size + 1) s.heap.objs.size 0 .none := by
    rw [← hz]
    exact Heap.get?_push_size _ rfl
  show _ ∧ _
  rw [hz]
  exact ⟨⟨_, ye, rfl⟩, k _ ye ⟨_, Heap.get?_push_of_some _ (Heap.get?_push_size _ rfl), rfl, rfl⟩ fun b o q => Heap.get?_push_of_some _ (Heap.get?_push_of_some _ q)⟩
end
def Itn (z : Str) : It := ⟨fun i _ => i < z.cps.size, fun i H v H' => ∃ p, v = .ref p ∧ H p = none ∧ ∀ c, z.cps[i]? = some c → H' = upd H p (.tup [.int i, .str ⟨#[c]⟩]), fun i _ => z.cps.size ≤ i⟩
theorem turn_enS {P : Program} {w : World} {K : PySem.W.Frag} {es : List Expr} {y1 : Nat} {tp : Pos} (z : Str) (zt : Tok) (e it : Addr) (ne : e ≠ it) : Turn P w K (.Tuple es y1 tp) (Itn z) [e, it] e (fun i h => (∃ old, IsEnum h e it i old) ∧ h.IsStrIter it "str_ascii_iterator" z zt i) where
  mem := by simp
  obj := fun i h st b hb => by
    simp only [List.mem_cons, List.not_mem_nil, or_false] at hb
    rcases hb with rfl | rfl
    · obtain ⟨⟨old, q⟩, _⟩ := st
      exact ⟨_, q, fun v q => by cases (show Data.fields _ = Data.cell v from q)⟩
    · obtain ⟨_, o, q, c, d⟩ := st
      exact ⟨o, q, fun v q => by rw [d] at q; cases q⟩
  keep := fun i h h' st k => by
    obtain ⟨⟨old, q⟩, o, y, r⟩ := st
    exact ⟨⟨old, k e (by simp) _ q⟩, o, k it (by simp) _ y, r⟩
  item := by
    intro X hP hw hK hc i pins s σ H E I hf st hg
    subst hP hw hK
    have hi : i < z.cps.size := hg
    obtain ⟨⟨old, ye⟩, yi⟩ := st
    refine es_item ye yi (c := z.cps[i]) (by simp [hi]) ne fun h1 yo yi1 yt k1 => ⟨_, rfl, ?_⟩
    refine wpAny_letOwnedTupleGo_enum yo fun h2 ye2 b2 => ?_
    have b2 : Heap.SameBut e h1 h2 := b2
    have tn : e ≠ s.heap.objs.size := Nat.ne_of_lt (Heap.lt_size ye)
    have fr : H s.heap.objs.size = none := I.hok.fresh (Nat.le_refl _)
    have yt2 : h2.get? s.heap.objs.size = some { cls := .type "tuple", data := .seq #[.int i (s.toks + 1), .str ⟨#[z.cps[i]]⟩ s.toks] } := b2.extBut _ _ (Ne.symm tn) yt
    have I2 : Inv X pins σ (upd H s.heap.objs.size (.tup [.int i, .str ⟨#[z.cps[i]]⟩])) { s with heap := h2, toks := s.toks + 1 + 1 } :=
      I.turnLaid (fun b o z1 z2 q => b2.extBut b o z1 (k1 b o z1 z2 q)) (hf e (by simp)) (hf it (by simp)) fr (Heap.get?_none_of_le (Nat.le_refl _))
        ⟨sz_le 2 (by decide), [.int i (s.toks + 1), .str ⟨#[z.cps[i]]⟩ s.toks], .cons ⟨_, rfl⟩ (.cons ⟨_, rfl⟩ .nil), ⟨_, yt2, rfl, _, rfl⟩⟩
    have hit : it ≠ s.heap.objs.size := by
      obtain ⟨o, q, _⟩ := yi
      exact Nat.ne_of_lt (Heap.lt_size q)
    refine ⟨.ref s.heap.objs.size, _, I2, rfl, ⟨_, rfl, fr, fun c hc' => ?_⟩, ⟨⟨_, ye2⟩, let ⟨o, q, r⟩ := yi1; ⟨o, b2.extBut _ _ (Ne.symm ne) q, r⟩⟩, fun b hb => ?_⟩
    · rw [Array.getElem?_eq_getElem hi] at hc'
      cases hc'
      rfl
    · have h0 := (hf b hb).1
      simp only [List.mem_cons, List.not_mem_nil, or_false] at hb
      rcases hb with rfl | rfl
      · rw [upd_ne tn]; exact h0
      · rw [upd_ne hit]; exact h0
  done := by
    intro X hP hw hK hc i pins s σ H E I hf st hg
    subst hP hw hK
    have hi : z.cps.size ≤ i := hg
    obtain ⟨⟨old, ye⟩, yi⟩ := st
    obtain ⟨f0, f1, f2, f3, f4, f5⟩ := hf it (by simp)
    exact es_end (I.ok.hd hc) ye yi (by simp [hi]) fun h' eb => ⟨rfl, I.turned (t' := s.toks) (fun b o hb q => eb b o hb q) f0 f1 f3 f4 f5⟩
  self := fun _ _ _ _ _ st h => by
    obtain ⟨⟨old, q⟩, _⟩ := st
    exact wpAny_pyIter_enum q h
section
variable {X : Cx} {es : List Expr} {y1 : Nat} {tp : Pos}
def iEnS (ta : TA) : TI := fun σ H R => ta σ H fun vs H1 => ∃ z, vs = [.str z] ∧ z.cps.all (· < 128) = true ∧ R (Itn z) H1
theorem pi_enS {a : Expr} {ta : TA} {p pos : Pos} (hg : Gl X "enumerate") (hm : X.mg "enumerate" = none) (ha : PA X [a] ta) (hs : starEach [a] X.env = [(false, eval a X.env)] := by rfl) : PI X (.Tuple es y1 tp) (.Call (.Name "enumerate" p) [a] [] pos) (iEnS ta) := by
  intro pins s σ H R I h
  refine Call_ (ld_blt I hg hm PyProof.Rows.boot_enumerate (PyProof.Rows.callWith_type1 (thn (ha pos pins s σ H _ I h) fun us s1 ⟨vs, H1, I1, r1, q1⟩ => ?_) hs rfl))
  obtain ⟨z, e, hz, q⟩ := q1
  subst e
  obtain ⟨u, rfl, rx⟩ := vals1 r1
  obtain ⟨t, rfl⟩ := (show ∃ t, u = Value.str z t from rx)
  refine call_enS hz fun h' ye yi kp => wpAny_pyIter_enum ye ?_
  refine ⟨s1.heap.objs.size + 1, [s1.heap.objs.size + 1, s1.heap.objs.size], _, _, H1, rfl, I1.kept (t' := s1.toks) kp, turn_enS z t _ _ (Nat.succ_ne_self _), ⟨⟨_, ye⟩, yi⟩, fun c hc => ?_, q⟩
  simp only [List.mem_cons, List.not_mem_nil, or_false] at hc
  rcases hc with rfl | rfl
  · exact I1.fpOk (Nat.le_succ _) (I1.hok.fresh (Nat.le_succ _))
  · exact I1.fpOk (Nat.le_refl _) (I1.hok.fresh (Nat.le_refl _))
def FES (z : Str) (g : TG) (tb : TS) (D : Ends) (σ : St) (H : Hp) : Prop := ∃ Pv : Nat → St → Hp → Prop, Pv 0 σ H ∧
  (∀ i c σ H p, z.cps[i]? = some c → Pv i σ H → H p = none → g (.ref p) σ (upd H p (.tup [.int i, .str ⟨#[c]⟩])) fun σ2 H2 => tb { D with nx := Pv (i + 1), ct := Pv (i + 1), bk := D.nx } σ2 H2) ∧ ∀ σ H, Pv z.cps.size σ H → D.nx σ H
def tForES (te : TE) (g : TG) (tb : TS) : TS := fun D σ H => te σ H fun v H1 => ∃ z, v = .str z ∧ z.cps.all (· < 128) = true ∧ FES z g tb D σ H1
theorem ps_forES {l : Expr} {body : List Stmt} {te : TE} {g : TG} {tb : TS} {p pos pos' : Pos} (hc : X.calm = true) (hp : PassesOwn (model X.prog X.w) X.A X.env X.xe) (hm : X.mg "enumerate" = none) (hl : PE X l te) (hgt : PG X (.Tuple es y1 tp) g) (hb : PSs X body tb)
    (hg : Gl X "enumerate" := by rfl) (hs : starEach [l] X.env = [(false, eval l X.env)] := by rfl) : PS X (.For (.Tuple es y1 tp) (.Call (.Name "enumerate" p) [l] [] pos') body [] pos) (tForES te g tb) := by
  intro pins s σ H D I h
  refine ps_for hp hc (pi_enS hg hm (pa_cons hl.mo pa_nil (by rw [hs]; rfl)) hs) hgt hb (by intro _; rfl) pins s σ H D I ?_
  refine ⟨_, h, fun v H1 ⟨z, e, ha, Pv, p0, pt, pd⟩ => ⟨z, by rw [e], ha, ?_⟩⟩
  refine ⟨fun i m σ H => m = z.cps.size - i ∧ i ≤ z.cps.size ∧ Pv i σ H, ⟨z.cps.size, by simp, Nat.zero_le _, p0⟩, ?_⟩
  rintro i m σ H ⟨rfl, hi, q⟩
  by_cases hlt : i < z.cps.size
  · refine .inr ⟨hlt, Pv (i + 1), fun σ' H' z' => ⟨z.cps.size - (i + 1), by omega, rfl, hlt, z'⟩, fun x H' yl => ?_⟩
    obtain ⟨t, rfl, ht, hu⟩ := yl
    have hx : z.cps[i]? = some z.cps[i] := Array.getElem?_eq_getElem hlt
    rw [hu _ hx]
    exact pt i _ σ H t hx q ht
  · have e : i = z.cps.size := by omega
    subst e
    exact .inl ⟨Nat.le_refl _, pd σ H q⟩
end
end L2
namespace L2
open PySem
def rises : List (Key × V) := [(.inr (Str.ofString "d"), .int (-1)), (.inr (Str.ofString "l"), .int 0), (.inr (Str.ofString "u"), .int 1)]
end L2
namespace L2
open PySem PySem.Spec PyProof.Rows PySem.W
def tMkI (C : Addr) (sp : Sp) (t : TA) : TE := fun σ H Q => t σ H fun vs H1 => vs.length ≤ sizeLine ∧ ∀ e, H1 e = none → sp (.ref e :: vs) (upd H1 e (rawX e (.ref C) none)) (fun r H2 => r = .non ∧ Q (.ref e) H2) E0
def tXgetR (K : Frag) (ta : TE) (f : Str) : TE := fun σ H Q => ta σ H fun x H1 => ∃ a C d fs v, x = .ref a ∧ H1 a = some (rawX a (.ref C) (some d)) ∧ H1 d = some (.xd fs) ∧ XGet K C f ∧ fs.lookup f = some v ∧ Q v H1
end L2
namespace L2
open PySem PySem.Spec PyProof.Rows
def Itk (kvs : List (Key × V)) : It := ⟨fun i _ => i < kvs.length, fun i H x H' => H' = H ∧ ∃ k v, kvs[i]? = some (k, v) ∧ x = kV k, fun i _ => kvs.length ≤ i⟩
theorem relV_key {k : Key} {u : Value} (h : keyIs k u = true) : RelV (kV k) u := by
  rcases keyIs_shape h with ⟨i, t, rfl, rfl⟩ | ⟨x, t, rfl, rfl⟩
  · exact ⟨t, rfl⟩
  · exact ⟨t, rfl⟩
theorem KV.at {kvs : List (Key × V)} {vs : List (Key × Value)} (r : KV kvs vs) : ∀ {i : Nat} {p : Key × V}, kvs[i]? = some p → ∃ q, vs[i]? = some q ∧ p.1 = q.1 ∧ RelV p.2 q.2 := by
  unfold KV at r
  induction r with
  | nil => intro i p h; simp at h
  | cons h _ ih =>
    intro i p hx
    cases i with
    | zero => simp at hx; subst hx; exact ⟨_, rfl, h⟩
    | succ i => simpa using ih (by simpa using hx)
theorem turn_key {P : Program} {w : World} {K : PySem.W.Frag} {tg : Expr} {R it : Addr} {kvs : List (Key × V)} {vs : List (Key × Value)} {o : Obj} {es : Array DictEntry} {ep : Nat} (lk : K.lookup R = some o) (e1 : o.ExactDict) (e2 : o.data = .dict es ep)
    (k1 : ∀ P, KeysOf (mixKind P w) es) (k2 : ∀ P, Pairs (mixKind P w) es.toList vs) (nd : (vs.map (·.1)).Nodup) (rel : KV kvs vs) : Turn P w K tg (Itk kvs) [it] it (fun i h => h.IsKeyIter it R i vs.length ep) where
  mem := by simp
  obj := fun i h st b hb => by
    have e : b = it := by simpa using hb
    subst e
    obtain ⟨o, e, c, d⟩ := st
    exact ⟨o, e, fun v z => by rw [d] at z; cases z⟩
  keep := fun i h h' st k => let ⟨o, ho, r⟩ := st; ⟨o, k it (by simp) o ho, r⟩
  item := by
    intro X hP hw hK hc i pins s σ H E I hf st hg
    subst hP hw hK
    have hi : i < kvs.length := hg
    have hm : s.heap.DictAt (mixKind X.prog X.w) R vs ep := ⟨o, es, I.kIn _ _ lk, e1, e2, k1 _, k2 _, nd⟩
    have hx : kvs[i]? = some kvs[i] := List.getElem?_eq_getElem hi
    obtain ⟨q, hq, ek, rv⟩ := KV.at rel hx
    obtain ⟨f0, f1, f2, f3, f4, f5⟩ := hf it (by simp)
    refine wpAny_pyNext_dict_item st hm (k := q.1) (v := q.2) hq fun key h' hk st' sb => ?_
    have I1 : Inv X pins σ H { s with heap := h' } := I.turned (t' := s.toks) (fun b o hb e => (sb.2 b hb).trans e) f0 f1 f3 f4 f5
    obtain ⟨o', e, c, d⟩ := id st'
    exact ⟨key, rfl, go_of (s := { s with heap := h' }) e c d (by decide) ⟨kV q.1, H, I1, relV_key hk, ⟨rfl, kvs[i].1, kvs[i].2, hx, by rw [ek]⟩, st', fun b hb => (hf b hb).1⟩⟩
  done := by
    intro X hP hw hK hc i pins s σ H E I hf st hg
    subst hP hw hK
    have hi : kvs.length ≤ i := hg
    have hm : s.heap.DictAt (mixKind X.prog X.w) R vs ep := ⟨o, es, I.kIn _ _ lk, e1, e2, k1 _, k2 _, nd⟩
    have hl := rel.length
    obtain ⟨f0, f1, f2, f3, f4, f5⟩ := hf it (by simp)
    exact wpAny_pyNext_dict_end (I.ok.hd hc) st hm (List.getElem?_eq_none (by omega)) fun h' eb => ⟨rfl, I.turned (t' := s.toks) (fun b o hb e => eb b o hb e) f0 f1 f3 f4 f5⟩
  self := fun _ _ _ _ _ st h => wpAny_pyIter_keyiter st h
section
variable {X : Cx} {R : Addr} {kvs : List (Key × V)} {tg : Expr}
def iKey (R : Addr) (kvs : List (Key × V)) (te : TE) : TI := fun σ H Q => te σ H fun v H1 => v = .ref R ∧ Q (Itk kvs) H1
theorem pi_key {l : Expr} {te : TE} (d : KD X.w X.K R kvs) (hl : PE X l te) : PI X tg l (iKey R kvs te) := by
  intro pins s σ H Q I h
  refine thn (hl pins s σ H _ I h) fun u s1 ⟨x, H1, I1, rx, e, q⟩ => ?_
  subst e
  obtain rfl : u = Value.ref R := rx
  obtain ⟨o, es, ep, vs, lk, e1, e2, k1, k2, nd, rel⟩ := d.ex
  have hm : s1.heap.DictAt (mixKind X.prog X.w) R vs ep := ⟨o, es, I1.kIn _ _ lk, e1, e2, k1 _, k2 _, nd⟩
  refine wpAny_pyIter_dict d.sm hm ?_
  refine ⟨s1.heap.objs.size, [s1.heap.objs.size], _, _, H1, rfl, I1.kept (t' := s1.toks) (fun b o q => Heap.get?_push_of_some _ q), turn_key lk e1 e2 k1 k2 nd rel, ⟨_, Heap.get?_push_size _ rfl, rfl, rfl⟩, fun c hc => ?_, q⟩
  have e : c = s1.heap.objs.size := by simpa using hc
  subst e
  exact I1.fpOk (Nat.le_refl _) (I1.hok.fresh (Nat.le_refl _))
def FK (kvs : List (Key × V)) (g : TG) (tb : TS) (D : Ends) (σ : St) (H : Hp) : Prop := ∃ Pv : Nat → St → Hp → Prop, Pv 0 σ H ∧
  (∀ i k v σ H, kvs[i]? = some (k, v) → Pv i σ H → g (kV k) σ H fun σ2 H2 => tb { D with nx := Pv (i + 1), ct := Pv (i + 1), bk := D.nx } σ2 H2) ∧ ∀ σ H, Pv kvs.length σ H → D.nx σ H
def tForK (R : Addr) (kvs : List (Key × V)) (te : TE) (g : TG) (tb : TS) : TS := fun D σ H => te σ H fun v H1 => v = .ref R ∧ FK kvs g tb D σ H1
theorem ps_forK {l : Expr} {body : List Stmt} {te : TE} {g : TG} {tb : TS} {pos : Pos} (d : KD X.w X.K R kvs) (hc : X.calm = true) (hp : PassesOwn (model X.prog X.w) X.A X.env X.xe) (hl : PE X l te) (hgt : PG X tg g) (hb : PSs X body tb) (hs : ∀ x, foldedSetIterable l X.env x = pure x := by intro _; rfl) :
    PS X (.For tg l body [] pos) (tForK R kvs te g tb) := by
  intro pins s σ H D I h
  refine ps_for hp hc (pi_key d hl.mo) hgt hb hs pins s σ H D I ?_
  refine ⟨_, h, fun v H1 ⟨e, Pv, p0, pt, pd⟩ => ⟨e, ?_⟩⟩
  refine ⟨fun i m σ H => m = kvs.length - i ∧ i ≤ kvs.length ∧ Pv i σ H, ⟨kvs.length, by simp, Nat.zero_le _, p0⟩, ?_⟩
  rintro i m σ H ⟨rfl, hi, q⟩
  by_cases hlt : i < kvs.length
  · refine .inr ⟨hlt, Pv (i + 1), fun σ' H' z' => ⟨kvs.length - (i + 1), by omega, rfl, hlt, z'⟩, fun x H' yl => ?_⟩
    obtain ⟨rfl, k, v, hx, rfl⟩ := yl
    exact pt i k v σ _ hx q
  · have e : i = kvs.length := by omega
    subst e
    exact .inl ⟨Nat.le_refl _, pd σ H q⟩
end
end L2
namespace Mt
def l1 (a : Rat) : List Rat := trim [1, -a]
def l2 (d : Rat) : List Rat := trim [0, 0, d]
def nxt (l d : Rat) (f g : List Rat) : List Rat := psub (pmul (l1 l) f) (pmul (l2 d) g)
def en (L D : Nat → Rat) (a b : List Rat) : Nat → List Rat
  | 0 => a
  | 1 => b
  | n + 2 => nxt (L (n + 1)) (D n) (en L D a b (n + 1)) (en L D a b n)
theorem NZ.le {f : List Rat} (h : NZ f) {n : Nat} (z : ∀ k, n ≤ k → cf f k = 0) : f.length ≤ n := by
  rcases h with rfl | h
  · simp
  · rcases Nat.lt_or_ge n f.length with y | y
    · exact absurd (z _ (by omega)) h
    · exact y
abbrev A0 : Nat := 1000001 * B0
def Gp (n : Nat) (f : List Rat) : Prop := ∀ k, Lat (B0 ^ n) (A0 ^ n) (cf f k)
theorem Gp.nil {n : Nat} : Gp n [] := fun k => by rw [cf_nil]; exact Lat.zero
def tp (L D : List Rat) (n : Nat) : List Rat := en (cf L) (cf D) [] [1] n
def bt (L D : List Rat) (n : Nat) : List Rat := en (cf L) (cf D) [1] (l1 (cf L 0)) n
end Mt
namespace L2
open PySem PySem.Spec PyProof.Rows
def Pls (K : PySem.W.Frag) (H : Hp) (fs : List (List Rat)) (xs : List V) : Prop := xs.length = fs.length ∧ ∀ (j : Nat) (f : List Rat), fs[j]? = some f → ∃ p, xs[j]? = some (V.ref p) ∧ Pl K H p f
theorem Pls.nil {K : PySem.W.Frag} {H : Hp} : Pls K H [] [] := ⟨rfl, fun j f h => by simp at h⟩
theorem Pls.same {K : PySem.W.Frag} {H H' : Hp} {fs : List (List Rat)} {xs : List V} (h : Pls K H fs xs) (e : Same H H') : Pls K H' fs xs := ⟨h.1, fun j f z => let ⟨p, e1, q⟩ := h.2 j f z; ⟨p, e1, q.same e⟩⟩
theorem Pls.updL {K : PySem.W.Frag} {H : Hp} {D : Addr} {ys : List V} {o : HO} {fs : List (List Rat)} {xs : List V} (hD : H D = some (.lst ys)) (h : Pls K H fs xs) : Pls K (upd H D o) fs xs := ⟨h.1, fun j f z => let ⟨p, e1, q⟩ := h.2 j f z; ⟨p, e1, q.updL hD⟩⟩
theorem Pls.snoc {K : PySem.W.Frag} {H : Hp} {fs : List (List Rat)} {xs : List V} {p : Addr} {f : List Rat} (h : Pls K H fs xs) (k : Pl K H p f) : Pls K H (fs ++ [f]) (xs ++ [.ref p]) := by
  refine ⟨by simp [h.1], fun j g z => ?_⟩
  rcases Nat.lt_or_ge j fs.length with l | l
  · rw [List.getElem?_append_left l] at z
    obtain ⟨q, e, hq⟩ := h.2 j g z
    exact ⟨q, by rw [List.getElem?_append_left (by rw [h.1]; exact l)]; exact e, hq⟩
  · rw [List.getElem?_append_right l] at z
    have j0 : j = fs.length := by
      rcases Nat.lt_or_ge (j - fs.length) 1 with y | y
      · omega
      · rw [List.getElem?_eq_none (by simpa using y)] at z; cases z
    subst j0
    simp at z
    subst z
    exact ⟨p, by rw [← h.1]; simp, k⟩
theorem Pls.cons {K : PySem.W.Frag} {H : Hp} {fs : List (List Rat)} {xs : List V} {p : Addr} {f : List Rat} (k : Pl K H p f) (h : Pls K H fs xs) : Pls K H (f :: fs) (.ref p :: xs) := by
  refine ⟨by simp [h.1], fun j g z => ?_⟩
  rcases j with _ | j
  · simp at z; subst z; exact ⟨p, rfl, k⟩
  · simp at z; exact h.2 j g z
theorem Pls.at {K : PySem.W.Frag} {H : Hp} {m : Nat} {F : Nat → List Rat} {xs : List V} (h : Pls K H ((List.range m).map F) xs) {j : Nat} (hj : j < m) : ∃ p, xs[j]? = some (.ref p) ∧ Pl K H p (F j) := h.2 j (F j) (by simp [hj])
theorem Pls.len {K : PySem.W.Frag} {H : Hp} {m : Nat} {F : Nat → List Rat} {xs : List V} (h : Pls K H ((List.range m).map F) xs) : xs.length = m := by rw [h.1]; simp
theorem Pls.more {K : PySem.W.Frag} {H : Hp} {m : Nat} {F : Nat → List Rat} {xs : List V} {p : Addr} (h : Pls K H ((List.range m).map F) xs) (k : Pl K H p (F m)) : Pls K H ((List.range (m + 1)).map F) (xs ++ [.ref p]) := by
  rw [List.range_succ, List.map_append]; exact h.snoc k
end L2
namespace Mt
def wr (L D : List Rat) (n k : Nat) : Rat := mc (tp L D (n + 1)) (bt L D n) k - mc (tp L D n) (bt L D (n + 1)) k
end Mt
namespace L2
open PySem PySem.Spec PyProof.Rows
theorem CO.els {n : Nat} {src : Nat → Hp → V → Prop} {st : Hp → Prop} {js : List (Option Nat)} {tl : TE} {σ : St} {H1 : Hp} {Q : VK} (G : Nat → Hp → V → Prop) (gs : ∀ i H H' x, Same H H' → G i H x → G i H' x)
    (gu : ∀ i H D ys o x, H D = some (.lst ys) → G i H x → G i (upd H D o) x) (hn : n ≤ 1000) (hst : ∀ H, Same H1 H → st H)
    (hel : ∀ i H x (R : VK), i < n → Same H1 H → src i H x → (∀ r H3, Same H H3 → G i H3 r → R r H3) → tl (some x :: cσ js σ) H R)
    (hq : ∀ D H (xs : List V), Same H1 H → H1 D = none → H D = some (.lst xs) → xs.length = n → (∀ (j : Nat) (x : V), xs[j]? = some x → G j H x) → Q (.ref D) H) : CO n src st (none :: js) (gName 0) tl σ H1 Q := by
  intro D hD
  refine ⟨fun i ys σc H => (∃ r, σc = r :: cσ js σ) ∧ Same H1 H ∧ H D = some (.lst ys) ∧ ys.length = i ∧ ∀ (j : Nat) (x : V), ys[j]? = some x → G j H x, ⟨⟨none, rfl⟩, same_upd hD, upd_same, rfl, fun j x h => by simp at h⟩, fun i ys σc H _ h => hst H h.2.1, ?_, ?_⟩
  · rintro i ys σc H x hi ⟨⟨r, rfl⟩, sm, hd, ly, hf⟩ hx
    refine hel i H x _ hi sm hx fun p H3 s3 hy => ?_
    refine ⟨s3 _ _ hd, small1000 (by omega), ⟨_, rfl⟩, (sm.trans s3).updL hD, upd_same, by simp [ly], fun j x z => ?_⟩
    refine gu j H3 D ys _ x (s3 _ _ hd) ?_
    rcases Nat.lt_or_ge j ys.length with l | l
    · rw [List.getElem?_append_left l] at z
      exact gs j H H3 x s3 (hf j x z)
    · rw [List.getElem?_append_right l] at z
      have j0 : j = i := by
        rcases Nat.lt_or_ge (j - ys.length) 1 with y | y
        · omega
        · rw [List.getElem?_eq_none (by simpa using y)] at z; cases z
      subst j0
      rw [ly, Nat.sub_self] at z
      simp at z
      subst z
      exact hy
  · rintro ys σc H ⟨_, sm, hd, ly, hf⟩
    exact ⟨hd, hq D H ys sm hD hd ly hf⟩
end L2
namespace L2
open PySem PySem.Spec PyProof.Rows
section
variable {prog : Program} {w : World} {A : Around} {E : Value → Shared → Prop} {s : Shared}
end
def ExcAt (e0 : Addr) (H : Hp) : Prop := ∃ cls dv, H e0 = some (excD e0 cls dv)
section
variable {X : Cx} {tg : Expr}
def tCoRH (e0 : Addr) (js : List (Option Nat)) (te : TE) (g : TG) (tl : TE) : TE := fun σ H Q => te σ H fun v H1 => ∃ j : Int, v = .int j ∧ -(2 ^ 62) ≤ j ∧ j < 2 ^ 62 ∧ CO j.toNat (fun i _ x => x = .int i) (ExcAt e0) js g tl σ H1 Q
end
section
variable {X : Cx} {CX : CXT} {k : Nat} {f : Addr} {fd : FuncData} {ps : List Str}  {dvs : List V} {ds : List Value} {E : XK} {x : Str} {p pos : Pos} {e : Expr} {es : List Expr} {t : TA}
end
section
variable {P : Program} {w : World} {K : PySem.W.Frag} {mg : Str → Option Value} {base : Heap} {x qual : Str} {st : Stmt} {f : Addr} {fd : FuncData} {N ps : List Str} {k : Nat} {sp : Addr → Sp}
end
def tHE (K : PySem.W.Frag) (c : Value) (i : Nat) (ts : Addr → TS) (th : TH) : TH := fun cls dv D σ H =>
  (PySem.W.exmOne K cls c = some true ∧ ∀ e, H e = none → ts e (D.gone i) (σ.set i (some (.ref e))) (upd H e (excD e cls dv))) ∨ (PySem.W.exmOne K cls c = some false ∧ th cls dv D σ H)
end L2
namespace L2
open PySem PySem.Spec PyProof.Rows
def FZ (xs ys : List V) (at_ : Hp → Prop) (g : TG) (tb : TS) (D : Ends) (σ : St) (H : Hp) : Prop := ∃ Pv : Nat → St → Hp → Prop, Pv 0 σ H ∧ (∀ i σ H, i ≤ xs.length → Pv i σ H → at_ H) ∧
  (∀ i x y σ H t, xs[i]? = some x → ys[i]? = some y → Pv i σ H → H t = none → g (.ref t) σ (upd H t (.tup [x, y])) fun σ2 H2 => tb { D with nx := Pv (i + 1), ct := Pv (i + 1), bk := D.nx } σ2 H2) ∧ ∀ σ H, Pv xs.length σ H → D.nx σ H
def tForZ (K : PySem.W.Frag) (te te2 : TE) (g : TG) (tb : TS) : TS := fun D σ H => te σ H fun v H1 => te2 σ H1 fun v2 H2 => ∃ l, v = .ref l ∧ ∃ m, v2 = .ref m ∧ ∃ xs ys, SqT K H2 l xs ∧ SqL K H2 m ys ∧ xs.length ≤ ys.length ∧ FZ xs ys (fun H => SqT K H l xs ∧ SqL K H m ys) g tb D σ H2
section
variable {X : Cx} {es : List Expr} {y1 : Nat} {tp : Pos} {a b : Expr} {te te2 : TE} {g : TG} {tb : TS} {body : List Stmt} {p pos pos' : Pos}
end
end L2
namespace L2
open PySem PySem.Spec PyProof.Rows
def Fls (K : PySem.W.Frag) (H : Hp) (gs : List (List Rat)) (xs : List V) : Prop := xs.length = gs.length ∧ ∀ (j : Nat) (g : List Rat), gs[j]? = some g → ∃ p ys, xs[j]? = some (V.ref p) ∧ H p = some (.lst ys) ∧ Frs K H g ys
theorem Fls.same {K : PySem.W.Frag} {H H' : Hp} {gs : List (List Rat)} {xs : List V} (h : Fls K H gs xs) (e : Same H H') : Fls K H' gs xs := ⟨h.1, fun j g z => let ⟨p, ys, e1, e2, q⟩ := h.2 j g z; ⟨p, ys, e1, e _ _ e2, q.same e⟩⟩
end L2
namespace L2
open PySem PySem.Spec PyProof.Rows Builtin
section
variable {prog : Program} {w : World} {A : Around}
end
section
variable {prog : Program} {w : World} {A : Around} {E : Value → Shared → Prop} {s : Shared}
end
section
variable {prog : Program} {w : World} {A : Around} {s : Shared} {R : Result → Shared → Prop} {r l : Addr} {xs : Array Value}
end
section
variable {prog : Program} {w : World} {A : Around} {s : Shared} {R : Result → Shared → Prop}
variable {it : Addr} {fp wr : List Addr} {G : Array GenState → Array GenState → Prop} {n : Nat} {P : Nat → Value → Prop} {St : Nat → Shared → Prop}
end
section
variable {prog : Program} {w : World} {A : Around} {E : Value → Shared → Prop} {s : Shared}
variable {it : Addr} {fp wr : List Addr} {G : Array GenState → Array GenState → Prop} {n : Nat} {P : Nat → Value → Prop} {St : Nat → Shared → Prop}
end
section
variable {prog : Program} {w : World} {A : Around} {E : Value → Shared → Prop} {s : Shared} {r l : Addr} {xs : Array Value}
end
section
variable {X : Cx}
def tListRev (K : PySem.W.Frag) (te : TE) : TE := fun σ H Q => te σ H fun x H1 => ∃ a xs, x = .ref a ∧ (SqT K H1 a xs ∨ SqL K H1 a xs) ∧ ∀ l, H1 l = none → Q (.ref l) (upd H1 l (.lst xs.reverse))
end
end L2
namespace L2
open PySem PySem.Spec PyProof.Rows
section
variable {X : Cx} {k : Nat} {sp : Sp} {ps : List Str} {x : Str} {p pos : Pos}
theorem call_sum (hc : X.calm = true) : CallR X (.builtin "sum") (fun xs H Q => ∃ p, ∃ ns : List Int, xs = [.ref p] ∧ SqL X.K H p (ns.map V.int) ∧ Q (.int ns.sum) H) := by
  rintro pins s σ H xs us Q I r ⟨p, ns, rfl, hp, q⟩
  obtain ⟨u, rfl, ru⟩ := vals1 r
  obtain rfl : u = Value.ref p := ru
  obtain ⟨its, hv, pl, hz⟩ := I.list hp
  have hi : IntsAre its ns := intsAre_of hv
  obtain ⟨xs, hx⟩ := hi.allInts.items
  have hl' : s.heap.IsList p (intItems xs) := hx ▸ pl.isList
  refine sum_intListG (I.ok.hd hc) hl' fun h' tk t' hk => ?_
  have e1 : ns = xs.toList.map (·.1) := by
    rw [← nums_intItems, ← hx]
    exact (show numsOf its.toArray.toList = ns from hi.numsOf).symm
  have e2 : preSum (numAt xs) xs.size = ns.sum := by
    rw [preSum_eq, List.take_of_length_le (by simp), e1]
  rw [e2]
  exact ⟨.int ns.sum, H, I.kept hk, ⟨t', rfl⟩, q⟩
end
end L2
namespace L2
open PySem PySem.Spec PyProof.Rows Builtin
section
variable {X : Cx}
end
end L2
namespace L2
open PySem PySem.Spec PyProof.Rows
def ItvL (K : PySem.W.Frag) (a : Addr) (n : Nat) : It :=
  ⟨fun i H => i < n ∧ ∃ xs, SqL K H a xs ∧ xs.length = n, fun i H x H' => H' = H ∧ ∀ xs, SqL K H a xs → xs[n - 1 - i]? = some x, fun i _ => i = n⟩
theorem turn_revL {P : Program} {w : World} {K : PySem.W.Frag} {tg : Expr} (a it : Addr) (n : Nat) (hn : n ≤ sizeLine) : Turn P w K tg (ItvL K a n) [it] it (fun i h => i ≤ n ∧ h.IsRevIter it a ((n : Int) - 1 - (i : Int))) where
  mem := by simp
  obj := fun i h st b hb => by
    have e : b = it := by simpa using hb
    subst e
    obtain ⟨_, o, z, c, d⟩ := st
    exact ⟨o, z, fun v q => by rw [d] at q; cases q⟩
  keep := fun i h h' st k => by
    obtain ⟨hi, o, z, r⟩ := st
    exact ⟨hi, o, k it (by simp) _ z, r⟩
  item := by
    intro X hP hw hK hc i pins s σ H E I hf st hg
    subst hP hw hK
    obtain ⟨hi, xs, hq, hl⟩ := hg
    obtain ⟨its, rv, p, hz⟩ := I.list hq
    have hl2 := rv.length
    have hx : xs[n - 1 - i]? = some (xs[n - 1 - i]'(by omega)) := List.getElem?_eq_getElem (by omega)
    obtain ⟨u, hu, ru⟩ := rv.get hx
    obtain ⟨f0, f1, f2, f3, f4, f5⟩ := hf it (by simp)
    have e : (n : Int) - 1 - (i : Int) = ((n - 1 - i : Nat) : Int) := by omega
    have y := st.2
    rw [e] at y
    have l63 := line63
    refine wpAny_pyNext_rev_item y p.isList (x := u) (by simpa using hu) fun h' y' sb => ?_
    have sb : Heap.SameBut it s.heap h' := sb
    have I1 : Inv X pins σ H { s with heap := h', toks := s.toks } := I.turned (t' := s.toks) (fun b o hb z => (sb.2 b hb).trans z) f0 f1 f3 f4 f5
    obtain ⟨o, z, c, d⟩ := id y'
    refine ⟨u, rfl, go_of (s := { s with heap := h', toks := s.toks }) z c d (by decide) ⟨_, H, I1, ru, ⟨rfl, fun ys hy => by rw [I.list_inj hy hq]; exact hx⟩, ⟨by omega, ?_⟩, fun b hb => (hf b hb).1⟩⟩
    have e2 : ((n - 1 - i : Nat) : Int) - 1 = (n : Int) - 1 - ((i + 1 : Nat) : Int) := by omega
    rw [← e2]
    exact y'
  done := by
    intro X hP hw hK hc i pins s σ H E I hf st hg
    subst hP hw hK
    obtain ⟨f0, f1, f2, f3, f4, f5⟩ := hf it (by simp)
    have y := st.2
    have hg : i = n := hg
    rw [show (n : Int) - 1 - (i : Int) = -1 by omega] at y
    exact wpAny_pyNext_rev_end (I.ok.hd hc) y fun h' eb => ⟨rfl, I.turned (t' := s.toks) (fun b o hb z => eb b o hb z) f0 f1 f3 f4 f5⟩
  self := fun _ _ _ _ _ st h => wpAny_pyIter_revIter st.2 h
section
variable {X : Cx} {tg : Expr}
def iRevL (K : PySem.W.Frag) (ta : TA) : TI := fun σ H R => ta σ H fun vs H1 => ∃ a xs, vs = [.ref a] ∧ SqL K H1 a xs ∧ R (ItvL K a xs.length) H1
theorem pi_revL {a : Expr} {ta : TA} {p pos : Pos} (hg : Gl X "reversed") (hm : X.mg "reversed" = none) (ha : PA X [a] ta) (hs : starEach [a] X.env = [(false, eval a X.env)] := by rfl) : PI X tg (.Call (.Name "reversed" p) [a] [] pos) (iRevL X.K ta) := by
  intro pins s σ H R I h
  refine Call_ (ld_blt I hg hm (show bootBuiltins "reversed" = some (.type "reversed") by decide +kernel) (PyProof.Rows.callWith_type1 (thn (ha pos pins s σ H _ I h) fun us s1 ⟨vs, H1, I1, r1, q1⟩ => ?_) hs rfl))
  obtain ⟨b, xs, e, hq, q⟩ := q1
  subst e
  obtain ⟨u, rfl, rx⟩ := vals1 r1
  cases rx
  obtain ⟨its, rv, yt, hz⟩ := I1.list hq
  have hl := rv.length
  have l63 := line63
  refine call_reversed_list yt.isList ?_
  have y : (s1.heap.push (revObj b ((its.toArray.size : Int) - 1))).IsRevIter s1.heap.objs.size b ((its.toArray.size : Int) - 1) := ⟨_, Heap.get?_push_size _ rfl, rfl, rfl⟩
  refine wpAny_pyIter_revIter y ?_
  have e : ((its.toArray.size : Nat) : Int) - 1 = (xs.length : Int) - 1 - ((0 : Nat) : Int) := by simp; omega
  replace y : (s1.heap.push (revObj b ((its.toArray.size : Int) - 1))).IsRevIter s1.heap.objs.size b ((xs.length : Int) - 1 - ((0 : Nat) : Int)) := by rw [← e]; exact y
  refine ⟨s1.heap.objs.size, [s1.heap.objs.size], _, _, H1, rfl, I1.kept (t' := s1.toks) (fun c o e => Heap.get?_push_of_some _ e), turn_revL b _ xs.length hz, ⟨Nat.zero_le _, y⟩, fun c hc => ?_, q⟩
  have e : c = s1.heap.objs.size := by simpa using hc
  subst e
  exact I1.fpOk (Nat.le_refl _) (I1.hok.fresh (Nat.le_refl _))
def tForVL (K : PySem.W.Frag) (te : TE) (g : TG) (tb : TS) : TS := fun D σ H => te σ H fun v H1 => ∃ a xs, v = .ref a ∧ SqL K H1 a xs ∧ FL xs.reverse (fun H => SqL K H a xs) g tb D σ H1
theorem ps_forVL {l : Expr} {body : List Stmt} {te : TE} {g : TG} {tb : TS} {p pos pos' : Pos} (hc : X.calm = true) (hp : PassesOwn (model X.prog X.w) X.A X.env X.xe) (hm : X.mg "reversed" = none) (hl : PE X l te) (hgt : PG X tg g) (hb : PSs X body tb)
    (hg : Gl X "reversed" := by rfl) (hs : starEach [l] X.env = [(false, eval l X.env)] := by rfl) : PS X (.For tg (.Call (.Name "reversed" p) [l] [] pos') body [] pos) (tForVL X.K te g tb) := by
  intro pins s σ H D I h
  refine ps_for hp hc (pi_revL hg hm (pa_cons hl.mo pa_nil (by rw [hs]; rfl)) hs) hgt hb (by intro _; rfl) pins s σ H D I ?_
  refine ⟨_, h, fun v H1 ⟨a, xs, e, q, Pv, p0, pl, pt, pd⟩ => ⟨a, xs, by rw [e], q, ?_⟩⟩
  rw [List.length_reverse] at pl pd
  refine ⟨fun i m σ H => m = xs.length - i ∧ i ≤ xs.length ∧ Pv i σ H, ⟨xs.length, by simp, Nat.zero_le _, p0⟩, ?_⟩
  rintro i m σ H ⟨rfl, hi, z⟩
  have y := pl i σ H hi z
  by_cases hlt : i < xs.length
  · refine .inr ⟨⟨hlt, xs, y, rfl⟩, Pv (i + 1), fun σ' H' z' => ⟨xs.length - (i + 1), by omega, rfl, hlt, z'⟩, fun x H' yl => ?_⟩
    obtain ⟨rfl, hu⟩ := yl
    exact pt i x σ _ (by rw [List.getElem?_reverse hlt]; exact hu xs y) z
  · have e : i = xs.length := by omega
    subst e
    exact .inl ⟨rfl, pd σ H z⟩
end
section
variable {X : Cx} {es : List Expr} {y1 : Nat} {tp : Pos}
end
def tForZL (K : PySem.W.Frag) (te te2 : TE) (g : TG) (tb : TS) : TS := fun D σ H => te σ H fun v H1 => te2 σ H1 fun v2 H2 => ∃ l, v = .ref l ∧ ∃ m, v2 = .ref m ∧ ∃ xs ys, SqL K H2 l xs ∧ SqL K H2 m ys ∧ xs.length ≤ ys.length ∧ FZ xs ys (fun H => SqL K H l xs ∧ SqL K H m ys) g tb D σ H2
section
variable {X : Cx} {es : List Expr} {y1 : Nat} {tp : Pos} {a b : Expr} {te te2 : TE} {g : TG} {tb : TS} {body : List Stmt} {p pos pos' : Pos}
end
end L2
namespace L2
open PySem PySem.Spec PyProof.Rows
section
variable {X : Cx}
end
end L2
namespace L2
open PySem PySem.Spec PyProof.Rows
section
variable {X : Cx} {pins : List (Addr × Obj)} {σ : St} {H : Hp} {s : Shared} {a : Addr} {o : Obj} {kvs : List (Key × V)}
theorem Inv.freeze (I : Inv X pins σ H s) (e : H a = some (.dK kvs)) (ho : s.heap.get? a = some o) : Inv X pins σ (upd H a (.frz o (.dK kvs))) s :=
  d_write (t' := s.toks) (h' := s.heap) I (by rw [e]; exact True.intro) ⟨rfl, fun _ _ => rfl⟩ ⟨o, ho⟩ ⟨ho, show ObjOk X.prog X.w H s.heap a (.dK kvs) from I.hok a _ e⟩
theorem Inv.unfrozen (I : Inv X pins σ H s) (e : H a = some (.dK kvs)) : ∀ o' u', X.H₀ a ≠ some (.frz o' u') := fun o' u' z => by
  have := I.base.frzs a o' u' z
  rw [e] at this
  cases this
theorem Inv.thaw (I : Inv X pins σ H s) (e : H a = some (.frz o (.dK kvs))) (h0 : ∀ o' u', X.H₀ a ≠ some (.frz o' u')) : Inv X pins σ (upd H a (.dK kvs)) s := by
  have nn : ∀ b, H b = none → b ≠ a := fun b n z => by subst z; rw [n] at e; cases e
  refine ⟨I.ok, I.os, I.bare, ⟨I.base.keep, I.base.slot, fun b q x n hx => ?_, I.base.there, fun b xs z => ?_, fun b q u z => ?_, fun b ps z => ?_⟩, I.loc, I.cell, ?_, fun x c z => ?_, fun p hp => ?_, fun b u z => ?_, I.len⟩
  · have := I.base.free b q x n hx
    rw [upd_ne (nn b this)]; exact this
  · have := I.base.tups b xs z
    rw [upd_ne (fun y => by subst y; rw [e] at this; cases this)]; exact this
  · have := I.base.frzs b q u z
    rw [upd_ne (fun y => by subst y; exact h0 _ _ z)]; exact this
  · obtain ⟨m, this⟩ := I.base.tbls b ps z
    exact ⟨m, by rw [upd_ne (fun y => by subst y; rw [e] at this; cases this)]; exact this⟩
  · rw [upd_ne (nn _ I.free)]; exact I.free
  · rw [upd_ne (nn _ (I.freeC x c z))]; exact I.freeC x c z
  · obtain ⟨p1, p2, p3⟩ := I.pin p hp
    exact ⟨p1, by rw [upd_ne (nn _ p2)]; exact p2, p3⟩
  · by_cases hb : b = a
    · subst hb
      rw [upd_same] at z; cases z
      exact show ObjOk X.prog X.w H s.heap b (.dK kvs) from (I.hok b _ e).2
    · rw [upd_ne hb] at z
      exact (I.hok b u z).stay (fun _ _ _ q => q) (fun c q => by rw [upd_ne (fun y => by subst y; rw [e] at q; cases q)]; exact q) fun c xs q => by rw [upd_ne (fun y => by subst y; rw [e] at q; cases q)]; exact q
end
def Itd (a : Addr) (o : Obj) (kvs : List (Key × V)) : It := ⟨fun i H => H a = some (.frz o (.dK kvs)) ∧ i < kvs.length, fun i H x H' => H' = H ∧ ∃ k v, kvs[i]? = some (k, v) ∧ x = kV k, fun i H => H a = some (.frz o (.dK kvs)) ∧ kvs.length ≤ i⟩
theorem turn_dkey {P : Program} {w : World} {K : PySem.W.Frag} {tg : Expr} {R it : Addr} {kvs : List (Key × V)} {vs : List (Key × Value)} {o : Obj} {es : Array DictEntry} {ep : Nat} (e1 : o.ExactDict) (e2 : o.data = .dict es ep)
    (k1 : KeysOf (mixKind P w) es) (k2 : Pairs (mixKind P w) es.toList vs) (nd : (vs.map (·.1)).Nodup) (rel : KV kvs vs) : Turn P w K tg (Itd R o kvs) [it] it (fun i h => h.IsKeyIter it R i vs.length ep) where
  mem := by simp
  obj := fun i h st b hb => by
    have e : b = it := by simpa using hb
    subst e
    obtain ⟨o, e, c, d⟩ := st
    exact ⟨o, e, fun v z => by rw [d] at z; cases z⟩
  keep := fun i h h' st k => let ⟨o, ho, r⟩ := st; ⟨o, k it (by simp) o ho, r⟩
  item := by
    intro X hP hw hK hc i pins s σ H E I hf st hg
    subst hP hw hK
    obtain ⟨hfz, hi⟩ : H R = some (.frz o (.dK kvs)) ∧ i < kvs.length := hg
    have hm : s.heap.DictAt (mixKind X.prog X.w) R vs ep := ⟨o, es, (I.hok R _ hfz).1, e1, e2, k1, k2, nd⟩
    have hx : kvs[i]? = some kvs[i] := List.getElem?_eq_getElem hi
    obtain ⟨q, hq, ek, rv⟩ := KV.at rel hx
    obtain ⟨f0, f1, f2, f3, f4, f5⟩ := hf it (by simp)
    refine wpAny_pyNext_dict_item st hm (k := q.1) (v := q.2) hq fun key h' hk st' sb => ?_
    have I1 : Inv X pins σ H { s with heap := h' } := I.turned (t' := s.toks) (fun b o hb e => (sb.2 b hb).trans e) f0 f1 f3 f4 f5
    obtain ⟨o', e, c, d⟩ := id st'
    exact ⟨key, rfl, go_of (s := { s with heap := h' }) e c d (by decide) ⟨kV q.1, H, I1, relV_key hk, ⟨rfl, kvs[i].1, kvs[i].2, hx, by rw [ek]⟩, st', fun b hb => (hf b hb).1⟩⟩
  done := by
    intro X hP hw hK hc i pins s σ H E I hf st hg
    subst hP hw hK
    obtain ⟨hfz, hi⟩ : H R = some (.frz o (.dK kvs)) ∧ kvs.length ≤ i := hg
    have hm : s.heap.DictAt (mixKind X.prog X.w) R vs ep := ⟨o, es, (I.hok R _ hfz).1, e1, e2, k1, k2, nd⟩
    have hl := rel.length
    obtain ⟨f0, f1, f2, f3, f4, f5⟩ := hf it (by simp)
    exact wpAny_pyNext_dict_end (I.ok.hd hc) st hm (List.getElem?_eq_none (by omega)) fun h' eb => ⟨rfl, I.turned (t' := s.toks) (fun b o hb e => eb b o hb e) f0 f1 f3 f4 f5⟩
  self := fun _ _ _ _ _ st h => wpAny_pyIter_keyiter st h
section
variable {X : Cx} {tg : Expr}
def iDk (X : Cx) (te : TE) : TI := fun σ H Q => te σ H fun v H1 => ∃ a kvs, v = .ref a ∧ H1 a = some (.dK kvs) ∧ ∀ o, (∀ o' u', X.H₀ a ≠ some (.frz o' u')) → Q (Itd a o kvs) (upd H1 a (.frz o (.dK kvs)))
theorem pi_dk {l : Expr} {te : TE} (hl : PE X l te) : PI X tg l (iDk X te) := by
  intro pins s σ H Q I h
  refine thn (hl pins s σ H _ I h) fun u s1 ⟨x, H1, I1, rx, a, kvs, e, ea, q⟩ => ?_
  subst e
  obtain rfl : u = Value.ref a := rx
  obtain ⟨z, sm, vs, rel, o, es, ep, hm⟩ := dk_of I1.hok ea
  obtain ⟨ho, e1, e2, k1, k2, nd⟩ := id hm
  have I2 := I1.freeze ea ho
  refine wpAny_pyIter_dict sm (show s1.heap.DictAt (mixKind X.prog X.w) a vs ep from ⟨o, es, hm⟩) ?_
  have nn : (upd H1 a (.frz o (.dK kvs))) s1.heap.objs.size = none := I2.hok.fresh (Nat.le_refl _)
  refine ⟨s1.heap.objs.size, [s1.heap.objs.size], _, _, upd H1 a (.frz o (.dK kvs)), rfl, I2.kept (t' := s1.toks) (fun b o q => Heap.get?_push_of_some _ q), turn_dkey e1 e2 k1 k2 nd rel, ⟨_, Heap.get?_push_size _ rfl, rfl, rfl⟩, fun c hc => ?_, q o (I1.unfrozen ea)⟩
  have e : c = s1.heap.objs.size := by simpa using hc
  subst e
  exact I1.fpOk (Nat.le_refl _) nn
def FD (a : Addr) (o : Obj) (kvs : List (Key × V)) (g : TG) (tb : TS) (D : Ends) (σ : St) (H : Hp) : Prop := ∃ Pv : Nat → St → Hp → Prop, Pv 0 σ (upd H a (.frz o (.dK kvs))) ∧ (∀ i σ H, Pv i σ H → H a = some (.frz o (.dK kvs))) ∧
  (∀ i k v σ H bk, kvs[i]? = some (k, v) → (∀ σ H, H a = some (.frz o (.dK kvs)) → D.nx σ (upd H a (.dK kvs)) → bk σ H) → Pv i σ H → g (kV k) σ H fun σ2 H2 => tb { D with nx := Pv (i + 1), ct := Pv (i + 1), bk := bk } σ2 H2) ∧
  ∀ σ H, Pv kvs.length σ H → D.nx σ (upd H a (.dK kvs))
def tForD (te : TE) (g : TG) (tb : TS) : TS := fun D σ H => te σ H fun v H1 => ∃ a kvs, v = .ref a ∧ H1 a = some (.dK kvs) ∧ ∀ o, FD a o kvs g tb D σ H1
theorem ps_forD {l : Expr} {body : List Stmt} {te : TE} {g : TG} {tb : TS} {pos : Pos} (hc : X.calm = true) (hp : PassesOwn (model X.prog X.w) X.A X.env X.xe) (hl : PE X l te) (hgt : PG X tg g) (hb : PSs X body tb) (hs : ∀ x, foldedSetIterable l X.env x = pure x := by intro _; rfl) :
    PS X (.For tg l body [] pos) (tForD te g tb) := by
  intro pins s σ H D I h
  have core := ps_for (pos := pos) hp hc (pi_dk hl.mo) hgt hb hs pins s σ H { D with nx := fun σ H => ∃ a o kvs, (∀ o' u', X.H₀ a ≠ some (.frz o' u')) ∧ H a = some (.frz o (.dK kvs)) ∧ D.nx σ (upd H a (.dK kvs)) } I ?_
  · refine wpAny_mono core (fun f s' q => ?_) fun _ _ x => x
    cases f with
    | next =>
      obtain ⟨σ', H', I', a, o, kvs, h0, e, q⟩ := q
      exact ⟨σ', _, I'.thaw e h0, q⟩
    | cont => exact q
    | brk => exact q
    | ret v => exact q
  · refine ⟨_, h, fun v H1 ⟨a, kvs, e, ea, q⟩ => ⟨a, kvs, e, ea, fun o h0 => ?_⟩⟩
    obtain ⟨Pv, p0, pf, pt, pd⟩ := q o
    refine ⟨fun i m σ H => m = kvs.length - i ∧ i ≤ kvs.length ∧ Pv i σ H, ⟨kvs.length, by simp, Nat.zero_le _, p0⟩, ?_⟩
    rintro i m σ H ⟨rfl, hi, q⟩
    by_cases hlt : i < kvs.length
    · refine .inr ⟨⟨pf _ _ _ q, hlt⟩, Pv (i + 1), fun σ' H' z' => ⟨kvs.length - (i + 1), by omega, rfl, hlt, z'⟩, fun x H' yl => ?_⟩
      obtain ⟨rfl, k, v, hx, rfl⟩ := yl
      exact pt i k v σ _ _ hx (fun σ H e q => ⟨a, o, kvs, h0, e, q⟩) q
    · have e : i = kvs.length := by omega
      subst e
      exact .inl ⟨⟨pf _ _ _ q, Nat.le_refl _⟩, a, o, kvs, h0, pf _ _ _ q, pd σ H q⟩
end
end L2
namespace L2
open PySem PySem.Spec PyProof.Rows
section
variable {prog : Program} {w : World} {A : Around} {R : Result → Shared → Prop} {s : Shared}
theorem comp_loopI {elt target iter cnd : Expr} {scope : Scope} {pos : Pos} {it acc : Value} {env : Env} (J : Nat → Shared → Prop)
    (turn : ∀ n s, J n s → wpAny (model prog w) A (pyNext it) (fun r s1 => match r with
      | none => R (.ok .next) s1
      | some v => wpAny (model prog w) A (letOwnedTupleGo target it v) (fun _ s2 => wpAny (model prog w) A (assign target env v) (fun _ s3 => wpAny (model prog w) A (isTrue cnd env (eval cnd env)) (fun b s3b => match b with
          | false => ∃ m, m < n ∧ J m s3b
          | true => wpAny (model prog w) A (eval elt env) (fun x s4 =>
            wpAny (model prog w) A (call (.builtin "list.append") [acc, x]) (fun _ s5 => ∃ m, m < n ∧ J m s5) (fun _ _ => False) s4) (fun _ _ => False) s3b) (fun _ _ => False) s3) (fun _ _ => False) s2) (fun _ _ => False) s1) (fun _ _ => False) s)
    (n : Nat) (h : J n s) : codeAny (model prog w) A (.compLoop (.ListComp elt [⟨target, iter, [cnd], 0⟩] scope pos) 0 it acc env) R s := by
  refine codeAny_loop rfl J (fun n s hJ => ?_) n h
  show wpAny _ A ((compTurn (.ListComp elt [⟨target, iter, [cnd], 0⟩] scope pos) 0 it acc env).onRaise (fun x => do noteFrame x env; theTreesLotGoes x)) _ _ s
  refine wpAny_noted ?_
  rw [compTurn_list]
  have no : ∀ {P : Value → Shared → Prop} (a : Value) (b : Shared), (fun _ _ => False : Value → Shared → Prop) a b → P a b := fun _ _ z => False.elim z
  refine wpAny_bind (wpAny_standAt (wpAny_bind (wpAny_mono (turn n s hJ) (fun r s1 h1 => ?_) no)))
  cases r with
  | none => exact wpAny_pure h1
  | some v =>
    refine wpAny_bind (wpAny_mono h1 (fun _ s2 h2 => wpAny_bind (wpAny_mono h2 (fun _ s3 h3 => ?_) no)) no)
    simp only [List.forIn_cons, List.forIn_nil, if_true, bind_assoc, pure_bind]
    refine wpAny_bind (wpAny_mono h3 (fun b s4 h4 => ?_) no)
    cases b with
    | false => exact wpAny_pure ⟨rfl, h4⟩
    | true =>
      exact wpAny_bind (wpAny_mono h4 (fun x s4 h4 => wpAny_bind (wpAny_mono h4 (fun _ s5 h5 => wpAny_pure ⟨rfl, h5⟩) no)) no)
end
def tCompI (js : List (Option Nat)) (wi : TI) (g : TG) (tc : TT) (te : TE) : TE := fun σ H Q => wi σ H fun J H1 => ∀ D, H1 D = none → ∃ W : Nat → Nat → List V → St → Hp → Prop, (∃ m, W 0 m [] (cσ js σ) (upd H1 D (.lst []))) ∧
  ∀ i m ys σc H, W i m ys σc H → (H D = some (.lst ys) ∧ J.stop i H ∧ Q (.ref D) H) ∨ (J.go i H ∧ ∀ x H', J.yld i H x H' → g x σc H' fun σ2 H2 => tc σ2 H2 fun b H2b => if b = true then te σ2 H2b fun y H3 => H3 D = some (.lst ys) ∧ ys.length < sizeLine ∧ ∃ m', m' < m ∧ W (i + 1) m' (ys ++ [y]) σ2 (upd H3 D (.lst (ys ++ [y]))) else ∃ m', m' < m ∧ W (i + 1) m' ys σ2 H2b)
theorem PCo.peI {X : Cx} {elt iter tg cnd : Expr} {scope : Scope} {pos : Pos} {t : TE} (h : PCo X (.ListComp elt [⟨tg, iter, [cnd], 0⟩] scope pos) scope iter t) : PE X (.ListComp elt [⟨tg, iter, [cnd], 0⟩] scope pos) t := by
  intro pins s σ H Q I q
  rw [eval_ListComp]
  exact h _ none (EP X pins σ Q) pins s σ H Q I q fun D C H5 s6 mC I7 hn fp qn => ⟨mC, hn, fun h8 sb => ⟨.ref D, H5, I7.turned (t' := s6.toks) (fun b o hb z => (sb.2 b hb).trans z) fp.1 fp.2.1 fp.2.2.2.1 fp.2.2.2.2.1 fp.2.2.2.2.2, rfl, qn⟩⟩
theorem pe_compI {X : Cx} {elt iter tg cnd : Expr} {scope : Scope} {cl : List (Str × Addr)} {Nc : List Str} {js : List (Option Nat)} {wi : TI} {g : TG} {tc : TT} {te : TE} {pos : Pos} (hc : X.calm = true) (hi : PI X tg iter wi)
    (hg : ∀ C s₀ H₀ ex pn, PG (X.cp Nc scope cl C s₀ H₀ ex pn) tg g) (ht : ∀ C s₀ H₀ ex pn, PT (X.cp Nc scope cl C s₀ H₀ ex pn) cnd tc) (he : ∀ C s₀ H₀ ex pn, PE (X.cp Nc scope cl C s₀ H₀ ex pn) elt te)
    (hlen : js.length = Nc.length) (hcl1 : ∀ y c, cl.lookup y = some c → X.env.cells.lookup y = some c) (hcl2 : ∀ y, ((relabel scope X.env).names.lookup y = some .cell ∨ (relabel scope X.env).names.lookup y = some .free) → ∃ c, cl.lookup y = some c)
    (hjs : ∀ (i : Nat) (y : Str) (j : Nat), Nc[i]? = some y → js[i]? = some (some j) → X.N[j]? = some y ∧ Vis X.env.scope y ∧ X.env.kindOf y ≠ some .local ∧ ((relabel scope X.env).names.lookup y = some .cell ∨ (relabel scope X.env).names.lookup y = some .free) ∧ ∀ c, X.env.cells.lookup y = some c → cl.lookup y = some c)
    (hclos : closureFor scope X.env = pure cl) (hcell : ∀ y ∈ scope.names, y.2 ≠ .cell) (hkind : scope.kind = .function) (hnames : ∀ y ∈ scope.names, y.2 = .local → scope.names.lookup y.1 = some .local)
    (hs : ∀ x, foldedSetIterable iter X.env x = pure x := by intro _; rfl) : PCo X (.ListComp elt [⟨tg, iter, [cnd], 0⟩] scope pos) scope iter (tCompI js wi g tc te) := by
  intro pos0 use QQ pins s σ H Q I h fin
  refine wpAny_comprehension_free (use := use) rfl hs hclos hkind hnames (thn (hi pins s σ H _ I h) fun v s1 h1 => thn h1 fun itv s2 h2 => ?_)
  obtain ⟨it, fp, tn, J, H2, rfl, I2, T, st2, f2, R⟩ := h2
  refine wpAny_newObj_type (wpAny_newFunctionEnv hcell (by intro y hy; simp at hy) (fun h1 hns hsb => ?_) hkind)
  dsimp only at hns hsb ⊢
  have hf : H2 s2.heap.objs.size = none := I2.hok.fresh (Nat.le_refl _)
  obtain ⟨W, ⟨m0, w0⟩, turn⟩ := R s2.heap.objs.size hf
  -- D: the list; C: the block's names
  generalize eD : s2.heap.objs.size = D at *
  have I3 : Inv X pins σ (upd H2 D (.lst [])) { s2 with heap := s2.heap.push { cls := .type "list", dict := none, data := .seq ([] : List Value).toArray } } :=
    I2.laid (t' := s2.toks) (fun b u e => Heap.get?_push_of_some _ e) (by rw [eD]; exact Nat.le_refl _) ⟨Nat.zero_le _, [], 0, .nil, by rw [← eD]; exact Heap.get?_push_size _ rfl⟩
  generalize e3 : ({ s2 with heap := s2.heap.push { cls := .type "list", dict := none, data := .seq ([] : List Value).toArray } } : Shared) = s3 at I3
  have hp3 : s2.heap.push { cls := .type "list", dict := none, data := .seq ([] : List Value).toArray } = s3.heap := by rw [← e3]
  rw [hp3] at hns hsb ⊢
  generalize eC : s3.heap.objs.size = C at *
  have old : ∀ b o, s3.heap.get? b = some o → h1.get? b = some o := fun b o z => hsb.extBut b o (by rw [← eC]; exact Nat.ne_of_lt (Heap.lt_size z)) (Heap.get?_push_of_some _ z)
  have fpo : ∀ b ∈ fp, b < D := fun b hb => by
    obtain ⟨o, z, _⟩ := T.obj _ _ st2 b hb
    rw [← eD]; exact Heap.lt_size z
  have eCD : C = D + 1 := by rw [← eC, ← hp3, Heap.size_push, eD]
  have f3 : ∀ b ∈ fp, FpOk X pins (upd H2 D (.lst [])) b := fun b hb => ⟨by rw [upd_ne (Nat.ne_of_lt (fpo b hb))]; exact (f2 b hb).1, (f2 b hb).2⟩
  have okC : (X.cp Nc scope cl C s3 (upd H2 D (.lst [])) fp (X.pn ++ pins)).Ok := by
    have ok := I3.ok
    refine ⟨ok.mod, hkind, ok.glob, ok.blt, by rw [eC]; exact Nat.le_refl _, fun x y c a b => ok.inj x y c (hcl1 x c a) (hcl1 y c b), fun x hx => hcl2 x hx, fun x c z => absurd z Bool.false_ne_true, ok.hd, ok.frames, .inl rfl, fun b hb => ?_, fun b o z => I3.bs b o z, Nat.le_trans ok.bsz I3.sz, fun b o z hb => ?_, fun b hb hm => ?_, I3.stack, I3.stkFree⟩
    · exact ⟨by rw [eCD]; exact Nat.ne_of_lt (Nat.lt_succ_of_lt (fpo b hb)), fun x c z => (f3 b hb).2.2.2.2.1 x c (hcl1 x c z)⟩
    · rcases (f3 b hb).2.2.2.1 with y | y
      · exact ok.noex b o z y
      · exact absurd (Nat.lt_of_lt_of_le (Heap.lt_size z) (Nat.le_trans ok.bsz y)) (Nat.lt_irrefl _)
    · rcases List.mem_cons.mp (I3.stkSub b hm) with y | y
      · exact (f3 b hb).2.1 y
      · exact (f3 b hb).2.2.1 y
  have I4 : Inv (X.cp Nc scope cl C s3 (upd H2 D (.lst [])) fp (X.pn ++ pins)) [] (cσ js σ) (upd H2 D (.lst [])) { s2 with heap := h1, toks := s2.toks + ([] : List (Str × Value)).length } := by
    have os3 : s2.os = s3.os := by rw [← e3]
    have fC : upd H2 D (.lst []) C = none := I3.hok.fresh (by rw [eC]; exact Nat.le_refl _)
    refine ⟨okC, os3, I2.bare, Un.kept old, ⟨_, hns, fun i y v e1 e2 e3' => ?_⟩, fun y c z => ?_, fC, fun y c z => I3.freeC y c (hcl1 y c z), fun p hp => ?_, I3.hok.kept old, by rw [cσ, List.length_map]; exact hlen⟩
    · unfold cσ at e2
      rw [List.getElem?_map] at e2
      cases ej : js[i]? with
      | none => rw [ej] at e2; cases e2
      | some oj =>
        rw [ej] at e2
        cases oj with
        | none => cases e2
        | some j =>
          obtain ⟨a1, a2, a3, a4, a5⟩ := hjs i y j e1 ej
          have e2' : (σ[j]?).join = some v := Option.some.inj e2
          have e4 : σ[j]? = some (some v) := by
            cases q : σ[j]? with
            | none => rw [q] at e2'; cases e2'
            | some o => rw [q] at e2'; exact congrArg some e2'
          obtain ⟨m, hn, hl⟩ := I3.loc
          obtain ⟨u, r, l⟩ := hl j y v a1 e4 a2
          refine ⟨u, r, .inr ⟨a4, ?_⟩⟩
          rcases l with ⟨k, _⟩ | ⟨k, c, z, ⟨o, ho, hd⟩⟩
          · exact absurd k a3
          · exact ⟨c, a5 c z, o, old _ _ ho, hd⟩
    · obtain ⟨w', o, ho, hd⟩ := I3.cell y c (hcl1 y c z)
      exact ⟨w', o, old _ _ ho, hd⟩
    · have hp' : p ∈ X.pn ++ pins := by
        have z : p ∈ (X.pn ++ pins) ++ [] := hp
        rw [List.append_nil] at z; exact z
      obtain ⟨z, n, ne, nf, d⟩ := I3.pin p hp'
      refine ⟨old _ _ z, n, by rw [← eC]; exact Nat.ne_of_lt (Heap.lt_size z), fun hm => ?_, d⟩
      rcases List.mem_cons.mp (I3.stkSub p.1 hm) with y | y
      · exact ne y
      · exact nf y
  have st4 : tn 0 h1 := T.keep _ _ _ st2 fun b hb o z => old b o (by rw [← hp3]; exact Heap.get?_push_of_some _ z)
  have stat : ∀ {H' : Hp}, (∀ b ∈ fp, H' b = none) → ∀ b ∈ fp, FpOk (X.cp Nc scope cl C s3 (upd H2 D (.lst [])) fp (X.pn ++ pins)) [] H' b := fun hn b hb =>
    ⟨hn b hb, (okC.exf b hb).1, okC.exfs b hb, .inl hb, (okC.exf b hb).2 |> fun q x c z => q x c z, fun p hp => (f3 b hb).2.2.2.2.2 p (by
      have z : p ∈ (X.pn ++ pins) ++ [] := hp
      rw [List.append_nil] at z; exact z)⟩
  have loop : codeAny (model X.prog X.w) X.A (.compLoop (.ListComp elt [⟨tg, iter, [cnd], 0⟩] scope pos) 0 (.ref it) (.ref D) (compEnvC scope cl C X.env)) (compPost (model X.prog X.w) X.A X.xe use QQ (.ref D) C) { s2 with heap := h1, toks := s2.toks + ([] : List (Str × Value)).length } := by
    refine comp_loopI (fun n s' => ∃ i ys σc H', Inv (X.cp Nc scope cl C s3 (upd H2 D (.lst [])) fp (X.pn ++ pins)) [] σc H' s' ∧ tn i s'.heap ∧ (∀ b ∈ fp, H' b = none) ∧ W i n ys σc H') ?_ m0 ⟨0, [], _, _, I4, st4, fun b hb => (f3 b hb).1, w0⟩
    rintro n s5 ⟨i, ys, σ5, H5, I5, st5, fr5, w5⟩
    rcases turn i n ys σ5 H5 w5 with ⟨hD, stop, qn⟩ | ⟨go, step⟩
    · refine thn (T.done (X.cp Nc scope cl C s3 (upd H2 D (.lst [])) fp (X.pn ++ pins)) rfl rfl rfl hc i [] s5 σ5 H5 _ I5 (stat fr5) st5 stop) fun r s6 ⟨hr, I6⟩ => ?_
      subst hr
      obtain ⟨mC, hnC, _⟩ := id I6.loc
      have I7 : Inv X pins σ H5 s6 := I3.call' (ch := fp) I6.os I6.base I6.hok I6.bare fun b hb => ⟨(f3 b hb).2.2.2.1, (f3 b hb).2.1, (f3 b hb).2.2.2.2.1, (f3 b hb).2.2.2.2.2⟩
      have nC : s3.heap.objs.size ≤ C := by rw [eC]; exact Nat.le_refl _
      exact fin D C H5 s6 mC I7 hnC (I3.fpOk nC I6.free) qn
    · refine thn (T.item (X.cp Nc scope cl C s3 (upd H2 D (.lst [])) fp (X.pn ++ pins)) rfl rfl rfl hc i [] s5 σ5 H5 _ I5 (stat fr5) st5 go) fun r s6 ⟨u, hr, h6⟩ => ?_
      subst hr
      refine thn h6 fun _ s7 ⟨x, H7, I7, r7, y7, st7, fr7⟩ => ?_
      have I7' := I7.pinned (stat fr7) (T.obj _ _ st7)
      refine thn (hg C s3 _ fp _ _ s7 σ5 H7 x u _ I7' r7 (step x H7 y7)) fun _ s8 ⟨σ8, H8, I8, q8⟩ => ?_
      refine thn (ht C s3 _ fp _ _ s8 σ8 H8 _ I8 q8) fun b s8b ⟨H8b, I8b, q8b⟩ => ?_
      cases b with
      | false =>
        obtain ⟨m9, lt9, w9⟩ := (show ∃ m', m' < n ∧ W (i + 1) m' ys σ8 H8b from by simpa using q8b)
        refine ⟨m9, lt9, i + 1, ys, σ8, _, I8b.unpinned, T.keep _ _ _ st7 fun b hb o z => (I8b.pin (b, o) (List.mem_append_right _ (List.mem_append_right _ (mem_pinsAt hb z)))).1, fun b hb => ?_, w9⟩
        obtain ⟨o, z, d⟩ := T.obj _ _ st7 b hb
        exact (I8b.pin (b, o) (List.mem_append_right _ (List.mem_append_right _ (mem_pinsAt hb z)))).2.1
      | true =>
        have q8c : te σ8 H8b (fun y H3 => H3 D = some (.lst ys) ∧ ys.length < sizeLine ∧ ∃ m', m' < n ∧ W (i + 1) m' (ys ++ [y]) σ8 (upd H3 D (.lst (ys ++ [y])))) := by
          have := q8b
          simp only [if_true] at this
          exact this
        refine thn (he C s3 _ fp _ _ s8b σ8 H8b _ I8b q8c) fun v9 s9 ⟨y9, H9, I9, r9, hD9, hz9, m9, lt9, w9⟩ => ?_
        refine thn (mt_append (X := X.cp Nc scope cl C s3 (upd H2 D (.lst [])) fp (X.pn ++ pins)) _ s9 σ8 H9 (.ref D) [y9] (.ref D) [v9] (fun _ H10 => H10 = upd H9 D (.lst (ys ++ [y9]))) I9 rfl (.cons r9 .nil) ⟨D, ys, y9, rfl, rfl, hD9, hz9, rfl⟩) fun v10 s10 ⟨_, H10, I10, _, e10⟩ => ?_
        subst e10
        refine ⟨m9, lt9, i + 1, ys ++ [y9], σ8, _, I10.unpinned, T.keep _ _ _ st7 fun b hb o z => (I10.pin (b, o) (List.mem_append_right _ (List.mem_append_right _ (mem_pinsAt hb z)))).1, fun b hb => ?_, w9⟩
        obtain ⟨o, z, d⟩ := T.obj _ _ st7 b hb
        exact (I10.pin (b, o) (List.mem_append_right _ (List.mem_append_right _ (mem_pinsAt hb z)))).2.1
  exact codeAny_compStart_list loop (T.self X.A 0 _ _ _ st4 loop)
def FrOk (X : Cx) (scope : Scope) : List (Str × Nat × Addr) → Prop
  | [] => True
  | p :: r => X.env.cells.lookup p.1 = some p.2.2 ∧ X.N[p.2.1]? = some p.1 ∧ X.env.kindOf p.1 = some .cell ∧ (relabel scope X.env).names.lookup p.1 = some .cell ∧ FrOk X scope r
theorem FrOk.mem {X : Cx} {scope : Scope} : ∀ {fr : List (Str × Nat × Addr)}, FrOk X scope fr → ∀ p ∈ fr, X.env.cells.lookup p.1 = some p.2.2 ∧ X.N[p.2.1]? = some p.1 ∧ X.env.kindOf p.1 = some .cell ∧ (relabel scope X.env).names.lookup p.1 = some .cell
  | _ :: _, h, p, hp => by
    rcases List.mem_cons.mp hp with rfl | hp
    · exact ⟨h.1, h.2.1, h.2.2.1, h.2.2.2.1⟩
    · exact FrOk.mem h.2.2.2.2 p hp
theorem look_fr {fr : List (Str × Nat × Addr)} {z : Str} {d : Addr} (h : List.lookup z (fr.map fun p => (p.1, p.2.2)) = some d) : ∃ p ∈ fr, p.1 = z ∧ p.2.2 = d := by
  have m := PySem.mem_of_lookup h
  obtain ⟨p, hp, e⟩ := List.mem_map.mp m
  cases e
  exact ⟨p, hp, rfl, rfl⟩
theorem look_self : ∀ {fr : List (Str × Nat × Addr)}, (fr.map (·.1)).Nodup → ∀ p ∈ fr, List.lookup p.1 (fr.map fun p => (p.1, p.2.2)) = some p.2.2
  | q :: r, nd, p, hp => by
    rw [List.map_cons] at nd
    obtain ⟨n1, n2⟩ := List.nodup_cons.mp nd
    rcases List.mem_cons.mp hp with rfl | hp
    · simp
    · have ne : p.1 ≠ q.1 := fun e => n1 (by rw [← e]; exact List.mem_map.mpr ⟨p, hp, rfl⟩)
      rw [List.map_cons, List.lookup_cons, show (p.1 == q.1) = false from beq_eq_false_iff_ne.mpr ne]
      exact look_self n2 p hp
theorem pe_compIN {X : Cx} {elt iter tg cnd : Expr} {scope : Scope} (Nl : List Str) (fr : List (Str × Nat × Addr)) {wi : TI} {g : TG} {tc : TT} {te : TE} {pos : Pos} (hc : X.calm = true) (hi : PI X tg iter wi)
    (hg : ∀ C s₀ H₀ ex pn, PG (X.cp (Nl ++ fr.map (·.1)) scope (fr.map fun p => (p.1, p.2.2)) C s₀ H₀ ex pn) tg g) (ht : ∀ C s₀ H₀ ex pn, PT (X.cp (Nl ++ fr.map (·.1)) scope (fr.map fun p => (p.1, p.2.2)) C s₀ H₀ ex pn) cnd tc)
    (he : ∀ C s₀ H₀ ex pn, PE (X.cp (Nl ++ fr.map (·.1)) scope (fr.map fun p => (p.1, p.2.2)) C s₀ H₀ ex pn) elt te)
    (hclos : closureFor scope X.env = pure (fr.map fun p => (p.1, p.2.2))) (hall : FrOk X scope fr)
    (nd : (fr.map (·.1)).Nodup) (h1 : ∀ p ∈ scope.names, p.2 = .free → p.1 ∈ fr.map (·.1)) (hcell : ∀ y ∈ scope.names, y.2 ≠ .cell := by decide +kernel) (hkind : scope.kind = .function := by rfl)
    (hnames : ∀ y ∈ scope.names, y.2 = .local → scope.names.lookup y.1 = some .local := by decide +kernel)
    (hs : ∀ x, foldedSetIterable iter X.env x = pure x := by intro _; rfl) : PCo X (.ListComp elt [⟨tg, iter, [cnd], 0⟩] scope pos) scope iter (tCompI ((Nl.map fun _ => none) ++ fr.map fun p => some p.2.1) wi g tc te) := by
  refine pe_compI (cl := fr.map fun p => (p.1, p.2.2)) (Nc := Nl ++ fr.map (·.1)) hc hi hg ht he (by simp) (fun z d h => ?_) (fun z h => ?_) (fun i z j' e1 e2 => ?_) hclos hcell hkind hnames hs
  · obtain ⟨p, hp, rfl, rfl⟩ := look_fr h
    exact (hall.mem p hp).1
  · have m := h.elim (fun q => rel_mem q (.inl rfl) hcell) fun q => rel_mem q (.inr rfl) hcell
    obtain ⟨p, hp, e⟩ := List.mem_map.mp (h1 _ m rfl)
    have e : p.1 = z := e
    subst e
    exact ⟨p.2.2, look_self nd p hp⟩
  · by_cases hlt : i < Nl.length
    · rw [List.getElem?_append_left (by simpa using hlt), List.getElem?_map] at e2
      cases q : Nl[i]? with
      | none => rw [q] at e2; cases e2
      | some z => rw [q] at e2; cases e2
    · rw [List.getElem?_append_right (by omega), List.getElem?_map] at e1
      rw [List.getElem?_append_right (by simpa using hlt), List.getElem?_map] at e2
      simp only [List.length_map] at e2
      cases q : fr[i - Nl.length]? with
      | none => rw [q] at e1; cases e1
      | some p =>
        rw [q] at e1 e2
        have hp : p ∈ fr := List.mem_of_getElem? q
        have e1 : p.1 = z := by simpa using e1
        have e2 : p.2.1 = j' := by simpa using e2
        subst e1 e2
        obtain ⟨a1, a2, a3, a4⟩ := hall.mem p hp
        exact ⟨a2, .inr (.inl a3), by rw [a3]; exact (fun q => nomatch q), .inl a4, fun d h => by rw [a1] at h; cases h; exact look_self nd p hp⟩
def COI (n : Nat) (src : Nat → Hp → V → Prop) (st : Hp → Prop) (js : List (Option Nat)) (g : TG) (tc : TT) (tl : TE) (σ : St) (H1 : Hp) (Q : VK) : Prop := ∀ D, H1 D = none → ∃ Pv : Nat → List V → St → Hp → Prop, Pv 0 [] (cσ js σ) (upd H1 D (.lst [])) ∧ (∀ i ys σc H, i ≤ n → Pv i ys σc H → st H) ∧
  (∀ i ys σc H x, i < n → Pv i ys σc H → src i H x → g x σc H fun σ2 H2 => tc σ2 H2 fun b H2b => if b = true then tl σ2 H2b fun y H3 => H3 D = some (.lst ys) ∧ ys.length < sizeLine ∧ Pv (i + 1) (ys ++ [y]) σ2 (upd H3 D (.lst (ys ++ [y]))) else Pv (i + 1) ys σ2 H2b) ∧ ∀ ys σc H, Pv n ys σc H → H D = some (.lst ys) ∧ Q (.ref D) H
theorem COI.run {n : Nat} {src : Nat → Hp → V → Prop} {st : Hp → Prop} {js : List (Option Nat)} {g : TG} {tc : TT} {tl : TE} {σ : St} {H1 : Hp} {Q : VK} {J : It} (h : COI n src st js g tc tl σ H1 Q) (hgo : ∀ i H, i < n → st H → J.go i H) (hst : ∀ H, st H → J.stop n H) (hy : ∀ i H x H', i < n → st H → J.yld i H x H' → H' = H ∧ src i H x) :
    ∀ D, H1 D = none → ∃ W : Nat → Nat → List V → St → Hp → Prop, (∃ m, W 0 m [] (cσ js σ) (upd H1 D (.lst []))) ∧
    ∀ i m ys σc H, W i m ys σc H → (H D = some (.lst ys) ∧ J.stop i H ∧ Q (.ref D) H) ∨ (J.go i H ∧ ∀ x H', J.yld i H x H' → tMoG g x σc H' fun σ2 H2 => tMoT tc σ2 H2 fun b H2b => if b = true then tMo tl σ2 H2b fun y H3 => H3 D = some (.lst ys) ∧ ys.length < sizeLine ∧ ∃ m', m' < m ∧ W (i + 1) m' (ys ++ [y]) σ2 (upd H3 D (.lst (ys ++ [y]))) else ∃ m', m' < m ∧ W (i + 1) m' ys σ2 H2b) := by
  intro D hD
  obtain ⟨Pv, p0, ps, pt, pd⟩ := h D hD
  refine ⟨fun i m ys σc H => m = n - i ∧ i ≤ n ∧ Pv i ys σc H, ⟨n, by simp, Nat.zero_le _, p0⟩, ?_⟩
  rintro i m ys σc H ⟨rfl, hi, p⟩
  have s0 := ps i ys σc H hi p
  by_cases hlt : i < n
  · refine .inr ⟨hgo i H hlt s0, fun x H' y => ?_⟩
    obtain ⟨rfl, hx⟩ := hy i H x H' hlt s0 y
    have z := pt i ys σc H' x hlt p hx
    refine ⟨_, z, fun σ2 H2 z2 => ⟨_, z2, fun b H2b z3 => ?_⟩⟩
    cases b with
    | true => simp only [if_true] at z3 ⊢; exact ⟨_, z3, fun y3 H3 ⟨a1, a2, a3⟩ => ⟨a1, a2, n - (i + 1), by omega, rfl, hlt, a3⟩⟩
    | false => simp only [Bool.false_eq_true, if_false] at z3 ⊢; exact ⟨n - (i + 1), by omega, rfl, hlt, z3⟩
  · have e : i = n := by omega
    subst e
    obtain ⟨a1, a2⟩ := pd ys σc H p
    exact .inl ⟨a1, hst H s0, a2⟩
section
variable {X : Cx} {tg a elt cnd : Expr} {te tl : TE} {tc : TT} {g : TG} {p pos pos' : Pos} {scope : Scope} {js : List (Option Nat)}
def tCoRI (js : List (Option Nat)) (te : TE) (g : TG) (tc : TT) (tl : TE) : TE := fun σ H Q => te σ H fun v H1 => ∃ j : Int, v = .int j ∧ -(2 ^ 62) ≤ j ∧ j < 2 ^ 62 ∧ COI j.toNat (fun i _ x => x = .int i) (fun _ => True) js g tc tl σ H1 Q
def tCoLI (K : PySem.W.Frag) (js : List (Option Nat)) (te : TE) (g : TG) (tc : TT) (tl : TE) : TE := fun σ H Q => te σ H fun v H1 => ∃ a xs, v = .ref a ∧ SqL K H1 a xs ∧ COI xs.length (fun i _ x => xs[i]? = some x) (fun H => SqL K H a xs) js g tc tl σ H1 Q
def tCoKI (R : Addr) (kvs : List (Key × V)) (js : List (Option Nat)) (te : TE) (g : TG) (tc : TT) (tl : TE) : TE := fun σ H Q => te σ H fun v H1 => v = .ref R ∧ COI kvs.length (fun i _ x => ∃ k v, kvs[i]? = some (k, v) ∧ x = kV k) (fun _ => True) js g tc tl σ H1 Q
theorem coKI {R : Addr} {kvs : List (Key × V)} (d : KD X.w X.K R kvs) (ha : PE X a te) (hp : ∀ (wi : TI), PI X tg a wi → PCo X (.ListComp elt [⟨tg, a, [cnd], 0⟩] scope pos) scope a (tCompI js wi (tMoG g) (tMoT tc) (tMo tl))) : PCo X (.ListComp elt [⟨tg, a, [cnd], 0⟩] scope pos) scope a (tCoKI R kvs js te g tc tl) := by
  refine (hp _ (pi_key d ha.mo)).of fun σ H Q h => ?_
  refine ⟨_, h, fun v H1 ⟨e, c⟩ => ⟨e, ?_⟩⟩
  exact COI.run (J := Itk kvs) c (fun _ _ h _ => h) (fun _ _ => Nat.le_refl _) fun i H x H' _ _ y => y
end
end L2
namespace L2
open PySem PySem.Spec PyProof.Rows
def dk (ps : List (Int × Int)) : List (Key × V) := ps.map fun p => (.inl p.1, .int p.2)
def pvI (ps : List (Int × Int)) (h : Int) : Option Int := (ps.find? fun p => decide (p.1 = h)).map (·.2)
def gv (ps : List (Int × Int)) (h : Int) : Int := (pvI ps h).getD 0
def putp (ps : List (Int × Int)) (h c : Int) : List (Int × Int) := if (ps.any fun p => decide (p.1 = h)) = true then ps.map (fun p => if p.1 = h then (p.1, c) else p) else ps ++ [(h, c)]
theorem inl_eq {a b : Int} : ((Sum.inl a : Key) = Sum.inl b) ↔ a = b := ⟨fun e => Sum.inl.inj e, fun e => by rw [e]⟩
theorem valV_dk (h : Int) : ∀ ps : List (Int × Int), valV (dk ps) (.inl h) = (pvI ps h).map V.int
  | [] => rfl
  | p :: r => by
    have ih := valV_dk h r
    show valV ((Sum.inl p.1, V.int p.2) :: dk r) (Sum.inl h) = _
    unfold pvI
    by_cases e : p.1 = h
    · rw [valV_pos (by rw [e])]; simp [List.find?_cons, e]
    · rw [valV_neg (fun z => e (inl_eq.mp z)), ih]; simp [pvI, List.find?_cons, e]
theorem dk_any (h : Int) : ∀ ps : List (Int × Int), ((dk ps).any fun kv => decide (kv.1 = (Sum.inl h : Key))) = ps.any fun p => decide (p.1 = h)
  | [] => rfl
  | p :: r => by
    have ih := dk_any h r
    show ((Sum.inl p.1, V.int p.2) :: dk r).any _ = _
    rw [List.any_cons, List.any_cons, ih]
    simp only [inl_eq]
theorem putK_dk (ps : List (Int × Int)) (h c : Int) : putK (dk ps) (.inl h) (.int c) = dk (putp ps h c) := by
  unfold putK putp
  rw [dk_any]
  split
  · unfold dk
    rw [List.map_map, List.map_map]
    refine List.map_congr_left fun p _ => ?_
    simp only [Function.comp]
    by_cases e : p.1 = h
    · simp [e]
    · rw [if_neg (fun z => e (inl_eq.mp z)), if_neg e]
  · simp [dk]
theorem pvI_put (ps : List (Int × Int)) (h c j : Int) : pvI (putp ps h c) j = if j = h then some c else pvI ps j := by
  have e := valV_put (dk ps) (Sum.inl h) (Sum.inl j) (V.int c)
  rw [putK_dk, valV_dk, valV_dk] at e
  by_cases z : j = h
  · subst z
    rw [if_pos rfl] at e ⊢
    cases q : pvI (putp ps j c) j with
    | none => rw [q] at e; cases e
    | some x => rw [q] at e; simp at e; rw [e]
  · rw [if_neg (fun y => z (inl_eq.mp y))] at e
    rw [if_neg z]
    cases q : pvI (putp ps h c) j with
    | none => rw [q] at e; cases q2 : pvI ps j with
      | none => rfl
      | some y => rw [q2] at e; cases e
    | some x => rw [q] at e; cases q2 : pvI ps j with
      | none => rw [q2] at e; cases e
      | some y => rw [q2] at e; simp at e; rw [e]
theorem gv_put (ps : List (Int × Int)) (h c j : Int) : gv (putp ps h c) j = if j = h then c else gv ps j := by
  unfold gv
  rw [pvI_put]
  split <;> rfl
theorem pvI_any (h : Int) : ∀ ps : List (Int × Int), (ps.any fun p => decide (p.1 = h)) = true ↔ h ∈ ps.map (·.1)
  | [] => by simp
  | p :: r => by
    rw [List.any_cons, Bool.or_eq_true, pvI_any h r, List.map_cons, List.mem_cons]
    simp [eq_comm]
theorem keys_put (ps : List (Int × Int)) (h c : Int) : (putp ps h c).map (·.1) = if h ∈ ps.map (·.1) then ps.map (·.1) else ps.map (·.1) ++ [h] := by
  unfold putp
  by_cases e : h ∈ ps.map (·.1)
  · rw [if_pos ((pvI_any h ps).mpr e), if_pos e, List.map_map]
    refine List.map_congr_left fun p _ => ?_
    simp only [Function.comp]
    split <;> rfl
  · rw [if_neg (fun z => e ((pvI_any h ps).mp z)), if_neg e]; simp
def Kin (N : Int) (ps : List (Int × Int)) : Prop := (ps.map (·.1)).Nodup ∧ ∀ k ∈ ps.map (·.1), 0 ≤ k ∧ k < N
theorem Kin.put {N h c : Int} {ps : List (Int × Int)} (k : Kin N ps) (h0 : 0 ≤ h) (h1 : h < N) : Kin N (putp ps h c) := by
  unfold Kin
  rw [keys_put]
  split
  · exact k
  · rename_i hn
    refine ⟨List.nodup_append.mpr ⟨k.1, by simp, fun a ha b hb => ?_⟩, fun x hx => ?_⟩
    · rw [List.mem_singleton.mp hb]; exact fun z => hn (z ▸ ha)
    · rcases List.mem_append.mp hx with hx | hx
      · exact k.2 x hx
      · rw [List.mem_singleton.mp hx]; exact ⟨h0, h1⟩
theorem nodup_le : ∀ (n : Nat) (l : List Int), l.Nodup → (∀ k ∈ l, 0 ≤ k ∧ k < n) → l.length ≤ n
  | 0, l, _, h => by
    cases l with
    | nil => simp
    | cons a r => have := h a (by simp); omega
  | n + 1, l, nd, h => by
    have ih := nodup_le n (l.erase (n : Int)) (nd.erase _) fun k hk => by
      have := (nd.mem_erase_iff).mp hk
      have := h k this.2
      omega
    have := List.length_erase (a := (n : Int)) (l := l)
    split at this <;> omega
theorem Kin.len {N : Nat} {ps : List (Int × Int)} (k : Kin N ps) : ps.length ≤ N := by
  have := nodup_le N _ k.1 k.2
  simpa using this
theorem Kin.mono {N M : Int} {ps : List (Int × Int)} (k : Kin N ps) (h : N ≤ M) : Kin M ps := ⟨k.1, fun x hx => let ⟨a, b⟩ := k.2 x hx; ⟨a, by omega⟩⟩
def wi (b : Option Int) (h : Int) : Bool := decide (0 ≤ h) && (match b with | none => true | some m => decide (h < m))
def add1 (b : Option Int) (e c : Int) (q : List (Int × Int)) (r : Int) : List (Int × Int) := if wi b (e - r) = true then putp q (e - r) (gv q (e - r) + c) else q
def rs3 : List Int := [-1, 0, 1]
def add3 (b : Option Int) (q : List (Int × Int)) (p : Int × Int) : List (Int × Int) := rs3.foldl (add1 b p.1 p.2) q
def one (b : Option Int) (ps : List (Int × Int)) : List (Int × Int) := ps.foldl (add3 b) []
def tg (b : Option Int) (last : Int) : Nat → List (Int × Int)
  | 0 => if wi b last = true then [(last, 1)] else []
  | n + 1 => one b (tg b last n)
def cnt (b : Option Int) (last : Int) : Nat → Int → Int
  | 0, h => if h = last ∧ wi b last = true then 1 else 0
  | n + 1, h => if wi b h = true then cnt b last n (h - 1) + cnt b last n h + cnt b last n (h + 1) else 0
theorem wi_nn {b : Option Int} {h : Int} (w : wi b h = true) : 0 ≤ h := by
  unfold wi at w
  rw [Bool.and_eq_true] at w
  exact of_decide_eq_true w.1
theorem Kin.add1 {N e c r : Int} {b : Option Int} {q : List (Int × Int)} (k : Kin N q) (he : e + 1 < N) (hr : r ∈ rs3) : Kin N (add1 b e c q r) := by
  unfold L2.add1
  split
  · rename_i w
    have := wi_nn w
    refine k.put this ?_
    simp only [rs3, List.mem_cons, List.not_mem_nil, or_false] at hr
    omega
  · exact k
theorem Kin.add1s {N e c : Int} {b : Option Int} : ∀ (rs : List Int) {q : List (Int × Int)}, Kin N q → e + 1 < N → (∀ r ∈ rs, r ∈ rs3) → Kin N (rs.foldl (L2.add1 b e c) q)
  | [], _, k, _, _ => k
  | r :: rs, _, k, he, hr => Kin.add1s rs (k.add1 he (hr r (by simp))) he fun x hx => hr x (by simp [hx])
theorem Kin.add3s {N : Int} {b : Option Int} : ∀ (ps : List (Int × Int)) {q : List (Int × Int)}, Kin N q → (∀ p ∈ ps, p.1 + 1 < N) → Kin N (ps.foldl (add3 b) q)
  | [], _, k, _ => k
  | p :: ps, _, k, h => Kin.add3s ps (Kin.add1s rs3 k (h p (by simp)) fun _ z => z) fun x hx => h x (by simp [hx])
theorem kin_nil (N : Int) : Kin N [] := ⟨by simp, by simp⟩
theorem kin_tg (b : Option Int) {last : Int} {M : Int} (hl : last < M) : ∀ n : Nat, Kin (M + n) (tg b last n)
  | 0 => by
    unfold tg
    split
    · rename_i w
      have := wi_nn w
      exact ⟨by simp, fun k hk => by simp at hk; subst hk; omega⟩
    · exact kin_nil _
  | n + 1 => by
    have ih := kin_tg b hl n
    refine Kin.add3s _ (kin_nil _) fun p hp => ?_
    have := ih.2 p.1 (List.mem_map.mpr ⟨p, hp, rfl⟩)
    omega
theorem gv_add1 (b : Option Int) (e c : Int) (q : List (Int × Int)) (r h : Int) : gv (add1 b e c q r) h = gv q h + if h = e - r ∧ wi b h = true then c else 0 := by
  unfold add1
  by_cases w : wi b (e - r) = true
  · rw [if_pos w, gv_put]
    by_cases z : h = e - r
    · subst z; rw [if_pos rfl, if_pos ⟨rfl, w⟩]
    · rw [if_neg z, if_neg (fun y => z y.1)]; omega
  · rw [if_neg w, if_neg (fun (y : h = e - r ∧ wi b h = true) => w (by rw [← y.1]; exact y.2))]; omega
theorem gv_add3 (b : Option Int) (q : List (Int × Int)) (p : Int × Int) (h : Int) : gv (add3 b q p) h = gv q h + if wi b h = true then (if p.1 = h - 1 then p.2 else 0) + (if p.1 = h then p.2 else 0) + (if p.1 = h + 1 then p.2 else 0) else 0 := by
  unfold add3 rs3
  simp only [List.foldl_cons, List.foldl_nil]
  rw [gv_add1, gv_add1, gv_add1]
  by_cases w : wi b h = true
  · simp only [w, and_true, if_true]
    have e1 : (h = p.1 - -1) ↔ p.1 = h - 1 := by omega
    have e2 : (h = p.1 - 0) ↔ p.1 = h := by omega
    have e3 : (h = p.1 - 1) ↔ p.1 = h + 1 := by omega
    simp only [e1, e2, e3]
    omega
  · simp [w]
def sm1 (ps : List (Int × Int)) (x : Int) : Int := (ps.map fun p => if p.1 = x then p.2 else 0).sum
theorem sm1_gv (x : Int) : ∀ ps : List (Int × Int), (ps.map (·.1)).Nodup → sm1 ps x = gv ps x
  | [], _ => rfl
  | p :: r, nd => by
    rw [List.map_cons] at nd
    obtain ⟨n1, n2⟩ := List.nodup_cons.mp nd
    have ih := sm1_gv x r n2
    unfold sm1 at ih ⊢
    rw [List.map_cons, List.sum_cons, ih]
    unfold gv pvI
    by_cases e : p.1 = x
    · have z : r.find? (fun p => decide (p.1 = x)) = none := by
        rw [List.find?_eq_none]
        intro q hq hx
        have hx : q.1 = x := by simpa using hx
        exact n1 (List.mem_map.mpr ⟨q, hq, by rw [hx, e]⟩)
      simp [List.find?_cons, e, z]
    · simp [List.find?_cons, e]
theorem gv_ones (b : Option Int) (h : Int) : ∀ (ps q : List (Int × Int)), gv (ps.foldl (add3 b) q) h = gv q h + if wi b h = true then sm1 ps (h - 1) + sm1 ps h + sm1 ps (h + 1) else 0
  | [], q => by simp [sm1]
  | p :: r, q => by
    rw [List.foldl_cons, gv_ones b h r, gv_add3]
    unfold sm1
    simp only [List.map_cons, List.sum_cons]
    split <;> omega
theorem gv_tg (b : Option Int) (last : Int) : ∀ (n : Nat) (h : Int), gv (tg b last n) h = cnt b last n h
  | 0, h => by
    unfold tg cnt
    by_cases w : wi b last = true
    · by_cases e : h = last
      · subst e; simp [w, gv, pvI]
      · have e' : ¬ last = h := fun z => e z.symm
        simp [w, gv, pvI, e, e']
    · simp [w, gv, pvI]
  | n + 1, h => by
    have nd := (kin_tg b (show last < last + 1 by omega) n).1
    show gv ((tg b last n).foldl (add3 b) []) h = _
    rw [gv_ones, sm1_gv _ _ nd, sm1_gv _ _ nd, sm1_gv _ _ nd, gv_tg b last n, gv_tg b last n, gv_tg b last n]
    show gv [] h + _ = cnt b last (n + 1) h
    rw [cnt]
    simp [gv, pvI]
theorem pvI_mem {ps : List (Int × Int)} (nd : (ps.map (·.1)).Nodup) : ∀ {i : Nat} {p : Int × Int}, ps[i]? = some p → pvI ps p.1 = some p.2 := by
  induction ps with
  | nil => intro i p h; simp at h
  | cons q r ih =>
    intro i p h
    rw [List.map_cons] at nd
    obtain ⟨n1, n2⟩ := List.nodup_cons.mp nd
    cases i with
    | zero => simp at h; subst h; simp [pvI]
    | succ i =>
      have h : r[i]? = some p := by simpa using h
      have ne : ¬ q.1 = p.1 := fun e => n1 (by rw [e]; exact List.mem_map.mpr ⟨p, List.mem_of_getElem? h, rfl⟩)
      have := ih n2 h
      unfold pvI at this ⊢
      rw [List.find?_cons]
      simp only [ne, decide_false]
      exact this
def bV : Option Int → V
  | none => .non
  | some m => .int m
theorem wi_none (h : Int) : wi none h = decide (0 ≤ h) := by simp [wi]
theorem wi_some (m h : Int) : wi (some m) h = (decide (0 ≤ h) && decide (h < m)) := rfl
theorem cnt_out {b : Option Int} {last : Int} {n : Nat} {h : Int} (w : wi b h = false) : cnt b last n h = 0 := by
  cases n with
  | zero =>
    unfold cnt
    rw [if_neg]
    rintro ⟨rfl, z⟩
    rw [w] at z; cases z
  | succ n => unfold cnt; rw [w]; simp
def DL (H : Hp) (b : Option Int) (last : Int) (n : Nat) (p : Addr) : Prop := ∃ as : List Addr, H p = some (.lst (as.map V.ref)) ∧ as.length = n + 1 ∧ ∀ (i : Nat) (a : Addr), as[i]? = some a → H a = some (.dK (dk (tg b last i)))
theorem get_dk {H : Hp} {a : Addr} {ps : List (Int × Int)} (e : H a = some (.dK (dk ps))) (h : Int) : DGet H a (.int h) ((pvI ps h).map V.int) := by
  have := DGet.k (k := .inl h) e
  rw [valV_dk] at this
  exact this
theorem getD_dk (ps : List (Int × Int)) (h : Int) : ((pvI ps h).map V.int).getD (.int 0) = .int (gv ps h) := by
  unfold gv
  cases pvI ps h <;> rfl
end L2
namespace L2
open PySem PySem.Spec PyProof.Rows
end L2
namespace L2
open PySem PySem.Spec PyProof.Rows
section
variable {X : Cx}
def rAny : List V → Hp → VK → Prop := fun xs H Q => ∃ (l : Addr) (bs : List Bool), xs = [.ref l] ∧ H l = some (.lst (bs.map V.bl)) ∧ Q (.bl (bs.any id)) H
def rMinL : List V → Hp → VK → Prop := fun xs H Q => ∃ (l : Addr) (ys : List Int), xs = [.ref l] ∧ H l = some (.lst (ys.map V.int)) ∧ ys ≠ [] ∧ ∀ y ∈ ys, Q (.int y) H
end
end L2
namespace L2
open PySem PySem.Spec PyProof.Rows
theorem Same.seqL {K : PySem.W.Frag} {H H' : Hp} {a : Addr} {xs : List V} (e : Same H H') (h : SqL K H a xs) : SqL K H' a xs := by
  rcases h with h | h
  · rcases h with h | ⟨o, h⟩
    · exact .inl (.inl (e _ _ h))
    · exact .inl (.inr ⟨o, e _ _ h⟩)
  · exact .inr h
theorem dvS {i j : Int} (h1 : 0 < j) (h2 : j ≤ 5000000) : CDivB i j := ⟨by omega, Bd.mono (m := 64) (show (_ : Nat) < _ by omega) (by decide)⟩
end L2
namespace L2
open PySem PySem.Spec PyProof.Rows
theorem cnt_bd (b : Option Int) (last : Int) : ∀ (n : Nat) (h : Int), 0 ≤ cnt b last n h ∧ cnt b last n h ≤ 3 ^ n
  | 0, h => by unfold cnt; split <;> simp
  | n + 1, h => by
    have a := cnt_bd b last n (h - 1)
    have c := cnt_bd b last n h
    have d := cnt_bd b last n (h + 1)
    have p : (3 : Int) ^ (n + 1) = 3 * 3 ^ n := by rw [Int.pow_succ]; omega
    have q : (0 : Int) ≤ 3 ^ n := Int.pow_nonneg (by decide)
    rw [cnt, p]
    generalize (3 : Int) ^ n = z at *
    split <;> omega
end L2
namespace L2
open PySem PySem.Spec PyProof.Rows
def ur (b : Option Int) (last : Int) : Nat → Int → Int → List Nat
  | 0, _, _ => []
  | m + 1, h, r => if r < cnt b last m (h - 1) then 100 :: ur b last m (h - 1) r else if r - cnt b last m (h - 1) < cnt b last m h then 108 :: ur b last m h (r - cnt b last m (h - 1)) else 117 :: ur b last m (h + 1) (r - cnt b last m (h - 1) - cnt b last m h)
theorem ur_len (b : Option Int) (last : Int) : ∀ (m : Nat) (h r : Int), (ur b last m h r).length = m
  | 0, _, _ => rfl
  | m + 1, h, r => by
    unfold ur
    split
    · rw [List.length_cons, ur_len]
    · split <;> rw [List.length_cons, ur_len]
def pr3 (b : Option Int) (last : Int) (m : Nat) (h r : Int) : Nat → Int
  | 0 => r
  | 1 => r - cnt b last m (h - 1)
  | 2 => r - cnt b last m (h - 1) - cnt b last m h
  | _ => r - cnt b last m (h - 1) - cnt b last m h - cnt b last m (h + 1)
def codes3 : List Nat := [100, 108, 117]
theorem ur_step {b : Option Int} {last : Int} {m : Nat} {h r : Int} {j c : Nat} {k : Int} (hc : codes3[j]? = some c) (hk : rs3[j]? = some k) (hp : ∀ t, t ≤ j → 0 ≤ pr3 b last m h r t) (lt : pr3 b last m h r j < cnt b last m (h + k)) :
    ur b last (m + 1) h r = c :: ur b last m (h + k) (pr3 b last m h r j) := by
  have hj : j < 3 := (List.getElem?_eq_some_iff.mp hc).1
  rcases (show j = 0 ∨ j = 1 ∨ j = 2 by omega) with rfl | rfl | rfl
  · cases hc; cases hk
    rw [show h + -1 = h - 1 by omega] at lt ⊢
    simp only [pr3] at lt ⊢
    rw [ur, if_pos lt]
  · cases hc; cases hk
    rw [Int.add_zero] at lt ⊢
    have h1 := hp 1 (by omega)
    simp only [pr3] at lt h1 ⊢
    rw [ur, if_neg (by omega), if_pos lt]
  · cases hc; cases hk
    have h1 := hp 1 (by omega)
    have h2 := hp 2 (by omega)
    simp only [pr3] at lt h1 h2 ⊢
    rw [ur, if_neg (by omega), if_neg (by omega)]
theorem pr3_succ {b : Option Int} {last : Int} {m : Nat} {h r : Int} {j : Nat} {k : Int} (hk : rs3[j]? = some k) : pr3 b last m h r (j + 1) = pr3 b last m h r j - cnt b last m (h + k) := by
  have hj : j < 3 := (List.getElem?_eq_some_iff.mp hk).1
  rcases (show j = 0 ∨ j = 1 ∨ j = 2 by omega) with rfl | rfl | rfl
  · cases hk; rw [show h + -1 = h - 1 by omega]; rfl
  · cases hk; rw [Int.add_zero]; rfl
  · cases hk; rfl
theorem pr3_end {b : Option Int} {last : Int} {m : Nat} {h r : Int} (lt : r < cnt b last (m + 1) h) (h0 : 0 ≤ r) : pr3 b last m h r 3 < 0 := by
  rw [cnt] at lt
  split at lt
  · simp only [pr3]; omega
  · omega
theorem cnt_pos_wi {b : Option Int} {last : Int} {m : Nat} {h r : Int} (h0 : 0 ≤ r) (lt : r < cnt b last m h) : wi b h = true := by
  cases w : wi b h with
  | true => rfl
  | false => rw [cnt_out w] at lt; omega
end L2
namespace L2
open PySem PySem.Spec PyProof.Rows
def rsC (c : Nat) : Option Int := if c = 100 then some (-1) else if c = 108 then some 0 else if c = 117 then some 1 else none
def okW (b : Option Int) (last : Int) : List Nat → Int → Prop
  | [], h => h = last ∧ wi b h = true
  | c :: cs, h => wi b h = true ∧ ∃ r, rsC c = some r ∧ okW b last cs (h + r)
theorem cnt_nn (b : Option Int) (last : Int) (n : Nat) (h : Int) : 0 ≤ cnt b last n h := (cnt_bd b last n h).1
theorem ur_ok (b : Option Int) (last : Int) : ∀ (n : Nat) (h r : Int), 0 ≤ r → r < cnt b last n h → okW b last (ur b last n h r) h
  | 0, h, r, h0, lt => by
    have w := cnt_pos_wi h0 lt
    unfold cnt at lt
    split at lt
    · rename_i z; exact ⟨z.1, w⟩
    · omega
  | n + 1, h, r, h0, lt => by
    have w := cnt_pos_wi h0 lt
    have lt : r < cnt b last n (h - 1) + cnt b last n h + cnt b last n (h + 1) := by rw [cnt, if_pos w] at lt; exact lt
    unfold ur
    split
    · rename_i z
      exact ⟨w, -1, rfl, by rw [show h + -1 = h - 1 by omega]; exact ur_ok b last n (h - 1) r h0 z⟩
    · split
      · rename_i z y
        exact ⟨w, 0, rfl, by rw [Int.add_zero]; exact ur_ok b last n h _ (by omega) y⟩
      · rename_i z y
        exact ⟨w, 1, rfl, ur_ok b last n (h + 1) _ (by omega) (by omega)⟩
def lower (b : Option Int) (last : Int) (m : Nat) (c : Nat) (h : Int) : Int := if c = 100 then 0 else if c = 108 then cnt b last m (h - 1) else cnt b last m (h - 1) + cnt b last m h
def rk (b : Option Int) (last : Int) : List Nat → Int → Int
  | [], _ => 0
  | c :: cs, h => lower b last cs.length c h + rk b last cs (h + (rsC c).getD 0)
theorem rk_ok (b : Option Int) (last : Int) : ∀ (cs : List Nat) (h : Int), okW b last cs h → 0 ≤ rk b last cs h ∧ rk b last cs h < cnt b last cs.length h ∧ ur b last cs.length h (rk b last cs h) = cs
  | [], h, ok => by
    obtain ⟨rfl, w⟩ := ok
    refine ⟨Int.le_refl _, ?_, rfl⟩
    show (0 : Int) < cnt b h 0 h
    rw [cnt, if_pos ⟨rfl, w⟩]; decide
  | c :: cs, h, ok => by
    obtain ⟨w, r, hr, ok⟩ := ok
    obtain ⟨a1, a2, a3⟩ := rk_ok b last cs (h + r) ok
    have n1 := cnt_nn b last cs.length (h - 1)
    have n2 := cnt_nn b last cs.length h
    have n3 := cnt_nn b last cs.length (h + 1)
    show 0 ≤ lower b last cs.length c h + rk b last cs (h + (rsC c).getD 0) ∧ lower b last cs.length c h + rk b last cs (h + (rsC c).getD 0) < cnt b last (cs.length + 1) h ∧ ur b last (cs.length + 1) h (lower b last cs.length c h + rk b last cs (h + (rsC c).getD 0)) = c :: cs
    rw [hr, show cnt b last (cs.length + 1) h = cnt b last cs.length (h - 1) + cnt b last cs.length h + cnt b last cs.length (h + 1) by rw [cnt, if_pos w]]
    simp only [Option.getD_some]
    unfold rsC at hr
    unfold lower ur
    by_cases e1 : c = 100
    · rw [if_pos e1] at hr ⊢
      cases hr
      rw [show h + -1 = h - 1 by omega] at *
      refine ⟨by omega, by omega, ?_⟩
      rw [if_pos (by omega), Int.zero_add, a3, e1]
    · rw [if_neg e1] at hr ⊢
      by_cases e2 : c = 108
      · rw [if_pos e2] at hr ⊢
        cases hr
        rw [Int.add_zero] at *
        refine ⟨by omega, by omega, ?_⟩
        rw [if_neg (by omega), if_pos (by omega), show cnt b last cs.length (h - 1) + rk b last cs h - cnt b last cs.length (h - 1) = rk b last cs h by omega, a3, e2]
      · rw [if_neg e2] at hr ⊢
        by_cases e3 : c = 117
        · rw [if_pos e3] at hr
          cases hr
          refine ⟨by omega, by omega, ?_⟩
          rw [if_neg (by omega), if_neg (by omega), show cnt b last cs.length (h - 1) + cnt b last cs.length h + rk b last cs (h + 1) - cnt b last cs.length (h - 1) - cnt b last cs.length h = rk b last cs (h + 1) by omega, a3, e3]
        · rw [if_neg e3] at hr; cases hr
theorem rk_ur (b : Option Int) (last : Int) : ∀ (n : Nat) (h r : Int), 0 ≤ r → r < cnt b last n h → rk b last (ur b last n h r) h = r
  | 0, h, r, h0, lt => by
    unfold cnt at lt
    show (0 : Int) = r
    split at lt <;> omega
  | n + 1, h, r, h0, lt => by
    have w := cnt_pos_wi h0 lt
    have lt : r < cnt b last n (h - 1) + cnt b last n h + cnt b last n (h + 1) := by rw [cnt, if_pos w] at lt; exact lt
    unfold ur
    split
    · rename_i z
      have := rk_ur b last n (h - 1) r h0 z
      show lower b last (ur b last n (h - 1) r).length 100 h + rk b last (ur b last n (h - 1) r) (h + -1) = r
      rw [ur_len, show h + -1 = h - 1 by omega, this]
      simp [lower]
    · split
      · rename_i z y
        have := rk_ur b last n h _ (by omega) y
        show lower b last (ur b last n h _).length 108 h + rk b last (ur b last n h (r - cnt b last n (h - 1))) (h + 0) = r
        rw [ur_len, Int.add_zero, this]
        simp [lower]; omega
      · rename_i z y
        have := rk_ur b last n (h + 1) (r - cnt b last n (h - 1) - cnt b last n h) (by omega) (by omega)
        show lower b last (ur b last n (h + 1) _).length 117 h + rk b last (ur b last n (h + 1) (r - cnt b last n (h - 1) - cnt b last n h)) (h + 1) = r
        rw [ur_len, this]
        simp [lower]; omega
theorem cons_lt_of {a b : Nat} {l m : List Nat} (h : a < b) : (a :: l) < (b :: m) := List.Lex.rel h
theorem cons_lt {a : Nat} {l m : List Nat} (h : l < m) : (a :: l) < (a :: m) := List.Lex.cons h
theorem ur_lt (b : Option Int) (last : Int) : ∀ (n : Nat) (h r r' : Int), 0 ≤ r → r < r' → r' < cnt b last n h → ur b last n h r < ur b last n h r'
  | 0, h, r, r', h0, lt, lt2 => by
    unfold cnt at lt2
    split at lt2 <;> omega
  | n + 1, h, r, r', h0, lt, lt2 => by
    have w := cnt_pos_wi (show 0 ≤ r' by omega) lt2
    have lt2 : r' < cnt b last n (h - 1) + cnt b last n h + cnt b last n (h + 1) := by rw [cnt, if_pos w] at lt2; exact lt2
    unfold ur
    by_cases c1 : r < cnt b last n (h - 1)
    · rw [if_pos c1]
      by_cases d1 : r' < cnt b last n (h - 1)
      · rw [if_pos d1]; exact cons_lt (ur_lt b last n _ r r' h0 lt d1)
      · rw [if_neg d1]
        split
        · exact cons_lt_of (by decide)
        · exact cons_lt_of (by decide)
    · rw [if_neg c1, if_neg (show ¬ r' < cnt b last n (h - 1) by omega)]
      by_cases c2 : r - cnt b last n (h - 1) < cnt b last n h
      · rw [if_pos c2]
        by_cases d2 : r' - cnt b last n (h - 1) < cnt b last n h
        · rw [if_pos d2]; exact cons_lt (ur_lt b last n _ _ _ (by omega) (by omega) d2)
        · rw [if_neg d2]; exact cons_lt_of (by decide)
      · rw [if_neg c2, if_neg (show ¬ r' - cnt b last n (h - 1) < cnt b last n h by omega)]
        exact cons_lt (ur_lt b last n _ _ _ (by omega) (by omega) (by omega))
theorem okW_mem {b : Option Int} {last : Int} : ∀ {cs : List Nat} {h : Int}, okW b last cs h → ∀ c ∈ cs, c = 100 ∨ c = 108 ∨ c = 117
  | c :: cs, h, ok, x, hx => by
    obtain ⟨w, r, hr, ok⟩ := ok
    rcases List.mem_cons.mp hx with rfl | hx
    · unfold rsC at hr
      by_cases e1 : x = 100
      · exact .inl e1
      · rw [if_neg e1] at hr
        by_cases e2 : x = 108
        · exact .inr (.inl e2)
        · rw [if_neg e2] at hr
          by_cases e3 : x = 117
          · exact .inr (.inr e3)
          · rw [if_neg e3] at hr; cases hr
    · exact okW_mem ok x hx
def hgt (cs : List Nat) (h : Int) : Nat → Int
  | 0 => h
  | k + 1 => hgt cs h k + (rsC ((cs[k]?).getD 0)).getD 0
theorem hgt_cons (c : Nat) (cs : List Nat) (h : Int) : ∀ k, hgt (c :: cs) h (k + 1) = hgt cs (h + (rsC c).getD 0) k
  | 0 => rfl
  | k + 1 => by
    rw [hgt, hgt_cons c cs h k]
    show _ + (rsC (((c :: cs)[k + 1]?).getD 0)).getD 0 = _
    rw [List.getElem?_cons_succ]
    rfl
theorem okW_hgt {b : Option Int} {last : Int} : ∀ {cs : List Nat} {h : Int}, okW b last cs h → ∀ k, k ≤ cs.length → wi b (hgt cs h k) = true
  | [], h, ok, k, hk => by
    obtain rfl : k = 0 := by simpa using hk
    exact ok.2
  | c :: cs, h, ok, k, hk => by
    obtain ⟨w, r, hr, ok⟩ := ok
    cases k with
    | zero => exact w
    | succ k =>
      rw [hgt_cons, hr]
      exact okW_hgt ok k (by simpa using hk)
theorem okW_end {b : Option Int} {last : Int} : ∀ {cs : List Nat} {h : Int}, okW b last cs h → hgt cs h cs.length = last
  | [], h, ok => ok.1
  | c :: cs, h, ok => by
    obtain ⟨w, r, hr, ok⟩ := ok
    rw [List.length_cons, hgt_cons, hr]
    exact okW_end ok
end L2
namespace K10
open PySem L2
theorem cx_K {CX : CXT} {P : Program} {w : World} {K : PySem.W.Frag} {mg : Str → Option Value} {base : Heap} {N : List Str} {qual : Str} {scope : Scope} {f : Addr} {cd : Value} {A : Around} {outer : List Env} {s : Shared} {H : Hp} {E : XK} : (cxOf CX P w K mg base N qual scope f cd A outer s H E).K = K := rfl
theorem cxU_K {CX : CXT} {P : Program} {w : World} {K : PySem.W.Frag} {mg : Str → Option Value} {base : Heap} {N : List Str} {qual : Str} {scope : Scope} {f : Addr} {cd : Value} {A : Around} {outer : List Env} {s : Shared} {H : Hp} {E : XK} : (cxU CX P w K mg base N qual scope f cd A outer s H E).K = K := rfl
local macro_rules | `(tactic| walk_at "rd") => `(tactic| simp [tSeq, tIfS, tTest, tB, tOp, rI, rI0, rEq, rNe, scal, tVar, tC, tCB, tCons, tNil, tNext, tRet, tRetN, L2.start, rIxL, rIxT, rFqI, tAsg, gName, tUn, rU, tNot, tNotV, tAnd, tOr, tAndV, tOrV, tIf, tTup, tLst, tCall, tCallS, tDrop, tForR, tForT, tForL, tForE, tForV, gTup, gCons, gNil, gSub, rSetL, tRaise, tTry, tH, Ends.gone, cσ, CPow, tCoR, tCoL, tCoT, tCoX, tForX, tExcInit, tFs, sXset, tXget, tRaiseI, tJoinRev, tChain, rAll, tHno, cx_K, cxU_K, rIn, tSl, tNoPart, tPart, rAppend, tBM, tForR2, tBM0, rClear, rReverse, tPar, tVs, rKIx, rKIn, tKIx, tForES, tDGet, tMkI, tXgetR, tCoRH, tHE, tListRev, tForZ, tForVL, tForZL, tForK, tForD, sDPut, tDGet2, tDNewK, tDisp, tPairs, tCoLI, tCoRI, tCoKI, tAugS, ipI, rRep, tBreak, rAny, rMinL])
def top (i : Nat) : Stmt := PySem.Challenge.pw_heightfractions_k10_ways_numbered.main.body.getD i (.Pass ⟨0, 0, 0, 0⟩)
structure Tx (w : World) (K : PySem.W.Frag) (mg : Str → Option Value) (C_HeightError : Addr) (C_NoCount : Addr) (C_NoFamily : Addr) (C_NoFraction : Addr) (C_NoHistory : Addr) (C_NoLine : Addr) (C_NoMeeting : Addr) (C_NoMoments : Addr) (C_NoName : Addr) (C_NoNumber : Addr) (C_NoSeries : Addr) (C_NoText : Addr) (C_NoThing : Addr) (C_NoWay : Addr) (C_NoWeights : Addr) (C_RISES : Addr) (C_TooFar : Addr) (C_TooHigh : Addr) (C_TooMany : Addr) : Prop where
  b_ValueError : mg "ValueError" = none
  b_bool : mg "bool" = none
  b_enumerate : mg "enumerate" = none
  b_int : mg "int" = none
  b_isinstance : mg "isinstance" = none
  b_len : mg "len" = none
  b_range : mg "range" = none
  b_reversed : mg "reversed" = none
  b_str : mg "str" = none
  b_sum : mg "sum" = none
  b_tuple : mg "tuple" = none
  m_HeightError : mg "HeightError" = some (.ref C_HeightError)
  m_NoCount : mg "NoCount" = some (.ref C_NoCount)
  m_NoFamily : mg "NoFamily" = some (.ref C_NoFamily)
  m_NoFraction : mg "NoFraction" = some (.ref C_NoFraction)
  m_NoHistory : mg "NoHistory" = some (.ref C_NoHistory)
  m_NoLine : mg "NoLine" = some (.ref C_NoLine)
  m_NoMeeting : mg "NoMeeting" = some (.ref C_NoMeeting)
  m_NoMoments : mg "NoMoments" = some (.ref C_NoMoments)
  m_NoName : mg "NoName" = some (.ref C_NoName)
  m_NoNumber : mg "NoNumber" = some (.ref C_NoNumber)
  m_NoSeries : mg "NoSeries" = some (.ref C_NoSeries)
  m_NoText : mg "NoText" = some (.ref C_NoText)
  m_NoThing : mg "NoThing" = some (.ref C_NoThing)
  m_NoWay : mg "NoWay" = some (.ref C_NoWay)
  m_NoWeights : mg "NoWeights" = some (.ref C_NoWeights)
  m_RISES : mg "RISES" = some (.ref C_RISES)
  m_TooFar : mg "TooFar" = some (.ref C_TooFar)
  m_TooHigh : mg "TooHigh" = some (.ref C_TooHigh)
  m_TooMany : mg "TooMany" = some (.ref C_TooMany)
  rises : KD w K C_RISES rises
  i_HeightError : initOf K C_HeightError = true
  y_NoWay : XAtt K C_NoWay "at"
  j_NoWay : ∃ fI, excInit K C_NoWay fI = true
  xc : XCls K C_NoWay
  ex : PySem.W.exmOne K (.ref C_NoWay) (.ref C_NoWay) = some true
  k_ValueError : PySem.W.kitOne K (.ref C_NoWay) (.type "ValueError") = some true
  k_NoFraction : PySem.W.kitOne K (.ref C_NoWay) (.ref C_NoFraction) = some false
  k_TooMany : PySem.W.kitOne K (.ref C_NoWay) (.ref C_TooMany) = some false
  k_TooFar : PySem.W.kitOne K (.ref C_NoWay) (.ref C_TooFar) = some false
  k_NoNumber : PySem.W.kitOne K (.ref C_NoWay) (.ref C_NoNumber) = some false
  k_NoWeights : PySem.W.kitOne K (.ref C_NoWay) (.ref C_NoWeights) = some false
  k_NoSeries : PySem.W.kitOne K (.ref C_NoWay) (.ref C_NoSeries) = some false
  k_NoMoments : PySem.W.kitOne K (.ref C_NoWay) (.ref C_NoMoments) = some false
  k_NoFamily : PySem.W.kitOne K (.ref C_NoWay) (.ref C_NoFamily) = some false
  k_NoMeeting : PySem.W.kitOne K (.ref C_NoWay) (.ref C_NoMeeting) = some false
  k_NoThing : PySem.W.kitOne K (.ref C_NoWay) (.ref C_NoThing) = some false
  k_NoLine : PySem.W.kitOne K (.ref C_NoWay) (.ref C_NoLine) = some false
  k_NoText : PySem.W.kitOne K (.ref C_NoWay) (.ref C_NoText) = some false
  k_NoWay : PySem.W.kitOne K (.ref C_NoWay) (.ref C_NoWay) = some true
  k_TooHigh : PySem.W.kitOne K (.ref C_NoWay) (.ref C_TooHigh) = some false
  k_NoHistory : PySem.W.kitOne K (.ref C_NoWay) (.ref C_NoHistory) = some false
  k_NoCount : PySem.W.kitOne K (.ref C_NoWay) (.ref C_NoCount) = some false
  k_NoName : PySem.W.kitOne K (.ref C_NoWay) (.ref C_NoName) = some false
  xg : XGet K C_NoWay "at"
  xc2 : XCls K C_NoNumber
  ex2 : PySem.W.exmOne K (.ref C_NoNumber) (.ref C_HeightError) = some true
  k2_ValueError : PySem.W.kitOne K (.ref C_NoNumber) (.type "ValueError") = some true
  k2_NoFraction : PySem.W.kitOne K (.ref C_NoNumber) (.ref C_NoFraction) = some false
  k2_TooMany : PySem.W.kitOne K (.ref C_NoNumber) (.ref C_TooMany) = some false
  k2_TooFar : PySem.W.kitOne K (.ref C_NoNumber) (.ref C_TooFar) = some false
  k2_NoNumber : PySem.W.kitOne K (.ref C_NoNumber) (.ref C_NoNumber) = some true
  k2_NoWeights : PySem.W.kitOne K (.ref C_NoNumber) (.ref C_NoWeights) = some false
  k2_NoSeries : PySem.W.kitOne K (.ref C_NoNumber) (.ref C_NoSeries) = some false
  k2_NoMoments : PySem.W.kitOne K (.ref C_NoNumber) (.ref C_NoMoments) = some false
  k2_NoFamily : PySem.W.kitOne K (.ref C_NoNumber) (.ref C_NoFamily) = some false
  k2_NoMeeting : PySem.W.kitOne K (.ref C_NoNumber) (.ref C_NoMeeting) = some false
  k2_NoThing : PySem.W.kitOne K (.ref C_NoNumber) (.ref C_NoThing) = some false
  k2_NoLine : PySem.W.kitOne K (.ref C_NoNumber) (.ref C_NoLine) = some false
  k2_NoText : PySem.W.kitOne K (.ref C_NoNumber) (.ref C_NoText) = some false
  k2_NoWay : PySem.W.kitOne K (.ref C_NoNumber) (.ref C_NoWay) = some false
  k2_TooHigh : PySem.W.kitOne K (.ref C_NoNumber) (.ref C_TooHigh) = some false
  k2_NoHistory : PySem.W.kitOne K (.ref C_NoNumber) (.ref C_NoHistory) = some false
  k2_NoCount : PySem.W.kitOne K (.ref C_NoNumber) (.ref C_NoCount) = some false
  k2_NoName : PySem.W.kitOne K (.ref C_NoNumber) (.ref C_NoName) = some false
  x_NoNumber : ExcC K C_NoNumber
  x_TooMany : ExcC K C_TooMany
  g_MOST_L : ∃ t, mg "MOST_LISTED" = some (.int 400 t)
def spWhole : Sp := fun vs H Q _ => ∃ (a : Int), vs = [.int a] ∧ Q (.bl true) H
def oneHot (j : Nat) : List Bool := (List.range 18).map fun k => k == 0 || k == j
def spOnly : Sp := fun vs H Q _ => ∃ (j : Nat), vs = [.int j] ∧ j < 18 ∧ ∀ l H', Same H H' → H l = none → H' l = some (.lst ((oneHot j).map V.bl)) → Q (.ref l) H'
theorem step4 {K : PySem.W.Frag} {C e l : Addr} {dv : Option Addr} {xs : List V} {H : Hp} {c1 c2 c3 c4 : V} {v1 v2 v3 v4 : Value} {b1 b2 b3 b4 : Bool} {R : VK} (he : H e = some (excD e (.ref C) dv)) (hl : H l = some (.lst xs)) (hn : xs.length ≤ 100) (x : XCls K C)
    (d1 : clsV c1 = some v1) (k1 : PySem.W.kitOne K (.ref C) v1 = some b1) (d2 : clsV c2 = some v2) (k2 : PySem.W.kitOne K (.ref C) v2 = some b2) (d3 : clsV c3 = some v3) (k3 : PySem.W.kitOne K (.ref C) v3 = some b3) (d4 : clsV c4 = some v4) (k4 : PySem.W.kitOne K (.ref C) v4 = some b4)
    (h : ∀ l' H', Same H H' → H l' = none → H' e = some (excD e (.ref C) dv) → H' l' = some (.lst (xs ++ [.bl b1, .bl b2, .bl b3, .bl b4])) → R (.ref l') H') :
    rIsi K [.ref e, c1] H fun x1 H1 => rIsi K [.ref e, c2] H1 fun x2 H2 => rIsi K [.ref e, c3] H2 fun x3 H3 => rIsi K [.ref e, c4] H3 fun x4 H4 => 4 ≤ sizeLine ∧ ∀ p, H4 p = none → rCat (.ref l) (.ref p) (upd H4 p (.lst [x1, x2, x3, x4])) R := by
  refine isi_x he x d1 k1 (isi_x he x d2 k2 (isi_x he x d3 k3 (isi_x he x d4 k4 ⟨sz_le 4 (by decide), fun p n => ?_⟩)))
  have s1 : Same H (upd H p (.lst [.bl b1, .bl b2, .bl b3, .bl b4])) := same_upd n
  refine ⟨l, p, _, _, rfl, rfl, s1 _ _ hl, upd_same, sz_le _ (by simp; omega), fun q m => ?_⟩
  have s2 := s1.trans (same_upd (o := .lst (xs ++ [.bl b1, .bl b2, .bl b3, .bl b4])) m)
  exact h q _ s2 (s1.free m) (s2 _ _ he) upd_same
theorem step1 {K : PySem.W.Frag} {C e l : Addr} {dv : Option Addr} {xs : List V} {H : Hp} {c1 : V} {v1 : Value} {b1 : Bool} {R : VK} (he : H e = some (excD e (.ref C) dv)) (hl : H l = some (.lst xs)) (hn : xs.length ≤ 100) (x : XCls K C)
    (d1 : clsV c1 = some v1) (k1 : PySem.W.kitOne K (.ref C) v1 = some b1) (h : ∀ l' H', Same H H' → H l' = none → H' e = some (excD e (.ref C) dv) → H' l' = some (.lst (xs ++ [.bl b1])) → R (.ref l') H') :
    rIsi K [.ref e, c1] H fun x1 H1 => 1 ≤ sizeLine ∧ ∀ p, H1 p = none → rCat (.ref l) (.ref p) (upd H1 p (.lst [x1])) R := by
  refine isi_x he x d1 k1 ⟨sz_le 1 (by decide), fun p n => ?_⟩
  have s1 : Same H (upd H p (.lst [.bl b1])) := same_upd n
  refine ⟨l, p, _, _, rfl, rfl, s1 _ _ hl, upd_same, sz_le _ (by simp; omega), fun q m => ?_⟩
  have s2 := s1.trans (same_upd (o := .lst (xs ++ [.bl b1])) m)
  exact h q _ s2 (s1.free m) (s2 _ _ he) upd_same
def stp (c : Nat) (h : Int) : Option Int := if c = 100 then (if h - 1 < 0 then none else some (h - 1)) else if c = 108 then some h else if c = 117 then some (h + 1) else none
def riseOf (c : Nat) : Option Int := if c = 100 then some (-1) else if c = 108 then some 0 else if c = 117 then some 1 else none
def ht (x : Str) (h0 : Int) : Nat → Option Int
  | 0 => some h0
  | k + 1 => (ht x h0 k).bind fun h => (x.cps[k]?).bind fun c => stp c h
theorem ht_nn {x : Str} {h0 : Int} (h : 0 ≤ h0) : ∀ k v, ht x h0 k = some v → 0 ≤ v
  | 0, v, e => by cases e; exact h
  | k + 1, v, e => by
    unfold ht at e
    obtain ⟨a, ea, e⟩ := Option.bind_eq_some_iff.mp e
    obtain ⟨c, ec, e⟩ := Option.bind_eq_some_iff.mp e
    have := ht_nn h k a ea
    unfold stp at e
    split at e
    · split at e
      · cases e
      · cases e; omega
    · split at e
      · cases e; exact this
      · split at e
        · cases e; omega
        · cases e
theorem stp_rise {c : Nat} {h : Int} (hh : 0 ≤ h) : stp c h = (riseOf c).bind fun r => if h + r < 0 then none else some (h + r) := by
  unfold stp riseOf
  by_cases a : c = 100
  · rw [if_pos a, if_pos a]; simp only [Option.bind_some]; rw [show h + -1 = h - 1 by omega]
  · rw [if_neg a, if_neg a]
    by_cases b : c = 108
    · rw [if_pos b, if_pos b]; simp only [Option.bind_some]; rw [if_neg (by omega), Int.add_zero]
    · rw [if_neg b, if_neg b]
      by_cases d : c = 117
      · rw [if_pos d, if_pos d]; simp only [Option.bind_some]; rw [if_neg (by omega)]
      · rw [if_neg d, if_neg d]; rfl
theorem one_eq (c : Nat) (y : Str) (h : y.cps.toList = [d]) : ((⟨#[c]⟩ : Str) = y) ↔ c = d := by
  constructor
  · intro e; rw [← e] at h; simpa using h
  · intro e
    subst e
    refine PySem.Str.ext' (Array.ext' ?_)
    rw [h]
theorem rises_at (c : Nat) : valV rises (.inr (⟨#[c]⟩ : Str)) = (riseOf c).map V.int := by
  have hd : ((⟨#[c]⟩ : Str) = Str.ofString "d") ↔ c = 100 := one_eq c _ (by decide)
  have hl : ((⟨#[c]⟩ : Str) = Str.ofString "l") ↔ c = 108 := one_eq c _ (by decide)
  have hu : ((⟨#[c]⟩ : Str) = Str.ofString "u") ↔ c = 117 := one_eq c _ (by decide)
  unfold rises valV riseOf
  by_cases a : c = 100
  · rw [if_pos a, hd.mpr a]; rfl
  · rw [if_neg a]
    by_cases b : c = 108
    · rw [if_pos b, hl.mpr b]; decide
    · rw [if_neg b]
      by_cases d : c = 117
      · rw [if_pos d, hu.mpr d]; decide
      · rw [if_neg d]
        have n1 : ¬ ((Sum.inr (Str.ofString "d") : Key) = Sum.inr (⟨#[c]⟩ : Str)) := fun e => a (hd.mp (Sum.inr.inj e).symm)
        have n2 : ¬ ((Sum.inr (Str.ofString "l") : Key) = Sum.inr (⟨#[c]⟩ : Str)) := fun e => b (hl.mp (Sum.inr.inj e).symm)
        have n3 : ¬ ((Sum.inr (Str.ofString "u") : Key) = Sum.inr (⟨#[c]⟩ : Str)) := fun e => d (hu.mp (Sum.inr.inj e).symm)
        simp [n1, n2, n3]
def htL (x : Str) (h0 : Int) (k : Nat) : List V := (List.range (k + 1)).map fun j => .int ((ht x h0 j).getD 0)
theorem htL_len (x : Str) (h0 : Int) (k : Nat) : (htL x h0 k).length = k + 1 := by simp [htL]
theorem htL_at {x : Str} {h0 : Int} {k j : Nat} (h : j ≤ k) : (htL x h0 k)[j]? = some (.int ((ht x h0 j).getD 0)) := by simp [htL, show j < k + 1 by omega]
theorem htL_succ (x : Str) (h0 : Int) (k : Nat) : htL x h0 (k + 1) = htL x h0 k ++ [.int ((ht x h0 (k + 1)).getD 0)] := by simp [htL, List.range_succ]
def spInit (C : Addr) (f : Str) : Sp := fun vs H Q _ => ∃ (e : Addr) (n : Int), vs = [.ref e, .int n] ∧ H e = some (rawX e (.ref C) none) ∧ 0 ≤ n ∧ n < 1000 ∧ ∀ d, H d = none → d ≠ e → Q .non (upd (upd H e (rawX e (.ref C) (some d))) d (.xd [(f, .int n)]))
theorem raiseN {C : Addr} {E : XK} {H H1 : Hp} {f : Str} {n : Int} (h0 : 0 ≤ n) (h1 : n < 1000) (sm : Same H H1) (no : ∀ d H', Same H H' → H d = none → H' d = some (.xd [(f, .int n)]) → E (.ref C) (some d) H') :
    ∀ e, H1 e = none → spInit C f [.ref e, .int n] (upd H1 e (rawX e (.ref C) none)) (fun r H2 => r = .non ∧ ∃ dv, H2 e = some (rawX e (.ref C) dv) ∧ E (.ref C) dv (era H2 e)) E0 := fun e he =>
  ⟨e, n, rfl, upd_same, h0, h1, fun d hd nd => ⟨rfl, some d, by rw [upd_ne (Ne.symm nd), upd_same], no d _ (fun b o z => by
      have z1 := sm b o z
      have n1 := ne_of_none z1 he
      have hd1 : H1 d = none := by rw [upd_ne nd] at hd; exact hd
      rw [era_ne n1, upd_ne (ne_of_none z1 hd1), upd_ne n1, upd_ne n1]
      exact z1) (sm.free (by rw [upd_ne nd] at hd; exact hd)) (by rw [era_ne nd, upd_same])⟩⟩
def asc (x : Str) : Prop := x.cps.all (· < 128) = true
theorem asc_iff (x : Str) : asc x ↔ ∀ c ∈ x.cps.toList, c < 128 := by
  unfold asc
  rw [← Array.all_toList, List.all_eq_true]
  simp
theorem asc_app {x y : Str} (h : asc x) (k : asc y) : asc (x ++ y) := by
  rw [asc_iff] at *
  intro c hc
  have hc : c ∈ (x.cps ++ y.cps).toList := hc
  rw [Array.toList_append, List.mem_append] at hc
  exact hc.elim (h c) (k c)
theorem asc_one {c : Nat} (h : c < 128) : asc ⟨#[c]⟩ := by
  rw [asc_iff]
  intro d hd
  have hd : d ∈ [c] := hd
  rw [List.mem_singleton.mp hd]
  exact h
theorem asc_slice {x : Str} (lo hi : Option Int) (h : asc x) : asc (Txt.slice x lo hi) := by
  unfold Txt.slice
  split
  · exact h
  · rw [asc_iff] at *
    intro c hc
    obtain ⟨i, _, hi⟩ := List.mem_filterMap.mp (show c ∈ List.filterMap _ _ from hc)
    exact h c (by rw [Array.mem_toList_iff]; exact Array.mem_of_getElem? hi)
theorem inv_uld (c : Nat) : inV (.str ⟨#[c]⟩) [.str (Str.ofString "u"), .str (Str.ofString "l"), .str (Str.ofString "d")] = (riseOf c).isSome := by
  have hd : ((⟨#[c]⟩ : Str) = Str.ofString "d") ↔ c = 100 := one_eq c _ (by decide)
  have hl : ((⟨#[c]⟩ : Str) = Str.ofString "l") ↔ c = 108 := one_eq c _ (by decide)
  have hu : ((⟨#[c]⟩ : Str) = Str.ofString "u") ↔ c = 117 := one_eq c _ (by decide)
  have hd' : (Str.ofString "d" = (⟨#[c]⟩ : Str)) ↔ c = 100 := Iff.trans ⟨Eq.symm, Eq.symm⟩ hd
  have hl' : (Str.ofString "l" = (⟨#[c]⟩ : Str)) ↔ c = 108 := Iff.trans ⟨Eq.symm, Eq.symm⟩ hl
  have hu' : (Str.ofString "u" = (⟨#[c]⟩ : Str)) ↔ c = 117 := Iff.trans ⟨Eq.symm, Eq.symm⟩ hu
  unfold riseOf
  by_cases a : c = 100
  · subst a; simp only [inV, eqV, List.any_cons, List.any_nil]; decide
  · by_cases b : c = 108
    · subst b; simp only [inV, eqV, List.any_cons, List.any_nil]; decide
    · by_cases d : c = 117
      · subst d; simp only [inV, eqV, List.any_cons, List.any_nil]; decide
      · simp [inV, eqV, hd', hl', hu', a, b, d]
theorem pe_xgK {X : Cx} {o : Expr} {f : Str} {ta : TE} {pos : Pos} (K : PySem.W.Frag) (ha : PE X o ta) (hb : attributeBase o f X.env (eval o X.env) = eval o X.env := by rfl) (hK : X.K = K := by rfl) : PE X (.Attribute o f pos) (tXget K ta f) := by
  subst hK
  exact pe_xget ha hb
def spAlong (K : PySem.W.Frag) (C : Addr) : Sp := fun vs H Q E => ∃ (x : Str) (h0 : Int), vs = [.str x, .int h0] ∧ 0 ≤ h0 ∧ x.cps.size ≤ 100 ∧ asc x ∧
  (∀ k, k < x.cps.size → (∀ j, j ≤ k → (ht x h0 j).isSome = true) → ht x h0 (k + 1) = none → ∀ d H', Same H H' → H d = none → H' d = some (.xd [("at", .int k)]) → E (.ref C) (some d) H') ∧
  ((∀ j, j ≤ x.cps.size → (ht x h0 j).isSome = true) → ∀ p H', Same H H' → H' p = some (.tup (htL x h0 x.cps.size)) → Q (.ref p) H')
def spHts (K : PySem.W.Frag) (C : Addr) : Sp := fun vs H Q E => ∃ (x : Str) (h0 last : Int), vs = [.str x, .int h0, .int last] ∧ 0 ≤ h0 ∧ x.cps.size ≤ 100 ∧ asc x ∧
  (∀ k, k < x.cps.size → (∀ j, j ≤ k → (ht x h0 j).isSome = true) → ht x h0 (k + 1) = none → ∀ d H', Same H H' → H d = none → H' d = some (.xd [("at", .int k)]) → E (.ref C) (some d) H') ∧
  ((∀ j, j ≤ x.cps.size → (ht x h0 j).isSome = true) → ht x h0 x.cps.size ≠ some last → ∀ d H', Same H H' → H d = none → H' d = some (.xd [("at", .int x.cps.size)]) → E (.ref C) (some d) H') ∧
  ((∀ j, j ≤ x.cps.size → (ht x h0 j).isSome = true) → ht x h0 x.cps.size = some last → ∀ p H', Same H H' → H' p = some (.tup (htL x h0 x.cps.size)) → Q (.ref p) H')
def spRise : Sp := fun vs H Q _ => ∃ (c : Nat) (r : Int), vs = [.str ⟨#[c]⟩] ∧ riseOf c = some r ∧ ∀ H', Same H H' → Q (.int r) H'
theorem kd_rises {w : World} {K : PySem.W.Frag} {R : Addr} {h1 h2 h3 : Int} {t1 t2 t3 u1 u2 u3 : Tok} {ep : Nat}
    (l : K.lookup R = some ⟨.type "dict", none, .dict #[⟨h1, .str "d" t1, .int (-1) u1⟩, ⟨h2, .str "l" t2, .int 0 u2⟩, ⟨h3, .str "u" t3, .int 1 u3⟩] ep, #[]⟩)
    (e1 : h1 = hashStr w "d") (e2 : h2 = hashStr w "l") (e3 : h3 = hashStr w "u") (sm : (R == sysModules) = false) : KD w K R rises := by
  subst e1 e2 e3
  refine ⟨⟨_, _, ep, [(.inr (Str.ofString "d"), .int (-1) u1), (.inr (Str.ofString "l"), .int 0 u2), (.inr (Str.ofString "u"), .int 1 u3)], l, ⟨rfl, rfl, rfl⟩, rfl, fun P e he => ?_, fun P => .cons (keyIs_str _ t1) rfl (.cons (keyIs_str _ t2) rfl (.cons (keyIs_str _ t3) rfl .nil)), (show ([Sum.inr (Str.ofString "d"), Sum.inr (Str.ofString "l"), Sum.inr (Str.ofString "u")] : List Key).Nodup by decide), .cons ⟨rfl, ⟨_, rfl⟩⟩ (.cons ⟨rfl, ⟨_, rfl⟩⟩ (.cons ⟨rfl, ⟨_, rfl⟩⟩ .nil))⟩, sm⟩
  have he : e ∈ [(⟨hashStr w "d", .str "d" t1, .int (-1) u1⟩ : DictEntry), ⟨hashStr w "l", .str "l" t2, .int 0 u2⟩, ⟨hashStr w "u", .str "u" t3, .int 1 u3⟩] := Array.mem_toList_iff.mpr he
  rcases List.mem_cons.mp he with rfl | he
  · exact ⟨.inr "d", keyIs_str _ t1, rfl⟩
  rcases List.mem_cons.mp he with rfl | he
  · exact ⟨.inr "l", keyIs_str _ t2, rfl⟩
  rcases List.mem_cons.mp he with rfl | he
  · exact ⟨.inr "u", keyIs_str _ t3, rfl⟩
  exact nomatch he
def spStir2 (K : PySem.W.Frag) : Sp := fun vs H Q _ => ∃ (a : Addr) (ns : List Int) (k : Int), vs = [.ref a, .int k] ∧ SqL K H a (ns.map V.int) ∧ 0 ≤ k ∧ k ≤ 1000 ∧ ∀ d : Int, 0 ≤ d → d < 1000000007 → Q (.int d) H
def spRow (K : PySem.W.Frag) : Sp := fun vs H Q _ => ∃ (a : Addr) (ns : List Int) (k many size : Int), vs = [.ref a, .int k, .int many, .int size] ∧ SqL K H a (ns.map V.int) ∧ 0 ≤ k ∧ k ≤ 100 ∧ 0 ≤ many ∧ many ≤ 20 ∧ 0 < size ∧ size < 1000000000 ∧
  ∀ D H' (cs : List Int), Same H H' → H D = none → H' D = some (.lst (cs.map V.int)) → cs.length = many.toNat → (∀ c ∈ cs, 0 ≤ c ∧ c < size) → Q (.ref D) H'
def spWithin : Sp := fun vs H Q _ => ∃ (h : Int) (b : Option Int), vs = [.int h, bV b] ∧ Q (.bl (wi b h)) H
def spOneStep : Sp := fun vs H Q _ => ∃ (a : Addr) (ps : List (Int × Int)) (b : Option Int) (N : Nat), vs = [.ref a, bV b] ∧ H a = some (.dK (dk ps)) ∧ Kin N ps ∧ N ≤ 800 ∧
  ∀ p H', Same H H' → H p = none → H' p = some (.dK (dk (one b ps))) → Q (.ref p) H'
def spToGo : Sp := fun vs H Q _ => ∃ (n : Nat) (last : Int) (b : Option Int), vs = [.int n, .int last, bV b] ∧ n ≤ 400 ∧ last < 100 ∧ ∀ p H', Same H H' → H p = none → DL H' b last n p → Q (.ref p) H'
def spCounted : Sp := fun vs H Q _ => ∃ (n : Nat) (first last : Int) (b : Option Int), vs = [.int n, .int first, .int last, bV b] ∧ n ≤ 400 ∧ last < 100 ∧ ∀ H', Same H H' → Q (.int (cnt b last n first)) H'
theorem rises_i {i : Nat} {k : Key} {v : V} (h : rises[i]? = some (k, v)) : ∃ r, rs3[i]? = some r ∧ v = .int r ∧ valV rises k = some (.int r) := by
  have hi : i < 3 := (List.getElem?_eq_some_iff.mp h).1
  rcases (show i = 0 ∨ i = 1 ∨ i = 2 by omega) with rfl | rfl | rfl
  · cases h; exact ⟨_, rfl, rfl, by decide⟩
  · cases h; exact ⟨_, rfl, rfl, by decide⟩
  · cases h; exact ⟨_, rfl, rfl, by decide⟩
theorem take_foldl {α β : Type} {f : β → α → β} {l : List α} {i : Nat} {x : α} (h : l[i]? = some x) (q : β) : (l.take (i + 1)).foldl f q = f ((l.take i).foldl f q) x := by
  rw [List.take_add_one, h]
  simp
theorem dk_len (ps : List (Int × Int)) : (dk ps).length = ps.length := by simp [dk]
theorem dk_i {ps : List (Int × Int)} {i : Nat} {k : Key} {v : V} (h : (dk ps)[i]? = some (k, v)) : ∃ p, ps[i]? = some p ∧ k = .inl p.1 ∧ v = .int p.2 := by
  unfold dk at h
  rw [List.getElem?_map] at h
  cases q : ps[i]? with
  | none => rw [q] at h; cases h
  | some p => rw [q] at h; cases h; exact ⟨p, rfl, rfl, rfl⟩
def spWayAt (K : PySem.W.Frag) : Sp := fun vs H Q _ => ∃ (p : Addr) (b : Option Int) (last first r : Int) (n : Nat), vs = [.ref p, .int first, .int r] ∧ DL H b last n p ∧ n ≤ 100 ∧ 0 ≤ r ∧ r < cnt b last n first ∧ ∀ H', Same H H' → Q (.str ⟨(ur b last n first r).toArray⟩) H'
theorem cutV_lst (xs : List V) (n : Nat) (h : xs.length = n + 1) : cutV xs none (some (-1)) = xs.take n := by
  unfold cutV
  simp [HT.sIx, h]
  omega
theorem rises_c {i : Nat} {k : Key} {v : V} (h : rises[i]? = some (k, v)) : ∃ (r : Int) (c : Nat), rs3[i]? = some r ∧ codes3[i]? = some c ∧ v = .int r ∧ valV rises k = some (.int r) ∧ kV k = .str ⟨#[c]⟩ := by
  have hi : i < 3 := (List.getElem?_eq_some_iff.mp h).1
  rcases (show i = 0 ∨ i = 1 ∨ i = 2 by omega) with rfl | rfl | rfl
  · cases h; exact ⟨_, _, rfl, rfl, rfl, by decide, rfl⟩
  · cases h; exact ⟨_, _, rfl, rfl, rfl, by decide, rfl⟩
  · cases h; exact ⟨_, _, rfl, rfl, rfl, by decide, rfl⟩
def wl (b : Option Int) (last : Int) (n : Nat) (first : Int) : List V := (List.range (cnt b last n first).toNat).map fun (r : Nat) => .str ⟨(ur b last n first r).toArray⟩
def spListed (K : PySem.W.Frag) (C : Addr) : Sp := fun vs H Q E => ∃ (n : Nat) (first last : Int) (b : Option Int), vs = [.int n, .int first, .int last, bV b] ∧ n ≤ 40 ∧ last < 100 ∧
  (400 < cnt b last n first → ∀ H', Same H H' → E (.ref C) none H') ∧ (cnt b last n first ≤ 400 → ∀ D H', Same H H' → H D = none → H' D = some (.lst (wl b last n first)) → Q (.ref D) H')
def bad10 (x : Str) (k : Nat) : Prop := k < x.cps.size ∧ (∀ j, j ≤ k → (ht x 0 j).isSome = true) ∧ ht x 0 (k + 1) = none
def all10 (x : Str) : Prop := ∀ j, j ≤ x.cps.size → (ht x 0 j).isSome = true
theorem ht_hgt {x : Str} : ∀ (j : Nat) (v : Int), ht x 0 j = some v → hgt x.cps.toList 0 j = v
  | 0, v, e => by cases e; rfl
  | j + 1, v, e => by
    unfold ht at e
    obtain ⟨a, ea, e⟩ := Option.bind_eq_some_iff.mp e
    obtain ⟨c, ec, e⟩ := Option.bind_eq_some_iff.mp e
    rw [hgt, ht_hgt j a ea, Array.getElem?_toList, ec, Option.getD_some]
    have a0 := ht_nn (Int.le_refl 0) j a ea
    rw [stp_rise a0] at e
    have e2 : riseOf c = rsC c := rfl
    rw [e2] at e
    obtain ⟨r, er, e⟩ := Option.bind_eq_some_iff.mp e
    rw [er]
    split at e
    · cases e
    · cases e; rfl
theorem okW_of {last : Int} : ∀ {cs : List Nat} {h : Int}, (∀ c ∈ cs, (rsC c).isSome = true) → (∀ k, k ≤ cs.length → 0 ≤ hgt cs h k) → hgt cs h cs.length = last → okW none last cs h
  | [], h, _, hk, e => ⟨e, by have : 0 ≤ h := hk 0 (Nat.le_refl _); simpa [wi] using this⟩
  | c :: cs, h, hc, hk, e => by
    obtain ⟨r, er⟩ := Option.isSome_iff_exists.mp (hc c (by simp))
    refine ⟨by have : 0 ≤ h := hk 0 (Nat.zero_le _); simpa [wi] using this, r, er, okW_of (fun x hx => hc x (by simp [hx])) (fun k hl => ?_) ?_⟩
    · have := hk (k + 1) (by simpa using hl)
      rw [hgt_cons, er] at this
      exact this
    · rw [List.length_cons, hgt_cons, er] at e
      exact e
theorem all_codes {x : Str} (h : all10 x) : ∀ c ∈ x.cps.toList, (rsC c).isSome = true := fun c hc => by
  obtain ⟨j, hj, rfl⟩ := List.mem_iff_getElem.mp hc
  have hj2 : j < x.cps.size := by simpa using hj
  obtain ⟨u, hu⟩ := Option.isSome_iff_exists.mp (h (j + 1) (by omega))
  obtain ⟨v, hv⟩ := Option.isSome_iff_exists.mp (h j (by omega))
  have v0 := ht_nn (Int.le_refl 0) j v hv
  unfold ht at hu
  rw [hv] at hu
  obtain ⟨c, ec, e⟩ := Option.bind_eq_some_iff.mp (show (x.cps[j]?).bind _ = _ from hu)
  rw [stp_rise v0] at e
  obtain ⟨r, er, _⟩ := Option.bind_eq_some_iff.mp e
  have : x.cps.toList[j] = c := by
    rw [Array.getElem?_eq_getElem hj2] at ec
    simpa using ec
  rw [this]
  exact Option.isSome_iff_exists.mpr ⟨r, er⟩
theorem all_okW {x : Str} (h : all10 x) (e : ht x 0 x.cps.size = some 0) : okW none 0 x.cps.toList 0 := by
  refine okW_of (all_codes h) (fun k hk => ?_) ?_
  · obtain ⟨v, hv⟩ := Option.isSome_iff_exists.mp (h k (by simpa using hk))
    rw [ht_hgt k v hv]
    exact ht_nn (Int.le_refl 0) k v hv
  · have := ht_hgt _ _ e
    simpa using this
theorem okW_ht {last : Int} : ∀ (j : Nat) (x : Str), okW none last x.cps.toList 0 → j ≤ x.cps.size → ht x 0 j = some (hgt x.cps.toList 0 j)
  | 0, x, _, _ => rfl
  | j + 1, x, ok, hj => by
    have ih := okW_ht j x ok (by omega)
    have w := wi_nn (okW_hgt ok (j + 1) (by simpa using hj))
    have w0 := wi_nn (okW_hgt ok j (by simp; omega))
    have hc : x.cps[j]? = some x.cps[j] := Array.getElem?_eq_getElem (by omega)
    have hcl : x.cps.toList[j]? = some x.cps[j] := by rw [Array.getElem?_toList]; exact hc
    have cc := okW_mem ok x.cps[j] (List.mem_of_getElem? hcl)
    generalize x.cps[j] = c at *
    rw [ht, ih]
    show (x.cps[j]?).bind _ = _
    rw [hc]
    show stp c _ = _
    rw [stp_rise w0]
    rw [hgt, hcl, Option.getD_some] at w ⊢
    obtain ⟨r, er⟩ : ∃ r, rsC c = some r := by rcases cc with rfl | rfl | rfl <;> exact ⟨_, rfl⟩
    have e2 : riseOf c = rsC c := rfl
    rw [e2, er]
    rw [er] at w
    simp only [Option.bind_some, Option.getD_some] at w ⊢
    rw [if_neg (by omega)]
theorem cnt_one : ∀ n : Nat, 1 ≤ cnt none 0 n 0
  | 0 => by decide
  | n + 1 => by
    have := cnt_one n
    have a := cnt_nn none 0 n (0 - 1)
    have b := cnt_nn none 0 n (0 + 1)
    rw [cnt, if_pos (by decide)]
    omega
def lt3 (m : Nat) (h : Int) (c : Nat) : Nat → List Int
  | 0 => []
  | 1 => if 100 < c then [cnt none 0 m (h - 1)] else []
  | 2 => (if 100 < c then [cnt none 0 m (h - 1)] else []) ++ (if 108 < c then [cnt none 0 m h] else [])
  | _ => (if 100 < c then [cnt none 0 m (h - 1)] else []) ++ (if 108 < c then [cnt none 0 m h] else []) ++ (if 117 < c then [cnt none 0 m (h + 1)] else [])
theorem lt3_succ {m : Nat} {h : Int} {c i c' : Nat} {r : Int} (e1 : rs3[i]? = some r) (e2 : codes3[i]? = some c') : lt3 m h c (i + 1) = lt3 m h c i ++ (if c' < c then [cnt none 0 m (h + r)] else []) := by
  have hi : i < 3 := (List.getElem?_eq_some_iff.mp e1).1
  rcases (show i = 0 ∨ i = 1 ∨ i = 2 by omega) with rfl | rfl | rfl
  · cases e1; cases e2
    rw [show h + -1 = h - 1 by omega]; simp [lt3]
  · cases e1; cases e2
    rw [Int.add_zero]; simp [lt3]
  · cases e1; cases e2
    simp [lt3]
theorem lt3_sum {m : Nat} {h : Int} {c : Nat} (cc : c = 100 ∨ c = 108 ∨ c = 117) : (lt3 m h c 3).sum = lower none 0 m c h := by
  rcases cc with rfl | rfl | rfl <;> simp [lt3, lower]
theorem one_lt (a b : Nat) : ((⟨#[a]⟩ : Str).cps < (⟨#[b]⟩ : Str).cps) ↔ a < b := by
  show List.Lex (· < ·) [a] [b] ↔ _
  constructor
  · intro h
    cases h with
    | rel h => exact h
    | cons h => cases h
  · exact fun h => List.Lex.rel h
def spNumber (K : PySem.W.Frag) (C : Addr) : Sp := fun vs H Q E => ∃ (x : Str), vs = [.str x] ∧ x.cps.size ≤ 40 ∧ asc x ∧
  (∀ k, bad10 x k → ∀ d H', Same H H' → H d = none → H' d = some (.xd [("at", .int k)]) → E (.ref C) (some d) H') ∧
  (all10 x → ht x 0 x.cps.size ≠ some 0 → ∀ d H', Same H H' → H d = none → H' d = some (.xd [("at", .int x.cps.size)]) → E (.ref C) (some d) H') ∧
  (all10 x → ht x 0 x.cps.size = some 0 → ∀ H', Same H H' → Q (.int (rk none 0 x.cps.toList 0)) H')
def spWayBy (K : PySem.W.Frag) (C : Addr) : Sp := fun vs H Q E => ∃ (n : Nat) (r : Int), vs = [.int n, .int r] ∧ n ≤ 40 ∧
  (¬ (0 ≤ r ∧ r < cnt none 0 n 0) → ∀ H', Same H H' → E (.ref C) none H') ∧ (0 ≤ r → r < cnt none 0 n 0 → ∀ H', Same H H' → Q (.str ⟨(ur none 0 n 0 r).toArray⟩) H')
def spMarks2 (C C2 : Addr) : Sp := fun vs H Q _ => ∃ (e : Addr) (dv : Option Addr), vs = [.ref e] ∧ ((H e = some (excD e (.ref C) dv) ∧ ∀ l H', Same H H' → H l = none → H' l = some (.lst ((oneHot 13).map V.bl)) → Q (.ref l) H') ∨ (H e = some (excD e (.ref C2) dv) ∧ ∀ l H', Same H H' → H l = none → H' l = some (.lst ((oneHot 4).map V.bl)) → Q (.ref l) H'))
def spBy10 (K : PySem.W.Frag) : Sp := fun vs H Q _ => ∃ (n : Nat) (r : Int), vs = [.int n, .int r] ∧ n ≤ 40 ∧
  (¬ (0 ≤ r ∧ r < cnt none 0 n 0) → ∀ l H', Same H H' → H' l = some (.lst ((oneHot 4).map V.bl)) → Q (.ref l) H') ∧ (0 ≤ r → r < cnt none 0 n 0 → ∀ H', Same H H' → Q (.str ⟨(ur none 0 n 0 r).toArray⟩) H')
def spNum10 (K : PySem.W.Frag) : Sp := fun vs H Q _ => ∃ (x : Str), vs = [.str x] ∧ x.cps.size ≤ 40 ∧ asc x ∧
  (∀ k, bad10 x k → ∀ t l H', Same H H' → H' t = some (.tup [.ref l, .int k]) → H' l = some (.lst ((oneHot 13).map V.bl)) → Q (.ref t) H') ∧
  (all10 x → ht x 0 x.cps.size ≠ some 0 → ∀ t l H', Same H H' → H' t = some (.tup [.ref l, .int x.cps.size]) → H' l = some (.lst ((oneHot 13).map V.bl)) → Q (.ref t) H') ∧
  (all10 x → ht x 0 x.cps.size = some 0 → ∀ H', Same H H' → Q (.int (rk none 0 x.cps.toList 0)) H')
def spPlace (K : PySem.W.Frag) : Sp := fun vs H Q _ => ∃ (x : Str), vs = [.str x] ∧ x.cps.size ≤ 100 ∧
  (∀ k, bad10 x k → ∀ H', Same H H' → Q (.int k) H') ∧ (all10 x → ht x 0 x.cps.size ≠ some 0 → ∀ H', Same H H' → Q (.int x.cps.size) H') ∧ (all10 x → ht x 0 x.cps.size = some 0 → ∀ H', Same H H' → Q .non H')
def Ref10 (x : Str) (m : Nat) : Prop := bad10 x m ∨ (all10 x ∧ ht x 0 x.cps.size ≠ some 0 ∧ m = x.cps.size)
theorem pre10 (x : Str) : ∀ n : Nat, (∀ j, j ≤ n → (ht x 0 j).isSome = true) ∨ ∃ k, k < n ∧ (∀ j, j ≤ k → (ht x 0 j).isSome = true) ∧ ht x 0 (k + 1) = none
  | 0 => .inl fun j hj => (show j = 0 by omega) ▸ rfl
  | n + 1 => by
    rcases pre10 x n with h | ⟨k, hk, h⟩
    · cases e : ht x 0 (n + 1) with
      | none => exact .inr ⟨n, by omega, h, e⟩
      | some v =>
        refine .inl fun j hj => ?_
        by_cases z : j = n + 1
        · rw [z, e]; rfl
        · exact h j (by omega)
    · exact .inr ⟨k, by omega, h⟩
theorem cls10 (x : Str) : (∃ m, m ≤ x.cps.size ∧ Ref10 x m) ∨ (all10 x ∧ ht x 0 x.cps.size = some 0) := by
  rcases pre10 x x.cps.size with h | ⟨k, hk, h⟩
  · by_cases e : ht x 0 x.cps.size = some 0
    · exact .inr ⟨h, e⟩
    · exact .inl ⟨_, Nat.le_refl _, .inr ⟨h, e, rfl⟩⟩
  · exact .inl ⟨k, by omega, .inl ⟨hk, h⟩⟩
theorem bad_uniq {x : Str} {k k' : Nat} (h : bad10 x k) (h' : bad10 x k') : k = k' := by
  have a : ∀ {i j : Nat}, bad10 x i → bad10 x j → ¬ i < j := fun {i j} hi hj lt => by
    have := hj.2.1 (i + 1) lt
    rw [hi.2.2] at this
    cases this
  have := a h h'
  have := a h' h
  omega
theorem bad_all {x : Str} {k : Nat} (h : bad10 x k) (al : all10 x) : False := by
  have := al (k + 1) (by have := h.1; omega)
  rw [h.2.2] at this
  cases this
theorem num_ref {K : PySem.W.Frag} {x : Str} {m : Nat} {H : Hp} {Q : VK} (hx : x.cps.size ≤ 40) (ax : asc x) (r : Ref10 x m) (hq : ∀ t l H', Same H H' → H' t = some (.tup [.ref l, .int m]) → H' l = some (.lst ((oneHot 13).map V.bl)) → Q (.ref t) H') : spNum10 K [.str x] H Q E0 := by
  rcases r with hb | ⟨al, ne, rfl⟩
  · exact ⟨x, rfl, hx, ax, fun k hk => bad_uniq hb hk ▸ hq, fun al => (bad_all hb al).elim, fun al => (bad_all hb al).elim⟩
  · exact ⟨x, rfl, hx, ax, fun k hk => (bad_all hk al).elim, fun _ _ => hq, fun _ e => (ne e).elim⟩
theorem num_ok {K : PySem.W.Frag} {x : Str} {H : Hp} {Q : VK} (hx : x.cps.size ≤ 40) (ax : asc x) (al : all10 x) (e : ht x 0 x.cps.size = some 0) (hq : ∀ H', Same H H' → Q (.int (rk none 0 x.cps.toList 0)) H') : spNum10 K [.str x] H Q E0 :=
  ⟨x, rfl, hx, ax, fun k hk => (bad_all hk al).elim, fun _ ne => (ne e).elim, fun _ _ => hq⟩
theorem place_ref {K : PySem.W.Frag} {x : Str} {m : Nat} {H : Hp} {Q : VK} (hx : x.cps.size ≤ 100) (r : Ref10 x m) (hq : ∀ H', Same H H' → Q (.int m) H') : spPlace K [.str x] H Q E0 := by
  rcases r with hb | ⟨al, ne, rfl⟩
  · exact ⟨x, rfl, hx, fun k hk => bad_uniq hb hk ▸ hq, fun al => (bad_all hb al).elim, fun al => (bad_all hb al).elim⟩
  · exact ⟨x, rfl, hx, fun k hk => (bad_all hk al).elim, fun _ _ => hq, fun _ e => (ne e).elim⟩
theorem place_ok {K : PySem.W.Frag} {x : Str} {H : Hp} {Q : VK} (hx : x.cps.size ≤ 100) (al : all10 x) (e : ht x 0 x.cps.size = some 0) (hq : ∀ H', Same H H' → Q .non H') : spPlace K [.str x] H Q E0 :=
  ⟨x, rfl, hx, fun k hk => (bad_all hk al).elim, fun _ ne => (ne e).elim, fun _ _ => hq⟩
theorem number_ok {K : PySem.W.Frag} {C : Addr} {x : Str} {H : Hp} {Q : VK} {E : XK} (hx : x.cps.size ≤ 40) (ax : asc x) (al : all10 x) (e : ht x 0 x.cps.size = some 0) (hq : ∀ H', Same H H' → Q (.int (rk none 0 x.cps.toList 0)) H') : spNumber K C [.str x] H Q E :=
  ⟨x, rfl, hx, ax, fun k hk => (bad_all hk al).elim, fun _ ne => (ne e).elim, fun _ _ => hq⟩
theorem ok_all {x : Str} (ok : okW none 0 x.cps.toList 0) : all10 x ∧ ht x 0 x.cps.size = some 0 :=
  ⟨fun j hj => by rw [okW_ht j x ok hj]; rfl, by rw [okW_ht _ x ok (Nat.le_refl _)]; have := okW_end ok; simp at this; rw [this]⟩
theorem ok_asc {x : Str} (ok : okW none 0 x.cps.toList 0) : asc x := by
  rw [asc_iff]
  intro c hc
  rcases okW_mem ok c hc with rfl | rfl | rfl <;> decide
theorem neD_same {K : PySem.W.Frag} {H : Hp} {x y : V} {Q : VK} (d : Dt) (h1 : Rep K H d x) (h2 : Rep K H d y) (a : 1 ≤ d.dep) (b : d.dep ≤ 60) (q : Q (.bl false) H) : rEqD K true x y H Q := ⟨d, d, h1, h2, d.sim_refl, a, b, by rw [d.eqb_refl]; exact q⟩
def spText10 (K : PySem.W.Frag) : Sp := fun vs H Q _ => ∃ (a : Addr) (ns : List Int), vs = [.ref a] ∧ SqL K H a (ns.map V.int) ∧ ∀ x H', Same H H' → x.cps.size ≤ 40 → asc x → Q (.str x) H'
def spDrawn10 (K : PySem.W.Frag) : Sp := fun vs H Q _ => ∃ (a : Addr) (ns : List Int) (m : Int), vs = [.ref a, .int m] ∧ SqL K H a (ns.map V.int) ∧ 1 ≤ m ∧ m < 2 ^ 30 ∧ ∀ (r : Int) H', Same H H' → Q (.int r) H'
def spLaw (K : PySem.W.Frag) : Sp := fun vs H Q _ => ∃ (a : Addr) (ns : List Int), vs = [.ref a] ∧ SqL K H a (ns.map V.int) ∧ ns.length ≤ 63 ∧ ∀ H', Q (.bl true) H'
section
variable {P : Program} {w : World} {K : PySem.W.Frag} {mg : Str → Option Value} {base : Heap} {C_HeightError : Addr} {C_NoCount : Addr} {C_NoFamily : Addr} {C_NoFraction : Addr} {C_NoHistory : Addr} {C_NoLine : Addr} {C_NoMeeting : Addr} {C_NoMoments : Addr} {C_NoName : Addr} {C_NoNumber : Addr} {C_NoSeries : Addr} {C_NoText : Addr} {C_NoThing : Addr} {C_NoWay : Addr} {C_NoWeights : Addr} {C_RISES : Addr} {C_TooFar : Addr} {C_TooHigh : Addr} {C_TooMany : Addr}
abbrev s_NoWay_init : Stmt := methOf (top 14) 0
theorem sc_NoWay_init : FnScope ["self", "at"] ["self", "at"] (defScope s_NoWay_init) := ⟨rfl, rfl, rfl, by decide +kernel, rfl, by decide +kernel, by decide +kernel⟩
theorem ok_NoWay_init {f : Addr} {fd : FuncData} (F : Fun K "__init__" "NoWay.__init__" s_NoWay_init f fd) (y : excInit K C_NoWay f = true) (kc : PySem.W.keepIn K (.ref C_NoWay) = true) (T : Tx w K mg C_HeightError C_NoCount C_NoFamily C_NoFraction C_NoHistory C_NoLine C_NoMeeting C_NoMoments C_NoName C_NoNumber C_NoSeries C_NoText C_NoThing C_NoWay C_NoWeights C_RISES C_TooFar C_TooHigh C_TooMany) : CalleeI P w K mg base 1 C_NoWay ["self", "at"] (spInit C_NoWay "at") := by
  refine ⟨f, fd, ?_, y, kc, F.binds fun _ _ _ _ _ _ us hl => match us, hl with | [_, _], _ => rfl⟩
  refine F.okE sc_NoWay_init (fun vs H Q E h => ?_) (fun cdv A outer s H vs Q E hr h => ?_)
  · obtain ⟨_, _, rfl, _⟩ := h
    rfl
  · obtain ⟨e, n, rfl, he, h0, h1, hq⟩ := h
    refine ⟨_, (pss_cons (ps_expr (pe_excInit rfl T.m_HeightError T.i_HeightError (pa_cons (pv 0) (pa_cons (pe_fs (by decide) (pv 1)) pa_nil)))) (pss_one (ps_xset (pv 0) (pv 1) rfl))), ?_⟩
    walk_at "rd"
    have hl := PySem.W.KT.len_num h0 (show n < 10 ^ 10 by omega)
    refine ⟨?_, ?_, C_NoWay, ⟨none, he⟩, T.j_NoWay, C_NoWay, he, T.y_NoWay, fun d hd nd => hq d hd nd⟩
    · rcases Nat.eq_zero_or_pos n.natAbs with z | z
      · rw [z]; decide
      · exact (Nat.log2_lt (by omega)).mpr (Nat.lt_of_lt_of_le (show n.natAbs < 2 ^ 10 by omega) (Nat.pow_le_pow_right (by decide) (by decide)))
    · rw [strLen_append, sizeLine_eq]
      have e : (Str.ofString "no way at place ").length = 16 := by decide
      rw [e]
      have hl : (Str.ofString n.repr).length ≤ 10 := hl
      omega
abbrev s_heights_along : Stmt := top 22
theorem sc_heights_along : FnScope ["way", "first", "heights", "at", "sign", "height"] ["way", "first"] (defScope s_heights_along) := ⟨rfl, rfl, rfl, by decide +kernel, rfl, by decide +kernel, by decide +kernel⟩
theorem ok_heights_along {f : Addr} {fd : FuncData} (F : Fun K "heights_along" "heights_along" s_heights_along f fd) (m : mg "heights_along" = some (.ref f)) (T : Tx w K mg C_HeightError C_NoCount C_NoFamily C_NoFraction C_NoHistory C_NoLine C_NoMeeting C_NoMoments C_NoName C_NoNumber C_NoSeries C_NoText C_NoThing C_NoWay C_NoWeights C_RISES C_TooFar C_TooHigh C_TooMany) (c_NoWay_init : CalleeI P w K mg base 1 C_NoWay ["self", "at"] (spInit C_NoWay "at")) : Callee P w K mg base 3 "heights_along" ["way", "first"] (spAlong K C_NoWay) := by
  refine ⟨f, fd, ?_, m, F.kp, F.binds fun _ _ _ _ _ _ us hl => match us, hl with | [_, _], _ => rfl⟩
  refine F.okX sc_heights_along (fun vs H Q E h => ?_) (fun cdv A outer s H vs Q E hr h => ?_)
  · obtain ⟨_, _, rfl, _⟩ := h
    rfl
  · obtain ⟨x, h0, rfl, n0, nx, ax, no, ok⟩ := h
    refine ⟨_, (pss_cons (ps_set (i := 2) sc_heights_along.nd rfl (Or.inl rfl) (pe_lst (pa_cons (pv 1) pa_nil))) (pss_cons (ps_forES rfl PassesOwn.leaving T.b_enumerate (pv 0) (pg_tup rfl (pgs_cons (pg_name (i := 3) sc_heights_along.nd rfl (Or.inl rfl)) (pgs_cons (pg_name (i := 4) sc_heights_along.nd rfl (Or.inl rfl)) pgs_nil))) (pss_cons (ps_if (pt_cmpR (op_notInK T.rises) (pv 4) (pe_glob (v := .ref C_RISES) rfl T.m_RISES rfl) rfl) (pss_one (ps_rI c_NoWay_init (hr.mono (by decide)) raisesD_cx T.m_NoWay (pa_cons (pv 3) pa_nil))) pss_nil) (pss_cons (ps_set (i := 5) sc_heights_along.nd rfl (Or.inl rfl) (pe_op op_add (pe_ix ix_list (pv 2) (pv 3) (fun _ _ => rfl)) (pe_kix T.rises (pe_glob (v := .ref C_RISES) rfl T.m_RISES rfl) (pv 4) (fun _ _ => rfl)))) (pss_cons (ps_if (pt_cmpR op_lt (pv 5) pe_int (nomark _)) (pss_one (ps_rI c_NoWay_init (hr.mono (by decide)) raisesD_cx T.m_NoWay (pa_cons (pv 3) pa_nil))) pss_nil) (pss_one (ps_expr (pe_bm PySem.F.plainAttrs_list PySem.F.slot_list_append PySem.F.type_list_append mt_append (pv 2) (pa_cons (pv 5) pa_nil)))))))) (pss_one (ps_ret (pe_callTy call_tuple_of (by rfl) T.b_tuple (by decide +kernel) (pa_cons (pv 2) pa_nil)))))), ?_⟩
    refine tSeq_step fun N hN => ?_
    walk_at "rd"
    refine ⟨sz_le 1 (by decide), fun D nD => hN _ _ ?_⟩
    clear hN N
    have uD := same_upd (o := .lst [.int h0]) nD
    refine tSeq_step fun N hN => ?_
    walk_at "rd"
    refine ⟨by simpa [asc] using ax, fun k σ H' => ∃ r3 r4 r5, σ = [some (.str x), some (.int h0), some (.ref D), r3, r4, r5] ∧ Same H H' ∧ H' D = some (.lst (htL x h0 k)) ∧ ∀ j, j ≤ k → (ht x h0 j).isSome = true, ⟨none, none, none, rfl, uD, upd_same, fun j hj => ?_⟩, ?_, ?_⟩
    · obtain rfl : j = 0 := by omega
      rfl
    · rintro k c σ H1 p hc ⟨r3, r4, r5, rfl, sm, hD, hok⟩ np
      have hk : k < x.cps.size := (Array.getElem?_eq_some_iff.mp hc).1
      obtain ⟨v, hv⟩ := Option.isSome_iff_exists.mp (hok k (Nat.le_refl _))
      have v0 := ht_nn n0 k v hv
      have hs : ht x h0 (k + 1) = stp c v := by
        show (ht x h0 k).bind _ = _
        rw [hv]
        show (x.cps[k]?).bind _ = _
        rw [hc]
        rfl
      rw [stp_rise v0] at hs
      have at0 : atI (htL x h0 k) (k : Int) = some (.int v) := by
        have := atI_nat (htL_at (x := x) (h0 := h0) (Nat.le_refl k))
        rw [hv] at this
        exact this
      have up := same_upd (o := .tup [.int k, .str ⟨#[c]⟩]) np
      have sp' := sm.trans up
      have hD2 := up _ _ hD
      walk_at "rd"
      refine ⟨_, SqT.of upd_same, rfl, _, _, rfl, _, _, rfl, rfl, .inr ⟨#[c]⟩, rfl, ?_⟩
      rw [rises_at]
      cases hr2 : riseOf c with
      | none =>
        rw [hr2] at hs
        rw [if_pos (show Option.map V.int none = none from rfl)]
        exact ⟨sz_le 1 (by decide), raiseN (by omega) (by omega) sp' (no k hk hok hs)⟩
      | some r =>
        rw [hr2] at hs
        rw [if_neg (by simp)]
        refine ⟨_, _, rfl, SqL.of hD2, _, at0, .inr ⟨#[c]⟩, rfl, .int r, by rw [rises_at, hr2]; rfl, v, rfl, r, rfl, ?_⟩
        simp only [Option.bind_some] at hs
        by_cases z : v + r < 0
        · rw [if_pos z] at hs
          rw [if_pos z]
          exact ⟨sz_le 1 (by decide), raiseN (by omega) (by omega) sp' (no k hk hok hs)⟩
        · rw [if_neg z] at hs
          rw [if_neg z]
          refine ⟨.inl ⟨rfl, _, SqL.of hD2⟩, _, hD2, small1000 (by rw [htL_len]; omega), sp'.updL nD, ?_, ?_⟩
          · rw [upd_same, htL_succ, hs]
            rfl
          · intro j hj
            by_cases e : j = k + 1
            · subst e; rw [hs]; rfl
            · exact hok j (by omega)
    · rintro σ H1 ⟨r3, r4, r5, rfl, sm, hD, hok⟩
      refine hN _ _ ?_
      walk_at "rd"
      exact ⟨_, .inl ⟨SqL.of hD, fun p np => ok hok p _ (sm.trans (same_upd np)) upd_same⟩⟩
abbrev s_heights_of : Stmt := top 23
theorem sc_heights_of : FnScope ["way", "first", "last", "heights"] ["way", "first", "last"] (defScope s_heights_of) := ⟨rfl, rfl, rfl, by decide +kernel, rfl, by decide +kernel, by decide +kernel⟩
theorem ok_heights_of {f : Addr} {fd : FuncData} (F : FunD K "heights_of" "heights_of" s_heights_of [.int 0, .int 0] f fd) (m : mg "heights_of" = some (.ref f)) (T : Tx w K mg C_HeightError C_NoCount C_NoFamily C_NoFraction C_NoHistory C_NoLine C_NoMeeting C_NoMoments C_NoName C_NoNumber C_NoSeries C_NoText C_NoThing C_NoWay C_NoWeights C_RISES C_TooFar C_TooHigh C_TooMany) (c_NoWay_init : CalleeI P w K mg base 1 C_NoWay ["self", "at"] (spInit C_NoWay "at")) (c_heights_along : Callee P w K mg base 3 "heights_along" ["way", "first"] (spAlong K C_NoWay)) : CalleeD P w K mg base 4 "heights_of" ["way", "first", "last"] [.int 0, .int 0] (spHts K C_NoWay) := by
  refine F.callee m ?_ ?_
  rotate_left
  · intro i hi T kV doc pm an cdv ct items us hl hz
    obtain ⟨l⟩ := items
    have hl2 : l.length = 2 := hl
    have hi2 : i ≤ 2 := hi
    have hz2 : us.length = 1 + i := by simp at hz; omega
    clear hz hl hi
    match l, hl2 with
    | [_, _], _ =>
      rcases (show i = 0 ∨ i = 1 ∨ i = 2 by omega) with rfl | rfl | rfl
      · match us, hz2 with | [_], _ => exact ⟨_, rfl, rfl⟩
      · match us, hz2 with | [_, _], _ => exact ⟨_, rfl, rfl⟩
      · match us, hz2 with | [_, _, _], _ => exact ⟨_, rfl, rfl⟩
  refine F.okX sc_heights_of (fun vs H Q E h => ?_) (fun cdv A outer s H vs Q E hr h => ?_)
  · obtain ⟨_, _, _, rfl, _⟩ := h
    rfl
  · obtain ⟨x, h0, last, rfl, n0, nx, ax, no, ne, ok⟩ := h
    refine ⟨_, (pss_cons (ps_set (i := 3) sc_heights_of.nd rfl (Or.inl rfl) (pe_c c_heights_along (hr.mono (by decide)) pass_cx (pa_cons (pv 0) (pa_cons (pv 1) pa_nil)))) (pss_cons (ps_if (pt_cmpR op_ne (pe_ix ix_tup (pv 3) (pe_callB call_len_str (by rfl) T.b_len PySem.boot_len (pa_cons (pv 0) pa_nil)) (fun _ _ => rfl)) (pv 2) (nomark _)) (pss_one (ps_rI c_NoWay_init (hr.mono (by decide)) raisesD_cx T.m_NoWay (pa_cons (pe_callB call_len_str (by rfl) T.b_len PySem.boot_len (pa_cons (pv 0) pa_nil)) pa_nil))) pss_nil) (pss_one (ps_ret (pv 3))))), ?_⟩
    refine tSeq_step fun N hN => ?_
    walk_at "rd"
    refine ⟨x, h0, rfl, n0, nx, ax, no, fun hok p H1 s1 h1 => hN _ _ ?_⟩
    clear hN N
    obtain ⟨v, hv⟩ := Option.isSome_iff_exists.mp (hok _ (Nat.le_refl _))
    have at0 : atI (htL x h0 x.cps.size) ((x.cps.size : Nat) : Int) = some (.int v) := by
      have := atI_nat (htL_at (x := x) (h0 := h0) (Nat.le_refl x.cps.size))
      rw [hv] at this
      exact this
    have lx : x.length = x.cps.size := rfl
    refine tSeq_step fun N hN => ?_
    walk_at "rd"
    refine ⟨sz_le _ (by rw [lx]; omega), _, SqT.of h1, _, at0, rfl, ?_⟩
    by_cases e : v = last
    · subst e
      refine .inl ⟨rfl, hN _ _ ?_⟩
      walk_at "rd"
      exact ok hok hv p H1 s1 h1
    · exact .inr ⟨by simpa using e, sz_le _ (by rw [lx]; omega), sz_le 1 (by decide), raiseN (by omega) (by rw [lx]; omega) s1 (ne hok (by rw [hv]; simpa using e))⟩
abbrev s_is_within : Stmt := top 24
theorem sc_is_within : FnScope ["height", "below"] ["height", "below"] (defScope s_is_within) := ⟨rfl, rfl, rfl, by decide +kernel, rfl, by decide +kernel, by decide +kernel⟩
theorem ok_is_within {f : Addr} {fd : FuncData} (F : Fun K "is_within" "is_within" s_is_within f fd) (m : mg "is_within" = some (.ref f)) (T : Tx w K mg C_HeightError C_NoCount C_NoFamily C_NoFraction C_NoHistory C_NoLine C_NoMeeting C_NoMoments C_NoName C_NoNumber C_NoSeries C_NoText C_NoThing C_NoWay C_NoWeights C_RISES C_TooFar C_TooHigh C_TooMany) : Callee P w K mg base 1 "is_within" ["height", "below"] (spWithin) := by
  refine ⟨f, fd, ?_, m, F.kp, F.binds fun _ _ _ _ _ _ us hl => match us, hl with | [_, _], _ => rfl⟩
  refine F.okE sc_is_within (fun vs H Q E h => ?_) (fun cdv A outer s H vs Q E hr h => ?_)
  · obtain ⟨_, _, rfl, _⟩ := h
    rfl
  · obtain ⟨h, b, rfl, hq⟩ := h
    refine ⟨_, (pss_one (ps_ret (pe_and (pe_cmpR op_ge (pv 0) pe_int (nomark _)) (pe_one (pe_or (pe_cmpR op_isN (pv 1) pe_non (nomark _)) (pe_one (pe_cmpR op_lt (pv 0) (pv 1) (nomark _)))))))), ?_⟩
    walk_at "rd"
    by_cases h0 : 0 ≤ h
    · rw [if_pos h0]
      cases b with
      | none =>
        rw [if_pos (show bV none = V.non from rfl)]
        rw [wi_none, decide_eq_true h0] at hq
        exact hq
      | some m =>
        rw [if_neg (show bV (some m) ≠ V.non from fun z => nomatch z)]
        rw [wi_some, decide_eq_true h0, Bool.true_and] at hq
        exact ⟨m, rfl, hq⟩
    · rw [if_neg h0]
      have e : wi b h = false := by unfold wi; rw [decide_eq_false h0]; rfl
      rw [e] at hq
      exact hq
abbrev s_one_step_longer : Stmt := top 25
theorem sc_one_step_longer : FnScope ["counts", "below", "longer", "end", "sign", "start"] ["counts", "below"] (defScope s_one_step_longer) := ⟨rfl, rfl, rfl, by decide +kernel, rfl, by decide +kernel, by decide +kernel⟩
theorem ok_one_step_longer {f : Addr} {fd : FuncData} (F : Fun K "one_step_longer" "one_step_longer" s_one_step_longer f fd) (m : mg "one_step_longer" = some (.ref f)) (T : Tx w K mg C_HeightError C_NoCount C_NoFamily C_NoFraction C_NoHistory C_NoLine C_NoMeeting C_NoMoments C_NoName C_NoNumber C_NoSeries C_NoText C_NoThing C_NoWay C_NoWeights C_RISES C_TooFar C_TooHigh C_TooMany) (c_is_within : Callee P w K mg base 1 "is_within" ["height", "below"] (spWithin)) : Callee P w K mg base 2 "one_step_longer" ["counts", "below"] (spOneStep) := by
  refine ⟨f, fd, ?_, m, F.kp, F.binds fun _ _ _ _ _ _ us hl => match us, hl with | [_, _], _ => rfl⟩
  refine F.okE sc_one_step_longer (fun vs H Q E h => ?_) (fun cdv A outer s H vs Q E hr h => ?_)
  · obtain ⟨_, _, _, _, rfl, _⟩ := h
    rfl
  · obtain ⟨a, ps, b, M, rfl, ha, kn, hM, hq⟩ := h
    refine ⟨_, (pss_cons (ps_set (i := 2) sc_one_step_longer.nd rfl (Or.inl rfl) pe_dnewK) (pss_cons (ps_forD rfl PassesOwn.never (pv 0) (pg_name (i := 3) sc_one_step_longer.nd rfl (Or.inl rfl)) (pss_one (ps_forK T.rises rfl PassesOwn.never (pe_glob (v := .ref C_RISES) rfl T.m_RISES rfl) (pg_name (i := 4) sc_one_step_longer.nd rfl (Or.inl rfl)) (pss_cons (ps_set (i := 5) sc_one_step_longer.nd rfl (Or.inl rfl) (pe_op op_sub (pv 3) (pe_kix T.rises (pe_glob (v := .ref C_RISES) rfl T.m_RISES rfl) (pv 4) (fun _ _ => rfl)))) (pss_one (ps_if (pt_val (pe_c c_is_within (hr.mono (by decide)) np (pa_cons (pv 5) (pa_cons (pv 1) pa_nil)))) (pss_one (ps_dput (hu_of hr) (pv 2) (pv 5) (pe_op op_add (pe_dget2 (hu_of hr) (pv 2) (pv 5) pe_int ⟨rfl, rfl, rfl, rfl⟩) (pe_dget (hu_of hr) (pv 0) (pv 3) (fun _ _ => rfl))) rfl)) pss_nil)))))) (pss_one (ps_ret (pv 2))))), ?_⟩
    refine tSeq_step fun N hN => ?_
    walk_at "rd"
    intro D nD
    refine hN _ _ ?_
    clear hN N
    have ne : a ≠ D := ne_of_none ha nD
    have uD := same_upd (o := .dK []) nD
    refine tSeq_step fun N hN => ?_
    walk_at "rd"
    refine ⟨dk ps, by rw [upd_ne ne]; exact ha, fun o => ⟨fun i σ H' => ∃ r3 r4 r5, σ = [some (.ref a), some (bV b), some (.ref D), r3, r4, r5] ∧ H' a = some (.frz o (.dK (dk ps))) ∧ H' D = some (.dK (dk ((ps.take i).foldl (add3 b) []))) ∧ ∀ x u, x ≠ a → H x = some u → H' x = some u, ⟨none, none, none, rfl, upd_same, by rw [upd_ne (Ne.symm ne), upd_same]; rfl, fun x u nx hx => by rw [upd_ne nx]; exact uD x u hx⟩, fun i σ H' h => ?_, ?_, ?_⟩⟩
    · obtain ⟨_, _, _, _, h, _⟩ := h
      exact h
    · rintro i k v σ H1 bk hk hbk ⟨r3, r4, r5, rfl, hfz, hD, hsm⟩
      obtain ⟨p, hp, rfl, rfl⟩ := dk_i hk
      have kp := kn.2 p.1 (List.mem_map.mpr ⟨p, List.mem_of_getElem? hp, rfl⟩)
      have kq : Kin (M + 1 : Nat) ((ps.take i).foldl (add3 b) []) := Kin.add3s _ (kin_nil _) fun x hx => by
        have := kn.2 x.1 (List.mem_map.mpr ⟨x, List.mem_of_mem_take hx, rfl⟩)
        omega
      have gp : DGet H1 a (.int p.1) (some (.int p.2)) := .inl ⟨dk ps, .inl p.1, .inr ⟨o, hfz⟩, rfl, by rw [valV_dk, pvI_mem kn.1 hp]; rfl⟩
      walk_at "rd"
      refine ⟨fun j σ H' => ∃ r4 r5, σ = [some (.ref a), some (bV b), some (.ref D), some (.int p.1), r4, r5] ∧ H' a = some (.frz o (.dK (dk ps))) ∧ H' D = some (.dK (dk ((rs3.take j).foldl (add1 b p.1 p.2) ((ps.take i).foldl (add3 b) [])))) ∧ ∀ x u, x ≠ a → H x = some u → H' x = some u, ⟨r4, r5, rfl, hfz, hD, hsm⟩, ?_, ?_⟩
      · rintro j k v σ H2 hj ⟨r4, r5, rfl, fz2, hD2, sm2⟩
        obtain ⟨r, er, rfl, vr⟩ := rises_i hj
        have k2 : Kin (M + 1 : Nat) ((rs3.take j).foldl (add1 b p.1 p.2) ((ps.take i).foldl (add3 b) [])) := Kin.add1s _ kq (by omega) fun x hx => List.mem_of_mem_take hx
        have l2 := k2.len
        have g2 : DGet H2 a (.int p.1) (some (.int p.2)) := .inl ⟨dk ps, .inl p.1, .inr ⟨o, fz2⟩, rfl, by rw [valV_dk, pvI_mem kn.1 hp]; rfl⟩
        have tf := take_foldl (f := add1 b p.1 p.2) er ((ps.take i).foldl (add3 b) [])
        generalize (rs3.take j).foldl (add1 b p.1 p.2) ((ps.take i).foldl (add3 b) []) = q at *
        walk_at "rd"
        refine ⟨k, rfl, _, vr, r, rfl, p.1 - r, b, rfl, ?_⟩
        cases w : wi b (p.1 - r) with
        | false =>
          refine .inl ⟨rfl, fz2, ?_, fun x u nx => sm2 x u nx⟩
          rw [tf, add1, w]
          exact hD2
        | true =>
          refine .inr ⟨rfl, .inl ⟨_, .inl hD2⟩, _, get_dk hD2 _, _, g2, gv q (p.1 - r), getD_dk _ _, p.2, rfl, _, DPut.k (k := .inl (p.1 - r)) hD2 (by rw [dk_len, sizeLine_eq]; omega), ?_, ?_, fun x u nx hx => ?_⟩
          · rw [upd_ne ne]; exact fz2
          · rw [upd_same, tf, add1, w, putK_dk]; rfl
          · have nxD : x ≠ D := ne_of_none hx nD
            rw [upd_ne nxD]
            exact sm2 x u nx hx
      · rintro σ H2 ⟨r4, r5, rfl, fz2, hD2, sm2⟩
        refine ⟨⟨_, _, _, rfl⟩, fz2, ?_, fun x u nx => sm2 x u nx⟩
        rw [take_foldl hp]
        exact hD2
    · rintro σ H1 ⟨r3, r4, r5, rfl, hfz, hD, hsm⟩
      rw [dk_len, List.take_length] at hD
      refine hN _ _ ?_
      clear hN N
      walk_at "rd"
      refine hq D _ (fun x u hx => ?_) nD (by rw [upd_ne (Ne.symm ne)]; exact hD)
      by_cases e : x = a
      · subst e; rw [upd_same, ← ha]; exact hx
      · rw [upd_ne e]; exact hsm x u e hx
abbrev s_ways_to_go : Stmt := top 26
theorem sc_ways_to_go : FnScope ["length", "last", "below", "to_go", "step"] ["length", "last", "below"] (defScope s_ways_to_go) := ⟨rfl, rfl, rfl, by decide +kernel, rfl, by decide +kernel, by decide +kernel⟩
theorem ok_ways_to_go {f : Addr} {fd : FuncData} (F : Fun K "ways_to_go" "ways_to_go" s_ways_to_go f fd) (m : mg "ways_to_go" = some (.ref f)) (T : Tx w K mg C_HeightError C_NoCount C_NoFamily C_NoFraction C_NoHistory C_NoLine C_NoMeeting C_NoMoments C_NoName C_NoNumber C_NoSeries C_NoText C_NoThing C_NoWay C_NoWeights C_RISES C_TooFar C_TooHigh C_TooMany) (c_is_within : Callee P w K mg base 1 "is_within" ["height", "below"] (spWithin)) (c_one_step_longer : Callee P w K mg base 2 "one_step_longer" ["counts", "below"] (spOneStep)) : Callee P w K mg base 3 "ways_to_go" ["length", "last", "below"] (spToGo) := by
  refine ⟨f, fd, ?_, m, F.kp, F.binds fun _ _ _ _ _ _ us hl => match us, hl with | [_, _, _], _ => rfl⟩
  refine F.okE sc_ways_to_go (fun vs H Q E h => ?_) (fun cdv A outer s H vs Q E hr h => ?_)
  · obtain ⟨_, _, _, rfl, _⟩ := h
    rfl
  · obtain ⟨n, last, b, rfl, hn, hl, hq⟩ := h
    refine ⟨_, (pss_cons (ps_set (i := 3) sc_ways_to_go.nd rfl (Or.inl rfl) (pe_lst (pa_cons (pe_ifExp (pt_val (pe_c c_is_within (hr.mono (by decide)) np (pa_cons (pv 1) (pa_cons (pv 2) pa_nil)))) (pe_disp (pps_cons (pv 1) pe_int pps_nil) rfl rfl (by simp) (by decide)) pe_dnewK) pa_nil))) (pss_cons (ps_forR rfl PassesOwn.never T.b_range (pv 0) (pg_name (i := 4) sc_ways_to_go.nd rfl (Or.inl rfl)) (pss_one (ps_expr (pe_bm PySem.F.plainAttrs_list PySem.F.slot_list_append PySem.F.type_list_append mt_append (pv 3) (pa_cons (pe_c c_one_step_longer (hr.mono (by decide)) np (pa_cons (pe_ix ix_list (pv 3) (pv 4) (fun _ _ => rfl)) (pa_cons (pv 2) pa_nil))) pa_nil))))) (pss_one (ps_ret (pv 3))))), ?_⟩
    refine tSeq_step fun N hN => ?_
    walk_at "rd"
    have go : ∀ (p D : Addr) (H1 : Hp), Same H H1 → H D = none → p ≠ D → H1 p = some (.dK (dk (tg b last 0))) → H1 D = some (.lst [.ref p]) → N [some (V.int n), some (V.int last), some (bV b), some (V.ref D), none] H1 := by
      intro p D H1 sm nD ne hp hD
      refine hN _ _ ?_
      clear hN N
      refine tSeq_step fun N hN => ?_
      walk_at "rd"
      refine ⟨by omega, fun k σ H' => ∃ r, σ = [some (.int n), some (.int last), some (bV b), some (.ref D), r] ∧ Same H H' ∧ ∃ as : List Addr, H' D = some (.lst (as.map V.ref)) ∧ as.length = k + 1 ∧ ∀ (i : Nat) (a : Addr), as[i]? = some a → H' a = some (.dK (dk (tg b last i))), ⟨none, rfl, sm, [p], hD, rfl, fun i a h => ?_⟩, ?_, ?_⟩
      · cases i with
        | zero => simp at h; subst h; exact hp
        | succ i => simp at h
      · rintro k σ H2 hk ⟨r, rfl, s2, as, h2, la, ld⟩
        obtain ⟨a, ea⟩ : ∃ a, as[k]? = some a := ⟨as[k], List.getElem?_eq_getElem (by omega)⟩
        have h3 := ld k a ea
        walk_at "rd"
        refine ⟨.inl ⟨rfl, _, SqL.of h2⟩, _, SqL.of h2, _, atI_nat (by rw [List.getElem?_map, ea]; rfl), a, _, b, 100 + k, rfl, h3, by simpa using kin_tg b hl k, by omega, fun p3 H3 s3 n3 h4 => ?_⟩
        refine ⟨_, s3 _ _ h2, small1000 (by rw [List.length_map]; omega), (s2.trans s3).updL nD, as ++ [p3], ?_, by simp [la], fun i x hx => ?_⟩
        · rw [upd_same]; simp
        · have nx : x ≠ D := by
            rintro rfl
            by_cases hi : i < as.length
            · rw [List.getElem?_append_left hi] at hx
              have := ld i x hx
              rw [h2] at this; cases this
            · rw [List.getElem?_append_right (by omega)] at hx
              have hx := List.mem_of_getElem? hx
              rw [List.mem_singleton.mp hx] at h2
              rw [n3] at h2; cases h2
          rw [upd_ne nx]
          by_cases hi : i < as.length
          · rw [List.getElem?_append_left hi] at hx
            exact s3 _ _ (ld i x hx)
          · have hi2 : i = as.length := by
              have := (List.getElem?_eq_some_iff.mp hx).1
              simp at this; omega
            subst hi2
            simp at hx
            subst hx
            rw [la]
            exact h4
      · rintro σ H2 ⟨r, rfl, s2, as, h2, la, ld⟩
        refine hN _ _ ?_
        walk_at "rd"
        exact hq D H2 s2 nD ⟨as, h2, la, ld⟩
    refine ⟨last, b, rfl, ?_⟩
    cases w : wi b last with
    | false =>
      refine .inl ⟨rfl, fun p np => ⟨sz_le 1 (by decide), fun D nD => ?_⟩⟩
      have n1 := ne_of_none (upd_same (H := H) (a := p) (o := .dK [])) nD
      have nD' : H D = none := by rw [upd_ne (Ne.symm n1)] at nD; exact nD
      refine go p D _ ((same_upd np).trans (same_upd nD)) nD' n1 ?_ upd_same
      rw [upd_ne n1, upd_same]
      simp [tg, w, dk]
    | true =>
      refine .inr ⟨rfl, fun p np => ⟨upd_same, [(.inl last, .int 1)], rfl, by simp, sz_le 1 (by decide), fun D nD => ?_⟩⟩
      rw [upd_upd] at nD ⊢
      have n1 := ne_of_none (upd_same (H := H) (a := p) (o := .dK (mergeK [] [(.inl last, .int 1)]))) nD
      have nD' : H D = none := by rw [upd_ne (Ne.symm n1)] at nD; exact nD
      refine go p D _ ((same_upd np).trans (same_upd nD)) nD' n1 ?_ upd_same
      rw [upd_ne n1, upd_same]
      simp only [tg, w]
      rfl
abbrev s_ways_counted : Stmt := top 27
theorem sc_ways_counted : FnScope ["length", "first", "last", "below"] ["length", "first", "last", "below"] (defScope s_ways_counted) := ⟨rfl, rfl, rfl, by decide +kernel, rfl, by decide +kernel, by decide +kernel⟩
theorem ok_ways_counted {f : Addr} {fd : FuncData} (F : FunD K "ways_counted" "ways_counted" s_ways_counted [.int 0, .int 0, .non] f fd) (m : mg "ways_counted" = some (.ref f)) (T : Tx w K mg C_HeightError C_NoCount C_NoFamily C_NoFraction C_NoHistory C_NoLine C_NoMeeting C_NoMoments C_NoName C_NoNumber C_NoSeries C_NoText C_NoThing C_NoWay C_NoWeights C_RISES C_TooFar C_TooHigh C_TooMany) (c_ways_to_go : Callee P w K mg base 3 "ways_to_go" ["length", "last", "below"] (spToGo)) : CalleeD P w K mg base 4 "ways_counted" ["length", "first", "last", "below"] [.int 0, .int 0, .non] (spCounted) := by
  refine F.callee m ?_ ?_
  rotate_left
  · intro i hi T kV doc pm an cdv ct items us hl hz
    obtain ⟨l⟩ := items
    have hl2 : l.length = 3 := hl
    have hi2 : i ≤ 3 := hi
    have hz2 : us.length = 1 + i := by simp at hz; omega
    clear hz hl hi
    match l, hl2 with
    | [_, _, _], _ =>
      rcases (show i = 0 ∨ i = 1 ∨ i = 2 ∨ i = 3 by omega) with rfl | rfl | rfl | rfl
      · match us, hz2 with | [_], _ => exact ⟨_, rfl, rfl⟩
      · match us, hz2 with | [_, _], _ => exact ⟨_, rfl, rfl⟩
      · match us, hz2 with | [_, _, _], _ => exact ⟨_, rfl, rfl⟩
      · match us, hz2 with | [_, _, _, _], _ => exact ⟨_, rfl, rfl⟩
  refine F.okE sc_ways_counted (fun vs H Q E h => ?_) (fun cdv A outer s H vs Q E hr h => ?_)
  · obtain ⟨_, _, _, _, rfl, _⟩ := h
    rfl
  · obtain ⟨n, first, last, b, rfl, hn, hl, hq⟩ := h
    refine ⟨_, (pss_cons (ps_if (pt_cmpR op_lt (pv 0) pe_int (nomark _)) (pss_one (ps_ret pe_int)) pss_nil) (pss_one (ps_ret (pe_dget2 (hu_of hr) (pe_ix ix_list (pe_c c_ways_to_go (hr.mono (by decide)) np (pa_cons (pv 0) (pa_cons (pv 2) (pa_cons (pv 3) pa_nil)))) (pv 0) (fun _ _ => rfl)) (pv 1) pe_int ⟨rfl, rfl, rfl, rfl⟩)))), ?_⟩
    walk_at "rd"
    rw [if_neg (by omega)]
    refine ⟨n, last, b, rfl, hn, hl, fun p H' sm np dl => ?_⟩
    obtain ⟨as, hp, la, hd⟩ := dl
    obtain ⟨a, ea⟩ : ∃ a, as[n]? = some a := ⟨as[n], List.getElem?_eq_getElem (by omega)⟩
    have h1 := hd n a ea
    refine ⟨p, rfl, _, SqL.of hp, _, atI_nat (by rw [List.getElem?_map, ea]; rfl), a, rfl, .inl ⟨_, .inl h1⟩, _, get_dk h1 first, ?_⟩
    rw [getD_dk, gv_tg]
    exact hq H' sm
abbrev s_way_at : Stmt := top 28
theorem sc_way_at : FnScope ["to_go", "first", "number", "way", "height", "rest", "left", "sign", "many"] ["to_go", "first", "number"] (defScope s_way_at) := ⟨rfl, rfl, rfl, by decide +kernel, rfl, by decide +kernel, by decide +kernel⟩
theorem ok_way_at {f : Addr} {fd : FuncData} (F : Fun K "way_at" "way_at" s_way_at f fd) (m : mg "way_at" = some (.ref f)) (T : Tx w K mg C_HeightError C_NoCount C_NoFamily C_NoFraction C_NoHistory C_NoLine C_NoMeeting C_NoMoments C_NoName C_NoNumber C_NoSeries C_NoText C_NoThing C_NoWay C_NoWeights C_RISES C_TooFar C_TooHigh C_TooMany) : Callee P w K mg base 1 "way_at" ["to_go", "first", "number"] (spWayAt K) := by
  refine ⟨f, fd, ?_, m, F.kp, F.binds fun _ _ _ _ _ _ us hl => match us, hl with | [_, _, _], _ => rfl⟩
  refine F.okE sc_way_at (fun vs H Q E h => ?_) (fun cdv A outer s H vs Q E hr h => ?_)
  · obtain ⟨_, _, _, _, _, _, rfl, _⟩ := h
    rfl
  · obtain ⟨p, b, last, first, r0, n, rfl, dl, hn, hr0, hr1, hq⟩ := h
    refine ⟨_, (pss_cons (ps_set (i := 3) sc_way_at.nd rfl (Or.inl rfl) pe_str) (pss_cons (ps_set (i := 4) sc_way_at.nd rfl (Or.inl rfl) (pv 1)) (pss_cons (ps_set (i := 5) sc_way_at.nd rfl (Or.inl rfl) (pv 2)) (pss_cons (ps_forVL rfl PassesOwn.never T.b_reversed (pe_slice sl_list (pv 0) po_none (po_some (pe_un un_neg pe_int))) (pg_name (i := 6) sc_way_at.nd rfl (Or.inl rfl)) (pss_one (ps_forK T.rises rfl PassesOwn.never (pe_glob (v := .ref C_RISES) rfl T.m_RISES rfl) (pg_name (i := 7) sc_way_at.nd rfl (Or.inl rfl)) (pss_cons (ps_set (i := 8) sc_way_at.nd rfl (Or.inl rfl) (pe_dget2 (hu_of hr) (pv 6) (pe_op op_add (pv 4) (pe_kix T.rises (pe_glob (v := .ref C_RISES) rfl T.m_RISES rfl) (pv 7) (fun _ _ => rfl))) pe_int ⟨rfl, rfl, rfl, rfl⟩)) (pss_cons (ps_if (pt_cmpR op_lt (pv 5) (pv 8) (nomark _)) (pss_cons (ps_set (i := 3) sc_way_at.nd rfl (Or.inl rfl) (pe_op op_add_str (pv 3) (pv 7))) (pss_cons (ps_set (i := 4) sc_way_at.nd rfl (Or.inl rfl) (pe_op op_add (pv 4) (pe_kix T.rises (pe_glob (v := .ref C_RISES) rfl T.m_RISES rfl) (pv 7) (fun _ _ => rfl)))) (pss_one ps_break))) pss_nil) (pss_one (ps_set (i := 5) sc_way_at.nd rfl (Or.inl rfl) (pe_op op_sub (pv 5) (pv 8))))))))) (pss_one (ps_ret (pv 3))))))), ?_⟩
    obtain ⟨as, hp, la, hd⟩ := dl
    refine tSeq_step fun N hN => ?_
    walk_at "rd"
    refine hN _ _ ?_
    clear hN N
    refine tSeq_step fun N hN => ?_
    walk_at "rd"
    refine hN _ _ ?_
    clear hN N
    refine tSeq_step fun N hN => ?_
    walk_at "rd"
    refine hN _ _ ?_
    clear hN N
    refine tSeq_step fun N hN => ?_
    walk_at "rd"
    refine ⟨p, _, rfl, SqL.of hp, fun L nL => ?_⟩
    rw [cutV_lst _ n (by rw [List.length_map, la])]
    have uL := same_upd (o := .lst ((as.map V.ref).take n)) nL
    have lt : ((as.map V.ref).take n).length = n := by rw [List.length_take, List.length_map, la]; omega
    refine ⟨L, rfl, _, SqL.of upd_same, fun i σ H' => ∃ (x : Str) (h r : Int) (r6 r7 r8 : Option V), σ = [some (V.ref p), some (V.int first), some (V.int r0), some (V.str x), some (V.int h), some (V.int r), r6, r7, r8] ∧ Same (upd H L (.lst ((as.map V.ref).take n))) H' ∧ 0 ≤ r ∧ r < cnt b last (n - i) h ∧ x.cps.toList ++ ur b last (n - i) h r = ur b last n first r0 ∧ x.cps.size = i, ⟨_, _, _, none, none, none, rfl, Same.refl _, hr0, hr1, rfl, rfl⟩, fun i σ H' _ ⟨_, _, _, _, _, _, _, s1, _⟩ => SqL.of (s1 _ _ upd_same), ?_, ?_⟩
    · rintro i lf σ H1 hi ⟨x, h, r, r6, r7, r8, rfl, s1, r1, r2, ex, lx⟩
      have hin : i < n := by
        have := (List.getElem?_eq_some_iff.mp hi).1
        rw [List.length_reverse, lt] at this
        exact this
      obtain ⟨a, ea⟩ : ∃ a, as[n - 1 - i]? = some a := ⟨as[n - 1 - i], List.getElem?_eq_getElem (by omega)⟩
      obtain rfl : lf = V.ref a := by
        rw [List.getElem?_reverse (by omega), lt, List.getElem?_take, if_pos (by omega), List.getElem?_map, ea] at hi
        simpa using hi.symm
      have ha := s1 _ _ (uL _ _ (hd _ _ ea))
      have m1 : n - i = (n - 1 - i) + 1 := by omega
      have m2 : n - (i + 1) = n - 1 - i := by omega
      rw [m1] at r2 ex
      walk_at "rd"
      refine ⟨fun j σ H' => ∃ (r7 r8 : Option V), σ = [some (V.ref p), some (V.int first), some (V.int r0), some (V.str x), some (V.int h), some (V.int (pr3 b last (n - 1 - i) h r j)), some (V.ref a), r7, r8] ∧ H' = H1 ∧ ∀ t, t ≤ j → 0 ≤ pr3 b last (n - 1 - i) h r t, ⟨r7, r8, rfl, rfl, fun t ht => (show t = 0 by omega) ▸ r1⟩, ?_, ?_⟩
      · rintro j k v σ H2 hj ⟨r7, r8, rfl, rfl, hpr⟩
        obtain ⟨kr, c, e1, e2, rfl, e4, e5⟩ := rises_c hj
        walk_at "rd"
        have gg : ((pvI (tg b last (n - 1 - i)) (h + kr)).map V.int).getD (.int 0) = .int (cnt b last (n - 1 - i) (h + kr)) := by rw [getD_dk, gv_tg]
        refine ⟨.inl ⟨_, .inl ha⟩, k, rfl, _, e4, kr, rfl, _, get_dk ha (h + kr), _, gg, ?_⟩
        by_cases lt2 : pr3 b last (n - 1 - i) h r j < cnt b last (n - 1 - i) (h + kr)
        · rw [if_pos lt2]
          refine ⟨⟨#[c]⟩, e5, ?_, k, rfl, _, e4, kr, rfl, _, _, _, ⟨rfl, rfl, rfl⟩, s1, hpr j (Nat.le_refl _), by rw [m2]; exact lt2, ?_, ?_⟩
          · have l1 : x.length = x.cps.size := rfl
            have l2 : (⟨#[c]⟩ : Str).length = 1 := rfl
            rw [l1, l2, sizeLine_eq]; omega
          · show (x.cps ++ #[c]).toList ++ _ = _
            rw [m2, ← ex, ur_step e2 e1 hpr lt2]
            simp
          · show (x.cps ++ #[c]).size = _
            simp [lx]
        · rw [if_neg lt2]
          refine ⟨_, gg, ?_, fun t ht => ?_⟩
          · rw [pr3_succ e1]
          · by_cases e : t = j + 1
            · rw [e, pr3_succ e1]; omega
            · exact hpr t (by omega)
      · rintro σ H2 ⟨r7, r8, rfl, rfl, hpr⟩
        have := hpr 3 (by decide)
        have := pr3_end r2 r1
        omega
    · rintro σ H1 ⟨x, h, r, r6, r7, r8, rfl, s1, r1, r2, ex, lx⟩
      rw [List.length_reverse, lt] at ex
      rw [Nat.sub_self] at ex
      have ex : x.cps.toList ++ [] = ur b last n first r0 := ex
      rw [List.append_nil] at ex
      refine hN _ _ ?_
      clear hN N
      walk_at "rd"
      have := hq H1 (uL.trans s1)
      rw [← ex] at this
      exact this
abbrev s_ways_listed : Stmt := top 29
theorem sc_ways_listed : FnScope ["length", "first", "last", "below", "many", "to_go"] ["length", "first", "last", "below"] (defScope s_ways_listed) := ⟨rfl, rfl, rfl, by decide +kernel, rfl, by decide +kernel, by decide +kernel⟩
theorem ok_ways_listed {f : Addr} {fd : FuncData} (F : FunD K "ways_listed" "ways_listed" s_ways_listed [.int 0, .int 0, .non] f fd) (m : mg "ways_listed" = some (.ref f)) (T : Tx w K mg C_HeightError C_NoCount C_NoFamily C_NoFraction C_NoHistory C_NoLine C_NoMeeting C_NoMoments C_NoName C_NoNumber C_NoSeries C_NoText C_NoThing C_NoWay C_NoWeights C_RISES C_TooFar C_TooHigh C_TooMany) (c_way_at : Callee P w K mg base 1 "way_at" ["to_go", "first", "number"] (spWayAt K)) (c_ways_counted : CalleeD P w K mg base 4 "ways_counted" ["length", "first", "last", "below"] [.int 0, .int 0, .non] (spCounted)) (c_ways_to_go : Callee P w K mg base 3 "ways_to_go" ["length", "last", "below"] (spToGo)) : CalleeD P w K mg base 5 "ways_listed" ["length", "first", "last", "below"] [.int 0, .int 0, .non] (spListed K C_TooMany) := by
  refine F.callee m ?_ ?_
  rotate_left
  · intro i hi T kV doc pm an cdv ct items us hl hz
    obtain ⟨l⟩ := items
    have hl2 : l.length = 3 := hl
    have hi2 : i ≤ 3 := hi
    have hz2 : us.length = 1 + i := by simp at hz; omega
    clear hz hl hi
    match l, hl2 with
    | [_, _, _], _ =>
      rcases (show i = 0 ∨ i = 1 ∨ i = 2 ∨ i = 3 by omega) with rfl | rfl | rfl | rfl
      · match us, hz2 with | [_], _ => exact ⟨_, rfl, rfl⟩
      · match us, hz2 with | [_, _], _ => exact ⟨_, rfl, rfl⟩
      · match us, hz2 with | [_, _, _], _ => exact ⟨_, rfl, rfl⟩
      · match us, hz2 with | [_, _, _, _], _ => exact ⟨_, rfl, rfl⟩
  refine F.okX sc_ways_listed (fun vs H Q E h => ?_) (fun cdv A outer s H vs Q E hr h => ?_)
  · obtain ⟨_, _, _, _, rfl, _⟩ := h
    rfl
  · obtain ⟨n, first, last, b, rfl, hn, hl, hno, hok⟩ := h
    refine ⟨_, (pss_cons (ps_set (i := 4) sc_ways_listed.nd rfl (Or.inl rfl) (pe_cD 3 c_ways_counted (hr.mono (by decide)) pass_cx (pa_cons (pv 0) (pa_cons (pv 1) (pa_cons (pv 2) (pa_cons (pv 3) pa_nil)))))) (pss_cons (ps_if (pt_cmpR op_gt (pv 4) (pe_globI T.g_MOST_L) (nomark _)) (pss_one (ps_raise raises_cx rfl rfl T.m_TooMany T.x_TooMany (pa_cons pe_str pa_nil))) pss_nil) (pss_cons (ps_set (i := 5) sc_ways_listed.nd rfl (Or.inr rfl) (pe_c c_ways_to_go (hr.mono (by decide)) pass_cx (pa_cons (pv 0) (pa_cons (pv 2) (pa_cons (pv 3) pa_nil))))) (pss_one (ps_ret (PCo.pe (coR T.b_range (pv 4) (fun _ hpi => pe_comp2 ["number"] "to_go" 5 "first" 1 rfl hpi (fun _ _ _ _ _ => (pg_name (i := 0) (show List.Nodup [("number" : Str), ("to_go" : Str), ("first" : Str)] by decide +kernel) rfl (Or.inl rfl) (Or.inr rfl)).mo) (fun _ _ _ _ _ => PE.mo (pe_c c_way_at (hr.mono (by decide)) passE0 (pa_cons (pv 1) (pa_cons (pv 2) (pa_cons (pv 0) pa_nil))))) rfl rfl rfl rfl rfl rfl rfl rfl rfl)))))))), ?_⟩
    refine tSeq_step fun N hN => ?_
    walk_at "rd"
    refine ⟨n, first, last, b, rfl, by omega, hl, fun H1 s1 => hN _ _ ?_⟩
    clear hN N
    refine tSeq_step fun N hN => ?_
    walk_at "rd"
    by_cases big : 400 < cnt b last n first
    · rw [if_pos big]
      exact ⟨sz_le 1 (by decide), hno big _ s1⟩
    · rw [if_neg big]
      refine hN _ _ ?_
      clear hN N
      have c0 := cnt_nn b last n first
      refine tSeq_step fun N hN => ?_
      walk_at "rd"
      refine ⟨n, last, b, rfl, by omega, hl, fun p H2 s2 np dl => hN _ _ ?_⟩
      clear hN N
      walk_at "rd"
      refine ⟨by omega, by omega, CO.els (js := [some 5, some 1]) (fun i _ x => x = .str ⟨(ur b last n first i).toArray⟩) (fun _ _ _ _ _ z => z) (fun _ _ _ _ _ _ _ z => z) (by omega) (fun _ _ => trivial) (fun i H' x R hi sm hx kk => ?_) fun D H' xs sm nD hD lx hx => ?_⟩
      · subst hx
        obtain ⟨as, hp, la, hd⟩ := dl
        have dl' : DL H' b last n p := ⟨as, sm _ _ hp, la, fun i a h => sm _ _ (hd i a h)⟩
        walk_at "rd"
        exact ⟨p, b, last, first, i, n, rfl, dl', by omega, by omega, by omega, fun H3 s3 => kk _ H3 s3 rfl⟩
      · refine hok (by omega) D _ ((s1.trans s2).trans sm) ((s1.trans s2).free nD) ?_
        rw [hD]
        congr 2
        refine List.ext_getElem? fun j => ?_
        by_cases hj : j < (cnt b last n first).toNat
        · have e : xs[j]? = some xs[j] := List.getElem?_eq_getElem (by omega)
          rw [e, hx j _ e]
          simp [wl, hj]
        · rw [List.getElem?_eq_none (by omega), List.getElem?_eq_none (by simp [wl]; omega)]
abbrev s_number_of : Stmt := top 30
theorem sc_number_of : FnScope ["way", "heights", "to_go", "number", "at", "sign", "left"] ["way"] (defScope s_number_of) := ⟨rfl, rfl, rfl, by decide +kernel, rfl, by decide +kernel, by decide +kernel⟩
theorem ok_number_of {f : Addr} {fd : FuncData} (F : Fun K "number_of" "number_of" s_number_of f fd) (m : mg "number_of" = some (.ref f)) (T : Tx w K mg C_HeightError C_NoCount C_NoFamily C_NoFraction C_NoHistory C_NoLine C_NoMeeting C_NoMoments C_NoName C_NoNumber C_NoSeries C_NoText C_NoThing C_NoWay C_NoWeights C_RISES C_TooFar C_TooHigh C_TooMany) (c_heights_of : CalleeD P w K mg base 4 "heights_of" ["way", "first", "last"] [.int 0, .int 0] (spHts K C_NoWay)) (c_ways_to_go : Callee P w K mg base 3 "ways_to_go" ["length", "last", "below"] (spToGo)) : Callee P w K mg base 5 "number_of" ["way"] (spNumber K C_NoWay) := by
  refine ⟨f, fd, ?_, m, F.kp, F.binds fun _ _ _ _ _ _ us hl => match us, hl with | [_], _ => rfl⟩
  refine F.okX sc_number_of (fun vs H Q E h => ?_) (fun cdv A outer s H vs Q E hr h => ?_)
  · obtain ⟨_, rfl, _⟩ := h
    rfl
  · obtain ⟨x, rfl, hx, ax, hbad, hne, hok⟩ := h
    refine ⟨_, (pss_cons (ps_set (i := 1) sc_number_of.nd rfl (Or.inr rfl) (pe_cD 0 c_heights_of (hr.mono (by decide)) pass_cx (pa_cons (pv 0) pa_nil))) (pss_cons (ps_set (i := 2) sc_number_of.nd rfl (Or.inl rfl) (pe_c c_ways_to_go (hr.mono (by decide)) pass_cx (pa_cons (pe_callB call_len_str (by rfl) T.b_len PySem.boot_len (pa_cons (pv 0) pa_nil)) (pa_cons pe_int (pa_cons pe_non pa_nil))))) (pss_cons (ps_set (i := 3) sc_number_of.nd rfl (Or.inl rfl) pe_int) (pss_cons (ps_forES rfl PassesOwn.leaving T.b_enumerate (pv 0) (pg_tup rfl (pgs_cons (pg_name (i := 4) sc_number_of.nd rfl (Or.inr rfl)) (pgs_cons (pg_name (i := 5) sc_number_of.nd rfl (Or.inr rfl)) pgs_nil))) (pss_cons (ps_set (i := 6) sc_number_of.nd rfl (Or.inr rfl) (pe_ix ix_list (pv 2) (pe_op op_sub (pe_op op_sub (pe_callB call_len_str (by rfl) T.b_len PySem.boot_len (pa_cons (pv 0) pa_nil)) (pv 4)) pe_int) (fun _ _ => rfl))) (pss_one (ps_set (i := 3) sc_number_of.nd rfl (Or.inl rfl) (pe_op op_add (pv 3) (pe_callB (call_sum rfl) (by rfl) T.b_sum (by decide +kernel) (pa_cons (PCo.peI (coKI T.rises (pe_glob (v := .ref C_RISES) rfl T.m_RISES rfl) (fun _ hpi => pe_compIN ["other"] [("sign", 5, _), ("left", 6, _), ("heights", 1, _), ("at", 4, _)] rfl hpi (fun _ _ _ _ _ => (pg_name (i := 0) (show List.Nodup [("other" : Str), ("sign" : Str), ("left" : Str), ("heights" : Str), ("at" : Str)] by decide +kernel) rfl (Or.inl rfl) (Or.inr rfl)).mo) (fun _ _ _ _ _ => PT.mo (pt_cmpR op_lt_str (pv 0) (pv 1) (nomark _))) (fun _ _ _ _ _ => PE.mo (pe_dget2 (hu_of hr) (pv 2) (pe_op op_add (pe_ix (show IxR _ (rIxT K) from ix_tup) (pv 3) (pv 4) (fun _ _ => rfl)) (pe_kix T.rises (pe_glob (v := .ref C_RISES) rfl T.m_RISES rfl) (pv 0) (fun _ _ => rfl))) pe_int ⟨rfl, rfl, rfl, rfl⟩)) rfl ⟨rfl, rfl, rfl, rfl, rfl, rfl, rfl, rfl, rfl, rfl, rfl, rfl, rfl, rfl, rfl, rfl, trivial⟩ (show List.Nodup [("sign" : Str), ("left" : Str), ("heights" : Str), ("at" : Str)] by decide +kernel) (fun p hp hf => (show ∀ p ∈ _, p.2 = NameKind.free → p.1 ∈ [("sign" : Str), ("left" : Str), ("heights" : Str), ("at" : Str)] by decide +kernel) p hp hf)))) pa_nil))))))) (pss_one (ps_ret (pv 3))))))), ?_⟩
    refine tSeq_step fun N hN => ?_
    walk_at "rd"
    refine ⟨x, 0, 0, rfl, Int.le_refl _, by omega, ax, fun k hk hp hn => hbad k ⟨hk, hp, hn⟩, hne, fun al el p H1 s1 h1 => hN _ _ ?_⟩
    clear hN N
    have ok := all_okW al el
    have lx : x.length = x.cps.size := rfl
    refine tSeq_step fun N hN => ?_
    walk_at "rd"
    refine ⟨sz_le _ (by rw [lx]; omega), x.cps.size, 0, none, rfl, by omega, by decide, fun q H2 s2 nq dl => hN _ _ ?_⟩
    clear hN N
    have h2 := s2 _ _ h1
    refine tSeq_step fun N hN => ?_
    walk_at "rd"
    refine hN _ _ ?_
    clear hN N
    refine tSeq_step fun N hN => ?_
    walk_at "rd"
    obtain ⟨as, hq2, la, hd⟩ := dl
    have lcs : x.cps.toList.length = x.cps.size := by simp
    refine ⟨by simpa [asc] using ax, fun k σ H' => ∃ (r4 r5 r6 : Option V) (num : Int), σ = [some (.str x), some (.ref p), some (.ref q), some (.int num), r4, r5, r6] ∧ Same H2 H' ∧ num + rk none 0 (x.cps.toList.drop k) (hgt x.cps.toList 0 k) = rk none 0 x.cps.toList 0, ⟨none, none, none, 0, rfl, Same.refl _, by simp [hgt]⟩, ?_, ?_⟩
    · rintro k c σ H3 t hc ⟨r4, r5, r6, num, rfl, s3, eq⟩ nt
      have hk : k < x.cps.size := (Array.getElem?_eq_some_iff.mp hc).1
      have hcl : x.cps.toList[k]? = some c := by rw [Array.getElem?_toList]; exact hc
      have ut := same_upd (o := .tup [.int k, .str ⟨#[c]⟩]) nt
      have cc := okW_mem ok c (List.mem_of_getElem? hcl)
      have hv := okW_ht k x ok (by omega)
      have at0 : atI (htL x 0 x.cps.size) (k : Int) = some (.int (hgt x.cps.toList 0 k)) := by
        have := atI_nat (htL_at (x := x) (h0 := 0) (show k ≤ x.cps.size by omega))
        rw [hv] at this
        exact this
      obtain ⟨a, ea⟩ : ∃ a, as[x.cps.size - k - 1]? = some a := ⟨as[x.cps.size - k - 1], List.getElem?_eq_getElem (by omega)⟩
      have ha := hd _ _ ea
      have ate : atI (as.map V.ref) ((x.length : Int) - k - 1) = some (.ref a) := by
        have := atI_nat (xs := as.map V.ref) (j := x.cps.size - k - 1) (v := .ref a) (by rw [List.getElem?_map, ea]; rfl)
        rw [← this]; congr 1; rw [lx]; omega
      have dr : x.cps.toList.drop k = c :: x.cps.toList.drop (k + 1) := by
        rw [List.drop_eq_getElem_cons (by omega)]
        have : x.cps.toList[k]'(by omega) = c := by
          rw [List.getElem?_eq_getElem (by omega)] at hcl
          exact Option.some.inj hcl
        rw [this]
      have hg1 : hgt x.cps.toList 0 (k + 1) = hgt x.cps.toList 0 k + (rsC c).getD 0 := by rw [hgt, hcl, Option.getD_some]
      rw [dr, rk, List.length_drop, lcs] at eq
      rw [← hg1, show x.cps.size - (k + 1) = x.cps.size - k - 1 by omega] at eq
      generalize hm : x.cps.size - k - 1 = m at *
      generalize hgt x.cps.toList 0 k = h at *
      walk_at "rd"
      refine ⟨_, SqT.of upd_same, rfl, _, _, rfl, _, _, rfl, rfl, sz_le _ (by rw [lx]; omega), k, rfl, _, SqL.of (ut _ _ (s3 _ _ hq2)), _, ate, fun C nC => ?_⟩
      refine ⟨fun i ys σc H' => ∃ r0, σc = [r0, some (.str ⟨#[c]⟩), some (.ref a), some (.ref p), some (.int k)] ∧ Same (upd H3 t (.tup [.int k, .str ⟨#[c]⟩])) H' ∧ H' C = some (.lst ys) ∧ ys = (lt3 m h c i).map V.int, ⟨none, rfl, same_upd nC, upd_same, rfl⟩, fun _ _ _ _ _ _ => trivial, ?_, ?_⟩
      · rintro i ys σc H4 v hi ⟨r0, rfl, s4, hC, rfl⟩ ⟨ky, ⟨vy, hv4⟩, rfl⟩
        obtain ⟨rr, c', e1, e2, rfl, e4, e5⟩ := rises_c hv4
        have ls := lt3_succ (m := m) (h := h) (c := c) e1 e2
        have ha4 := s4 _ _ (ut _ _ (s3 _ _ ha))
        have gg : ((pvI (tg none 0 m) (h + rr)).map V.int).getD (.int 0) = .int (cnt none 0 m (h + rr)) := by rw [getD_dk, gv_tg]
        have ol := one_lt c' c
        have l3 : (lt3 m h c i).length ≤ 3 := by
          have hi : i < 3 := hi
          rcases (show i = 0 ∨ i = 1 ∨ i = 2 by omega) with rfl | rfl | rfl <;> rcases cc with rfl | rfl | rfl <;> simp [lt3]
        walk_at "rd"
        refine ⟨⟨#[c']⟩, e5, ?_⟩
        by_cases lt : c' < c
        · rw [if_pos (ol.mpr lt)]
          rw [if_pos lt] at ls
          refine ⟨.inl ⟨_, .inl ha4⟩, _, SqT.of (s4 _ _ (ut _ _ (s3 _ _ h2))), _, at0, ky, rfl, _, e4, h, rfl, rr, rfl, _, get_dk ha4 (h + rr), hC, small1000 (by omega), s4.updL nC, upd_same, ?_⟩
          rw [gg, ls, List.map_append]
          rfl
        · rw [if_neg (fun z => lt (ol.mp z))]
          rw [if_neg lt, List.append_nil] at ls
          exact ⟨s4, hC, by rw [ls]⟩
      · rintro ys σc H4 ⟨r0, rfl, s4, hC, rfl⟩
        refine ⟨hC, C, rfl, _, SqL.of hC, _, _, _, _, ⟨rfl, rfl, rfl, rfl⟩, s3.trans (ut.trans s4), ?_⟩
        rw [show rises.length = 3 from rfl, lt3_sum cc, ← eq]
        omega
    · rintro σ H3 ⟨r4, r5, r6, num, rfl, s3, eq⟩
      rw [List.drop_eq_nil_of_le (by omega)] at eq
      have eq : num + 0 = rk none 0 x.cps.toList 0 := eq
      rw [Int.add_zero] at eq
      refine hN _ _ ?_
      clear hN N
      walk_at "rd"
      rw [eq]
      exact hok al el _ ((s1.trans s2).trans s3)
abbrev s_way_by : Stmt := top 31
theorem sc_way_by : FnScope ["length", "number"] ["length", "number"] (defScope s_way_by) := ⟨rfl, rfl, rfl, by decide +kernel, rfl, by decide +kernel, by decide +kernel⟩
theorem ok_way_by {f : Addr} {fd : FuncData} (F : Fun K "way_by" "way_by" s_way_by f fd) (m : mg "way_by" = some (.ref f)) (T : Tx w K mg C_HeightError C_NoCount C_NoFamily C_NoFraction C_NoHistory C_NoLine C_NoMeeting C_NoMoments C_NoName C_NoNumber C_NoSeries C_NoText C_NoThing C_NoWay C_NoWeights C_RISES C_TooFar C_TooHigh C_TooMany) (c_way_at : Callee P w K mg base 1 "way_at" ["to_go", "first", "number"] (spWayAt K)) (c_ways_counted : CalleeD P w K mg base 4 "ways_counted" ["length", "first", "last", "below"] [.int 0, .int 0, .non] (spCounted)) (c_ways_to_go : Callee P w K mg base 3 "ways_to_go" ["length", "last", "below"] (spToGo)) : Callee P w K mg base 5 "way_by" ["length", "number"] (spWayBy K C_NoNumber) := by
  refine ⟨f, fd, ?_, m, F.kp, F.binds fun _ _ _ _ _ _ us hl => match us, hl with | [_, _], _ => rfl⟩
  refine F.okX sc_way_by (fun vs H Q E h => ?_) (fun cdv A outer s H vs Q E hr h => ?_)
  · obtain ⟨_, _, rfl, _⟩ := h
    rfl
  · obtain ⟨n, r, rfl, hn, hno, hok⟩ := h
    refine ⟨_, (pss_cons (ps_if (pt_not (pt_chain op_le op_lt pe_int (pv 1) (pe_cD 0 c_ways_counted (hr.mono (by decide)) pass_cx (pa_cons (pv 0) pa_nil)))) (pss_one (ps_raise raises_cx rfl rfl T.m_NoNumber T.x_NoNumber (pa_cons pe_str pa_nil))) pss_nil) (pss_one (ps_ret (pe_c c_way_at (hr.mono (by decide)) pass_cx (pa_cons (pe_c c_ways_to_go (hr.mono (by decide)) pass_cx (pa_cons (pv 0) (pa_cons pe_int (pa_cons pe_non pa_nil)))) (pa_cons pe_int (pa_cons (pv 1) pa_nil))))))), ?_⟩
    walk_at "rd"
    split
    · rename_i r0
      refine ⟨n, 0, 0, none, rfl, by omega, by decide, fun H1 s1 => ⟨_, rfl, ?_⟩⟩
      split
      · rename_i lt
        refine ⟨n, 0, none, rfl, by omega, by decide, fun p H2 s2 np dl => ⟨p, none, 0, 0, r, n, rfl, dl, by omega, r0, lt, fun H3 s3 => hok r0 lt _ ((s1.trans s2).trans s3)⟩⟩
      · rename_i ge
        exact ⟨sz_le 1 (by decide), hno (fun z => ge z.2) _ s1⟩
    · rename_i r0
      exact ⟨sz_le 1 (by decide), hno (fun z => r0 z.1) _ (Same.refl _)⟩
abbrev s__law_whole : Stmt := top 33
theorem sc__law_whole : FnScope ["_law_found"] ["_law_found"] (defScope s__law_whole) := ⟨rfl, rfl, rfl, by decide +kernel, rfl, by decide +kernel, by decide +kernel⟩
theorem ok__law_whole {f : Addr} {fd : FuncData} (F : Fun K "_law_whole" "_law_whole" s__law_whole f fd) (m : mg "_law_whole" = some (.ref f)) (T : Tx w K mg C_HeightError C_NoCount C_NoFamily C_NoFraction C_NoHistory C_NoLine C_NoMeeting C_NoMoments C_NoName C_NoNumber C_NoSeries C_NoText C_NoThing C_NoWay C_NoWeights C_RISES C_TooFar C_TooHigh C_TooMany) : Callee P w K mg base 1 "_law_whole" ["_law_found"] (spWhole) := by
  refine ⟨f, fd, ?_, m, F.kp, F.binds fun _ _ _ _ _ _ us hl => match us, hl with | [_], _ => rfl⟩
  refine F.okE sc__law_whole (fun vs H Q E h => ?_) (fun cdv A outer s H vs Q E hr h => ?_)
  · obtain ⟨_, rfl, _⟩ := h
    rfl
  · obtain ⟨a, rfl, hq⟩ := h
    refine ⟨_, (pss_one (ps_ret (pe_and (pe_callB call_isi (by rfl) T.b_isinstance (by decide +kernel) (pa_cons (pv 0) (pa_cons (pe_bltn (v := .ty "int") (u := .type "int") rfl T.b_int (by decide +kernel) rfl) pa_nil))) (pe_one (pe_not (pe_callB call_isi (by rfl) T.b_isinstance (by decide +kernel) (pa_cons (pv 0) (pa_cons (pe_bltn (v := .ty "bool") (u := .type "bool") rfl T.b_bool (by decide +kernel) rfl) pa_nil)))))))), ?_⟩
    walk_at "rd"
    refine isi_ii (.inr ⟨rfl, isi_ib (.inl ⟨rfl, hq⟩)⟩)
abbrev s__law_stir : Stmt := top 34
theorem sc__law_stir : FnScope ["_law_script", "_law_k", "_law_cell", "_law_c"] ["_law_script", "_law_k"] (defScope s__law_stir) := ⟨rfl, rfl, rfl, by decide +kernel, rfl, by decide +kernel, by decide +kernel⟩
theorem ok__law_stir {f : Addr} {fd : FuncData} (F : Fun K "_law_stir" "_law_stir" s__law_stir f fd) (m : mg "_law_stir" = some (.ref f)) (T : Tx w K mg C_HeightError C_NoCount C_NoFamily C_NoFraction C_NoHistory C_NoLine C_NoMeeting C_NoMoments C_NoName C_NoNumber C_NoSeries C_NoText C_NoThing C_NoWay C_NoWeights C_RISES C_TooFar C_TooHigh C_TooMany) : Callee P w K mg base 1 "_law_stir" ["_law_script", "_law_k"] (spStir2 K) := by
  refine ⟨f, fd, ?_, m, F.kp, F.binds fun _ _ _ _ _ _ us hl => match us, hl with | [_, _], _ => rfl⟩
  refine F.okE sc__law_stir (fun vs H Q E h => ?_) (fun cdv A outer s H vs Q E hr h => ?_)
  · obtain ⟨_, _, _, rfl, _⟩ := h
    rfl
  · obtain ⟨a, ns, k, rfl, hs, hk, hk2, hq⟩ := h
    refine ⟨_, (pss_cons (ps_set (i := 2) sc__law_stir.nd rfl (Or.inl rfl) pe_int) (pss_cons (ps_if (pt_cmpR op_lt (pv 1) (pe_callB call_len_seq (by rfl) T.b_len PySem.boot_len (pa_cons (pv 0) pa_nil)) (nomark _)) (pss_one (ps_set (i := 2) sc__law_stir.nd rfl (Or.inl rfl) (pe_ix ix_list (pv 0) (pv 1) (fun _ _ => rfl)))) pss_nil) (pss_cons (ps_set (i := 3) sc__law_stir.nd rfl (Or.inl rfl) (pe_op op_add (pe_op op_add (pe_op op_add (pe_op op_mod (pv 2) (pe_op op_pow pe_int pe_int)) pe_int) (pe_op op_mul pe_int (pv 1))) (pe_op op_mul (pe_op op_mul pe_int (pv 1)) (pv 1)))) (pss_one (ps_ret (pe_op op_mod (pe_op op_mul (pe_op op_mod (pe_op op_mul (pv 3) pe_int) pe_int) pe_int) pe_int)))))), ?_⟩
    refine tSeq_step fun N hN => ?_
    walk_at "rd"
    refine hN _ _ ?_
    clear hN N
    refine tSeq_step fun N hN => ?_
    have fin : ∀ c : Int, N [some (.ref a), some (.int k), some (.int c), none] H := fun c => by
      refine hN _ _ ?_
      clear hN N
      refine tSeq_step fun N hN => ?_
      walk_at "rd"
      refine ⟨.inl ⟨by decide, by decide⟩, .inl ⟨by decide, by decide⟩, .inr ⟨by omega, by omega⟩, hN _ _ ?_⟩
      clear hN N
      generalize c % 10000000000000000000000000000000000000000 + 1 + 13 * k + 7 * k * k = z
      walk_at "rd"
      exact ⟨.inr ⟨by decide, by decide⟩, .inr ⟨by decide, by decide⟩, hq _ (by omega) (by omega)⟩
    clear hN
    walk_at "rd"
    refine ⟨ns.map V.int, .inl hs, ?_⟩
    split
    · rename_i hlt
      have hl : k.toNat < ns.length := by simp at hlt; omega
      refine ⟨ns.map V.int, hs, .int ns[k.toNat], ?_, fin _⟩
      have := atI_nat (xs := ns.map V.int) (j := k.toNat) (v := .int ns[k.toNat]) (by simp [hl])
      rw [Int.toNat_of_nonneg hk] at this
      exact this
    · exact fin 0
abbrev s__law_rise : Stmt := top 35
theorem sc__law_rise : FnScope ["_law_sign"] ["_law_sign"] (defScope s__law_rise) := ⟨rfl, rfl, rfl, by decide +kernel, rfl, by decide +kernel, by decide +kernel⟩
theorem ok__law_rise {f : Addr} {fd : FuncData} (F : Fun K "_law_rise" "_law_rise" s__law_rise f fd) (m : mg "_law_rise" = some (.ref f)) (T : Tx w K mg C_HeightError C_NoCount C_NoFamily C_NoFraction C_NoHistory C_NoLine C_NoMeeting C_NoMoments C_NoName C_NoNumber C_NoSeries C_NoText C_NoThing C_NoWay C_NoWeights C_RISES C_TooFar C_TooHigh C_TooMany) : Callee P w K mg base 1 "_law_rise" ["_law_sign"] (spRise) := by
  refine ⟨f, fd, ?_, m, F.kp, F.binds fun _ _ _ _ _ _ us hl => match us, hl with | [_], _ => rfl⟩
  refine F.okE sc__law_rise (fun vs H Q E h => ?_) (fun cdv A outer s H vs Q E hr h => ?_)
  · obtain ⟨_, _, rfl, _⟩ := h
    rfl
  · obtain ⟨c, r, rfl, hrise, hq⟩ := h
    refine ⟨_, (pss_one (ps_ret (pe_dget (hu_of hr) (pe_disp (pps_cons pe_str (pe_un un_neg pe_int) (pps_cons pe_str pe_int (pps_cons pe_str pe_int pps_nil))) rfl rfl (by simp) (by decide)) (pv 0) (fun _ _ => rfl)))), ?_⟩
    walk_at "rd"
    intro p np
    have mk : mergeK [] rises = rises := by rfl
    have sm : ∀ b : HO, Same H (upd (upd H p (.dK [])) p b) := fun b a o z => by rw [upd_ne (ne_of_none z np), upd_ne (ne_of_none z np)]; exact z
    try simp only [tPairs, tC, tUn, rU]
    first
      | refine ⟨1, rfl, upd_same, rises, rfl, by decide, p, rfl, .int r, ?_, hq _ (sm _)⟩
      | refine ⟨upd_same, rises, rfl, by decide, .int r, ?_, hq _ (sm _)⟩
    have g : DGet (upd (upd H p (.dK [])) p (.dK (mergeK [] rises))) p (kV (.inr ⟨#[c]⟩)) (valV (mergeK [] rises) (.inr ⟨#[c]⟩)) := DGet.k upd_same
    rw [mk, rises_at, hrise] at g
    rw [mk]
    exact g
abbrev s__law_marks : Stmt := top 36
theorem sc__law_marks : FnScope ["_law_e", "_law_marks_here"] ["_law_e"] (defScope s__law_marks) := ⟨rfl, rfl, rfl, by decide +kernel, rfl, by decide +kernel, by decide +kernel⟩
theorem ok__law_marks {f : Addr} {fd : FuncData} (F : Fun K "_law_marks" "_law_marks" s__law_marks f fd) (m : mg "_law_marks" = some (.ref f)) (T : Tx w K mg C_HeightError C_NoCount C_NoFamily C_NoFraction C_NoHistory C_NoLine C_NoMeeting C_NoMoments C_NoName C_NoNumber C_NoSeries C_NoText C_NoThing C_NoWay C_NoWeights C_RISES C_TooFar C_TooHigh C_TooMany) : CalleeU P w K mg base 1 "_law_marks" ["_law_e"] (spMarks2 C_NoWay C_NoNumber) := by
  refine ⟨f, fd, ?_, m, F.kp, F.binds fun _ _ _ _ _ _ us hl => match us, hl with | [_], _ => rfl⟩
  refine F.okU sc__law_marks (fun vs H Q E h => ?_) (fun cdv A outer s H vs Q E hr h => ?_)
  · obtain ⟨_, _, rfl, _⟩ := h
    rfl
  · obtain ⟨e, dv, rfl, h⟩ := h
    refine ⟨_, (pss_cons (ps_set (i := 1) sc__law_marks.nd rfl (Or.inl rfl) (pe_lst (pa_cons (pe_callB call_isi (by rfl) T.b_isinstance (by decide +kernel) (pa_cons (pv 0) (pa_cons (pe_bltn (v := .ty "ValueError") (u := .type "ValueError") rfl T.b_ValueError (by decide +kernel) rfl) pa_nil))) (pa_cons (pe_callB call_isi (by rfl) T.b_isinstance (by decide +kernel) (pa_cons (pv 0) (pa_cons (pe_glob (v := .ref C_NoFraction) rfl T.m_NoFraction rfl) pa_nil))) (pa_cons (pe_callB call_isi (by rfl) T.b_isinstance (by decide +kernel) (pa_cons (pv 0) (pa_cons (pe_glob (v := .ref C_TooMany) rfl T.m_TooMany rfl) pa_nil))) (pa_cons (pe_callB call_isi (by rfl) T.b_isinstance (by decide +kernel) (pa_cons (pv 0) (pa_cons (pe_glob (v := .ref C_TooFar) rfl T.m_TooFar rfl) pa_nil))) pa_nil)))))) (pss_cons (ps_set (i := 1) sc__law_marks.nd rfl (Or.inl rfl) (pe_op op_cat (pv 1) (pe_lst (pa_cons (pe_callB call_isi (by rfl) T.b_isinstance (by decide +kernel) (pa_cons (pv 0) (pa_cons (pe_glob (v := .ref C_NoNumber) rfl T.m_NoNumber rfl) pa_nil))) (pa_cons (pe_callB call_isi (by rfl) T.b_isinstance (by decide +kernel) (pa_cons (pv 0) (pa_cons (pe_glob (v := .ref C_NoWeights) rfl T.m_NoWeights rfl) pa_nil))) (pa_cons (pe_callB call_isi (by rfl) T.b_isinstance (by decide +kernel) (pa_cons (pv 0) (pa_cons (pe_glob (v := .ref C_NoSeries) rfl T.m_NoSeries rfl) pa_nil))) pa_nil)))))) (pss_cons (ps_set (i := 1) sc__law_marks.nd rfl (Or.inl rfl) (pe_op op_cat (pv 1) (pe_lst (pa_cons (pe_callB call_isi (by rfl) T.b_isinstance (by decide +kernel) (pa_cons (pv 0) (pa_cons (pe_glob (v := .ref C_NoMoments) rfl T.m_NoMoments rfl) pa_nil))) (pa_cons (pe_callB call_isi (by rfl) T.b_isinstance (by decide +kernel) (pa_cons (pv 0) (pa_cons (pe_glob (v := .ref C_NoFamily) rfl T.m_NoFamily rfl) pa_nil))) (pa_cons (pe_callB call_isi (by rfl) T.b_isinstance (by decide +kernel) (pa_cons (pv 0) (pa_cons (pe_glob (v := .ref C_NoMeeting) rfl T.m_NoMeeting rfl) pa_nil))) pa_nil)))))) (pss_cons (ps_set (i := 1) sc__law_marks.nd rfl (Or.inl rfl) (pe_op op_cat (pv 1) (pe_lst (pa_cons (pe_callB call_isi (by rfl) T.b_isinstance (by decide +kernel) (pa_cons (pv 0) (pa_cons (pe_glob (v := .ref C_NoThing) rfl T.m_NoThing rfl) pa_nil))) (pa_cons (pe_callB call_isi (by rfl) T.b_isinstance (by decide +kernel) (pa_cons (pv 0) (pa_cons (pe_glob (v := .ref C_NoLine) rfl T.m_NoLine rfl) pa_nil))) (pa_cons (pe_callB call_isi (by rfl) T.b_isinstance (by decide +kernel) (pa_cons (pv 0) (pa_cons (pe_glob (v := .ref C_NoText) rfl T.m_NoText rfl) pa_nil))) (pa_cons (pe_callB call_isi (by rfl) T.b_isinstance (by decide +kernel) (pa_cons (pv 0) (pa_cons (pe_glob (v := .ref C_NoWay) rfl T.m_NoWay rfl) pa_nil))) pa_nil))))))) (pss_cons (ps_set (i := 1) sc__law_marks.nd rfl (Or.inl rfl) (pe_op op_cat (pv 1) (pe_lst (pa_cons (pe_callB call_isi (by rfl) T.b_isinstance (by decide +kernel) (pa_cons (pv 0) (pa_cons (pe_glob (v := .ref C_TooHigh) rfl T.m_TooHigh rfl) pa_nil))) (pa_cons (pe_callB call_isi (by rfl) T.b_isinstance (by decide +kernel) (pa_cons (pv 0) (pa_cons (pe_glob (v := .ref C_NoHistory) rfl T.m_NoHistory rfl) pa_nil))) (pa_cons (pe_callB call_isi (by rfl) T.b_isinstance (by decide +kernel) (pa_cons (pv 0) (pa_cons (pe_glob (v := .ref C_NoCount) rfl T.m_NoCount rfl) pa_nil))) pa_nil)))))) (pss_one (ps_ret (pe_op op_cat (pv 1) (pe_lst (pa_cons (pe_callB call_isi (by rfl) T.b_isinstance (by decide +kernel) (pa_cons (pv 0) (pa_cons (pe_glob (v := .ref C_NoName) rfl T.m_NoName rfl) pa_nil))) pa_nil)))))))))), ?_⟩
    walk_at "rd"
    rcases h with ⟨he, hq⟩ | ⟨he, hq⟩
    · refine isi_x he T.xc rfl T.k_ValueError (isi_x he T.xc rfl T.k_NoFraction (isi_x he T.xc rfl T.k_TooMany (isi_x he T.xc rfl T.k_TooFar ⟨sz_le 4 (by decide), fun p n => ?_⟩)))
      have s1 : Same H (upd H p (.lst [.bl true, .bl false, .bl false, .bl false])) := same_upd n
      refine step3 (s1 _ _ he) upd_same (by decide) T.xc rfl T.k_NoNumber rfl T.k_NoWeights rfl T.k_NoSeries (fun l2 H2 s2 n2 he2 hl2 => ?_)
      refine step3 he2 hl2 (by decide) T.xc rfl T.k_NoMoments rfl T.k_NoFamily rfl T.k_NoMeeting (fun l3 H3 s3 n3 he3 hl3 => ?_)
      refine step4 he3 hl3 (by decide) T.xc rfl T.k_NoThing rfl T.k_NoLine rfl T.k_NoText rfl T.k_NoWay (fun l4 H4 s4 n4 he4 hl4 => ?_)
      refine step3 he4 hl4 (by decide) T.xc rfl T.k_TooHigh rfl T.k_NoHistory rfl T.k_NoCount (fun l5 H5 s5 n5 he5 hl5 => ?_)
      refine step1 he5 hl5 (by decide) T.xc rfl T.k_NoName (fun l6 H6 s6 n6 he6 hl6 => ?_)
      have st := (((s1.trans s2).trans s3).trans s4).trans s5
      exact hq l6 H6 (st.trans s6) (st.free n6) hl6
    · refine isi_x he T.xc2 rfl T.k2_ValueError (isi_x he T.xc2 rfl T.k2_NoFraction (isi_x he T.xc2 rfl T.k2_TooMany (isi_x he T.xc2 rfl T.k2_TooFar ⟨sz_le 4 (by decide), fun p n => ?_⟩)))
      have s1 : Same H (upd H p (.lst [.bl true, .bl false, .bl false, .bl false])) := same_upd n
      refine step3 (s1 _ _ he) upd_same (by decide) T.xc2 rfl T.k2_NoNumber rfl T.k2_NoWeights rfl T.k2_NoSeries (fun l2 H2 s2 n2 he2 hl2 => ?_)
      refine step3 he2 hl2 (by decide) T.xc2 rfl T.k2_NoMoments rfl T.k2_NoFamily rfl T.k2_NoMeeting (fun l3 H3 s3 n3 he3 hl3 => ?_)
      refine step4 he3 hl3 (by decide) T.xc2 rfl T.k2_NoThing rfl T.k2_NoLine rfl T.k2_NoText rfl T.k2_NoWay (fun l4 H4 s4 n4 he4 hl4 => ?_)
      refine step3 he4 hl4 (by decide) T.xc2 rfl T.k2_TooHigh rfl T.k2_NoHistory rfl T.k2_NoCount (fun l5 H5 s5 n5 he5 hl5 => ?_)
      refine step1 he5 hl5 (by decide) T.xc2 rfl T.k2_NoName (fun l6 H6 s6 n6 he6 hl6 => ?_)
      have st := (((s1.trans s2).trans s3).trans s4).trans s5
      exact hq l6 H6 (st.trans s6) (st.free n6) hl6
abbrev s__law_only : Stmt := top 37
theorem sc__law_only : FnScope ["_law_at"] ["_law_at"] (defScope s__law_only) := ⟨rfl, rfl, rfl, by decide +kernel, rfl, by decide +kernel, by decide +kernel⟩
theorem ok__law_only {f : Addr} {fd : FuncData} (F : Fun K "_law_only" "_law_only" s__law_only f fd) (m : mg "_law_only" = some (.ref f)) (T : Tx w K mg C_HeightError C_NoCount C_NoFamily C_NoFraction C_NoHistory C_NoLine C_NoMeeting C_NoMoments C_NoName C_NoNumber C_NoSeries C_NoText C_NoThing C_NoWay C_NoWeights C_RISES C_TooFar C_TooHigh C_TooMany) : Callee P w K mg base 1 "_law_only" ["_law_at"] (spOnly) := by
  refine ⟨f, fd, ?_, m, F.kp, F.binds fun _ _ _ _ _ _ us hl => match us, hl with | [_], _ => rfl⟩
  refine F.okE sc__law_only (fun vs H Q E h => ?_) (fun cdv A outer s H vs Q E hr h => ?_)
  · obtain ⟨_, rfl, _⟩ := h
    rfl
  · obtain ⟨j, rfl, hj, hq⟩ := h
    refine ⟨_, (pss_one (ps_ret (PCo.pe (coR T.b_range pe_int (fun _ hpi => pe_comp1 ["_law_k"] "_law_at" 0 rfl hpi (fun _ _ _ _ _ => (pg_name (i := 0) (show List.Nodup [("_law_k" : Str), ("_law_at" : Str)] by decide +kernel) rfl (Or.inl rfl) (Or.inr rfl)).mo) (fun _ _ _ _ _ => PE.mo (pe_cmpR (show OpR _ (compareOp .In) (rIn K false) from op_in_seq) (pv 0) (pe_tup (pa_cons pe_int (pa_cons (pv 1) pa_nil))) rfl)) rfl rfl rfl rfl rfl))))), ?_⟩
    walk_at "rd"
    refine CO.pure1 (fun k => .bl (k == 0 || k == j)) (by decide) (fun _ _ => trivial) (fun i H2 x R hi sm hx k => ?_) fun D H2 sm hD hl => hq D H2 sm hD (by rw [hl]; simp [oneHot])
    subst hx
    walk_at "rd"
    refine ⟨sz_le 2 (by decide), fun p hp => ⟨_, .inr (SqT.of upd_same), rfl, ?_, k _ _ ?_ (same_upd hp)⟩⟩
    · intro x hx
      rcases List.mem_cons.mp hx with rfl | hx
      · rfl
      · rw [List.mem_singleton.mp hx]; rfl
    · show V.bl (((0 : Int) == (i : Int)) || (((j : Int) == (i : Int)) || false)) = _
      rw [Bool.or_false]
      congr 2
      · rw [Bool.eq_iff_iff]; simp; omega
      · rw [Bool.eq_iff_iff]; simp; omega
abbrev s__law_row : Stmt := top 38
theorem sc__law_row : FnScope ["_law_script", "_law_k", "_law_many", "_law_size", "_law_cell", "_law_found", "_law_c", "_law_at"] ["_law_script", "_law_k", "_law_many", "_law_size"] (defScope s__law_row) := ⟨rfl, rfl, rfl, by decide +kernel, rfl, by decide +kernel, by decide +kernel⟩
theorem ok__law_row {f : Addr} {fd : FuncData} (F : Fun K "_law_row" "_law_row" s__law_row f fd) (m : mg "_law_row" = some (.ref f)) (T : Tx w K mg C_HeightError C_NoCount C_NoFamily C_NoFraction C_NoHistory C_NoLine C_NoMeeting C_NoMoments C_NoName C_NoNumber C_NoSeries C_NoText C_NoThing C_NoWay C_NoWeights C_RISES C_TooFar C_TooHigh C_TooMany) (c__law_stir : Callee P w K mg base 1 "_law_stir" ["_law_script", "_law_k"] (spStir2 K)) : Callee P w K mg base 2 "_law_row" ["_law_script", "_law_k", "_law_many", "_law_size"] (spRow K) := by
  refine ⟨f, fd, ?_, m, F.kp, F.binds fun _ _ _ _ _ _ us hl => match us, hl with | [_, _, _, _], _ => rfl⟩
  refine F.okE sc__law_row (fun vs H Q E h => ?_) (fun cdv A outer s H vs Q E hr h => ?_)
  · obtain ⟨_, _, _, _, _, rfl, _⟩ := h
    rfl
  · obtain ⟨a, ns, k, many, size, rfl, hs, k0, k1, m0, m1, s0, s1, hq⟩ := h
    refine ⟨_, (pss_cons (ps_set (i := 4) sc__law_row.nd rfl (Or.inl rfl) pe_int) (pss_cons (ps_if (pt_cmpR op_lt (pv 1) (pe_callB call_len_seq (by rfl) T.b_len PySem.boot_len (pa_cons (pv 0) pa_nil)) (nomark _)) (pss_one (ps_set (i := 4) sc__law_row.nd rfl (Or.inl rfl) (pe_ix ix_list (pv 0) (pv 1) (fun _ _ => rfl)))) pss_nil) (pss_cons (ps_set (i := 5) sc__law_row.nd rfl (Or.inl rfl) (pe_lst pa_nil)) (pss_cons (ps_set (i := 6) sc__law_row.nd rfl (Or.inl rfl) (pe_op op_fdivB (pv 4) pe_int)) (pss_cons (ps_forR rfl PassesOwn.never T.b_range (pv 2) (pg_name (i := 7) sc__law_row.nd rfl (Or.inl rfl)) (pss_cons (ps_if (pt_cmpR op_eq (pe_op op_mod (pv 4) pe_int) pe_int (nomark _)) (pss_one (ps_expr (pe_bm PySem.F.plainAttrs_list PySem.F.slot_list_append PySem.F.type_list_append mt_append (pv 5) (pa_cons (pe_op op_mod (pv 6) (pv 3)) pa_nil)))) (pss_one (ps_expr (pe_bm PySem.F.plainAttrs_list PySem.F.slot_list_append PySem.F.type_list_append mt_append (pv 5) (pa_cons (pe_op op_mod (pe_c c__law_stir (hr.mono (by decide)) np (pa_cons (pv 0) (pa_cons (pe_op op_add (pv 1) (pv 7)) pa_nil))) (pv 3)) pa_nil))))) (pss_one (ps_set (i := 6) sc__law_row.nd rfl (Or.inl rfl) (pe_op op_fdivB (pv 6) (pv 3)))))) (pss_one (ps_ret (pv 5)))))))), ?_⟩
    refine tSeq_step fun N hN => ?_
    walk_at "rd"
    refine hN _ _ ?_
    clear hN N
    refine tSeq_step fun N hN => ?_
    have fin : ∀ c : Int, N [some (.ref a), some (.int k), some (.int many), some (.int size), some (.int c), none, none, none] H := fun c => by
      refine hN _ _ ?_
      clear hN N
      refine tSeq_step fun N hN => ?_
      walk_at "rd"
      refine fun D nD => hN _ _ ?_
      clear hN N
      have sD := same_upd (o := .lst []) nD
      refine tSeq_step fun N hN => ?_
      walk_at "rd"
      refine ⟨⟨by decide, Bd.mono (m := 64) (show (_ : Nat) < _ by decide) (by decide)⟩, hN _ _ ?_⟩
      clear hN N
      refine tSeq_step fun N hN => ?_
      walk_at "rd"
      refine ⟨by omega, by omega, fun i σ H' => ∃ r6 r7 cs, σ = [some (.ref a), some (.int k), some (.int many), some (.int size), some (.int c), some (.ref D), some (.int r6), r7] ∧ Same H H' ∧ H' D = some (.lst (cs.map V.int)) ∧ cs.length = i ∧ ∀ c ∈ cs, 0 ≤ c ∧ c < size, ⟨_, none, [], rfl, sD, upd_same, rfl, fun c hc => nomatch hc⟩, ?_, ?_⟩
      · rintro i σ H1 hi ⟨r6, r7, cs, rfl, sm, hD, lc, bc⟩
        refine tSeq_step fun N hN => ?_
        have next : ∀ x : Int, 0 ≤ x → x < size → N [some (.ref a), some (.int k), some (.int many), some (.int size), some (.int c), some (.ref D), some (.int r6), some (.int i)] (upd H1 D (.lst (cs.map V.int ++ [.int x]))) := fun x x0 x1 => by
          refine hN _ _ ?_
          clear hN N
          walk_at "rd"
          refine ⟨⟨by omega, Bd.mono (m := 64) (show (_ : Nat) < _ by omega) (by decide)⟩, sm.updL nD, cs ++ [x], ?_, by simp [lc], ?_⟩
          · simp [upd_same]
          · intro c hc
            rcases List.mem_append.mp hc with z | z
            · exact bc c z
            · rw [List.mem_singleton.mp z]; exact ⟨x0, x1⟩
        clear hN
        have em : ∀ z : Int, 0 ≤ z % size ∧ z % size < size := fun z => ⟨Int.emod_nonneg _ (by omega), Int.emod_lt_of_pos _ s0⟩
        walk_at "rd"
        split
        · exact ⟨.inl ⟨rfl, _, SqL.of hD⟩, s0, _, hD, small1000 (by simp; omega), next _ (em _).1 (em _).2⟩
        · exact ⟨.inl ⟨rfl, _, SqL.of hD⟩, a, ns, k + i, rfl, sm.seq hs, by omega, by omega, fun d d0 d1 => ⟨d, rfl, s0, _, hD, small1000 (by simp; omega), next _ (em _).1 (em _).2⟩⟩
      · rintro σ H1 ⟨r6, r7, cs, rfl, sm, hD, lc, bc⟩
        refine hN _ _ ?_
        walk_at "rd"
        exact hq D H1 cs sm nD hD lc bc
    clear hN
    walk_at "rd"
    refine ⟨ns.map V.int, .inl hs, ?_⟩
    split
    · rename_i hlt
      have hl : k.toNat < ns.length := by simp at hlt; omega
      refine ⟨ns.map V.int, hs, .int ns[k.toNat], ?_, fin _⟩
      have := atI_nat (xs := ns.map V.int) (j := k.toNat) (v := .int ns[k.toNat]) (by simp [hl])
      rw [Int.toNat_of_nonneg k0] at this
      exact this
    · exact fin 0
abbrev s__law_by : Stmt := top 39
theorem sc__law_by : FnScope ["_law_length", "_law_number_here", "_law_told", "_law_e"] ["_law_length", "_law_number_here"] (defScope s__law_by) := ⟨rfl, rfl, rfl, by decide +kernel, rfl, by decide +kernel, by decide +kernel⟩
theorem ok__law_by {f : Addr} {fd : FuncData} (F : Fun K "_law_by" "_law_by" s__law_by f fd) (m : mg "_law_by" = some (.ref f)) (T : Tx w K mg C_HeightError C_NoCount C_NoFamily C_NoFraction C_NoHistory C_NoLine C_NoMeeting C_NoMoments C_NoName C_NoNumber C_NoSeries C_NoText C_NoThing C_NoWay C_NoWeights C_RISES C_TooFar C_TooHigh C_TooMany) (c__law_marks : CalleeU P w K mg base 1 "_law_marks" ["_law_e"] (spMarks2 C_NoWay C_NoNumber)) (c_way_by : Callee P w K mg base 5 "way_by" ["length", "number"] (spWayBy K C_NoNumber)) : Callee P w K mg base 6 "_law_by" ["_law_length", "_law_number_here"] (spBy10 K) := by
  refine ⟨f, fd, ?_, m, F.kp, F.binds fun _ _ _ _ _ _ us hl => match us, hl with | [_, _], _ => rfl⟩
  refine F.okE sc__law_by (fun vs H Q E h => ?_) (fun cdv A outer s H vs Q E hr h => ?_)
  · obtain ⟨_, _, rfl, _⟩ := h
    rfl
  · obtain ⟨n, r, rfl, hn, hno, hok⟩ := h
    refine ⟨_, (pss_cons (ps_set (i := 2) sc__law_by.nd rfl (Or.inl rfl) pe_non) (pss_cons (ps_try rfl rfl (fun pins xe E hps => (pss_one (ps_set (i := 2) sc__law_by.nd rfl (Or.inl rfl) (pe_cS c_way_by (hr.mono (by decide)) hps (pa_cons (pv 0) (pa_cons (pv 1) pa_nil)))))) (ph_as (i := 3) sc__law_by.nd rfl rfl (fun A E Q pins σ H s I q => Calls.Name_function_global I.ok.kind rfl (Calls.loadGlobal_global (by rw [I.ok.glob]; exact I.mod.glob.keeps I.bk) T.m_HeightError q) (by decide)) (fun e => (pss_one (ps_set (i := 2) sc__law_by.nd rfl (Or.inl rfl) (pe_cU c__law_marks ((hr.mono (by decide) : Room _ _).su) np (pa_cons (pv 3) pa_nil))))) ph_no)) (pss_one (ps_ret (pv 2))))), ?_⟩
    walk_at "rd"
    exact ⟨n, r, rfl, hn, fun no H1 s1 => ⟨T.ex2, fun e he => ⟨e, none, rfl, .inr ⟨upd_same, fun l H2 s2 n2 h2 => hno no l _ ((s1.trans (same_upd he)).trans s2) h2⟩⟩⟩, hok⟩
abbrev s__law_number : Stmt := top 40
theorem sc__law_number : FnScope ["_law_way", "_law_told", "_law_e"] ["_law_way"] (defScope s__law_number) := ⟨rfl, rfl, rfl, by decide +kernel, rfl, by decide +kernel, by decide +kernel⟩
theorem ok__law_number {f : Addr} {fd : FuncData} (F : Fun K "_law_number" "_law_number" s__law_number f fd) (m : mg "_law_number" = some (.ref f)) (T : Tx w K mg C_HeightError C_NoCount C_NoFamily C_NoFraction C_NoHistory C_NoLine C_NoMeeting C_NoMoments C_NoName C_NoNumber C_NoSeries C_NoText C_NoThing C_NoWay C_NoWeights C_RISES C_TooFar C_TooHigh C_TooMany) (c__law_marks : CalleeU P w K mg base 1 "_law_marks" ["_law_e"] (spMarks2 C_NoWay C_NoNumber)) (c_number_of : Callee P w K mg base 5 "number_of" ["way"] (spNumber K C_NoWay)) : Callee P w K mg base 6 "_law_number" ["_law_way"] (spNum10 K) := by
  refine ⟨f, fd, ?_, m, F.kp, F.binds fun _ _ _ _ _ _ us hl => match us, hl with | [_], _ => rfl⟩
  refine F.okE sc__law_number (fun vs H Q E h => ?_) (fun cdv A outer s H vs Q E hr h => ?_)
  · obtain ⟨_, rfl, _⟩ := h
    rfl
  · obtain ⟨x, rfl, hx, ax, hbad, hne, hok⟩ := h
    refine ⟨_, (pss_cons (ps_set (i := 1) sc__law_number.nd rfl (Or.inl rfl) pe_non) (pss_cons (ps_try rfl rfl (fun pins xe E hps => (pss_one (ps_set (i := 1) sc__law_number.nd rfl (Or.inl rfl) (pe_cS c_number_of (hr.mono (by decide)) hps (pa_cons (pv 0) pa_nil))))) (ph_as (i := 2) sc__law_number.nd rfl rfl (fun A E Q pins σ H s I q => Calls.Name_function_global I.ok.kind rfl (Calls.loadGlobal_global (by rw [I.ok.glob]; exact I.mod.glob.keeps I.bk) T.m_NoWay q) (by decide)) (fun e => (pss_one (ps_set (i := 1) sc__law_number.nd rfl (Or.inl rfl) (pe_tup (pa_cons (pe_cU c__law_marks ((hr.mono (by decide) : Room _ _).su) np (pa_cons (pv 2) pa_nil)) (pa_cons (pe_xgK K (pv 2)) pa_nil)))))) ph_no)) (pss_one (ps_ret (pv 1))))), ?_⟩
    walk_at "rd"
    have core : ∀ (n : Int), (∀ t l H', Same H H' → H' t = some (.tup [.ref l, .int n]) → H' l = some (.lst ((oneHot 13).map V.bl)) → Q (.ref t) H') → ∀ d H', Same H H' → H' d = some (.xd [("at", .int n)]) → PySem.W.exmOne K (.ref C_NoWay) (Value.ref C_NoWay) = some true ∧ ∀ (e : Addr), H' e = none → spMarks2 C_NoWay C_NoNumber [V.ref e] (upd H' e (excD e (.ref C_NoWay) (some d))) (fun x H1 => ∃ x_5 x_6, H1 e = some (excD e (Value.ref x_5) (some x_6)) ∧ ∃ x_7, H1 x_6 = some (HO.xd x_7) ∧ XGet K x_5 (Str.ofString "at") ∧ ∃ x_8, List.lookup (Str.ofString "at") x_7 = some x_8 ∧ 2 ≤ sizeLine ∧ ∀ (p : Addr), H1 p = none → Q (V.ref p) (upd H1 p (HO.tup [x, x_8]))) E0 := fun n hb d H' sm hy =>
      ⟨T.ex, fun e he => ⟨e, some d, rfl, .inl ⟨upd_same, fun l H1 s1 n1 h1 => ⟨C_NoWay, d, s1 _ _ upd_same, [("at", .int n)], s1 _ _ (by rw [upd_ne (ne_of_none hy he)]; exact hy), T.xg, .int n, rfl, sz_le 2 (by decide), fun p np => hb p l _ (sm.trans ((same_upd he).trans (s1.trans (same_upd np)))) upd_same (same_upd np _ _ h1)⟩⟩⟩⟩
    exact ⟨x, rfl, hx, ax, fun k hk d H' sm nd hd => core k (hbad k hk) d H' sm hd, fun al ne d H' sm nd hd => core _ (hne al ne) d H' sm hd, hok⟩
abbrev s__law_place : Stmt := top 41
theorem sc__law_place : FnScope ["_law_way", "_law_height", "_law_at"] ["_law_way"] (defScope s__law_place) := ⟨rfl, rfl, rfl, by decide +kernel, rfl, by decide +kernel, by decide +kernel⟩
theorem ok__law_place {f : Addr} {fd : FuncData} (F : Fun K "_law_place" "_law_place" s__law_place f fd) (m : mg "_law_place" = some (.ref f)) (T : Tx w K mg C_HeightError C_NoCount C_NoFamily C_NoFraction C_NoHistory C_NoLine C_NoMeeting C_NoMoments C_NoName C_NoNumber C_NoSeries C_NoText C_NoThing C_NoWay C_NoWeights C_RISES C_TooFar C_TooHigh C_TooMany) (c__law_rise : Callee P w K mg base 1 "_law_rise" ["_law_sign"] (spRise)) : Callee P w K mg base 2 "_law_place" ["_law_way"] (spPlace K) := by
  refine ⟨f, fd, ?_, m, F.kp, F.binds fun _ _ _ _ _ _ us hl => match us, hl with | [_], _ => rfl⟩
  refine F.okE sc__law_place (fun vs H Q E h => ?_) (fun cdv A outer s H vs Q E hr h => ?_)
  · obtain ⟨_, rfl, _⟩ := h
    rfl
  · obtain ⟨x, rfl, hx, hbad, hne, hok⟩ := h
    refine ⟨_, (pss_cons (ps_set (i := 1) sc__law_place.nd rfl (Or.inl rfl) pe_int) (pss_cons (ps_forR rfl PassesOwn.never T.b_range (pe_callB call_len_str (by rfl) T.b_len PySem.boot_len (pa_cons (pv 0) pa_nil)) (pg_name (i := 2) sc__law_place.nd rfl (Or.inl rfl)) (pss_cons (ps_if (PW.pt (pw_or (pt_cmpR op_notIn_seq (pe_ix ix_str (pv 0) (pv 2) (fun _ _ => rfl)) (pe_tup (pa_cons pe_str (pa_cons pe_str (pa_cons pe_str pa_nil)))) rfl) (pw_or1 (pt_cmpR op_lt (pe_op op_add (pv 1) (pe_c c__law_rise (hr.mono (by decide)) np (pa_cons (pe_ix ix_str (pv 0) (pv 2) (fun _ _ => rfl)) pa_nil))) pe_int (nomark _))))) (pss_one (ps_ret (pv 2))) pss_nil) (pss_one (ps_set (i := 1) sc__law_place.nd rfl (Or.inl rfl) (pe_op op_add (pv 1) (pe_c c__law_rise (hr.mono (by decide)) np (pa_cons (pe_ix ix_str (pv 0) (pv 2) (fun _ _ => rfl)) pa_nil))))))) (pss_cons (ps_if (pt_cmpR op_gt (pv 1) pe_int (nomark _)) (pss_one (ps_ret (pe_callB call_len_str (by rfl) T.b_len PySem.boot_len (pa_cons (pv 0) pa_nil)))) pss_nil) (pss_one (ps_ret pe_non))))), ?_⟩
    refine tSeq_step fun N hN => ?_
    walk_at "rd"
    refine hN _ _ ?_
    clear hN N
    have lx : x.length = x.cps.size := rfl
    refine tSeq_step fun N hN => ?_
    walk_at "rd"
    refine ⟨sz_le _ (by rw [lx]; omega), by rw [lx]; omega, fun k σ H' => ∃ (v : Int) (r2 : Option V), σ = [some (.str x), some (.int v), r2] ∧ Same H H' ∧ (∀ j, j ≤ k → (ht x 0 j).isSome = true) ∧ ht x 0 k = some v, ⟨0, none, rfl, Same.refl _, fun j hj => (show j = 0 by omega) ▸ rfl, rfl⟩, ?_, ?_⟩
    · rintro k σ H1 hk0 ⟨v, r2, rfl, sm, hok0, hv⟩
      have hk : k < x.cps.size := hk0
      have hc : x.cps[k]? = some x.cps[k] := Array.getElem?_eq_getElem hk
      generalize x.cps[k] = c at hc
      have hcl : x.cps.toList[k]? = some c := by rw [Array.getElem?_toList]; exact hc
      have atc := atI_nat hcl
      have v0 := ht_nn (Int.le_refl 0) k v hv
      have hs : ht x 0 (k + 1) = stp c v := by
        show (ht x 0 k).bind _ = _
        rw [hv]
        show (x.cps[k]?).bind _ = _
        rw [hc]
        rfl
      rw [stp_rise v0] at hs
      refine tSeq_step fun N hN => ?_
      walk_at "rd"
      refine ⟨x, k, c, rfl, rfl, sz_le _ (by rw [lx]; omega), atc, sz_le 3 (by decide), fun p np => ?_⟩
      have up := same_upd (o := .tup [.str (Str.ofString "u"), .str (Str.ofString "l"), .str (Str.ofString "d")]) np
      refine ⟨_, .inr (SqT.of upd_same), rfl, by simp [flatV], ?_⟩
      rw [inv_uld]
      cases hr2 : riseOf c with
      | none =>
        rw [hr2] at hs
        exact .inr ⟨rfl, hbad k ⟨hk, hok0, hs⟩ _ (sm.trans up)⟩
      | some r =>
        rw [hr2] at hs
        simp only [Option.bind_some] at hs
        refine .inl ⟨rfl, x, k, c, rfl, rfl, sz_le _ (by rw [lx]; omega), atc, c, r, rfl, hr2, fun H3 s3 => ⟨r, rfl, ?_⟩⟩
        have t3 := (sm.trans up).trans s3
        by_cases z : v + r < 0
        · rw [if_pos z] at hs
          rw [if_pos z]
          exact hbad k ⟨hk, hok0, hs⟩ _ t3
        · rw [if_neg z] at hs
          rw [if_neg z]
          refine hN _ _ ?_
          clear hN N
          walk_at "rd"
          refine ⟨x, k, c, rfl, rfl, sz_le _ (by rw [lx]; omega), atc, c, r, rfl, hr2, fun H4 s4 => ⟨r, rfl, ?_⟩⟩
          refine ⟨t3.trans s4, fun j hj => ?_, hs⟩
          by_cases e : j = k + 1
          · subst e; rw [hs]; rfl
          · exact hok0 j (by omega)
    · rintro σ H1 ⟨v, r2, rfl, sm, hok0, hv⟩
      have hv : ht x 0 x.cps.size = some v := hv
      have hok0 : all10 x := hok0
      have v0 := ht_nn (Int.le_refl 0) _ v hv
      refine hN _ _ ?_
      clear hN N
      walk_at "rd"
      split
      · rename_i pos
        refine ⟨sz_le _ (by rw [lx]; omega), ?_⟩
        rw [lx]
        exact hne hok0 (by rw [hv]; intro z; cases z; omega) _ sm
      · rename_i np
        obtain rfl : v = 0 := by omega
        exact hok hok0 hv _ sm
abbrev s__law_text : Stmt := top 42
theorem sc__law_text : FnScope ["_law_script", "_law_c", "_law_way", "_law_k", "_law_length", "_law_height", "_law_sign", "_law_at"] ["_law_script"] (defScope s__law_text) := ⟨rfl, rfl, rfl, by decide +kernel, rfl, by decide +kernel, by decide +kernel⟩
theorem ok__law_text {f : Addr} {fd : FuncData} (F : Fun K "_law_text" "_law_text" s__law_text f fd) (m : mg "_law_text" = some (.ref f)) (T : Tx w K mg C_HeightError C_NoCount C_NoFamily C_NoFraction C_NoHistory C_NoLine C_NoMeeting C_NoMoments C_NoName C_NoNumber C_NoSeries C_NoText C_NoThing C_NoWay C_NoWeights C_RISES C_TooFar C_TooHigh C_TooMany) (c__law_rise : Callee P w K mg base 1 "_law_rise" ["_law_sign"] (spRise)) (c__law_stir : Callee P w K mg base 1 "_law_stir" ["_law_script", "_law_k"] (spStir2 K)) : Callee P w K mg base 2 "_law_text" ["_law_script"] (spText10 K) := by
  refine ⟨f, fd, ?_, m, F.kp, F.binds fun _ _ _ _ _ _ us hl => match us, hl with | [_], _ => rfl⟩
  refine F.okE sc__law_text (fun vs H Q E h => ?_) (fun cdv A outer s H vs Q E hr h => ?_)
  · obtain ⟨_, _, rfl, _⟩ := h
    rfl
  · obtain ⟨a, ns, rfl, hs, hq⟩ := h
    refine ⟨_, (pss_cons (ps_if (PW.pt (pw_and (pt_cmpR op_gt (pe_callB call_len_seq (by rfl) T.b_len PySem.boot_len (pa_cons (pv 0) pa_nil)) pe_int (nomark _)) (pw_and1 (pt_cmpR op_eq (pe_op op_mod (pe_ix ix_list (pv 0) pe_int (fun _ _ => rfl)) pe_int) pe_int (nomark _))))) (pss_cons (ps_set (i := 1) sc__law_text.nd rfl (Or.inl rfl) (pe_op op_fdivB (pe_ix ix_list (pv 0) pe_int (fun _ _ => rfl)) pe_int)) (pss_cons (ps_set (i := 2) sc__law_text.nd rfl (Or.inl rfl) pe_str) (pss_cons (ps_forR rfl PassesOwn.never T.b_range (pe_op op_mod (pe_op op_fdivB (pe_ix ix_list (pv 0) pe_int (fun _ _ => rfl)) pe_int) pe_int) (pg_name (i := 3) sc__law_text.nd rfl (Or.inl rfl)) (pss_cons (ps_set (i := 2) sc__law_text.nd rfl (Or.inl rfl) (pe_op op_add_str (pv 2) (pe_ix ix_str pe_str (pe_op op_mod (pv 1) pe_int) (fun _ _ => rfl)))) (pss_one (ps_set (i := 1) sc__law_text.nd rfl (Or.inl rfl) (pe_op op_fdivB (pv 1) pe_int))))) (pss_one (ps_ret (pv 2)))))) pss_nil) (pss_cons (ps_set (i := 4) sc__law_text.nd rfl (Or.inl rfl) (pe_op op_mod (pe_c c__law_stir (hr.mono (by decide)) np (pa_cons (pv 0) (pa_cons pe_int pa_nil))) pe_int)) (pss_cons (ps_set (i := 2) sc__law_text.nd rfl (Or.inl rfl) pe_str) (pss_cons (ps_set (i := 5) sc__law_text.nd rfl (Or.inl rfl) pe_int) (pss_cons (ps_forR rfl PassesOwn.never T.b_range (pv 4) (pg_name (i := 3) sc__law_text.nd rfl (Or.inl rfl)) (pss_cons (ps_set (i := 6) sc__law_text.nd rfl (Or.inl rfl) (pe_ix ix_str pe_str (pe_op op_mod (pe_c c__law_stir (hr.mono (by decide)) np (pa_cons (pv 0) (pa_cons (pe_op op_add pe_int (pv 3)) pa_nil))) pe_int) (fun _ _ => rfl))) (pss_cons (ps_if (pt_cmpR op_gt (pe_op op_add (pv 5) (pe_c c__law_rise (hr.mono (by decide)) np (pa_cons (pv 6) pa_nil))) (pe_op op_sub (pe_op op_sub (pv 4) (pv 3)) pe_int) (nomark _)) (pss_one (ps_set (i := 6) sc__law_text.nd rfl (Or.inl rfl) pe_str)) pss_nil) (pss_cons (ps_if (PW.pt (pw_and (pt_cmpR op_eq (pv 6) pe_str (nomark _)) (pw_and (pt_cmpR op_eq (pv 5) pe_int (nomark _)) (pw_and1 (pt_cmpR op_gt (pe_op op_mod (pe_c c__law_stir (hr.mono (by decide)) np (pa_cons (pv 0) (pa_cons (pe_op op_add pe_int (pv 3)) pa_nil))) pe_int) pe_int (nomark _)))))) (pss_one (ps_set (i := 6) sc__law_text.nd rfl (Or.inl rfl) pe_str)) pss_nil) (pss_cons (ps_set (i := 2) sc__law_text.nd rfl (Or.inl rfl) (pe_op op_add_str (pv 2) (pv 6))) (pss_one (ps_set (i := 5) sc__law_text.nd rfl (Or.inl rfl) (pe_op op_add (pv 5) (pe_c c__law_rise (hr.mono (by decide)) np (pa_cons (pv 6) pa_nil)))))))))) (pss_cons (ps_if (pt_cmpR op_eq (pe_op op_mod (pe_c c__law_stir (hr.mono (by decide)) np (pa_cons (pv 0) (pa_cons pe_int pa_nil))) pe_int) pe_int (nomark _)) (pss_cons (ps_set (i := 7) sc__law_text.nd rfl (Or.inl rfl) (pe_op op_mod (pe_c c__law_stir (hr.mono (by decide)) np (pa_cons (pv 0) (pa_cons pe_int pa_nil))) (pe_op op_add (pv 4) pe_int))) (pss_one (ps_set (i := 2) sc__law_text.nd rfl (Or.inl rfl) (pe_slice sl_str (pe_op op_add_str (pe_op op_add_str (pe_slice sl_str (pv 2) po_none (po_some (pv 7))) (pe_ix ix_str pe_str (pe_op op_mod (pe_c c__law_stir (hr.mono (by decide)) np (pa_cons (pv 0) (pa_cons pe_int pa_nil))) pe_int) (fun _ _ => rfl))) (pe_slice sl_str (pv 2) (po_some (pv 7)) po_none)) po_none (po_some pe_int))))) pss_nil) (pss_one (ps_ret (pv 2))))))))), ?_⟩
    refine tSeq_step fun N hN => ?_
    walk_at "rd"
    have go : N [some (V.ref a), none, none, none, none, none, none, none] H := by
      refine hN _ _ ?_
      clear hN N
      refine tSeq_step fun N hN => ?_
      walk_at "rd"
      refine ⟨a, ns, 10, rfl, hs, by decide, by decide, fun x0 p0 q0 => ⟨x0, rfl, hN _ _ ?_⟩⟩
      clear hN N
      obtain ⟨n, en, hn⟩ : ∃ n : Nat, x0 % 16 = n ∧ n ≤ 15 := ⟨(x0 % 16).toNat, by omega, by omega⟩
      rw [en]
      refine tSeq_step fun N hN => ?_
      walk_at "rd"
      refine hN _ _ ?_
      clear hN N
      refine tSeq_step fun N hN => ?_
      walk_at "rd"
      refine hN _ _ ?_
      clear hN N
      refine tSeq_step fun N hN => ?_
      walk_at "rd"
      refine ⟨by omega, fun k σ H' => ∃ (x : Str) (h : Int) (r3 r6 : Option V), σ = [some (V.ref a), none, some (.str x), r3, some (V.int n), some (.int h), r6, none] ∧ Same H H' ∧ asc x ∧ x.cps.size = k, ⟨_, _, none, none, rfl, Same.refl _, ((asc_iff _).mpr (fun c hc => nomatch hc)), rfl⟩, ?_, ?_⟩
      · rintro k σ H1 hk ⟨x, h, r3, r6, rfl, s1, ax, lx⟩
        have hs1 := s1.seqL hs
        refine tSeq_step fun N hN => ?_
        walk_at "rd"
        refine ⟨a, ns, _, rfl, hs1, by omega, by omega, fun y p1 q1 => ⟨y, rfl, ?_⟩⟩
        have cc : ∃ c', atI (Str.ofString "uldu").cps.toList (y % 4) = some c' ∧ (c' = 100 ∨ c' = 108 ∨ c' = 117) := by
          have h4 : y % 4 = 0 ∨ y % 4 = 1 ∨ y % 4 = 2 ∨ y % 4 = 3 := by omega
          rcases h4 with e | e | e | e <;> rw [e] <;> exact ⟨_, rfl, by decide⟩
        obtain ⟨c, e1, hc⟩ := cc
        refine ⟨_, _, c, rfl, rfl, sz_le 4 (by decide), e1, hN _ _ ?_⟩
        clear hN N
        obtain ⟨r, hr'⟩ : ∃ r, riseOf c = some r := by rcases hc with rfl | rfl | rfl <;> exact ⟨_, rfl⟩
        refine tSeq_step fun N hN => ?_
        have g2 : ∀ (c : Nat) H2, (c = 100 ∨ c = 108 ∨ c = 117) → Same H H2 → N [some (V.ref a), none, some (.str x), some (.int k), some (V.int n), some (.int h), some (.str ⟨#[c]⟩), none] H2 := by
          intro c H2 hc s2
          refine hN _ _ ?_
          clear hN N
          have hs2 := s2.seqL hs
          refine tSeq_step fun N hN => ?_
          have g3 : ∀ (c : Nat), (c = 100 ∨ c = 108 ∨ c = 117) → N [some (V.ref a), none, some (.str x), some (.int k), some (V.int n), some (.int h), some (.str ⟨#[c]⟩), none] H2 := by
            intro c hc
            refine hN _ _ ?_
            clear hN N
            obtain ⟨r, hr'⟩ : ∃ r, riseOf c = some r := by rcases hc with rfl | rfl | rfl <;> exact ⟨_, rfl⟩
            walk_at "rd"
            refine ⟨sz_le _ (show x.cps.size + 1 ≤ 1000 by omega), c, r, rfl, hr', fun H4 s4 => ⟨⟨r, rfl⟩, s2.trans s4, asc_app ax (asc_one (by omega)), ?_⟩⟩
            show (x.cps ++ #[c]).size = k + 1
            rw [Array.size_append, lx]
            rfl
          walk_at "rd"
          split
          · split
            · refine ⟨a, ns, _, rfl, hs2, by omega, by omega, fun y2 p2 q2 => ⟨y2, rfl, ?_⟩⟩
              split
              · exact g3 108 (.inr (.inl rfl))
              · exact g3 c hc
            · exact g3 c hc
          · exact g3 c hc
        walk_at "rd"
        refine ⟨c, r, rfl, hr', fun H4 s4 => ⟨r, rfl, ?_⟩⟩
        split
        · exact g2 100 _ (.inl rfl) (s1.trans s4)
        · exact g2 c _ hc (s1.trans s4)
      · rintro σ H1 ⟨x, h, r3, r6, rfl, s1, ax, lx⟩
        have hs1 := s1.seqL hs
        refine hN _ _ ?_
        clear hN N
        refine tSeq_step fun N hN => ?_
        have fin : ∀ (x : Str) (r6 r7 : Option V) H2, Same H H2 → asc x → x.cps.size ≤ 40 → N [some (V.ref a), none, some (.str x), r3, some (V.int n), some (.int h), r6, r7] H2 := by
          intro x r6 r7 H2 s2 ax lx
          refine hN _ _ ?_
          clear hN N
          walk_at "rd"
          exact hq x _ s2 lx ax
        walk_at "rd"
        refine ⟨a, ns, 50, rfl, hs1, by decide, by decide, fun y p1 q1 => ⟨y, rfl, ?_⟩⟩
        split
        · refine ⟨a, ns, 51, rfl, hs1, by decide, by decide, fun d d0 _ => ⟨d, rfl, x, rfl, sz_le _ (show x.cps.size ≤ 1000 by omega), ?_⟩⟩
          refine ⟨a, ns, 52, rfl, hs1, by decide, by decide, fun d' d1 _ => ⟨d', rfl, ?_⟩⟩
          have l1 := Txt.slice_le x none (some (d % (↑n + 1)))
          have l2 := Txt.slice_le x (some (d % (↑n + 1))) none
          have a1 := asc_slice none (some (d % (↑n + 1))) ax
          have a2 := asc_slice (some (d % (↑n + 1))) none ax
          generalize Txt.slice x none (some (d % (↑n + 1))) = y at l1 a1 ⊢
          obtain ⟨z, hz⟩ : ∃ z, z = Txt.slice x (some (d % (↑n + 1))) none := ⟨_, rfl⟩
          rw [← hz] at l2 a2
          obtain ⟨c, hc, hcr⟩ : ∃ c : Nat, atI (Str.ofString "uLd1x").cps.toList (d' % 5) = some c ∧ c < 128 := by
            have : d' % 5 = 0 ∨ d' % 5 = 1 ∨ d' % 5 = 2 ∨ d' % 5 = 3 ∨ d' % 5 = 4 := by omega
            rcases this with h | h | h | h | h <;> rw [h] <;> exact ⟨_, rfl, by decide⟩
          have l1 : y.cps.size ≤ x.cps.size := l1
          have l2 : z.cps.size ≤ x.cps.size := l2
          have l3 : (y ++ (⟨#[c]⟩ : Str)).cps.size = y.cps.size + 1 := Array.size_append
          have l4 : (y ++ (⟨#[c]⟩ : Str) ++ z).cps.size = y.cps.size + 1 + z.cps.size := Eq.trans Array.size_append (by rw [show (y ++ (⟨#[c]⟩ : Str)).cps.size = _ from l3])
          have lx2 : x.cps.size = n := lx
          refine ⟨_, _, c, rfl, rfl, sz_le 5 (by decide), hc, y, rfl, _, rfl, sz_le _ (show y.cps.size + 1 ≤ 1000 by omega), x, rfl, sz_le _ (show x.cps.size ≤ 1000 by omega), z, by rw [hz], sz_le _ (show (y ++ (⟨#[c]⟩ : Str)).cps.size + z.cps.size ≤ 1000 by omega), _, rfl, sz_le _ (show (y ++ (⟨#[c]⟩ : Str) ++ z).cps.size ≤ 1000 by omega), ?_⟩
          have l5 : (Txt.slice (y ++ (⟨#[c]⟩ : Str) ++ z) none (some 15)).cps.size ≤ (y ++ (⟨#[c]⟩ : Str) ++ z).cps.size := Txt.slice_le _ none (some 15)
          exact fin _ _ _ _ s1 (asc_slice _ _ (asc_app (asc_app a1 (asc_one hcr)) a2)) (by omega)
        · exact fin _ _ _ _ s1 ax (by have lx2 : x.cps.size = n := lx
                                      omega)
    refine ⟨_, .inl hs, ?_⟩
    by_cases l2 : 10 < ns.length
    · rw [if_pos (by rw [List.length_map]; omega)]
      have at2 := atI_nat (xs := ns.map V.int) (j := 10) (v := .int ns[10]) (by simp [l2])
      generalize ns[10] = z at at2
      refine ⟨_, hs, _, at2, _, rfl, ?_⟩
      by_cases od : z % 2 = 1
      · rw [if_pos od]
        have at2' : atI (ns.map V.int) 10 = some (.int z) := at2
        refine ⟨_, hs, _, at2', z, rfl, dvS (by decide) (by decide), _, hs, _, at2', z, rfl, dvS (by decide) (by decide), ?_⟩
        obtain ⟨n, en, hn⟩ : ∃ n : Nat, z.fdiv 2 % 16 = n ∧ n ≤ 15 := ⟨(z.fdiv 2 % 16).toNat, by omega, by omega⟩
        rw [en]
        refine ⟨by omega, by omega, fun k σ H' => ∃ (c : Int) (x : Str) (r3 : Option V), σ = [some (V.ref a), some (.int c), some (.str x), r3, none, none, none, none] ∧ H' = H ∧ asc x ∧ x.cps.size = k, ⟨_, _, none, rfl, rfl, ((asc_iff _).mpr (fun c hc => nomatch hc)), rfl⟩, ?_, ?_⟩
        · rintro k σ H1 hk ⟨c, x, r3, rfl, rfl, ax, lx⟩
          have hk : k < n := by simpa using hk
          walk_at "rd"
          have cc : ∃ c', atI (Str.ofString "dlu").cps.toList (c % 3) = some c' ∧ c' < 128 := by
            have h3 : c % 3 = 0 ∨ c % 3 = 1 ∨ c % 3 = 2 := by omega
            rcases h3 with e | e | e <;> rw [e] <;> exact ⟨_, rfl, by decide⟩
          obtain ⟨c', e1, e2⟩ := cc
          refine ⟨_, _, c', rfl, rfl, sz_le 3 (by decide), e1, _, rfl, sz_le _ (show x.cps.size + 1 ≤ 1000 by omega), dvS (by decide) (by decide), _, _, ⟨rfl, rfl⟩, rfl, asc_app ax (asc_one e2), ?_⟩
          show (x.cps ++ #[c']).size = k + 1
          rw [Array.size_append, lx]
          rfl
        · rintro σ H1 ⟨c, x, r3, rfl, rfl, ax, lx⟩
          walk_at "rd"
          exact hq x _ (Same.refl _) (by simp at lx; omega) ax
      · rw [if_neg od]
        exact go
    · rw [if_neg (by rw [List.length_map]; omega)]
      exact go
abbrev s__law_drawn : Stmt := top 43
theorem sc__law_drawn : FnScope ["_law_script", "_law_many", "_law_number_here", "_law_way"] ["_law_script", "_law_many"] (defScope s__law_drawn) := ⟨rfl, rfl, rfl, by decide +kernel, rfl, by decide +kernel, by decide +kernel⟩
theorem ok__law_drawn {f : Addr} {fd : FuncData} (F : Fun K "_law_drawn" "_law_drawn" s__law_drawn f fd) (m : mg "_law_drawn" = some (.ref f)) (T : Tx w K mg C_HeightError C_NoCount C_NoFamily C_NoFraction C_NoHistory C_NoLine C_NoMeeting C_NoMoments C_NoName C_NoNumber C_NoSeries C_NoText C_NoThing C_NoWay C_NoWeights C_RISES C_TooFar C_TooHigh C_TooMany) (c__law_stir : Callee P w K mg base 1 "_law_stir" ["_law_script", "_law_k"] (spStir2 K)) : Callee P w K mg base 2 "_law_drawn" ["_law_script", "_law_many"] (spDrawn10 K) := by
  refine ⟨f, fd, ?_, m, F.kp, F.binds fun _ _ _ _ _ _ us hl => match us, hl with | [_, _], _ => rfl⟩
  refine F.okE sc__law_drawn (fun vs H Q E h => ?_) (fun cdv A outer s H vs Q E hr h => ?_)
  · obtain ⟨_, _, _, rfl, _⟩ := h
    rfl
  · obtain ⟨a, ns, m, rfl, hs, m1, m2, hq⟩ := h
    refine ⟨_, (pss_cons (ps_if (PW.pt (pw_and (pt_cmpR op_gt (pe_callB call_len_seq (by rfl) T.b_len PySem.boot_len (pa_cons (pv 0) pa_nil)) pe_int (nomark _)) (pw_and1 (pt_cmpR op_eq (pe_op op_mod (pe_ix ix_list (pv 0) pe_int (fun _ _ => rfl)) pe_int) pe_int (nomark _))))) (pss_one (ps_ret (pe_op op_sub (pe_op op_mod (pe_op op_fdivB (pe_ix ix_list (pv 0) pe_int (fun _ _ => rfl)) pe_int) (pe_op op_add (pv 1) pe_int)) pe_int))) pss_nil) (pss_cons (ps_set (i := 2) sc__law_drawn.nd rfl (Or.inl rfl) (pe_op op_mod (pe_op op_add (pe_op op_mul (pe_c c__law_stir (hr.mono (by decide)) np (pa_cons (pv 0) (pa_cons pe_int pa_nil))) pe_int) (pe_c c__law_stir (hr.mono (by decide)) np (pa_cons (pv 0) (pa_cons pe_int pa_nil)))) (pv 1))) (pss_cons (ps_set (i := 3) sc__law_drawn.nd rfl (Or.inl rfl) (pe_op op_mod (pe_c c__law_stir (hr.mono (by decide)) np (pa_cons (pv 0) (pa_cons pe_int pa_nil))) pe_int)) (pss_cons (ps_if (pt_cmpR op_lt (pv 3) pe_int (nomark _)) (pss_one (ps_set (i := 2) sc__law_drawn.nd rfl (Or.inl rfl) (pe_ix ix_tup (pe_tup (pa_cons (pe_op op_sub (pv 1) pe_int) (pa_cons (pv 1) (pa_cons (pe_un un_neg pe_int) (pa_cons pe_int (pa_cons (pe_op op_add (pv 1) pe_int) pa_nil)))))) (pv 3) (fun _ _ => rfl)))) pss_nil) (pss_cons (ps_if (pt_cmpR op_eq (pv 3) pe_int (nomark _)) (pss_one (ps_set (i := 2) sc__law_drawn.nd rfl (Or.inl rfl) (pe_op op_mul (pe_op op_sub (pe_c c__law_stir (hr.mono (by decide)) np (pa_cons (pv 0) (pa_cons pe_int pa_nil))) pe_int) (pe_op op_pow pe_int pe_int)))) pss_nil) (pss_one (ps_ret (pv 2)))))))), ?_⟩
    refine tSeq_step fun N hN => ?_
    walk_at "rd"
    refine ⟨_, .inl hs, ?_⟩
    have go : N [some (V.ref a), some (V.int m), none, none] H := by
      refine hN _ _ ?_
      clear hN N
      refine tSeq_step fun N hN => ?_
      walk_at "rd"
      refine ⟨a, ns, 2, rfl, hs, by decide, by decide, fun x2 p2 q2 => ⟨x2, rfl, .inr ⟨by decide, by decide⟩, a, ns, 3, rfl, hs, by decide, by decide, fun x3 p3 q3 => ⟨x3, rfl, by omega, hN _ _ ?_⟩⟩⟩
      clear hN N
      generalize (x2 * 1000000007 + x3) % m = r
      refine tSeq_step fun N hN => ?_
      walk_at "rd"
      refine ⟨a, ns, 4, rfl, hs, by decide, by decide, fun x4 p4 q4 => ⟨x4, rfl, hN _ _ ?_⟩⟩
      clear hN N
      generalize hw : x4 % 12 = w
      refine tSeq_step fun N hN => ?_
      walk_at "rd"
      have fin : ∀ (r : Int) H', Same H H' → N [some (V.ref a), some (V.int m), some (V.int r), some (V.int w)] H' := by
        intro r H' s'
        refine hN _ _ ?_
        clear hN N
        refine tSeq_step fun N hN => ?_
        walk_at "rd"
        have fin2 : ∀ (r : Int), N [some (V.ref a), some (V.int m), some (V.int r), some (V.int w)] H' := by
          intro r
          refine hN _ _ ?_
          clear hN N
          walk_at "rd"
          exact hq _ _ s'
        split
        · exact ⟨a, ns, 5, rfl, s'.seqL hs, by decide, by decide, fun x5 p5 q5 => ⟨x5, rfl, .inl ⟨by omega, by omega⟩, fin2 _⟩⟩
        · exact fin2 r
      split
      · rename_i w5
        refine ⟨sz_le 5 (by decide), fun p np => ⟨_, SqT.of upd_same, ?_⟩⟩
        have h5 : w = 0 ∨ w = 1 ∨ w = 2 ∨ w = 3 ∨ w = 4 := by omega
        rcases h5 with rfl | rfl | rfl | rfl | rfl <;> exact ⟨_, rfl, fin _ _ (same_upd np)⟩
      · exact fin r H (Same.refl _)
    by_cases l2 : 2 < ns.length
    · rw [if_pos (by rw [List.length_map]; omega)]
      have at2 := atI_nat (xs := ns.map V.int) (j := 2) (v := .int ns[2]) (by simp [l2])
      refine ⟨_, hs, _, at2, _, rfl, ?_⟩
      split
      · exact ⟨_, hs, _, at2, _, rfl, dvS (by decide) (by decide), by omega, hq _ _ (Same.refl _)⟩
      · exact go
    · rw [if_neg (by rw [List.length_map]; omega)]
      exact go
abbrev s_law : Stmt := top 44
theorem sc_law : FnScope ["_law_script", "_law_length", "_law_many", "_law_number_here", "_law_found", "_law_way", "_law_told", "_law_place_here"] ["_law_script"] (defScope s_law) := ⟨rfl, rfl, rfl, by decide +kernel, rfl, by decide +kernel, by decide +kernel⟩
theorem fn_law {f : Addr} {fd : FuncData} (F : Fun K "law" "law" s_law f fd) (T : Tx w K mg C_HeightError C_NoCount C_NoFamily C_NoFraction C_NoHistory C_NoLine C_NoMeeting C_NoMoments C_NoName C_NoNumber C_NoSeries C_NoText C_NoThing C_NoWay C_NoWeights C_RISES C_TooFar C_TooHigh C_TooMany) (c__law_by : Callee P w K mg base 6 "_law_by" ["_law_length", "_law_number_here"] (spBy10 K)) (c__law_drawn : Callee P w K mg base 2 "_law_drawn" ["_law_script", "_law_many"] (spDrawn10 K)) (c__law_number : Callee P w K mg base 6 "_law_number" ["_law_way"] (spNum10 K)) (c__law_only : Callee P w K mg base 1 "_law_only" ["_law_at"] (spOnly)) (c__law_place : Callee P w K mg base 2 "_law_place" ["_law_way"] (spPlace K)) (c__law_row : Callee P w K mg base 2 "_law_row" ["_law_script", "_law_k", "_law_many", "_law_size"] (spRow K)) (c__law_text : Callee P w K mg base 2 "_law_text" ["_law_script"] (spText10 K)) (c__law_whole : Callee P w K mg base 1 "_law_whole" ["_law_found"] (spWhole)) (c_number_of : Callee P w K mg base 5 "number_of" ["way"] (spNumber K C_NoWay)) (c_way_by : Callee P w K mg base 5 "way_by" ["length", "number"] (spWayBy K C_NoNumber)) (c_ways_counted : CalleeD P w K mg base 4 "ways_counted" ["length", "first", "last", "below"] [.int 0, .int 0, .non] (spCounted)) (c_ways_listed : CalleeD P w K mg base 5 "ways_listed" ["length", "first", "last", "below"] [.int 0, .int 0, .non] (spListed K C_TooMany)) : FnOk P w K mg base (CXe P w) 7 f fd ["_law_script"] (spLaw K) := by
  refine F.okE sc_law (fun vs H Q E h => ?_) (fun cdv A outer s H vs Q E hr h => ?_)
  · obtain ⟨_, _, rfl, _⟩ := h
    rfl
  · obtain ⟨a, ns, rfl, hs, hl, hq⟩ := h
    refine ⟨_, (pss_cons (ps_set (i := 1) sc_law.nd rfl (Or.inl rfl) (pe_ix ix_list (pe_c c__law_row (hr.mono (by decide)) np (pa_cons (pv 0) (pa_cons pe_int (pa_cons pe_int (pa_cons pe_int pa_nil))))) pe_int (fun _ _ => rfl))) (pss_cons (ps_set (i := 2) sc_law.nd rfl (Or.inl rfl) (pe_cD 0 c_ways_counted (hr.mono (by decide)) np (pa_cons (pv 1) pa_nil))) (pss_cons (ps_set (i := 3) sc_law.nd rfl (Or.inl rfl) (pe_c c__law_drawn (hr.mono (by decide)) np (pa_cons (pv 0) (pa_cons (pv 2) pa_nil)))) (pss_cons (ps_set (i := 4) sc_law.nd rfl (Or.inl rfl) (pe_c c__law_by (hr.mono (by decide)) np (pa_cons (pv 1) (pa_cons (pv 3) pa_nil)))) (pss_cons (ps_if (PW.pt (pw_or (pt_cmpR op_lt (pv 3) pe_int (nomark _)) (pw_or1 (pt_cmpR op_ge (pv 3) (pv 2) (nomark _))))) (pss_one (ps_if (pt_cmpR (op_neD hr.units) (pv 4) (pe_c c__law_only (hr.mono (by decide)) np (pa_cons pe_int pa_nil)) (nomark _)) (pss_one (ps_ret pe_bl)) pss_nil)) (pss_cons (ps_if (PW.pt (pw_or (pt_not (pt_val (pe_callB call_isi (by rfl) T.b_isinstance (by decide +kernel) (pa_cons (pv 4) (pa_cons (pe_bltn (v := .ty "str") (u := .type "str") rfl T.b_str (by decide +kernel) rfl) pa_nil))))) (pw_or (pt_cmpR op_ne (pe_callB call_len_str (by rfl) T.b_len PySem.boot_len (pa_cons (pv 4) pa_nil)) (pv 1) (nomark _)) (pw_or1 (pt_cmpR op_notN (pe_c c__law_place (hr.mono (by decide)) np (pa_cons (pv 4) pa_nil)) pe_non (nomark _)))))) (pss_one (ps_ret pe_bl)) pss_nil) (pss_cons (ps_if (PW.pt (pw_or (pt_not (pt_val (pe_c c__law_whole (hr.mono (by decide)) np (pa_cons (pe_c c_number_of (hr.mono (by decide)) np (pa_cons (pv 4) pa_nil)) pa_nil)))) (pw_or1 (pt_cmpR op_ne (pe_c c_number_of (hr.mono (by decide)) np (pa_cons (pv 4) pa_nil)) (pv 3) (nomark _))))) (pss_one (ps_ret pe_bl)) pss_nil) (pss_cons (ps_if (PW.pt (pw_and (pt_cmpR op_lt (pe_op op_add (pv 3) pe_int) (pv 2) (nomark _)) (pw_and1 (pt_not (pt_cmpR op_lt_str (pv 4) (pe_c c_way_by (hr.mono (by decide)) np (pa_cons (pv 1) (pa_cons (pe_op op_add (pv 3) pe_int) pa_nil))) (nomark _)))))) (pss_one (ps_ret pe_bl)) pss_nil) (pss_one (ps_if (PW.pt (pw_and (pt_cmpR op_le (pv 2) pe_int (nomark _)) (pw_and1 (pt_cmpR op_ne (pe_ix ix_list (pe_cD 0 c_ways_listed (hr.mono (by decide)) np (pa_cons (pv 1) pa_nil)) (pv 3) (fun _ _ => rfl)) (pv 4) (nomark _))))) (pss_one (ps_ret pe_bl)) pss_nil)))))) (pss_cons (ps_set (i := 5) sc_law.nd rfl (Or.inl rfl) (pe_c c__law_text (hr.mono (by decide)) np (pa_cons (pv 0) pa_nil))) (pss_cons (ps_set (i := 6) sc_law.nd rfl (Or.inl rfl) (pe_c c__law_number (hr.mono (by decide)) np (pa_cons (pv 5) pa_nil))) (pss_cons (ps_set (i := 7) sc_law.nd rfl (Or.inl rfl) (pe_c c__law_place (hr.mono (by decide)) np (pa_cons (pv 5) pa_nil))) (pss_cons (ps_if (pt_cmpR op_notN (pv 7) pe_non (nomark _)) (pss_one (ps_ret (pe_and (pe_cmpR (op_eqD hr.units) (pv 6) (pe_tup (pa_cons (pe_c c__law_only (hr.mono (by decide)) np (pa_cons pe_int pa_nil)) (pa_cons (pv 7) pa_nil))) (nomark _)) (pe_one (pe_c c__law_whole (hr.mono (by decide)) np (pa_cons (pe_ix ix_tup (pv 6) pe_int (fun _ _ => rfl)) pa_nil)))))) pss_nil) (pss_one (ps_ret (pe_and (pe_c c__law_whole (hr.mono (by decide)) np (pa_cons (pv 6) pa_nil)) (pe_one (pe_cmpR op_eq (pe_c c__law_by (hr.mono (by decide)) np (pa_cons (pe_callB call_len_str (by rfl) T.b_len PySem.boot_len (pa_cons (pv 5) pa_nil)) (pa_cons (pv 6) pa_nil))) (pv 5) (nomark _))))))))))))))), ?_⟩
    refine tSeq_step fun N hN => ?_
    walk_at "rd"
    refine ⟨a, ns, 0, 1, 16, rfl, hs, by decide, by decide, by decide, by decide, by decide, by decide, fun D H1 cs s1 nD hD lc bc => ?_⟩
    obtain ⟨c0, rfl⟩ : ∃ c0, cs = [c0] := by
      match cs, lc with
      | [c], _ => exact ⟨c, rfl⟩
    have b0 := bc c0 (by simp)
    obtain ⟨n, rfl⟩ : ∃ n : Nat, c0 = n := ⟨c0.toNat, by omega⟩
    refine ⟨D, rfl, _, SqL.of hD, _, atI_nat (j := 0) rfl, hN _ _ ?_⟩
    clear hN N
    have hn : n ≤ 15 := by omega
    have hs1 := s1.seqL hs
    refine tSeq_step fun N hN => ?_
    walk_at "rd"
    refine ⟨n, 0, 0, none, rfl, by omega, by decide, fun H2 s2 => hN _ _ ?_⟩
    clear hN N
    have hs2 := s2.seqL hs1
    have c1 := cnt_one n
    have c3 : cnt none 0 n 0 < 2 ^ 30 := by
      have := (cnt_bd none 0 n 0).2
      have p : (3 : Int) ^ n ≤ 3 ^ 15 := by
        have : (3 : Nat) ^ n ≤ 3 ^ 15 := Nat.pow_le_pow_right (by decide) hn
        exact_mod_cast this
      have q : (3 : Int) ^ 15 < 2 ^ 30 := by decide
      omega
    refine tSeq_step fun N hN => ?_
    walk_at "rd"
    refine ⟨a, ns, _, rfl, hs2, c1, c3, fun r H3 s3 => hN _ _ ?_⟩
    clear hN N
    have hs3 := s3.seqL hs2
    refine tSeq_step fun N hN => ?_
    walk_at "rd"
    refine ⟨n, r, rfl, by omega, fun no l H4 s4 h4 => hN _ _ ?_, fun r0 r1 H4 s4 => hN _ _ ?_⟩
    · clear hN N
      have hs4 := s4.seqL hs3
      refine tSeq_step fun N hN => ?_
      have fin : ∀ H', Same H4 H' → N [some (V.ref a), some (V.int n), some (V.int (cnt none 0 n 0)), some (V.int r), some (V.ref l), none, none, none] H' := by
        intro H5 s5
        refine hN _ _ ?_
        clear hN N
        have hs5 := s5.seqL hs4
        refine tSeq_step fun N hN => ?_
        walk_at "rd"
        refine ⟨a, ns, rfl, hs5, fun x H6 s6 lx6 ax6 => hN _ _ ?_⟩
        clear hN N
        have lx : x.length = x.cps.size := rfl
        refine tSeq_step fun N hN => ?_
        walk_at "rd"
        rcases cls10 x with ⟨m, hm, hr⟩ | ⟨al, el⟩
        · refine num_ref lx6 ax6 hr fun t o H7 s7 ht ho => hN _ _ ?_
          clear hN N
          refine tSeq_step fun N hN => ?_
          walk_at "rd"
          refine place_ref (by omega) hr fun H8 s8 => hN _ _ ?_
          clear hN N
          walk_at "rd"
          refine ⟨13, rfl, by decide, fun o2 H9 s9 n9 h9 => ⟨sz_le 2 (by decide), fun u nu => ?_⟩⟩
          have uu := same_upd (o := .tup [V.ref o2, V.int m]) nu
          have t7 := s8.trans (s9.trans uu)
          have dd : (Dt.tup [.lst ((oneHot 13).map Dt.bl), .int m]).dep = 2 := by simp only [Dt.dep, Dt.deps, deps_bl]; rfl
          refine eqD_same (.tup [.lst ((oneHot 13).map Dt.bl), .int m]) ?_ ?_ (by rw [dd]; decide) (by rw [dd]; decide) (.inr ⟨rfl, _, SqT.of (t7 _ _ ht), _, rfl, _, rfl, hq _⟩)
          · simp only [Rep, Reps]
            exact ⟨t, _, rfl, SqT.of (t7 _ _ ht), _, _, rfl, ⟨o, _, rfl, SqL.of (t7 _ _ ho), reps_bl _⟩, _, _, rfl, rfl, rfl⟩
          · simp only [Rep, Reps]
            exact ⟨u, _, rfl, SqT.of upd_same, _, _, rfl, ⟨o2, _, rfl, SqL.of (uu _ _ h9), reps_bl _⟩, _, _, rfl, rfl, rfl⟩
        · have ok := all_okW al el
          obtain ⟨r1, r2, r3⟩ := rk_ok none 0 x.cps.toList 0 ok
          have lcs : x.cps.toList.length = x.cps.size := by simp
          rw [lcs] at r2 r3
          refine num_ok lx6 ax6 al el fun H7 s7 => hN _ _ ?_
          clear hN N
          refine tSeq_step fun N hN => ?_
          walk_at "rd"
          refine place_ok (by omega) al el fun H8 s8 => hN _ _ ?_
          clear hN N
          walk_at "rd"
          refine ⟨_, rfl, .inr ⟨rfl, sz_le _ (by rw [lx]; omega), x.cps.size, _, rfl, lx6, fun no => absurd ⟨r1, r2⟩ no, fun _ _ H9 s9 => ⟨rfl, ?_⟩⟩⟩
          have e : (⟨(ur none 0 x.cps.size 0 (rk none 0 x.cps.toList 0)).toArray⟩ : Str) = x := by rw [r3]
          rw [e, decide_eq_true rfl]
          exact hq _
      walk_at "rd"
      have go : spOnly [V.int 4] H4 (fun y H2 => rEqD K true (V.ref l) y H2 fun x H' => x = V.bl false ∧ N [some (V.ref a), some (V.int n), some (V.int (cnt none 0 n 0)), some (V.int r), some (V.ref l), none, none, none] H' ∨ x = V.bl true ∧ Q (V.bl false) H') E0 := by
        refine ⟨4, rfl, by decide, fun o2 H9 s9 n9 h9 => ?_⟩
        have dd : (Dt.lst ((oneHot 4).map Dt.bl)).dep = 1 := by simp only [Dt.dep, deps_bl]
        refine neD_same (.lst ((oneHot 4).map Dt.bl)) ?_ ?_ (by rw [dd]; decide) (by rw [dd]; decide) (.inl ⟨rfl, fin _ s9⟩)
        · simp only [Rep]
          exact ⟨l, _, rfl, SqL.of (s9 _ _ h4), reps_bl _⟩
        · simp only [Rep]
          exact ⟨o2, _, rfl, SqL.of h9, reps_bl _⟩
      split
      · exact go
      · rw [if_pos (by omega)]
        exact go
    · clear hN N
      have hs4 := s4.seqL hs3
      refine tSeq_step fun N hN => ?_
      have fin : ∀ H', Same H4 H' → N [some (V.ref a), some (V.int n), some (V.int (cnt none 0 n 0)), some (V.int r), some (V.str { cps := (ur none 0 n 0 r).toArray }), none, none, none] H' := by
        intro H5 s5
        refine hN _ _ ?_
        clear hN N
        have hs5 := s5.seqL hs4
        refine tSeq_step fun N hN => ?_
        walk_at "rd"
        refine ⟨a, ns, rfl, hs5, fun x H6 s6 lx6 ax6 => hN _ _ ?_⟩
        clear hN N
        have lx : x.length = x.cps.size := rfl
        refine tSeq_step fun N hN => ?_
        walk_at "rd"
        rcases cls10 x with ⟨m, hm, hr⟩ | ⟨al, el⟩
        · refine num_ref lx6 ax6 hr fun t o H7 s7 ht ho => hN _ _ ?_
          clear hN N
          refine tSeq_step fun N hN => ?_
          walk_at "rd"
          refine place_ref (by omega) hr fun H8 s8 => hN _ _ ?_
          clear hN N
          walk_at "rd"
          refine ⟨13, rfl, by decide, fun o2 H9 s9 n9 h9 => ⟨sz_le 2 (by decide), fun u nu => ?_⟩⟩
          have uu := same_upd (o := .tup [V.ref o2, V.int m]) nu
          have t7 := s8.trans (s9.trans uu)
          have dd : (Dt.tup [.lst ((oneHot 13).map Dt.bl), .int m]).dep = 2 := by simp only [Dt.dep, Dt.deps, deps_bl]; rfl
          refine eqD_same (.tup [.lst ((oneHot 13).map Dt.bl), .int m]) ?_ ?_ (by rw [dd]; decide) (by rw [dd]; decide) (.inr ⟨rfl, _, SqT.of (t7 _ _ ht), _, rfl, _, rfl, hq _⟩)
          · simp only [Rep, Reps]
            exact ⟨t, _, rfl, SqT.of (t7 _ _ ht), _, _, rfl, ⟨o, _, rfl, SqL.of (t7 _ _ ho), reps_bl _⟩, _, _, rfl, rfl, rfl⟩
          · simp only [Rep, Reps]
            exact ⟨u, _, rfl, SqT.of upd_same, _, _, rfl, ⟨o2, _, rfl, SqL.of (uu _ _ h9), reps_bl _⟩, _, _, rfl, rfl, rfl⟩
        · have ok := all_okW al el
          obtain ⟨r1, r2, r3⟩ := rk_ok none 0 x.cps.toList 0 ok
          have lcs : x.cps.toList.length = x.cps.size := by simp
          rw [lcs] at r2 r3
          refine num_ok lx6 ax6 al el fun H7 s7 => hN _ _ ?_
          clear hN N
          refine tSeq_step fun N hN => ?_
          walk_at "rd"
          refine place_ok (by omega) al el fun H8 s8 => hN _ _ ?_
          clear hN N
          walk_at "rd"
          refine ⟨_, rfl, .inr ⟨rfl, sz_le _ (by rw [lx]; omega), x.cps.size, _, rfl, lx6, fun no => absurd ⟨r1, r2⟩ no, fun _ _ H9 s9 => ⟨rfl, ?_⟩⟩⟩
          have e : (⟨(ur none 0 x.cps.size 0 (rk none 0 x.cps.toList 0)).toArray⟩ : Str) = x := by rw [r3]
          rw [e, decide_eq_true rfl]
          exact hq _
      walk_at "rd"
      rw [if_neg (by omega), if_neg (by omega)]
      have ok := ur_ok none 0 n 0 r r0 r1
      have rr := rk_ur none 0 n 0 r r0 r1
      have ul := ur_len none 0 n 0 r
      have ok2 : okW none 0 (⟨(ur none 0 n 0 r).toArray⟩ : Str).cps.toList 0 := by simpa using ok
      obtain ⟨al, el⟩ := ok_all ok2
      have ax := ok_asc ok2
      have lc : (⟨(ur none 0 n 0 r).toArray⟩ : Str).cps.size = n := by simp [ul]
      have ls : (⟨(ur none 0 n 0 r).toArray⟩ : Str).length = n := lc
      have rr2 : rk none 0 (⟨(ur none 0 n 0 r).toArray⟩ : Str).cps.toList 0 = r := by simpa using rr
      refine isi_ss (.inr ⟨rfl, sz_le _ (by rw [ls]; omega), .inl ⟨by rw [ls], ?_⟩⟩)
      refine place_ok (by omega) al el fun H5 s5 => .inl ⟨rfl, number_ok (by omega) ax al el fun H6 s6 => ?_⟩
      refine ⟨_, rfl, .inr ⟨rfl, number_ok (by omega) ax al el fun H7 s7 => ?_⟩⟩
      rw [rr2]
      have s4f := s5.trans (s6.trans s7)
      obtain ⟨rn, rfl⟩ : ∃ k : Nat, r = k := ⟨r.toNat, by omega⟩
      have atr : atI (wl none 0 n 0) (rn : Int) = some (.str ⟨(ur none 0 n 0 rn).toArray⟩) := atI_nat (by unfold wl; rw [List.getElem?_map, List.getElem?_range (by omega)]; rfl)
      refine ⟨rfl, .inl ⟨rfl, ?_⟩⟩
      split
      · rename_i lt
        refine ⟨n, _, rfl, by omega, fun no => absurd ⟨by omega, lt⟩ no, fun _ _ H8 s8 => ⟨_, rfl, ?_⟩⟩
        have ult : ur none 0 n 0 rn < ur none 0 n 0 ((rn : Int) + 1) := ur_lt none 0 n 0 rn (rn + 1) (by omega) (by omega) lt
        rw [if_pos (by simpa using ult)]
        split
        · exact ⟨n, 0, 0, none, rfl, by omega, by decide, fun big => absurd big (by omega), fun sm D H9 s9 nD hD => ⟨D, rfl, _, SqL.of hD, _, atr, rfl, .inl ⟨rfl, fin _ (s4f.trans (s8.trans s9))⟩⟩⟩
        · exact fin _ (s4f.trans s8)
      · split
        · exact ⟨n, 0, 0, none, rfl, by omega, by decide, fun big => absurd big (by omega), fun sm D H9 s9 nD hD => ⟨D, rfl, _, SqL.of hD, _, atr, rfl, .inl ⟨rfl, fin _ (s4f.trans s9)⟩⟩⟩
        · exact fin _ s4f
end
theorem all_mk {l : PySem.W.OpenLaw} {w : World} {K : PySem.W.Frag} {h : Heap} {mg : Str → Option Value} {fa : Addr} {f_heights_along : Addr} {od_heights_along an_heights_along : Option Addr} {sl_heights_along : Array (Option Value)} {oc_heights_along kV_heights_along dc_heights_along pm_heights_along cd_heights_along ct_heights_along : Value} {f_heights_of : Addr} {od_heights_of an_heights_of : Option Addr} {sl_heights_of : Array (Option Value)} {oc_heights_of kV_heights_of dc_heights_of pm_heights_of cd_heights_of ct_heights_of : Value} {dV_heights_of : Value} {f_is_within : Addr} {od_is_within an_is_within : Option Addr} {sl_is_within : Array (Option Value)} {oc_is_within kV_is_within dc_is_within pm_is_within cd_is_within ct_is_within : Value} {f_one_step_longer : Addr} {od_one_step_longer an_one_step_longer : Option Addr} {sl_one_step_longer : Array (Option Value)} {oc_one_step_longer kV_one_step_longer dc_one_step_longer pm_one_step_longer cd_one_step_longer ct_one_step_longer : Value} {f_ways_to_go : Addr} {od_ways_to_go an_ways_to_go : Option Addr} {sl_ways_to_go : Array (Option Value)} {oc_ways_to_go kV_ways_to_go dc_ways_to_go pm_ways_to_go cd_ways_to_go ct_ways_to_go : Value} {f_ways_counted : Addr} {od_ways_counted an_ways_counted : Option Addr} {sl_ways_counted : Array (Option Value)} {oc_ways_counted kV_ways_counted dc_ways_counted pm_ways_counted cd_ways_counted ct_ways_counted : Value} {dV_ways_counted : Value} {f_way_at : Addr} {od_way_at an_way_at : Option Addr} {sl_way_at : Array (Option Value)} {oc_way_at kV_way_at dc_way_at pm_way_at cd_way_at ct_way_at : Value} {f_ways_listed : Addr} {od_ways_listed an_ways_listed : Option Addr} {sl_ways_listed : Array (Option Value)} {oc_ways_listed kV_ways_listed dc_ways_listed pm_ways_listed cd_ways_listed ct_ways_listed : Value} {dV_ways_listed : Value} {f_number_of : Addr} {od_number_of an_number_of : Option Addr} {sl_number_of : Array (Option Value)} {oc_number_of kV_number_of dc_number_of pm_number_of cd_number_of ct_number_of : Value} {f_way_by : Addr} {od_way_by an_way_by : Option Addr} {sl_way_by : Array (Option Value)} {oc_way_by kV_way_by dc_way_by pm_way_by cd_way_by ct_way_by : Value} {f__law_whole : Addr} {od__law_whole an__law_whole : Option Addr} {sl__law_whole : Array (Option Value)} {oc__law_whole kV__law_whole dc__law_whole pm__law_whole cd__law_whole ct__law_whole : Value} {f__law_stir : Addr} {od__law_stir an__law_stir : Option Addr} {sl__law_stir : Array (Option Value)} {oc__law_stir kV__law_stir dc__law_stir pm__law_stir cd__law_stir ct__law_stir : Value} {f__law_rise : Addr} {od__law_rise an__law_rise : Option Addr} {sl__law_rise : Array (Option Value)} {oc__law_rise kV__law_rise dc__law_rise pm__law_rise cd__law_rise ct__law_rise : Value} {f__law_marks : Addr} {od__law_marks an__law_marks : Option Addr} {sl__law_marks : Array (Option Value)} {oc__law_marks kV__law_marks dc__law_marks pm__law_marks cd__law_marks ct__law_marks : Value} {f__law_only : Addr} {od__law_only an__law_only : Option Addr} {sl__law_only : Array (Option Value)} {oc__law_only kV__law_only dc__law_only pm__law_only cd__law_only ct__law_only : Value} {f__law_row : Addr} {od__law_row an__law_row : Option Addr} {sl__law_row : Array (Option Value)} {oc__law_row kV__law_row dc__law_row pm__law_row cd__law_row ct__law_row : Value} {f__law_by : Addr} {od__law_by an__law_by : Option Addr} {sl__law_by : Array (Option Value)} {oc__law_by kV__law_by dc__law_by pm__law_by cd__law_by ct__law_by : Value} {f__law_number : Addr} {od__law_number an__law_number : Option Addr} {sl__law_number : Array (Option Value)} {oc__law_number kV__law_number dc__law_number pm__law_number cd__law_number ct__law_number : Value} {f__law_place : Addr} {od__law_place an__law_place : Option Addr} {sl__law_place : Array (Option Value)} {oc__law_place kV__law_place dc__law_place pm__law_place cd__law_place ct__law_place : Value} {f__law_text : Addr} {od__law_text an__law_text : Option Addr} {sl__law_text : Array (Option Value)} {oc__law_text kV__law_text dc__law_text pm__law_text cd__law_text ct__law_text : Value} {f__law_drawn : Addr} {od__law_drawn an__law_drawn : Option Addr} {sl__law_drawn : Array (Option Value)} {oc__law_drawn kV__law_drawn dc__law_drawn pm__law_drawn cd__law_drawn ct__law_drawn : Value} {f_law : Addr} {od_law an_law : Option Addr} {sl_law : Array (Option Value)} {oc_law kV_law dc_law pm_law cd_law ct_law : Value} {C_HeightError : Addr} {C_NoCount : Addr} {C_NoFamily : Addr} {C_NoFraction : Addr} {C_NoHistory : Addr} {C_NoLine : Addr} {C_NoMeeting : Addr} {C_NoMoments : Addr} {C_NoName : Addr} {C_NoNumber : Addr} {C_NoSeries : Addr} {C_NoText : Addr} {C_NoThing : Addr} {C_NoWay : Addr} {C_NoWeights : Addr} {C_RISES : Addr} {C_TooFar : Addr} {C_TooHigh : Addr} {C_TooMany : Addr} {f_NoWay_init : Addr} {od_NoWay_init an_NoWay_init : Option Addr} {sl_NoWay_init : Array (Option Value)} {oc_NoWay_init kV_NoWay_init dc_NoWay_init pm_NoWay_init cd_NoWay_init ct_NoWay_init : Value} {tk_MOST_LISTED : Tok} {h1 h2 h3 : Int} {t1 t2 t3 u1 u2 u3 : Tok} {ep : Nat}     (X : K.In h) (G : h.Ns mainGlobals mg) (hfa : mg "law" = some (.ref fa))
    (a_heights_along : PySem.W.nsIn K mainGlobals "heights_along" = some (some (.ref f_heights_along)))
    (l_heights_along : K.lookup f_heights_along = some ⟨oc_heights_along, od_heights_along, .func (PySem.W.fnOf "heights_along" "heights_along" (defArgs s_heights_along) (defBody s_heights_along) (defScope s_heights_along) .none kV_heights_along dc_heights_along pm_heights_along an_heights_along cd_heights_along ct_heights_along), sl_heights_along⟩)
    (e_heights_along : PySem.W.codeIn K cd_heights_along "heights_along" = true)
    (k_heights_along : PySem.W.keepIn K (.ref f_heights_along) = true)
    (a_heights_of : PySem.W.nsIn K mainGlobals "heights_of" = some (some (.ref f_heights_of)))
    (l_heights_of : K.lookup f_heights_of = some ⟨oc_heights_of, od_heights_of, .func (PySem.W.fnOf "heights_of" "heights_of" (defArgs s_heights_of) (defBody s_heights_of) (defScope s_heights_of) dV_heights_of kV_heights_of dc_heights_of pm_heights_of an_heights_of cd_heights_of ct_heights_of), sl_heights_of⟩)
    (e_heights_of : PySem.W.codeIn K cd_heights_of "heights_of" = true)
    (k_heights_of : PySem.W.keepIn K (.ref f_heights_of) = true)
    (d_heights_of : dflIn K dV_heights_of [.int 0, .int 0] = true)
    (a_is_within : PySem.W.nsIn K mainGlobals "is_within" = some (some (.ref f_is_within)))
    (l_is_within : K.lookup f_is_within = some ⟨oc_is_within, od_is_within, .func (PySem.W.fnOf "is_within" "is_within" (defArgs s_is_within) (defBody s_is_within) (defScope s_is_within) .none kV_is_within dc_is_within pm_is_within an_is_within cd_is_within ct_is_within), sl_is_within⟩)
    (e_is_within : PySem.W.codeIn K cd_is_within "is_within" = true)
    (k_is_within : PySem.W.keepIn K (.ref f_is_within) = true)
    (a_one_step_longer : PySem.W.nsIn K mainGlobals "one_step_longer" = some (some (.ref f_one_step_longer)))
    (l_one_step_longer : K.lookup f_one_step_longer = some ⟨oc_one_step_longer, od_one_step_longer, .func (PySem.W.fnOf "one_step_longer" "one_step_longer" (defArgs s_one_step_longer) (defBody s_one_step_longer) (defScope s_one_step_longer) .none kV_one_step_longer dc_one_step_longer pm_one_step_longer an_one_step_longer cd_one_step_longer ct_one_step_longer), sl_one_step_longer⟩)
    (e_one_step_longer : PySem.W.codeIn K cd_one_step_longer "one_step_longer" = true)
    (k_one_step_longer : PySem.W.keepIn K (.ref f_one_step_longer) = true)
    (a_ways_to_go : PySem.W.nsIn K mainGlobals "ways_to_go" = some (some (.ref f_ways_to_go)))
    (l_ways_to_go : K.lookup f_ways_to_go = some ⟨oc_ways_to_go, od_ways_to_go, .func (PySem.W.fnOf "ways_to_go" "ways_to_go" (defArgs s_ways_to_go) (defBody s_ways_to_go) (defScope s_ways_to_go) .none kV_ways_to_go dc_ways_to_go pm_ways_to_go an_ways_to_go cd_ways_to_go ct_ways_to_go), sl_ways_to_go⟩)
    (e_ways_to_go : PySem.W.codeIn K cd_ways_to_go "ways_to_go" = true)
    (k_ways_to_go : PySem.W.keepIn K (.ref f_ways_to_go) = true)
    (a_ways_counted : PySem.W.nsIn K mainGlobals "ways_counted" = some (some (.ref f_ways_counted)))
    (l_ways_counted : K.lookup f_ways_counted = some ⟨oc_ways_counted, od_ways_counted, .func (PySem.W.fnOf "ways_counted" "ways_counted" (defArgs s_ways_counted) (defBody s_ways_counted) (defScope s_ways_counted) dV_ways_counted kV_ways_counted dc_ways_counted pm_ways_counted an_ways_counted cd_ways_counted ct_ways_counted), sl_ways_counted⟩)
    (e_ways_counted : PySem.W.codeIn K cd_ways_counted "ways_counted" = true)
    (k_ways_counted : PySem.W.keepIn K (.ref f_ways_counted) = true)
    (d_ways_counted : dflIn K dV_ways_counted [.int 0, .int 0, .non] = true)
    (a_way_at : PySem.W.nsIn K mainGlobals "way_at" = some (some (.ref f_way_at)))
    (l_way_at : K.lookup f_way_at = some ⟨oc_way_at, od_way_at, .func (PySem.W.fnOf "way_at" "way_at" (defArgs s_way_at) (defBody s_way_at) (defScope s_way_at) .none kV_way_at dc_way_at pm_way_at an_way_at cd_way_at ct_way_at), sl_way_at⟩)
    (e_way_at : PySem.W.codeIn K cd_way_at "way_at" = true)
    (k_way_at : PySem.W.keepIn K (.ref f_way_at) = true)
    (a_ways_listed : PySem.W.nsIn K mainGlobals "ways_listed" = some (some (.ref f_ways_listed)))
    (l_ways_listed : K.lookup f_ways_listed = some ⟨oc_ways_listed, od_ways_listed, .func (PySem.W.fnOf "ways_listed" "ways_listed" (defArgs s_ways_listed) (defBody s_ways_listed) (defScope s_ways_listed) dV_ways_listed kV_ways_listed dc_ways_listed pm_ways_listed an_ways_listed cd_ways_listed ct_ways_listed), sl_ways_listed⟩)
    (e_ways_listed : PySem.W.codeIn K cd_ways_listed "ways_listed" = true)
    (k_ways_listed : PySem.W.keepIn K (.ref f_ways_listed) = true)
    (d_ways_listed : dflIn K dV_ways_listed [.int 0, .int 0, .non] = true)
    (a_number_of : PySem.W.nsIn K mainGlobals "number_of" = some (some (.ref f_number_of)))
    (l_number_of : K.lookup f_number_of = some ⟨oc_number_of, od_number_of, .func (PySem.W.fnOf "number_of" "number_of" (defArgs s_number_of) (defBody s_number_of) (defScope s_number_of) .none kV_number_of dc_number_of pm_number_of an_number_of cd_number_of ct_number_of), sl_number_of⟩)
    (e_number_of : PySem.W.codeIn K cd_number_of "number_of" = true)
    (k_number_of : PySem.W.keepIn K (.ref f_number_of) = true)
    (a_way_by : PySem.W.nsIn K mainGlobals "way_by" = some (some (.ref f_way_by)))
    (l_way_by : K.lookup f_way_by = some ⟨oc_way_by, od_way_by, .func (PySem.W.fnOf "way_by" "way_by" (defArgs s_way_by) (defBody s_way_by) (defScope s_way_by) .none kV_way_by dc_way_by pm_way_by an_way_by cd_way_by ct_way_by), sl_way_by⟩)
    (e_way_by : PySem.W.codeIn K cd_way_by "way_by" = true)
    (k_way_by : PySem.W.keepIn K (.ref f_way_by) = true)
    (a__law_whole : PySem.W.nsIn K mainGlobals "_law_whole" = some (some (.ref f__law_whole)))
    (l__law_whole : K.lookup f__law_whole = some ⟨oc__law_whole, od__law_whole, .func (PySem.W.fnOf "_law_whole" "_law_whole" (defArgs s__law_whole) (defBody s__law_whole) (defScope s__law_whole) .none kV__law_whole dc__law_whole pm__law_whole an__law_whole cd__law_whole ct__law_whole), sl__law_whole⟩)
    (e__law_whole : PySem.W.codeIn K cd__law_whole "_law_whole" = true)
    (k__law_whole : PySem.W.keepIn K (.ref f__law_whole) = true)
    (a__law_stir : PySem.W.nsIn K mainGlobals "_law_stir" = some (some (.ref f__law_stir)))
    (l__law_stir : K.lookup f__law_stir = some ⟨oc__law_stir, od__law_stir, .func (PySem.W.fnOf "_law_stir" "_law_stir" (defArgs s__law_stir) (defBody s__law_stir) (defScope s__law_stir) .none kV__law_stir dc__law_stir pm__law_stir an__law_stir cd__law_stir ct__law_stir), sl__law_stir⟩)
    (e__law_stir : PySem.W.codeIn K cd__law_stir "_law_stir" = true)
    (k__law_stir : PySem.W.keepIn K (.ref f__law_stir) = true)
    (a__law_rise : PySem.W.nsIn K mainGlobals "_law_rise" = some (some (.ref f__law_rise)))
    (l__law_rise : K.lookup f__law_rise = some ⟨oc__law_rise, od__law_rise, .func (PySem.W.fnOf "_law_rise" "_law_rise" (defArgs s__law_rise) (defBody s__law_rise) (defScope s__law_rise) .none kV__law_rise dc__law_rise pm__law_rise an__law_rise cd__law_rise ct__law_rise), sl__law_rise⟩)
    (e__law_rise : PySem.W.codeIn K cd__law_rise "_law_rise" = true)
    (k__law_rise : PySem.W.keepIn K (.ref f__law_rise) = true)
    (a__law_marks : PySem.W.nsIn K mainGlobals "_law_marks" = some (some (.ref f__law_marks)))
    (l__law_marks : K.lookup f__law_marks = some ⟨oc__law_marks, od__law_marks, .func (PySem.W.fnOf "_law_marks" "_law_marks" (defArgs s__law_marks) (defBody s__law_marks) (defScope s__law_marks) .none kV__law_marks dc__law_marks pm__law_marks an__law_marks cd__law_marks ct__law_marks), sl__law_marks⟩)
    (e__law_marks : PySem.W.codeIn K cd__law_marks "_law_marks" = true)
    (k__law_marks : PySem.W.keepIn K (.ref f__law_marks) = true)
    (a__law_only : PySem.W.nsIn K mainGlobals "_law_only" = some (some (.ref f__law_only)))
    (l__law_only : K.lookup f__law_only = some ⟨oc__law_only, od__law_only, .func (PySem.W.fnOf "_law_only" "_law_only" (defArgs s__law_only) (defBody s__law_only) (defScope s__law_only) .none kV__law_only dc__law_only pm__law_only an__law_only cd__law_only ct__law_only), sl__law_only⟩)
    (e__law_only : PySem.W.codeIn K cd__law_only "_law_only" = true)
    (k__law_only : PySem.W.keepIn K (.ref f__law_only) = true)
    (a__law_row : PySem.W.nsIn K mainGlobals "_law_row" = some (some (.ref f__law_row)))
    (l__law_row : K.lookup f__law_row = some ⟨oc__law_row, od__law_row, .func (PySem.W.fnOf "_law_row" "_law_row" (defArgs s__law_row) (defBody s__law_row) (defScope s__law_row) .none kV__law_row dc__law_row pm__law_row an__law_row cd__law_row ct__law_row), sl__law_row⟩)
    (e__law_row : PySem.W.codeIn K cd__law_row "_law_row" = true)
    (k__law_row : PySem.W.keepIn K (.ref f__law_row) = true)
    (a__law_by : PySem.W.nsIn K mainGlobals "_law_by" = some (some (.ref f__law_by)))
    (l__law_by : K.lookup f__law_by = some ⟨oc__law_by, od__law_by, .func (PySem.W.fnOf "_law_by" "_law_by" (defArgs s__law_by) (defBody s__law_by) (defScope s__law_by) .none kV__law_by dc__law_by pm__law_by an__law_by cd__law_by ct__law_by), sl__law_by⟩)
    (e__law_by : PySem.W.codeIn K cd__law_by "_law_by" = true)
    (k__law_by : PySem.W.keepIn K (.ref f__law_by) = true)
    (a__law_number : PySem.W.nsIn K mainGlobals "_law_number" = some (some (.ref f__law_number)))
    (l__law_number : K.lookup f__law_number = some ⟨oc__law_number, od__law_number, .func (PySem.W.fnOf "_law_number" "_law_number" (defArgs s__law_number) (defBody s__law_number) (defScope s__law_number) .none kV__law_number dc__law_number pm__law_number an__law_number cd__law_number ct__law_number), sl__law_number⟩)
    (e__law_number : PySem.W.codeIn K cd__law_number "_law_number" = true)
    (k__law_number : PySem.W.keepIn K (.ref f__law_number) = true)
    (a__law_place : PySem.W.nsIn K mainGlobals "_law_place" = some (some (.ref f__law_place)))
    (l__law_place : K.lookup f__law_place = some ⟨oc__law_place, od__law_place, .func (PySem.W.fnOf "_law_place" "_law_place" (defArgs s__law_place) (defBody s__law_place) (defScope s__law_place) .none kV__law_place dc__law_place pm__law_place an__law_place cd__law_place ct__law_place), sl__law_place⟩)
    (e__law_place : PySem.W.codeIn K cd__law_place "_law_place" = true)
    (k__law_place : PySem.W.keepIn K (.ref f__law_place) = true)
    (a__law_text : PySem.W.nsIn K mainGlobals "_law_text" = some (some (.ref f__law_text)))
    (l__law_text : K.lookup f__law_text = some ⟨oc__law_text, od__law_text, .func (PySem.W.fnOf "_law_text" "_law_text" (defArgs s__law_text) (defBody s__law_text) (defScope s__law_text) .none kV__law_text dc__law_text pm__law_text an__law_text cd__law_text ct__law_text), sl__law_text⟩)
    (e__law_text : PySem.W.codeIn K cd__law_text "_law_text" = true)
    (k__law_text : PySem.W.keepIn K (.ref f__law_text) = true)
    (a__law_drawn : PySem.W.nsIn K mainGlobals "_law_drawn" = some (some (.ref f__law_drawn)))
    (l__law_drawn : K.lookup f__law_drawn = some ⟨oc__law_drawn, od__law_drawn, .func (PySem.W.fnOf "_law_drawn" "_law_drawn" (defArgs s__law_drawn) (defBody s__law_drawn) (defScope s__law_drawn) .none kV__law_drawn dc__law_drawn pm__law_drawn an__law_drawn cd__law_drawn ct__law_drawn), sl__law_drawn⟩)
    (e__law_drawn : PySem.W.codeIn K cd__law_drawn "_law_drawn" = true)
    (k__law_drawn : PySem.W.keepIn K (.ref f__law_drawn) = true)
    (a_law : PySem.W.nsIn K mainGlobals "law" = some (some (.ref f_law)))
    (l_law : K.lookup f_law = some ⟨oc_law, od_law, .func (PySem.W.fnOf "law" "law" (defArgs s_law) (defBody s_law) (defScope s_law) .none kV_law dc_law pm_law an_law cd_law ct_law), sl_law⟩)
    (e_law : PySem.W.codeIn K cd_law "law" = true)
    (k_law : PySem.W.keepIn K (.ref f_law) = true)
    (a_HeightError : PySem.W.nsIn K mainGlobals "HeightError" = some (some (.ref C_HeightError)))
    (a_NoCount : PySem.W.nsIn K mainGlobals "NoCount" = some (some (.ref C_NoCount)))
    (a_NoFamily : PySem.W.nsIn K mainGlobals "NoFamily" = some (some (.ref C_NoFamily)))
    (a_NoFraction : PySem.W.nsIn K mainGlobals "NoFraction" = some (some (.ref C_NoFraction)))
    (a_NoHistory : PySem.W.nsIn K mainGlobals "NoHistory" = some (some (.ref C_NoHistory)))
    (a_NoLine : PySem.W.nsIn K mainGlobals "NoLine" = some (some (.ref C_NoLine)))
    (a_NoMeeting : PySem.W.nsIn K mainGlobals "NoMeeting" = some (some (.ref C_NoMeeting)))
    (a_NoMoments : PySem.W.nsIn K mainGlobals "NoMoments" = some (some (.ref C_NoMoments)))
    (a_NoName : PySem.W.nsIn K mainGlobals "NoName" = some (some (.ref C_NoName)))
    (a_NoNumber : PySem.W.nsIn K mainGlobals "NoNumber" = some (some (.ref C_NoNumber)))
    (a_NoSeries : PySem.W.nsIn K mainGlobals "NoSeries" = some (some (.ref C_NoSeries)))
    (a_NoText : PySem.W.nsIn K mainGlobals "NoText" = some (some (.ref C_NoText)))
    (a_NoThing : PySem.W.nsIn K mainGlobals "NoThing" = some (some (.ref C_NoThing)))
    (a_NoWay : PySem.W.nsIn K mainGlobals "NoWay" = some (some (.ref C_NoWay)))
    (a_NoWeights : PySem.W.nsIn K mainGlobals "NoWeights" = some (some (.ref C_NoWeights)))
    (a_RISES : PySem.W.nsIn K mainGlobals "RISES" = some (some (.ref C_RISES)))
    (a_TooFar : PySem.W.nsIn K mainGlobals "TooFar" = some (some (.ref C_TooFar)))
    (a_TooHigh : PySem.W.nsIn K mainGlobals "TooHigh" = some (some (.ref C_TooHigh)))
    (a_TooMany : PySem.W.nsIn K mainGlobals "TooMany" = some (some (.ref C_TooMany)))
    (a_NoWay_init : PySem.W.findIn K (.ref C_NoWay) "__init__" = some (some (.ref f_NoWay_init)))
    (l_NoWay_init : K.lookup f_NoWay_init = some ⟨oc_NoWay_init, od_NoWay_init, .func (PySem.W.fnOf "__init__" "NoWay.__init__" (defArgs s_NoWay_init) (defBody s_NoWay_init) (defScope s_NoWay_init) .none kV_NoWay_init dc_NoWay_init pm_NoWay_init an_NoWay_init cd_NoWay_init ct_NoWay_init), sl_NoWay_init⟩)
    (e_NoWay_init : PySem.W.codeIn K cd_NoWay_init "NoWay.__init__" = true)
    (k_NoWay_init : PySem.W.keepIn K (.ref f_NoWay_init) = true)
    (y_NoWay_init : excInit K C_NoWay f_NoWay_init = true)
    (kc_NoWay_init : PySem.W.keepIn K (.ref C_NoWay) = true)
    (n_ValueError : PySem.W.nsIn K mainGlobals "ValueError" = some none)
    (n_bool : PySem.W.nsIn K mainGlobals "bool" = some none)
    (n_enumerate : PySem.W.nsIn K mainGlobals "enumerate" = some none)
    (n_int : PySem.W.nsIn K mainGlobals "int" = some none)
    (n_isinstance : PySem.W.nsIn K mainGlobals "isinstance" = some none)
    (n_len : PySem.W.nsIn K mainGlobals "len" = some none)
    (n_range : PySem.W.nsIn K mainGlobals "range" = some none)
    (n_reversed : PySem.W.nsIn K mainGlobals "reversed" = some none)
    (n_str : PySem.W.nsIn K mainGlobals "str" = some none)
    (n_sum : PySem.W.nsIn K mainGlobals "sum" = some none)
    (n_tuple : PySem.W.nsIn K mainGlobals "tuple" = some none)
    (a_MOST_LISTED : PySem.W.nsIn K mainGlobals "MOST_LISTED" = some (some (.int 400 tk_MOST_LISTED)))
    (l_RISES : K.lookup C_RISES = some ⟨.type "dict", none, .dict #[⟨h1, .str "d" t1, .int (-1) u1⟩, ⟨h2, .str "l" t2, .int 0 u2⟩, ⟨h3, .str "u" t3, .int 1 u3⟩] ep, #[]⟩)
    (q1_RISES : h1 = hashStr w "d")
    (q2_RISES : h2 = hashStr w "l")
    (q3_RISES : h3 = hashStr w "u")
    (q4_RISES : (C_RISES == sysModules) = false)
    (x_ih : initOf K C_HeightError = true)
    (x_sa : PySem.W.findIn K (.ref C_NoWay) "__setattr__" = some (some (.builtin "object.__setattr__")))
    (x_np : PySem.W.findIn K (.ref C_NoWay) "at" = some none)
    (x_cd : (PySem.W.clsIn K C_NoWay).any (fun cd => cd.hasDict && refsV cd.mro) = true)
    (x_hd : PySem.W.hasDictIn K C_NoWay = true)
    (x_ga : PySem.W.findIn K (.ref C_NoWay) "__getattribute__" = some (some (.builtin "BaseException.__getattribute__")))
    (x_gt : PySem.W.findIn K (.ref C_NoWay) "__getattr__" = some none)
    (x_be : PySem.W.mroIn K C_NoWay (.type "BaseException") = some true)
    (x_ob : PySem.W.mroIn K C_NoWay (.type "object") = some true)
    (x_cl : PySem.W.findIn K (.ref C_NoWay) "__class__" = some (some (.builtin "object.__class__")))
    (x_gs : PySem.W.specialIn K (.builtin "object.__class__") "__get__" = some (some (.builtin "getset_descriptor.__get__")))
    (x_tk : PySem.W.takesIn K (.builtin "object.__class__") = some true)
    (x_is : (PySem.W.clsIn K C_NoWay).isSome = true)
    (x_ex : PySem.W.exmOne K (.ref C_NoWay) (.ref C_NoWay) = some true)
    (x_kValueError : PySem.W.kitOne K (.ref C_NoWay) (.type "ValueError") = some true)
    (x_kNoFraction : PySem.W.kitOne K (.ref C_NoWay) (.ref C_NoFraction) = some false)
    (x_kTooMany : PySem.W.kitOne K (.ref C_NoWay) (.ref C_TooMany) = some false)
    (x_kTooFar : PySem.W.kitOne K (.ref C_NoWay) (.ref C_TooFar) = some false)
    (x_kNoNumber : PySem.W.kitOne K (.ref C_NoWay) (.ref C_NoNumber) = some false)
    (x_kNoWeights : PySem.W.kitOne K (.ref C_NoWay) (.ref C_NoWeights) = some false)
    (x_kNoSeries : PySem.W.kitOne K (.ref C_NoWay) (.ref C_NoSeries) = some false)
    (x_kNoMoments : PySem.W.kitOne K (.ref C_NoWay) (.ref C_NoMoments) = some false)
    (x_kNoFamily : PySem.W.kitOne K (.ref C_NoWay) (.ref C_NoFamily) = some false)
    (x_kNoMeeting : PySem.W.kitOne K (.ref C_NoWay) (.ref C_NoMeeting) = some false)
    (x_kNoThing : PySem.W.kitOne K (.ref C_NoWay) (.ref C_NoThing) = some false)
    (x_kNoLine : PySem.W.kitOne K (.ref C_NoWay) (.ref C_NoLine) = some false)
    (x_kNoText : PySem.W.kitOne K (.ref C_NoWay) (.ref C_NoText) = some false)
    (x_kNoWay : PySem.W.kitOne K (.ref C_NoWay) (.ref C_NoWay) = some true)
    (x_kTooHigh : PySem.W.kitOne K (.ref C_NoWay) (.ref C_TooHigh) = some false)
    (x_kNoHistory : PySem.W.kitOne K (.ref C_NoWay) (.ref C_NoHistory) = some false)
    (x_kNoCount : PySem.W.kitOne K (.ref C_NoWay) (.ref C_NoCount) = some false)
    (x_kNoName : PySem.W.kitOne K (.ref C_NoWay) (.ref C_NoName) = some false)
    (x_ga2 : PySem.W.findIn K (.ref C_NoNumber) "__getattribute__" = some (some (.builtin "BaseException.__getattribute__")))
    (x_gt2 : PySem.W.findIn K (.ref C_NoNumber) "__getattr__" = some none)
    (x_be2 : PySem.W.mroIn K C_NoNumber (.type "BaseException") = some true)
    (x_ob2 : PySem.W.mroIn K C_NoNumber (.type "object") = some true)
    (x_cl2 : PySem.W.findIn K (.ref C_NoNumber) "__class__" = some (some (.builtin "object.__class__")))
    (x_gs2 : PySem.W.specialIn K (.builtin "object.__class__") "__get__" = some (some (.builtin "getset_descriptor.__get__")))
    (x_tk2 : PySem.W.takesIn K (.builtin "object.__class__") = some true)
    (x_is2 : (PySem.W.clsIn K C_NoNumber).isSome = true)
    (x_ex2 : PySem.W.exmOne K (.ref C_NoNumber) (.ref C_HeightError) = some true)
    (x_kValueError2 : PySem.W.kitOne K (.ref C_NoNumber) (.type "ValueError") = some true)
    (x_kNoFraction2 : PySem.W.kitOne K (.ref C_NoNumber) (.ref C_NoFraction) = some false)
    (x_kTooMany2 : PySem.W.kitOne K (.ref C_NoNumber) (.ref C_TooMany) = some false)
    (x_kTooFar2 : PySem.W.kitOne K (.ref C_NoNumber) (.ref C_TooFar) = some false)
    (x_kNoNumber2 : PySem.W.kitOne K (.ref C_NoNumber) (.ref C_NoNumber) = some true)
    (x_kNoWeights2 : PySem.W.kitOne K (.ref C_NoNumber) (.ref C_NoWeights) = some false)
    (x_kNoSeries2 : PySem.W.kitOne K (.ref C_NoNumber) (.ref C_NoSeries) = some false)
    (x_kNoMoments2 : PySem.W.kitOne K (.ref C_NoNumber) (.ref C_NoMoments) = some false)
    (x_kNoFamily2 : PySem.W.kitOne K (.ref C_NoNumber) (.ref C_NoFamily) = some false)
    (x_kNoMeeting2 : PySem.W.kitOne K (.ref C_NoNumber) (.ref C_NoMeeting) = some false)
    (x_kNoThing2 : PySem.W.kitOne K (.ref C_NoNumber) (.ref C_NoThing) = some false)
    (x_kNoLine2 : PySem.W.kitOne K (.ref C_NoNumber) (.ref C_NoLine) = some false)
    (x_kNoText2 : PySem.W.kitOne K (.ref C_NoNumber) (.ref C_NoText) = some false)
    (x_kNoWay2 : PySem.W.kitOne K (.ref C_NoNumber) (.ref C_NoWay) = some false)
    (x_kTooHigh2 : PySem.W.kitOne K (.ref C_NoNumber) (.ref C_TooHigh) = some false)
    (x_kNoHistory2 : PySem.W.kitOne K (.ref C_NoNumber) (.ref C_NoHistory) = some false)
    (x_kNoCount2 : PySem.W.kitOne K (.ref C_NoNumber) (.ref C_NoCount) = some false)
    (x_kNoName2 : PySem.W.kitOne K (.ref C_NoNumber) (.ref C_NoName) = some false)
    (x_tm : PySem.W.excIn K C_TooMany vmro "ValueError.__new__" = true)
    (x_nn : PySem.W.excIn K C_NoNumber vmro "ValueError.__new__" = true)
    : ∃ fd : FuncData, (∀ (s : Shared) (v : Value), BindsTo s fd ⟨[v], []⟩ [("_law_script", v)]) ∧ ∀ base : Heap, K.In base → base.Ns mainGlobals mg → FnOk l.prog w K mg base (CXe l.prog w) 7 fa fd ["_law_script"] (spLaw K) := by
  have e := hfa.symm.trans (PySem.W.mg_of X G a_law)
  cases e
  have T : Tx w K mg C_HeightError C_NoCount C_NoFamily C_NoFraction C_NoHistory C_NoLine C_NoMeeting C_NoMoments C_NoName C_NoNumber C_NoSeries C_NoText C_NoThing C_NoWay C_NoWeights C_RISES C_TooFar C_TooHigh C_TooMany := { b_ValueError := PySem.W.mg_none_of X G n_ValueError, b_bool := PySem.W.mg_none_of X G n_bool, b_enumerate := PySem.W.mg_none_of X G n_enumerate, b_int := PySem.W.mg_none_of X G n_int, b_isinstance := PySem.W.mg_none_of X G n_isinstance, b_len := PySem.W.mg_none_of X G n_len, b_range := PySem.W.mg_none_of X G n_range, b_reversed := PySem.W.mg_none_of X G n_reversed, b_str := PySem.W.mg_none_of X G n_str, b_sum := PySem.W.mg_none_of X G n_sum, b_tuple := PySem.W.mg_none_of X G n_tuple, m_HeightError := PySem.W.mg_of X G a_HeightError, m_NoCount := PySem.W.mg_of X G a_NoCount, m_NoFamily := PySem.W.mg_of X G a_NoFamily, m_NoFraction := PySem.W.mg_of X G a_NoFraction, m_NoHistory := PySem.W.mg_of X G a_NoHistory, m_NoLine := PySem.W.mg_of X G a_NoLine, m_NoMeeting := PySem.W.mg_of X G a_NoMeeting, m_NoMoments := PySem.W.mg_of X G a_NoMoments, m_NoName := PySem.W.mg_of X G a_NoName, m_NoNumber := PySem.W.mg_of X G a_NoNumber, m_NoSeries := PySem.W.mg_of X G a_NoSeries, m_NoText := PySem.W.mg_of X G a_NoText, m_NoThing := PySem.W.mg_of X G a_NoThing, m_NoWay := PySem.W.mg_of X G a_NoWay, m_NoWeights := PySem.W.mg_of X G a_NoWeights, m_RISES := PySem.W.mg_of X G a_RISES, m_TooFar := PySem.W.mg_of X G a_TooFar, m_TooHigh := PySem.W.mg_of X G a_TooHigh, m_TooMany := PySem.W.mg_of X G a_TooMany, rises := kd_rises l_RISES q1_RISES q2_RISES q3_RISES q4_RISES, i_HeightError := x_ih, y_NoWay := ⟨x_sa, x_np, x_ob, x_cd⟩, j_NoWay := ⟨_, y_NoWay_init⟩, xg := ⟨⟨x_ga, x_gt, x_be, x_ob, x_cl, x_gs, x_tk, x_is⟩, x_hd, x_np⟩, xc := ⟨x_ga, x_gt, x_be, x_ob, x_cl, x_gs, x_tk, x_is⟩, ex := x_ex, k_ValueError := x_kValueError, k_NoFraction := x_kNoFraction, k_TooMany := x_kTooMany, k_TooFar := x_kTooFar, k_NoNumber := x_kNoNumber, k_NoWeights := x_kNoWeights, k_NoSeries := x_kNoSeries, k_NoMoments := x_kNoMoments, k_NoFamily := x_kNoFamily, k_NoMeeting := x_kNoMeeting, k_NoThing := x_kNoThing, k_NoLine := x_kNoLine, k_NoText := x_kNoText, k_NoWay := x_kNoWay, k_TooHigh := x_kTooHigh, k_NoHistory := x_kNoHistory, k_NoCount := x_kNoCount, k_NoName := x_kNoName, x_NoNumber := x_nn, xc2 := ⟨x_ga2, x_gt2, x_be2, x_ob2, x_cl2, x_gs2, x_tk2, x_is2⟩, ex2 := x_ex2, k2_ValueError := x_kValueError2, k2_NoFraction := x_kNoFraction2, k2_TooMany := x_kTooMany2, k2_TooFar := x_kTooFar2, k2_NoNumber := x_kNoNumber2, k2_NoWeights := x_kNoWeights2, k2_NoSeries := x_kNoSeries2, k2_NoMoments := x_kNoMoments2, k2_NoFamily := x_kNoFamily2, k2_NoMeeting := x_kNoMeeting2, k2_NoThing := x_kNoThing2, k2_NoLine := x_kNoLine2, k2_NoText := x_kNoText2, k2_NoWay := x_kNoWay2, k2_TooHigh := x_kTooHigh2, k2_NoHistory := x_kNoHistory2, k2_NoCount := x_kNoCount2, k2_NoName := x_kNoName2, x_TooMany := x_tm, g_MOST_L := ⟨_, PySem.W.mg_of X G a_MOST_LISTED⟩ }
  refine ⟨PySem.W.fnOf "law" "law" (defArgs s_law) (defBody s_law) (defScope s_law) .none kV_law dc_law pm_law an_law cd_law ct_law, fun s v => .of_eq rfl, fun base _ _ => ?_⟩
  have h_NoWay_init := ok_NoWay_init (P := l.prog) (w := w) (base := base) (fun_mk (st := s_NoWay_init) l_NoWay_init e_NoWay_init k_NoWay_init) y_NoWay_init kc_NoWay_init T 
  have h_heights_along := ok_heights_along (P := l.prog) (w := w) (base := base) (fun_mk (st := s_heights_along) l_heights_along e_heights_along k_heights_along) (PySem.W.mg_of X G a_heights_along) T h_NoWay_init
  have h_heights_of := ok_heights_of (P := l.prog) (w := w) (base := base) (funD_mk (st := s_heights_of) l_heights_of e_heights_of k_heights_of d_heights_of) (PySem.W.mg_of X G a_heights_of) T h_NoWay_init h_heights_along
  have h_is_within := ok_is_within (P := l.prog) (w := w) (base := base) (fun_mk (st := s_is_within) l_is_within e_is_within k_is_within) (PySem.W.mg_of X G a_is_within) T 
  have h_one_step_longer := ok_one_step_longer (P := l.prog) (w := w) (base := base) (fun_mk (st := s_one_step_longer) l_one_step_longer e_one_step_longer k_one_step_longer) (PySem.W.mg_of X G a_one_step_longer) T h_is_within
  have h_ways_to_go := ok_ways_to_go (P := l.prog) (w := w) (base := base) (fun_mk (st := s_ways_to_go) l_ways_to_go e_ways_to_go k_ways_to_go) (PySem.W.mg_of X G a_ways_to_go) T h_is_within h_one_step_longer
  have h_ways_counted := ok_ways_counted (P := l.prog) (w := w) (base := base) (funD_mk (st := s_ways_counted) l_ways_counted e_ways_counted k_ways_counted d_ways_counted) (PySem.W.mg_of X G a_ways_counted) T h_ways_to_go
  have h_way_at := ok_way_at (P := l.prog) (w := w) (base := base) (fun_mk (st := s_way_at) l_way_at e_way_at k_way_at) (PySem.W.mg_of X G a_way_at) T 
  have h_ways_listed := ok_ways_listed (P := l.prog) (w := w) (base := base) (funD_mk (st := s_ways_listed) l_ways_listed e_ways_listed k_ways_listed d_ways_listed) (PySem.W.mg_of X G a_ways_listed) T h_way_at h_ways_counted h_ways_to_go
  have h_number_of := ok_number_of (P := l.prog) (w := w) (base := base) (fun_mk (st := s_number_of) l_number_of e_number_of k_number_of) (PySem.W.mg_of X G a_number_of) T h_heights_of h_ways_to_go
  have h_way_by := ok_way_by (P := l.prog) (w := w) (base := base) (fun_mk (st := s_way_by) l_way_by e_way_by k_way_by) (PySem.W.mg_of X G a_way_by) T h_way_at h_ways_counted h_ways_to_go
  have h__law_whole := ok__law_whole (P := l.prog) (w := w) (base := base) (fun_mk (st := s__law_whole) l__law_whole e__law_whole k__law_whole) (PySem.W.mg_of X G a__law_whole) T 
  have h__law_stir := ok__law_stir (P := l.prog) (w := w) (base := base) (fun_mk (st := s__law_stir) l__law_stir e__law_stir k__law_stir) (PySem.W.mg_of X G a__law_stir) T 
  have h__law_rise := ok__law_rise (P := l.prog) (w := w) (base := base) (fun_mk (st := s__law_rise) l__law_rise e__law_rise k__law_rise) (PySem.W.mg_of X G a__law_rise) T 
  have h__law_marks := ok__law_marks (P := l.prog) (w := w) (base := base) (fun_mk (st := s__law_marks) l__law_marks e__law_marks k__law_marks) (PySem.W.mg_of X G a__law_marks) T 
  have h__law_only := ok__law_only (P := l.prog) (w := w) (base := base) (fun_mk (st := s__law_only) l__law_only e__law_only k__law_only) (PySem.W.mg_of X G a__law_only) T 
  have h__law_row := ok__law_row (P := l.prog) (w := w) (base := base) (fun_mk (st := s__law_row) l__law_row e__law_row k__law_row) (PySem.W.mg_of X G a__law_row) T h__law_stir
  have h__law_by := ok__law_by (P := l.prog) (w := w) (base := base) (fun_mk (st := s__law_by) l__law_by e__law_by k__law_by) (PySem.W.mg_of X G a__law_by) T h__law_marks h_way_by
  have h__law_number := ok__law_number (P := l.prog) (w := w) (base := base) (fun_mk (st := s__law_number) l__law_number e__law_number k__law_number) (PySem.W.mg_of X G a__law_number) T h__law_marks h_number_of
  have h__law_place := ok__law_place (P := l.prog) (w := w) (base := base) (fun_mk (st := s__law_place) l__law_place e__law_place k__law_place) (PySem.W.mg_of X G a__law_place) T h__law_rise
  have h__law_text := ok__law_text (P := l.prog) (w := w) (base := base) (fun_mk (st := s__law_text) l__law_text e__law_text k__law_text) (PySem.W.mg_of X G a__law_text) T h__law_rise h__law_stir
  have h__law_drawn := ok__law_drawn (P := l.prog) (w := w) (base := base) (fun_mk (st := s__law_drawn) l__law_drawn e__law_drawn k__law_drawn) (PySem.W.mg_of X G a__law_drawn) T h__law_stir
  exact fn_law (fun_mk (st := s_law) l_law e_law k_law) T h__law_by h__law_drawn h__law_number h__law_only h__law_place h__law_row h__law_text h__law_whole h_number_of h_way_by h_ways_counted h_ways_listed
theorem walk {l : PySem.W.OpenLaw} {q : Program} {loose : List Str} {XP : (Str → Option Value) → Heap → Prop} {YP : World → Heap → Prop} {d : DefRec} {K : Params → PySem.W.Frag} (hn : l.most = some 63) (hdf : d.params.defaults = [])
    (hY : ∀ (w : World) (h : Heap), YP w h → (K w.params).In h)
    (F : ∀ (w : World) (mg : Str → Option Value) (fa : Addr) (h : Heap), (K w.params).In h → h.Ns mainGlobals mg → mg d.name = some (.ref fa) →
      ∃ fd : FuncData, (∀ (s : Shared) (u : Value), BindsTo s fd ⟨[u], []⟩ [("_law_script", u)]) ∧ ∀ base : Heap, (K w.params).In base → base.Ns mainGlobals mg → FnOk l.prog w (K w.params) mg base (CXe l.prog w) 7 fa fd ["_law_script"] (spLaw (K w.params))) :
    PySem.W.WalkO q loose XP YP l.row.toRowW d [] (fun f vs => PySem.call f vs) :=
  L2.walk_of (n := 63) (k := 7) (x := "_law_script") (CX := fun w => CXe l.prog w) (sp := fun w => spLaw (K w.params)) hn (by decide) hdf ⟨rfl, by decide, by decide⟩ hY F (fun _ _ a ns hl _ hS => ⟨a, ns, rfl, hS, hl, fun _ => rfl⟩) fun _ _ _ _ _ ⟨_, _, _, _, _, _, _, _, z⟩ => z
end K10
theorem PySem.W.Fast.tw8056822825854560396 : True := trivial
theorem PySem.W.Fast.tw17737597774804104786 : True := trivial
theorem PySem.W.Fast.tw1039514710082919876 : True := trivial
theorem PySem.W.Fast.tw3079969006271472104 : True := trivial
theorem PySem.W.Fast.tw9509493720193939877 : True := trivial
theorem PySem.W.Fast.tw9281354911489649185 : True := trivial
theorem PySem.W.Fast.tw14175255316252705048 : True := trivial
theorem PySem.W.Fast.tw12713571110586500552 : True := trivial
theorem PySem.W.Fast.tw4334001999964376845 : True := trivial
theorem PySem.W.Fast.tw11066018579703208889 : True := trivial
theorem PySem.W.Fast.tw14703265867742445755 : True := trivial
theorem PySem.W.Fast.tw15482304706688801633 : True := trivial
theorem PySem.W.Fast.tw15098565161573759196 : True := trivial
theorem PySem.W.Fast.tw12313397631597338211 : True := trivial
theorem PySem.W.Fast.tw7057385946171141905 : True := trivial
theorem PySem.W.Fast.tw1040663880183004529 : True := trivial
theorem PySem.W.Fast.tw5922801153949358245 : True := trivial
theorem PySem.W.Fast.tw14445154869375382466 : True := trivial
theorem PySem.W.Fast.tw18030890055582145948 : True := trivial
theorem PySem.W.Fast.tw6171852244600692025 : True := trivial
theorem PySem.W.Fast.tw12182151934528281785 : True := trivial
theorem PySem.W.Fast.tw2487758920302648771 : True := trivial
theorem PySem.W.Fast.tw13059073273275851928 : True := trivial
theorem PySem.W.Fast.tw3097050173338721608 : True := trivial
theorem PySem.W.Fast.tw12671368709377035445 : True := trivial
theorem PySem.W.Fast.tw1668157273378708978 : True := trivial
theorem PySem.W.Fast.tw10360773369533085223 : True := trivial
theorem PySem.W.Fast.tw2482954202834339948 : True := trivial
theorem PySem.W.Fast.tw6683832136497889746 : True := trivial
theorem PySem.W.Fast.tw2547172987511998286 : True := trivial
theorem PySem.W.Fast.tw2804610615972832155 : True := trivial
theorem PySem.W.Fast.tw1974565897851248177 : True := trivial
theorem PySem.W.Fast.tw10877874277804038323 : True := trivial
theorem PySem.W.Fast.tw12465740757310108625 : True := trivial
theorem PySem.W.Fast.tw14253630093704490691 : True := trivial
theorem PySem.W.Fast.tw15670831463047584690 : True := trivial
theorem PySem.W.Fast.tw9659627271139415017 : True := trivial
theorem PySem.W.Fast.tw5504989192631860305 : True := trivial
theorem PySem.W.Fast.tw14465452932410329053 : True := trivial
theorem PySem.W.Fast.tw13997014668959729951 : True := trivial
theorem PySem.W.Fast.tw13912016335398605160 : True := trivial
theorem PySem.W.Fast.tw16738239573847745284 : True := trivial
theorem PySem.W.Fast.tw3783851522836569037 : True := trivial
theorem PySem.W.Fast.tw269601310398753870 : True := trivial
theorem PySem.W.Fast.tw4375172461889494355 : True := trivial
theorem PySem.W.Fast.tw13943838119314710908 : True := trivial
theorem PySem.W.Fast.tw12412818798766988834 : True := trivial
theorem PySem.W.Fast.tw9001998680890933850 : True := trivial
theorem PySem.W.Fast.tw2180541817564311900 : True := trivial
theorem PySem.W.Fast.tw16746252195346855598 : True := trivial
theorem PySem.W.Fast.tw11702575392635440426 : True := trivial
theorem PySem.W.Fast.tw4744873507555537918 : True := trivial
theorem PySem.W.Fast.tw9889005229491057228 : True := trivial
theorem PySem.W.Fast.tw16156246716595766267 : True := trivial
theorem PySem.W.Fast.tw8555304138417648955 : True := trivial
theorem PySem.W.Fast.tw10806294593349016215 : True := trivial
theorem PySem.W.Fast.tw1252197625446012635 : True := trivial
theorem PySem.W.Fast.tw9097402977895516368 : True := trivial
theorem PySem.W.Fast.tw489594958814173712 : True := trivial
theorem PySem.W.Fast.tw14366570283674120346 : True := trivial
theorem PySem.W.Fast.tw8362055102615526389 : True := trivial
theorem PySem.W.Fast.tw16805371715766296206 : True := trivial
theorem PySem.W.Fast.tw6865846533070343651 : True := trivial
theorem PySem.W.Fast.tw6042383807814942126 : True := trivial
theorem PySem.W.Fast.tw16645812251556382829 : True := trivial
theorem PySem.W.Fast.tw8388623262227654073 : True := trivial
theorem PySem.W.Fast.tw7920252370281199246 : True := trivial
theorem PySem.W.Fast.tw13854903469702879882 : True := trivial
theorem PySem.W.Fast.tw2919729444616952419 : True := trivial
theorem PySem.W.Fast.tw3427524672960326748 : True := trivial
theorem PySem.W.Fast.tw10828446448462603962 : True := trivial
theorem PySem.W.Fast.tw5879037084188216010 : True := trivial
theorem PySem.W.Fast.tw3060924232509179326 : True := trivial
theorem PySem.W.Fast.tw3228360391080463976 : True := trivial
theorem PySem.W.Fast.tw4919886118597453201 : True := trivial
theorem PySem.W.Fast.tw15255415543332328563 : True := trivial
theorem PySem.W.Fast.tw1801783830645547007 : True := trivial
theorem PySem.W.Fast.tw7269905764937204281 : True := trivial
theorem PySem.W.Fast.tw11799652345379964041 : True := trivial
theorem PySem.W.Fast.tw17903528295875602592 : True := trivial
theorem PySem.W.Fast.tw11084836498167849605 : True := trivial
theorem PySem.W.Fast.tw5113950738309980840 : True := trivial
theorem PySem.W.Fast.tw6135978609299081587 : True := trivial
theorem PySem.W.Fast.tw13600877799473174010 : True := trivial
theorem PySem.W.Fast.tw6963547050003286606 : True := trivial
theorem PySem.W.Fast.tw17509395833208744506 : True := trivial
theorem PySem.W.Fast.tw7189232670928277134 : True := trivial
theorem PySem.W.Fast.tw9502232324479297088 : True := trivial
theorem PySem.W.Fast.tw8108041938406264639 : True := trivial
theorem PySem.W.Fast.tw489689567223270325 : True := trivial
theorem PySem.W.Fast.tw3601789949232503446 : True := trivial
theorem PySem.W.Fast.tw3976532834180806881 : True := trivial
theorem PySem.W.Fast.tw7580271222323639607 : True := trivial
theorem PySem.W.Fast.tw18327154597204916757 : True := trivial
theorem PySem.W.Fast.tw8368650004756272223 : True := trivial
theorem PySem.W.Fast.tw10590585954078301288 : True := trivial
theorem PySem.W.Fast.tw13394833097018114192 : True := trivial
theorem PySem.W.Fast.tw17728242589229487810 : True := trivial
theorem PySem.W.Fast.tw7715553256731698309 : True := trivial
theorem PySem.W.Fast.tw1748482108512671246 : True := trivial
theorem PySem.W.Fast.tw16757810530671177312 : True := trivial
theorem PySem.W.Fast.tw5485797050424390544 : True := trivial
theorem PySem.W.Fast.tw12429050897587094228 : True := trivial
theorem PySem.W.Fast.tw15810185095323045862 : True := trivial
theorem PySem.W.Fast.tw1055199007616397374 : True := trivial
theorem PySem.W.Fast.tw16207338997199597017 : True := trivial
theorem PySem.W.Fast.tw3395352225683219153 : True := trivial
theorem PySem.W.Fast.tw1104620884512504015 : True := trivial
theorem PySem.W.Fast.tw9043904564764382011 : True := trivial
theorem PySem.W.Fast.tw14005104713100383268 : True := trivial
theorem PySem.W.Fast.tw6664814739792237968 : True := trivial
theorem PySem.W.Fast.tw9989781840126468919 : True := trivial
theorem PySem.W.Fast.tw6851625814010043729 : True := trivial
theorem PySem.W.Fast.tw12769520484857136129 : True := trivial
theorem PySem.W.Fast.tw4185586323300978344 : True := trivial
theorem PySem.W.Fast.tw6407003839868300058 : True := trivial
theorem PySem.W.Fast.tw3348324324465153085 : True := trivial
theorem PySem.W.Fast.tw11544315458366230960 : True := trivial
theorem PySem.W.Fast.tw17085420587746860202 : True := trivial
theorem PySem.W.Fast.tw795685116849599952 : True := trivial
theorem PySem.W.Fast.tw10434265704838023981 : True := trivial
theorem PySem.W.Fast.tw14117637361313998005 : True := trivial
theorem PySem.W.Fast.tw6796706438090148385 : True := trivial
theorem PySem.W.Fast.tw4027421827582682360 : True := trivial
theorem PySem.W.Fast.tw7159042006882769899 : True := trivial
theorem PySem.W.Fast.tw13310776370948377407 : True := trivial
theorem PySem.W.Fast.tw14983951658468571210 : True := trivial
theorem PySem.W.Fast.tw13341201846270445932 : True := trivial
theorem PySem.W.Fast.tw15547910480935273224 : True := trivial
theorem PySem.W.Fast.tw4116961817831506937 : True := trivial
theorem PySem.W.Fast.tw17092108375978801977 : True := trivial
theorem PySem.W.Fast.tw17121292151837991483 : True := trivial
theorem PySem.W.Fast.tw7594996232769735757 : True := trivial
theorem PySem.W.Fast.tw14195296673742319019 : True := trivial
theorem PySem.W.Fast.tw13528663412516878782 : True := trivial
theorem PySem.W.Fast.tw14624822496052285088 : True := trivial
theorem PySem.W.Fast.tw4096323512877020427 : True := trivial
theorem PySem.W.Fast.tw4605202283927472810 : True := trivial
theorem PySem.W.Fast.tw16556771386567059709 : True := trivial
theorem PySem.W.Fast.tw17705801000001116948 : True := trivial
theorem PySem.W.Fast.tw14429727632765399635 : True := trivial
theorem PySem.W.Fast.tw12777670156692157898 : True := trivial
theorem PySem.W.Fast.tw4878984694665063812 : True := trivial
theorem PySem.W.Fast.tw15253881438825965558 : True := trivial
theorem PySem.W.Fast.tw16329079650219970054 : True := trivial
theorem PySem.W.Fast.tw9678429878987201144 : True := trivial
theorem PySem.W.Fast.tw14918164743566359749 : True := trivial
theorem PySem.W.Fast.tw4529574147210916354 : True := trivial
theorem PySem.W.Fast.tw7728258280949577147 : True := trivial
theorem PySem.W.Fast.tw15354142757884023358 : True := trivial
theorem PySem.W.Fast.tw4060496008500417621 : True := trivial
theorem PySem.W.Fast.tw8843407375735751370 : True := trivial
theorem PySem.W.Fast.tw7335653074875266523 : True := trivial
theorem PySem.W.Fast.tw9451475530361164619 : True := trivial
theorem PySem.W.Fast.tw9572118550564948550 : True := trivial
theorem PySem.W.Fast.tw15334517309743822391 : True := trivial
theorem PySem.W.Fast.tw10387876948888212753 : True := trivial
theorem PySem.W.Fast.tw3300829560337245347 : True := trivial
theorem PySem.W.Fast.tw7173475845991549536 : True := trivial
theorem PySem.W.Fast.tw2176444224903450035 : True := trivial
theorem PySem.W.Fast.tw5820186285549392567 : True := trivial
theorem PySem.W.Fast.tw12618785836654390618 : True := trivial
theorem PySem.W.Fast.tw7249410235688646215 : True := trivial
theorem PySem.W.Fast.tw8604158723069598959 : True := trivial
theorem PySem.W.Fast.tw1070538846927107615 : True := trivial
theorem PySem.W.Fast.tw16957642450315771971 : True := trivial
theorem PySem.W.Fast.tw16723991841458471438 : True := trivial
theorem PySem.W.Fast.tw3486222482751408707 : True := trivial
theorem PySem.W.Fast.tw14405383433837323024 : True := trivial
theorem PySem.W.Fast.tw17559556890643775964 : True := trivial
theorem PySem.W.Fast.tw15979025908244851304 : True := trivial
theorem PySem.W.Fast.tw16867181270469255314 : True := trivial
theorem PySem.W.Fast.tw11244626653768057363 : True := trivial
theorem PySem.W.Fast.tw12811679858206756667 : True := trivial
theorem PySem.W.Fast.tw2377361346372502615 : True := trivial
theorem PySem.W.Fast.tw13276823548040493867 : True := trivial
theorem PySem.W.Fast.tw5374229693046873037 : True := trivial
theorem PySem.W.Fast.tw11065348211010368105 : True := trivial
theorem PySem.W.Fast.tw6446263314701309999 : True := trivial
theorem PySem.W.Fast.tw13180638982294033463 : True := trivial
theorem PySem.W.Fast.tw5483477600216429673 : True := trivial
theorem PySem.W.Fast.tw15391040757911606728 : True := trivial
theorem PySem.W.Fast.tw10290689148037041512 : True := trivial
theorem PySem.W.Fast.tw13813104329272500352 : True := trivial
theorem PySem.W.Fast.tw15838943053233424812 : True := trivial
theorem PySem.W.Fast.tw8262483146115831891 : True := trivial
theorem PySem.W.Fast.tw789084237171228253 : True := trivial
theorem PySem.W.Fast.tw3280596564269543044 : True := trivial
theorem PySem.W.Fast.tw15732051830849146702 : True := trivial
theorem PySem.W.Fast.tw10560476450134597946 : True := trivial
theorem PySem.W.Fast.tw16772076904096322951 : True := trivial
theorem PySem.W.Fast.tw3337626572259963374 : True := trivial
theorem PySem.W.Fast.tw8772835065965600587 : True := trivial
theorem PySem.W.Fast.tw5589974006390171398 : True := trivial
theorem PySem.W.Fast.tw10172226725379902158 : True := trivial
theorem PySem.W.Fast.tw9485655250267643640 : True := trivial
theorem PySem.W.Fast.tw4426006332047149619 : True := trivial
theorem PySem.W.Fast.tw8057841251094126328 : True := trivial
theorem PySem.W.Fast.tw15313442686430520666 : True := trivial
theorem PySem.W.Fast.tw9873071287522481367 : True := trivial
theorem PySem.W.Fast.tw16331803583328127017 : True := trivial
theorem PySem.W.Fast.tw540174071004928237 : True := trivial
theorem PySem.W.Fast.tw16427787860618076432 : True := trivial
theorem PySem.W.Fast.tw12736406182062583953 : True := trivial
theorem PySem.W.Fast.tw7630560223509103985 : True := trivial
theorem PySem.W.Fast.tw5975625388796249556 : True := trivial
theorem PySem.W.Fast.tw8494048512770025400 : True := trivial
theorem PySem.W.Fast.tw1737967031330855773 : True := trivial
theorem PySem.W.Fast.tw16876490015714823444 : True := trivial
theorem PySem.W.Fast.tw17798569039359495648 : True := trivial
theorem PySem.W.Fast.tw14140312452719775752 : True := trivial
theorem PySem.W.Fast.tw1853334689196426551 : True := trivial
theorem PySem.W.Fast.tw10610554317874827480 : True := trivial
theorem PySem.W.Fast.tw5380921307156208752 : True := trivial
theorem PySem.W.Fast.tw15644450246864120153 : True := trivial
theorem PySem.W.Fast.tw15245543239514746140 : True := trivial
theorem PySem.W.Fast.tw80996254723027871 : True := trivial
theorem PySem.W.Fast.tw13069266685809611379 : True := trivial
theorem PySem.W.Fast.tw21706303332330602 : True := trivial
theorem PySem.W.Fast.tw14915541425402962605 : True := trivial
theorem PySem.W.Fast.tw7528646386586322093 : True := trivial
theorem PySem.W.Fast.tw6723148255049209538 : True := trivial
theorem PySem.W.Fast.tw1670274184543503501 : True := trivial
theorem PySem.W.Fast.tw1626687025623648294 : True := trivial
theorem PySem.W.Fast.tw3388043831164771307 : True := trivial
theorem PySem.W.Fast.tw17194458864027825458 : True := trivial
theorem PySem.W.Fast.tw3018606272507722739 : True := trivial
theorem PySem.W.Fast.tw6523832895987539312 : True := trivial
theorem PySem.W.Fast.tw17176918001333691826 : True := trivial
theorem PySem.W.Fast.tw7695419804894161568 : True := trivial
theorem PySem.W.Fast.tw4445868393689176804 : True := trivial
theorem PySem.W.Fast.tw9511432355242238072 : True := trivial
theorem PySem.W.Fast.tw7148209004656088741 : True := trivial
theorem PySem.W.Fast.tw9354863595644520424 : True := trivial
theorem PySem.W.Fast.tw13627821606009395530 : True := trivial
theorem PySem.W.Fast.tw1595136615489178237 : True := trivial
theorem PySem.W.Fast.tw4509628409363484878 : True := trivial
theorem PySem.W.Fast.tw5130890852873509296 : True := trivial
theorem PySem.W.Fast.tw13340037635542146703 : True := trivial
theorem PySem.W.Fast.tw15612634357331366087 : True := trivial
theorem PySem.W.Fast.tw4250857011709329721 : True := trivial
theorem PySem.W.Fast.tw13313245947194035986 : True := trivial
theorem PySem.W.Fast.tw11434371694002421958 : True := trivial
theorem PySem.W.Fast.tw2389164457661585115 : True := trivial
theorem PySem.W.Fast.tw243226983257470316 : True := trivial
theorem PySem.W.Fast.tw1927076147642625789 : True := trivial
theorem PySem.W.Fast.tw7026725507044458479 : True := trivial
theorem PySem.W.Fast.tw16692640600067676150 : True := trivial
theorem PySem.W.Fast.tw5385310479204373954 : True := trivial
theorem PySem.W.Fast.tw11275240604388176181 : True := trivial
theorem PySem.W.Fast.tw4888559680398048521 : True := trivial
theorem PySem.W.Fast.tw12935071883801404 : True := trivial
theorem PySem.W.Fast.tw13502017450804163516 : True := trivial
theorem PySem.W.Fast.tw15536925575508574722 : True := trivial
theorem PySem.W.Fast.tw10189314232035638871 : True := trivial
theorem PySem.W.Fast.tw11421265607103248897 : True := trivial
theorem PySem.W.Fast.tw7601127493781934445 : True := trivial
theorem PySem.W.Fast.tw16970736375852222195 : True := trivial
theorem PySem.W.Fast.tw15535114947810833633 : True := trivial
theorem PySem.W.Fast.tw4528370032325424791 : True := trivial
theorem PySem.W.Fast.tw5289377872731601920 : True := trivial
theorem PySem.W.Fast.tw13317688229283133732 : True := trivial
theorem PySem.W.Fast.tw4560194356820626920 : True := trivial
theorem PySem.W.Fast.tw222199448590787187 : True := trivial
theorem PySem.W.Fast.tw6201988843288196304 : True := trivial
theorem PySem.W.Fast.tw14718331145817424102 : True := trivial
theorem PySem.W.Fast.tw4304308519218140598 : True := trivial
theorem PySem.W.Fast.tw17679983387335143355 : True := trivial
theorem PySem.W.Fast.tw15625992846869586226 : True := trivial
theorem PySem.W.Fast.tw9677550469989089300 : True := trivial
theorem PySem.W.Fast.tw18072429441493682023 : True := trivial
theorem PySem.W.Fast.tw15662839067569968749 : True := trivial
theorem PySem.W.Fast.tw10160170680672037377 : True := trivial
theorem PySem.W.Fast.tw13797296876903424673 : True := trivial
theorem PySem.W.Fast.tw12465214592084047531 : True := trivial
theorem PySem.W.Fast.tw14061697270159088281 : True := trivial
theorem PySem.W.Fast.tw196683805138301411 : True := trivial
theorem PySem.W.Fast.tw7915150333174594270 : True := trivial
theorem PySem.W.Fast.tw16796744331439650582 : True := trivial
theorem PySem.W.Fast.tw10950158861998665831 : True := trivial
theorem PySem.W.Fast.tw6519923722263975073 : True := trivial
theorem PySem.W.Fast.tw11071150370318974685 : True := trivial
theorem PySem.W.Fast.tw18122506491425792318 : True := trivial
theorem PySem.W.Fast.tw16613377934344259614 : True := trivial
theorem PySem.W.Fast.tw14302404253168839854 : True := trivial
theorem PySem.W.Fast.tw8215556856727337390 : True := trivial
theorem PySem.W.Fast.tw3043084432372104336 : True := trivial
theorem PySem.W.Fast.tw8740532844825464490 : True := trivial
theorem PySem.W.Fast.tw4068397417582564159 : True := trivial
theorem PySem.W.Fast.tw1709817248478857606 : True := trivial
theorem PySem.W.Fast.tw15128259652739331863 : True := trivial
theorem PySem.W.Fast.tw10102003429785351436 : True := trivial
theorem PySem.W.Fast.tw13787922732058369094 : True := trivial
theorem PySem.W.Fast.tw12310595282806426443 : True := trivial
theorem PySem.W.Fast.tw1396785283633488253 : True := trivial
theorem PySem.W.Fast.tw12718812416179003871 : True := trivial
theorem PySem.W.Fast.tw17532720638760175146 : True := trivial
theorem PySem.W.Fast.tw5623296619272998238 : True := trivial
theorem PySem.W.Fast.tw4809037584530467564 : True := trivial
theorem PySem.W.Fast.tw5089475353054248731 : True := trivial
theorem PySem.W.Fast.tw6552203503366398711 : True := trivial
theorem PySem.W.Fast.tw13432383797430142650 : True := trivial
theorem PySem.W.Fast.tw17608991315630110627 : True := trivial
theorem PySem.W.Fast.tw10604855580324947757 : True := trivial
theorem PySem.W.Fast.tw2099830090781859236 : True := trivial
theorem PySem.W.Fast.tw9110781808165503578 : True := trivial
theorem PySem.W.Fast.tw5832859182596026178 : True := trivial
theorem PySem.W.Fast.tw6854266266630004538 : True := trivial
theorem PySem.W.Fast.tw18211199693551633374 : True := trivial
theorem PySem.W.Fast.tw5407222721039816428 : True := trivial
theorem PySem.W.Fast.tw5878799933399876797 : True := trivial
theorem PySem.W.Fast.tw8113692203977827215 : True := trivial
theorem PySem.W.Fast.tw80827383876438790 : True := trivial
theorem PySem.W.Fast.tw14352820176434844103 : True := trivial
theorem PySem.W.Fast.tw17929995515250969165 : True := trivial
theorem PySem.W.Fast.tw14390357413094183754 : True := trivial
theorem PySem.W.Fast.tw1170829015784824851 : True := trivial
theorem PySem.W.Fast.tw5637971345282893732 : True := trivial
theorem PySem.W.Fast.tw17872325502612082210 : True := trivial
theorem PySem.W.Fast.tw8453149287989351241 : True := trivial
theorem PySem.W.Fast.tw16996956306263242045 : True := trivial
theorem PySem.W.Fast.tw3127584676081940975 : True := trivial
theorem PySem.W.Fast.tw12285912321648231092 : True := trivial
theorem PySem.W.Fast.tw13192606046886232765 : True := trivial
theorem PySem.W.Fast.tw12046855856979931351 : True := trivial
theorem PySem.W.Fast.tw16641533978775757330 : True := trivial
theorem PySem.W.Fast.tw8646791052440171807 : True := trivial
theorem PySem.W.Fast.tw7379237450764524491 : True := trivial
theorem PySem.W.Fast.tw10207109733701422091 : True := trivial
theorem PySem.W.Fast.tw4692705190436214455 : True := trivial
theorem PySem.W.Fast.tw7005798000511177990 : True := trivial
theorem PySem.W.Fast.tw14157159752289847284 : True := trivial
theorem PySem.W.Fast.tw5336716357194189417 : True := trivial
theorem PySem.W.Fast.tw2215010613632952173 : True := trivial
theorem PySem.W.Fast.tw3361728846609795429 : True := trivial
theorem PySem.W.Fast.tw5440533431738001612 : True := trivial
theorem PySem.W.Fast.tw363617114473202195 : True := trivial
theorem PySem.W.Fast.tw8109792758431431844 : True := trivial
theorem PySem.W.Fast.tw1225157376447368943 : True := trivial
theorem PySem.W.Fast.tw7962112677656189092 : True := trivial
theorem PySem.W.Fast.tw18261974434433588475 : True := trivial
theorem PySem.W.Fast.tw7047730546916802249 : True := trivial
theorem PySem.W.Fast.tw8352631546297499915 : True := trivial
theorem PySem.W.Fast.tw6912161582279789201 : True := trivial
theorem PySem.W.Fast.tw13232512717207298055 : True := trivial
theorem PySem.W.Fast.tw17690222351144016261 : True := trivial
theorem PySem.W.Fast.tw12445936650067377184 : True := trivial
theorem PySem.W.Fast.tw8572868092679376794 : True := trivial
theorem PySem.W.Fast.tw15695709941955186460 : True := trivial
theorem PySem.W.Fast.tw13263925021291593333 : True := trivial
theorem PySem.W.Fast.tw4549372498822024405 : True := trivial
theorem PySem.W.Fast.tw5945130533528301209 : True := trivial
theorem PySem.W.Fast.tw729431248192666686 : True := trivial
theorem PySem.W.Fast.tw16515938620187771119 : True := trivial
theorem PySem.W.Fast.tw2973232192278782055 : True := trivial
theorem PySem.W.Fast.tw8002213388061582638 : True := trivial
theorem PySem.W.Fast.tw1628482571934876195 : True := trivial
theorem PySem.W.Fast.tw4659755288101670744 : True := trivial
theorem PySem.W.Fast.tw14516302758642240098 : True := trivial
theorem PySem.W.Fast.tw6842843338620584657 : True := trivial
theorem PySem.W.Fast.tw7559660674061311189 : True := trivial
theorem PySem.W.Fast.tw9545983649790311830 : True := trivial
theorem PySem.W.Fast.tw17504557305553811238 : True := trivial
theorem PySem.W.Fast.tw13834429442971702116 : True := trivial
theorem PySem.W.Fast.tw9535748075030264303 : True := trivial
theorem PySem.W.Fast.tw1069204061780858992 : True := trivial
theorem PySem.W.Fast.tw15549404916731871913 : True := trivial
theorem PySem.W.Fast.tw392375865905806426 : True := trivial
theorem PySem.W.Fast.tw816154085534061354 : True := trivial
theorem PySem.W.Fast.tw18401001715984645835 : True := trivial
theorem PySem.W.Fast.tw5885999073056815955 : True := trivial
theorem PySem.W.Fast.tw5838214082212653827 : True := trivial
theorem PySem.W.Fast.tw8264506196167855143 : True := trivial
theorem PySem.W.Fast.tw17715596413592475963 : True := trivial
theorem PySem.W.Fast.tw13032254847726229918 : True := trivial
theorem PySem.W.Fast.tw13502544352895516653 : True := trivial
theorem PySem.W.Fast.tw5156718304068002020 : True := trivial
theorem PySem.W.Fast.tw3126599968576161729 : True := trivial
theorem PySem.W.Fast.tw13175717397705254891 : True := trivial
theorem PySem.W.Fast.tw4951225136573180753 : True := trivial
theorem PySem.W.Fast.tw2702868257917714169 : True := trivial
theorem PySem.W.Fast.tw15235829738509501360 : True := trivial
theorem PySem.W.Fast.tw10606274570974177841 : True := trivial
theorem PySem.W.Fast.tw272639325836280908 : True := trivial
theorem PySem.W.Fast.tw9496899093978698649 : True := trivial
theorem PySem.W.Fast.tw8354898313399099314 : True := trivial
theorem PySem.W.Fast.tw12737381306431341305 : True := trivial
theorem PySem.W.Fast.tw14611406226675431782 : True := trivial
theorem PySem.W.Fast.tw329530904398412690 : True := trivial
theorem PySem.W.Fast.tw6468179409483423255 : True := trivial
theorem PySem.W.Fast.tw17210277587473694608 : True := trivial
theorem PySem.W.Fast.tw2410744091433702458 : True := trivial
theorem PySem.W.Fast.tw5931126737330073014 : True := trivial
theorem PySem.W.Fast.tw10252252154827704332 : True := trivial
theorem PySem.W.Fast.tw6862965568046782433 : True := trivial
theorem PySem.W.Fast.tw17420951965891887700 : True := trivial
theorem PySem.W.Fast.tw15589313586024744395 : True := trivial
theorem PySem.W.Fast.tw14221204126174635798 : True := trivial
theorem PySem.W.Fast.tw653968357768446216 : True := trivial
theorem PySem.W.Fast.tw6625949894291480498 : True := trivial
theorem PySem.W.Fast.tw5847844781347410666 : True := trivial
theorem PySem.W.Fast.tw9712206946265102050 : True := trivial
theorem PySem.W.Fast.tw16267526767015121410 : True := trivial
theorem PySem.W.Fast.tw11180118760581038911 : True := trivial
theorem PySem.W.Fast.tw2295619661180547339 : True := trivial
theorem PySem.W.Fast.tw11279980959346620006 : True := trivial
theorem PySem.W.Fast.tw1830384112697591352 : True := trivial
theorem PySem.W.Fast.tw4562547705165462553 : True := trivial
theorem PySem.W.Fast.tw8210496451522505904 : True := trivial
theorem PySem.W.Fast.tw9141335883728622059 : True := trivial
theorem PySem.W.Fast.tw4473776350224867168 : True := trivial
theorem PySem.W.Fast.tw8167747516147038054 : True := trivial
theorem PySem.W.Fast.tw11955651964157624791 : True := trivial
theorem PySem.W.Fast.tw3228477920347447860 : True := trivial
theorem PySem.W.Fast.tw89712130210963434 : True := trivial
theorem PySem.W.Fast.tw2290468615420052045 : True := trivial
theorem PySem.W.Fast.tw601554031004777986 : True := trivial
theorem PySem.W.Fast.tw3473482988722092143 : True := trivial
theorem PySem.W.Fast.tw15579917700572989456 : True := trivial
theorem PySem.W.Fast.tw12670043991971397716 : True := trivial
theorem PySem.W.Fast.tw698561394288037668 : True := trivial
theorem PySem.W.Fast.tw15926544651469608446 : True := trivial
theorem PySem.W.Fast.tw18380790460218936830 : True := trivial
theorem PySem.W.Fast.tw7795947943575007309 : True := trivial
theorem PySem.W.Fast.tw9083347536441361849 : True := trivial
theorem PySem.W.Fast.tw2974560138041814269 : True := trivial
theorem PySem.W.Fast.tw11685165198326804782 : True := trivial
theorem PySem.W.Fast.tw17336685201119524299 : True := trivial
theorem PySem.W.Fast.tw11397512131074041069 : True := trivial
theorem PySem.W.Fast.tw10474633694937115431 : True := trivial
theorem PySem.W.Fast.tw7427058554689261933 : True := trivial
theorem PySem.W.Fast.tw8766386100626026665 : True := trivial
theorem PySem.W.Fast.tw15670711327009850137 : True := trivial
theorem PySem.W.Fast.tw13004351646203301343 : True := trivial
theorem PySem.W.Fast.tw15285736437165319726 : True := trivial
theorem PySem.W.Fast.tw17977018599882259343 : True := trivial
theorem PySem.W.Fast.tw16517529940844125976 : True := trivial
theorem PySem.W.Fast.tw10573084450868069119 : True := trivial
theorem PySem.W.Fast.tw6218050705951133748 : True := trivial
theorem PySem.W.Fast.tw15023467564268131379 : True := trivial
theorem PySem.W.Fast.tw9246074759584200050 : True := trivial
theorem PySem.W.Fast.tw15095333681790987047 : True := trivial
theorem PySem.W.Fast.tw4210916300366268230 : True := trivial
theorem PySem.W.Fast.tw93232327329402705 : True := trivial
theorem PySem.W.Fast.tw6210579868207436721 : True := trivial
theorem PySem.W.Fast.tw12260695921154710192 : True := trivial
theorem PySem.W.Fast.tw9949153479864462395 : True := trivial
theorem PySem.W.Fast.tw11456689471048902631 : True := trivial
theorem PySem.W.Fast.tw1324319440871893595 : True := trivial
theorem PySem.W.Fast.tw8914988833533602017 : True := trivial
theorem PySem.W.Fast.tw17631171633712164741 : True := trivial
theorem PySem.W.Fast.tw17693160949073863894 : True := trivial
theorem PySem.W.Fast.tw7950872253382863331 : True := trivial
theorem PySem.W.Fast.tw4394160524328875981 : True := trivial
theorem PySem.W.Fast.tw2495026632010198303 : True := trivial
theorem PySem.W.Fast.tw2860066176945832677 : True := trivial
theorem PySem.W.Fast.tw14962966029638638892 : True := trivial
theorem PySem.W.Fast.tw11323983451124495349 : True := trivial
theorem PySem.W.Fast.tw7307008142884703171 : True := trivial
theorem PySem.W.Fast.tw4738685843385086833 : True := trivial
theorem PySem.W.Fast.tw12342388125379174034 : True := trivial
theorem PySem.W.Fast.tw2082119943221758438 : True := trivial
theorem PySem.W.Fast.tw8285569447183147338 : True := trivial
theorem PySem.W.Fast.tw5498239348274328564 : True := trivial
theorem PySem.W.Fast.tw13786992402922158982 : True := trivial
theorem PySem.W.Fast.tw15872025912918496230 : True := trivial
theorem PySem.W.Fast.tw3876634652541382211 : True := trivial
theorem PySem.W.Fast.tw12050807855954872178 : True := trivial
theorem PySem.W.Fast.tw11995349085919969458 : True := trivial
theorem PySem.W.Fast.tw4714917468853920732 : True := trivial
theorem PySem.W.Fast.tw17488143673218592882 : True := trivial
theorem PySem.W.Fast.tw5628915490510993605 : True := trivial
theorem PySem.W.Fast.tw11928671915722696758 : True := trivial
theorem PySem.W.Fast.tw14152306208443433995 : True := trivial
theorem PySem.W.Fast.tw6002474151472273594 : True := trivial
theorem PySem.W.Fast.tw2658990517556232847 : True := trivial
theorem PySem.W.Fast.tw13683606574272814212 : True := trivial
theorem PySem.W.Fast.tw1012148868111323500 : True := trivial
theorem PySem.W.Fast.tw1480462928367721122 : True := trivial
theorem PySem.W.Fast.tw6265546512849736419 : True := trivial
theorem PySem.W.Fast.tw6820337704195917152 : True := trivial
theorem PySem.W.Fast.tw89125566968943949 : True := trivial
theorem PySem.W.Fast.tw3998952394412693295 : True := trivial
theorem PySem.W.Fast.tw10355271595194973634 : True := trivial
theorem PySem.W.Fast.tw2197812759710853261 : True := trivial
theorem PySem.W.Fast.tw9301631637381881226 : True := trivial
theorem PySem.W.Fast.tw8099723416135378721 : True := trivial
theorem PySem.W.Fast.tw11923988192721467522 : True := trivial
theorem PySem.W.Fast.tw17348776065494517202 : True := trivial
theorem PySem.W.Fast.tw314226135808801917 : True := trivial
theorem PySem.W.Fast.tw2485654581002881070 : True := trivial
theorem PySem.W.Fast.tw11035731523204906603 : True := trivial
theorem PySem.W.Fast.tw13958020615772958630 : True := trivial
theorem PySem.W.Fast.tw12532411231765060596 : True := trivial
theorem PySem.W.Fast.tw4015654212553220351 : True := trivial
theorem PySem.W.Fast.tw3662651703571324467 : True := trivial
theorem PySem.W.Fast.tw17304813819128008324 : True := trivial
theorem PySem.W.Fast.tw15328743514239229429 : True := trivial
theorem PySem.W.Fast.tw8050572139139398930 : True := trivial
theorem PySem.W.Fast.tw14848176138789356580 : True := trivial
theorem PySem.W.Fast.tw12340657920497289386 : True := trivial
theorem PySem.W.Fast.tw5512124388262787579 : True := trivial
theorem PySem.W.Fast.tw6376722166644320923 : True := trivial
theorem PySem.W.Fast.tw17278752561822652829 : True := trivial
theorem PySem.W.Fast.tw9037614863184615912 : True := trivial
theorem PySem.W.Fast.tw16987540831642937166 : True := trivial
theorem PySem.W.Fast.tw17340924830979624472 : True := trivial
theorem PySem.W.Fast.tw12648974680742414814 : True := trivial
theorem PySem.W.Fast.tw5279859051858355755 : True := trivial
theorem PySem.W.Fast.tw13501352723007150304 : True := trivial
theorem PySem.W.Fast.tw9364424802470191642 : True := trivial
theorem PySem.W.Fast.tw5723544515848913047 : True := trivial
theorem PySem.W.Fast.tw17634265113837880664 : True := trivial
theorem PySem.W.Fast.tw15839123210505803061 : True := trivial
theorem PySem.W.Fast.tw4978056225896821227 : True := trivial
theorem PySem.W.Fast.tw6656254039058971982 : True := trivial
theorem PySem.W.Fast.tw2837117218011033740 : True := trivial
theorem PySem.W.Fast.tw10115185998048466677 : True := trivial
theorem PySem.W.Fast.tw2546983826866683744 : True := trivial
theorem PySem.W.Fast.tw12131296433886085304 : True := trivial
theorem PySem.W.Fast.tw13449616308052063751 : True := trivial
theorem PySem.W.Fast.tw16624165600827239050 : True := trivial
theorem PySem.W.Fast.tw11932753082990719105 : True := trivial
theorem PySem.W.Fast.tw11195680314490175478 : True := trivial
theorem PySem.W.Fast.tw10651421038702420531 : True := trivial
theorem PySem.W.Fast.tw15239924583530206718 : True := trivial
theorem PySem.W.Fast.tw16788979814557898203 : True := trivial
theorem PySem.W.Fast.tw4513594136043491860 : True := trivial
theorem PySem.W.Fast.tw4992377244026812574 : True := trivial
theorem PySem.W.Fast.tw5580774605981922313 : True := trivial
theorem PySem.W.Fast.tw337316377959684060 : True := trivial
theorem PySem.W.Fast.tw14352423060032626319 : True := trivial
theorem PySem.W.Fast.tw706949262203574958 : True := trivial
theorem PySem.W.Fast.tw16472408412499474967 : True := trivial
theorem PySem.W.Fast.tw258223624822441997 : True := trivial
theorem PySem.W.Fast.tw16842721980569152063 : True := trivial
theorem PySem.W.Fast.tw2970951071824472253 : True := trivial
theorem PySem.W.Fast.tw13786473156171099832 : True := trivial
theorem PySem.W.Fast.tw1991605330377708691 : True := trivial
theorem PySem.W.Fast.tw15225153366318564221 : True := trivial
theorem PySem.W.Fast.tw10061644980364110461 : True := trivial
theorem PySem.W.Fast.tw571316834768949796 : True := trivial
theorem PySem.W.Fast.tw1471625160065740988 : True := trivial
theorem PySem.W.Fast.tw2082394479353022413 : True := trivial
theorem PySem.W.Fast.tw8825666009806261496 : True := trivial
theorem PySem.W.Fast.tw11831557355164115438 : True := trivial
theorem PySem.W.Fast.tw1997790707013892326 : True := trivial
theorem PySem.W.Fast.tw12574740634394460615 : True := trivial
theorem PySem.W.Fast.tw5148822509176302597 : True := trivial
theorem PySem.W.Fast.tw17698853541663178126 : True := trivial
theorem PySem.W.Fast.tw13898907063151443229 : True := trivial
theorem PySem.W.Fast.tw13075509504453738052 : True := trivial
theorem PySem.W.Fast.tw14050251352981374516 : True := trivial
theorem PySem.W.Fast.tw7279371073885768740 : True := trivial
theorem PySem.W.Fast.tw7356786793252715883 : True := trivial
theorem PySem.W.Fast.tw16194024114896580953 : True := trivial
theorem PySem.W.Fast.tw1072347019185142767 : True := trivial
theorem PySem.W.Fast.tw8702423969512784735 : True := trivial
theorem PySem.W.Fast.tw11162497229476001377 : True := trivial
theorem PySem.W.Fast.tw7731479156854669867 : True := trivial
theorem PySem.W.Fast.tw5341380121590060493 : True := trivial
theorem PySem.W.Fast.tw830886762551197277 : True := trivial
theorem PySem.W.Fast.tw1894895234450598082 : True := trivial
theorem PySem.W.Fast.tw4554186378124011192 : True := trivial
theorem PySem.W.Fast.tw6324967779088060410 : True := trivial
theorem PySem.W.Fast.tw18417004862680584709 : True := trivial
theorem PySem.W.Fast.tw3828838515283102543 : True := trivial
theorem PySem.W.Fast.tw17898405049797262711 : True := trivial
theorem PySem.W.Fast.tw3752435217012264010 : True := trivial
theorem PySem.W.Fast.tw16044923697841422812 : True := trivial
theorem PySem.W.Fast.tw13031386967353827336 : True := trivial
theorem PySem.W.Fast.tw9406865775113381258 : True := trivial
theorem PySem.W.Fast.tw1560388345906245853 : True := trivial
theorem PySem.W.Fast.tw7253251833277490843 : True := trivial
theorem PySem.W.Fast.tw18053151482607864121 : True := trivial
theorem PySem.W.Fast.tw2714962227486028297 : True := trivial
theorem PySem.W.Fast.tw6984867658219162352 : True := trivial
theorem PySem.W.Fast.tw881396474520618121 : True := trivial
theorem PySem.W.Fast.tw14809941431828001288 : True := trivial
theorem PySem.W.Fast.tw11147177211131760956 : True := trivial
theorem PySem.W.Fast.tw15363962322124122245 : True := trivial
theorem PySem.W.Fast.tw14742527012657055335 : True := trivial
theorem PySem.W.Fast.tw12636291756513034668 : True := trivial
theorem PySem.W.Fast.tw5656373221995680817 : True := trivial
theorem PySem.W.Fast.tw11406647771765848347 : True := trivial
theorem PySem.W.Fast.tw3408133529052464697 : True := trivial
theorem PySem.W.Fast.tw17286667006563244433 : True := trivial
theorem PySem.W.Fast.tw9745596267521730583 : True := trivial
theorem PySem.W.Fast.tw10185669257262376944 : True := trivial
theorem PySem.W.Fast.tw708351046132695324 : True := trivial
theorem PySem.W.Fast.tw5541492043471199902 : True := trivial
theorem PySem.W.Fast.tw13603263790775776335 : True := trivial
theorem PySem.W.Fast.tw18153808655622467245 : True := trivial
theorem PySem.W.Fast.tw10276032709027683853 : True := trivial
theorem PySem.W.Fast.tw9025551054074344225 : True := trivial
theorem PySem.W.Fast.tw1417968229435876223 : True := trivial
theorem PySem.W.Fast.tw4744666049691739862 : True := trivial
theorem PySem.W.Fast.tw2557738623018656418 : True := trivial
theorem PySem.W.Fast.tw7271939082452555496 : True := trivial
theorem PySem.W.Fast.tw12006441528182699029 : True := trivial
theorem PySem.W.Fast.tw18376374332015837555 : True := trivial
theorem PySem.W.Fast.tw12755210938572418339 : True := trivial
theorem PySem.W.Fast.tw9605891232296167251 : True := trivial
theorem PySem.W.Fast.tw2501580551813807735 : True := trivial
theorem PySem.W.Fast.tw127873838095313437 : True := trivial
theorem PySem.W.Fast.tw3948291541084085343 : True := trivial
theorem PySem.W.Fast.tw17491931830282426926 : True := trivial
theorem PySem.W.Fast.tw4860075242691805891 : True := trivial
theorem PySem.W.Fast.tw1289636249096819691 : True := trivial
theorem PySem.W.Fast.tw10516080613391438366 : True := trivial
theorem PySem.W.Fast.tw7345405302060204999 : True := trivial
theorem PySem.W.Fast.tw884736718062622866 : True := trivial
theorem PySem.W.Fast.tw5333823535457832781 : True := trivial
theorem PySem.W.Fast.tw486469608041197152 : True := trivial
theorem PySem.W.Fast.tw16901694423145840939 : True := trivial
theorem PySem.W.Fast.tw6468336298395718910 : True := trivial
theorem PySem.W.Fast.tw1227470328674660440 : True := trivial
theorem PySem.W.Fast.tw4565840259904156736 : True := trivial
theorem PySem.W.Fast.tw7100362345195792986 : True := trivial
theorem PySem.W.Fast.tw4403195837442322488 : True := trivial
theorem PySem.W.Fast.tw7666208026304264250 : True := trivial
theorem PySem.W.Fast.tw8172058497750421826 : True := trivial
theorem PySem.W.Fast.tw429948130110181717 : True := trivial
theorem PySem.W.Fast.tw9618043894478832646 : True := trivial
theorem PySem.W.Fast.tw6408751941735321528 : True := trivial
theorem PySem.W.Fast.tw11845867306202843585 : True := trivial
theorem PySem.W.Fast.tw17843321347562120100 : True := trivial
theorem PySem.W.Fast.tw11807040826175060536 : True := trivial
theorem PySem.W.Fast.tw4383588371726209293 : True := trivial
theorem PySem.W.Fast.tw7536722681952255458 : True := trivial
theorem PySem.W.Fast.tw5202874733244044323 : True := trivial
theorem PySem.W.Fast.tw7044436870497857191 : True := trivial
theorem PySem.W.Fast.tw4390764767451165507 : True := trivial
theorem PySem.W.Fast.tw11850256400284238115 : True := trivial
theorem PySem.W.Fast.tw11094615309801157553 : True := trivial
theorem PySem.W.Fast.tw6184012864224529661 : True := trivial
theorem PySem.W.Fast.tw12465812923069925939 : True := trivial
theorem PySem.W.Fast.tw10391521332154488671 : True := trivial
theorem PySem.W.Fast.tw17438167485629024486 : True := trivial
theorem PySem.W.Fast.tw3240371639250375542 : True := trivial
theorem PySem.W.Fast.tw9781789824189899041 : True := trivial
theorem PySem.W.Fast.tw7500633271607670987 : True := trivial
theorem PySem.W.Fast.tw2582777631710812396 : True := trivial
theorem PySem.W.Fast.tw8766811319423506398 : True := trivial
theorem PySem.W.Fast.tw10353076176433559768 : True := trivial
theorem PySem.W.Fast.tw9969717644667304534 : True := trivial
theorem PySem.W.Fast.tw6614257730045785268 : True := trivial
theorem PySem.W.Fast.tw5582029160094942267 : True := trivial
theorem PySem.W.Fast.tw11394866752466391150 : True := trivial
theorem PySem.W.Fast.tw2211526998555665345 : True := trivial
theorem PySem.W.Fast.tw17233410408450701869 : True := trivial
theorem PySem.W.Fast.tw3254803332970100960 : True := trivial
theorem PySem.W.Fast.tw3394328079117339794 : True := trivial
theorem PySem.W.Fast.tw2449345338962966935 : True := trivial
theorem PySem.W.Fast.tw14492159564814417050 : True := trivial
theorem PySem.W.Fast.tw4129321206857379722 : True := trivial
theorem PySem.W.Fast.tw14430358222409688167 : True := trivial
theorem PySem.W.Fast.tw5625221036577539342 : True := trivial
theorem PySem.W.Fast.tw12036815475918464641 : True := trivial
theorem PySem.W.Fast.tw16246041768759999408 : True := trivial
theorem PySem.W.Fast.tw17171773669089955433 : True := trivial
theorem PySem.W.Fast.tw8606534704349654777 : True := trivial
theorem PySem.W.Fast.tw16202639376512198270 : True := trivial
theorem PySem.W.Fast.tw8680393934724172296 : True := trivial
theorem PySem.W.Fast.tw8181949811101414332 : True := trivial
theorem PySem.W.Fast.tw15454657589558647778 : True := trivial
theorem PySem.W.Fast.tw1923841614364451253 : True := trivial
theorem PySem.W.Fast.tw5571515063310638960 : True := trivial
theorem PySem.W.Fast.tw13753635129671391478 : True := trivial
theorem PySem.W.Fast.tw13873725876248977045 : True := trivial
theorem PySem.W.Fast.tw4488012962033252470 : True := trivial
theorem PySem.W.Fast.tw7705053183213197156 : True := trivial
theorem PySem.W.Fast.tw13648171189632795089 : True := trivial
theorem PySem.W.Fast.tw7828302744446672955 : True := trivial
theorem PySem.W.Fast.tw9905690258604241926 : True := trivial
theorem PySem.W.Fast.tw8284932128013415831 : True := trivial
theorem PySem.W.Fast.tw6866128036556025484 : True := trivial
theorem PySem.W.Fast.tw18245070558709510611 : True := trivial
theorem PySem.W.Fast.tw17436743212193523837 : True := trivial
theorem PySem.W.Fast.tw121944341502531407 : True := trivial
theorem PySem.W.Fast.tw1860949890207156002 : True := trivial
theorem PySem.W.Fast.tw8660870054021736032 : True := trivial
theorem PySem.W.Fast.tw203958036953669217 : True := trivial
theorem PySem.W.Fast.tw11424241323990799449 : True := trivial
theorem PySem.W.Fast.tw13244764733320048713 : True := trivial
theorem PySem.W.Fast.tw8988408607925800629 : True := trivial
theorem PySem.W.Fast.tw1125788443119726953 : True := trivial
theorem PySem.W.Fast.tw6019856327632257783 : True := trivial
theorem PySem.W.Fast.tw13546419634314653493 : True := trivial
theorem PySem.W.Fast.tw1778687472398152989 : True := trivial
theorem PySem.W.Fast.tw16775660085648459258 : True := trivial
theorem PySem.W.Fast.tw8769279333141424382 : True := trivial
theorem PySem.W.Fast.tw9160151402956984900 : True := trivial
theorem PySem.W.Fast.tw14571796097223115581 : True := trivial
theorem PySem.W.Fast.tw4818178333109763536 : True := trivial
theorem PySem.W.Fast.tw584937388318293371 : True := trivial
theorem PySem.W.Fast.tw9401467353813107325 : True := trivial
theorem PySem.W.Fast.tw13099619527692412722 : True := trivial
theorem PySem.W.Fast.tw5259298150385596361 : True := trivial
theorem PySem.W.Fast.tw12846975945502064472 : True := trivial
theorem PySem.W.Fast.tw9234613176391310229 : True := trivial
theorem PySem.W.Fast.tw9813924425630554568 : True := trivial
theorem PySem.W.Fast.tw18122787626169349237 : True := trivial
theorem PySem.W.Fast.tw13921559787670107136 : True := trivial
theorem PySem.W.Fast.tw16295238102938180564 : True := trivial
theorem PySem.W.Fast.tw9911389967949127879 : True := trivial
theorem PySem.W.Fast.tw17315391836486186992 : True := trivial
theorem PySem.W.Fast.tw6107828829343423080 : True := trivial
theorem PySem.W.Fast.tw13881786228450500452 : True := trivial
theorem PySem.W.Fast.tw1731678981322487009 : True := trivial
theorem PySem.W.Fast.tw4375423193887671478 : True := trivial
theorem PySem.W.Fast.tw10119345021755243423 : True := trivial
theorem PySem.W.Fast.tw10882632699611375256 : True := trivial
theorem PySem.W.Fast.tw1586522015014974437 : True := trivial
theorem PySem.W.Fast.tw10515675384453713861 : True := trivial
theorem PySem.W.Fast.tw10728858534048328769 : True := trivial
theorem PySem.W.Fast.tw6780633176893252290 : True := trivial
theorem PySem.W.Fast.tw10875776413648130665 : True := trivial
theorem PySem.W.Fast.tw12063877799273925495 : True := trivial
theorem PySem.W.Fast.tw15752110100964390865 : True := trivial
theorem PySem.W.Fast.tw16283102253876644418 : True := trivial
theorem PySem.W.Fast.tw5387412534242153832 : True := trivial
theorem PySem.W.Fast.tw3400773715966836403 : True := trivial
theorem PySem.W.Fast.tw6300824088481955623 : True := trivial
theorem PySem.W.Fast.tw13138573202891419012 : True := trivial
theorem PySem.W.Fast.tw10051364153109709686 : True := trivial
theorem PySem.W.Fast.tw271965138287578792 : True := trivial
theorem PySem.W.Fast.tw12964268830261313597 : True := trivial
theorem PySem.W.Fast.tw17730053685058734270 : True := trivial
theorem PySem.W.Fast.tw7744346443259139310 : True := trivial
theorem PySem.W.Fast.tw7529652982259544749 : True := trivial
theorem PySem.W.Fast.tw17930768388336960625 : True := trivial
theorem PySem.W.Fast.tw2894636348161964024 : True := trivial
theorem PySem.W.Fast.tw12669329659985773026 : True := trivial
theorem PySem.W.Fast.tw4890344025613933861 : True := trivial
theorem PySem.W.Fast.tw18046057293238113122 : True := trivial
theorem PySem.W.Fast.tw10513737519627151478 : True := trivial
theorem PySem.W.Fast.tw5975201108830317076 : True := trivial
theorem PySem.W.Fast.tw959002065328734101 : True := trivial
theorem PySem.W.Fast.tw14015974757004214142 : True := trivial
theorem PySem.W.Fast.tw13892275270393456780 : True := trivial
theorem PySem.W.Fast.tw11226213703490350335 : True := trivial
theorem PySem.W.Fast.tw15564200982621142261 : True := trivial
theorem PySem.W.Fast.tw15507511657448168415 : True := trivial
theorem PySem.W.Fast.tw15752111285517488358 : True := trivial
theorem PySem.W.Fast.tw12169579727064567733 : True := trivial
theorem PySem.W.Fast.tw12171825109796484863 : True := trivial
theorem PySem.W.Fast.tw7958357595493950935 : True := trivial
theorem PySem.W.Fast.tw17740164521939638064 : True := trivial
theorem PySem.W.Fast.tw3479119248466653105 : True := trivial
theorem PySem.W.Fast.tw17174955816490384541 : True := trivial
theorem PySem.W.Fast.tw3275659254507562693 : True := trivial
theorem PySem.W.Fast.tw13150408341637522602 : True := trivial
theorem PySem.W.Fast.tw2069787896249055589 : True := trivial
theorem PySem.W.Fast.tw15946750682784651092 : True := trivial
theorem PySem.W.Fast.tw3560600576751876693 : True := trivial
theorem PySem.W.Fast.tw4192851283318748848 : True := trivial
theorem PySem.W.Fast.tw9615377421297697895 : True := trivial
theorem PySem.W.Fast.tw2923969460392619748 : True := trivial
theorem PySem.W.Fast.tw7487019285694520734 : True := trivial
theorem PySem.W.Fast.tw2069010170613980676 : True := trivial
theorem PySem.W.Fast.tw8051383929634410423 : True := trivial
theorem PySem.W.Fast.tw12598891960190122277 : True := trivial
theorem PySem.W.Fast.tw7299338254984766081 : True := trivial
theorem PySem.W.Fast.tw1038313903980947911 : True := trivial
theorem PySem.W.Fast.tw12244814793141189904 : True := trivial
theorem PySem.W.Fast.tw15284131961509301546 : True := trivial
theorem PySem.W.Fast.tw9012283576743617864 : True := trivial
theorem PySem.W.Fast.tw12422824071964236485 : True := trivial
theorem PySem.W.Fast.tw6546492646363437649 : True := trivial
theorem PySem.W.Fast.tw17071901632688095846 : True := trivial
theorem PySem.W.Fast.tw10945569926873780377 : True := trivial
theorem PySem.W.Fast.tw1030076105439670895 : True := trivial
theorem PySem.W.Fast.tw1987608942413237794 : True := trivial
theorem PySem.W.Fast.tw8494392542162024162 : True := trivial
theorem PySem.W.Fast.tw9097517505990641589 : True := trivial
theorem PySem.W.Fast.tw3134523539657017620 : True := trivial
theorem PySem.W.Fast.tw5180126667237404610 : True := trivial
theorem PySem.W.Fast.tw4917173516392759596 : True := trivial
theorem PySem.W.Fast.tw12619232909651558583 : True := trivial
theorem PySem.W.Fast.tw9075252890689808482 : True := trivial
theorem PySem.W.Fast.tw17616772181414418813 : True := trivial
theorem PySem.W.Fast.tw10926902332489167748 : True := trivial
theorem PySem.W.Fast.tw2525086788378813969 : True := trivial
theorem PySem.W.Fast.tw3292621541144295981 : True := trivial
theorem PySem.W.Fast.tw9165675761195538129 : True := trivial
theorem PySem.W.Fast.tw8697321443801043101 : True := trivial
theorem PySem.W.Fast.tw6971778000370905502 : True := trivial
theorem PySem.W.Fast.tw5347580959493329664 : True := trivial
theorem PySem.W.Fast.tw13805322822194784687 : True := trivial
theorem PySem.W.Fast.tw5877570107306178543 : True := trivial
theorem PySem.W.Fast.tw14310046918279977730 : True := trivial
theorem PySem.W.Fast.tw5804986008434165518 : True := trivial
theorem PySem.W.Fast.tw1936900439792965241 : True := trivial
theorem PySem.W.Fast.tw3036916775370084981 : True := trivial
theorem PySem.W.Fast.tw8149684939090599808 : True := trivial
theorem PySem.W.Fast.tw7976800279655059064 : True := trivial
theorem PySem.W.Fast.tw5537141986001647743 : True := trivial
theorem PySem.W.Fast.tw11779346108906196362 : True := trivial
theorem PySem.W.Fast.tw10988599114037003762 : True := trivial
theorem PySem.W.Fast.tw12129297567326535757 : True := trivial
theorem PySem.W.Fast.tw12729735926502351222 : True := trivial
theorem PySem.W.Fast.tw8233249513246543087 : True := trivial
theorem PySem.W.Fast.tw9649586050172455759 : True := trivial
theorem PySem.W.Fast.tw1481090283686422867 : True := trivial
theorem PySem.W.Fast.tw4834466196131751610 : True := trivial
theorem PySem.W.Fast.tw16463442001209990971 : True := trivial
theorem PySem.W.Fast.tw12768775564240636667 : True := trivial
theorem PySem.W.Fast.tw1767390958472837550 : True := trivial
theorem PySem.W.Fast.tw6463124014137830318 : True := trivial
theorem PySem.W.Fast.tw2476511588083902398 : True := trivial
theorem PySem.W.Fast.tw12521478360603266217 : True := trivial
theorem PySem.W.Fast.tw12735341019786383345 : True := trivial
theorem PySem.W.Fast.tw13396495267653888058 : True := trivial
theorem PySem.W.Fast.tw9017156212350501711 : True := trivial
theorem PySem.W.Fast.tw16819697414931450085 : True := trivial
theorem PySem.W.Fast.tw3990080961661711293 : True := trivial
theorem PySem.W.Fast.tw513957314514175624 : True := trivial
theorem PySem.W.Fast.tw62812833790772471 : True := trivial
theorem PySem.W.Fast.tw9883574390306398494 : True := trivial
theorem PySem.W.Fast.tw15049038900320585991 : True := trivial
theorem PySem.W.Fast.tw13255825007662231311 : True := trivial
theorem PySem.W.Fast.tw7886078015850461846 : True := trivial
theorem PySem.W.Fast.tw5747188323429867095 : True := trivial
theorem PySem.W.Fast.tw13994495322404465923 : True := trivial
theorem PySem.W.Fast.tw3810840790557680737 : True := trivial
theorem PySem.W.Fast.tw10312227784811445868 : True := trivial
theorem PySem.W.Fast.tw10412896600723858532 : True := trivial
theorem PySem.W.Fast.tw151386816051686922 : True := trivial
theorem PySem.W.Fast.tw1305298410527496997 : True := trivial
theorem PySem.W.Fast.tw626512537254591803 : True := trivial
theorem PySem.W.Fast.tw6669275670572790595 : True := trivial
theorem PySem.W.Fast.tw7871413339867297529 : True := trivial
theorem PySem.W.Fast.tw8134105941486856682 : True := trivial
theorem PySem.W.Fast.tw8037946831871825488 : True := trivial
theorem PySem.W.Fast.tw16198060313440728574 : True := trivial
theorem PySem.W.Fast.tw12086766712393419258 : True := trivial
theorem PySem.W.Fast.tw1538706266999980452 : True := trivial
theorem PySem.W.Fast.tw11302756953896614429 : True := trivial
theorem PySem.W.Fast.tw1204616364621661361 : True := trivial
theorem PySem.W.Fast.tw17986934309389503155 : True := trivial
theorem PySem.W.Fast.tw5069271308755972601 : True := trivial
theorem PySem.W.Fast.tw304319647234090576 : True := trivial
theorem PySem.W.Fast.tw10792867291998574986 : True := trivial
theorem PySem.W.Fast.tw16522392839857088647 : True := trivial
theorem PySem.W.Fast.tw14101984224754647005 : True := trivial
theorem PySem.W.Fast.tw8179215827097110948 : True := trivial
theorem PySem.W.Fast.tw17997336794788127046 : True := trivial
theorem PySem.W.Fast.tw18292534752053534056 : True := trivial
theorem PySem.W.Fast.tw2288084803954374841 : True := trivial
theorem PySem.W.Fast.tw13107907166533204110 : True := trivial
theorem PySem.W.Fast.tw9884221936421999542 : True := trivial
theorem PySem.W.Fast.tw769938136062473523 : True := trivial
theorem PySem.W.Fast.tw15177757336933249368 : True := trivial
theorem PySem.W.Fast.tw13990647876293097108 : True := trivial
theorem PySem.W.Fast.tw15917749912510654023 : True := trivial
theorem PySem.W.Fast.tw13526224738543788101 : True := trivial
theorem PySem.W.Fast.tw9101218535360497211 : True := trivial
theorem PySem.W.Fast.tw14056364466449099989 : True := trivial
theorem PySem.W.Fast.tw3725678804532674062 : True := trivial
theorem PySem.W.Fast.tw8587009872285027151 : True := trivial
theorem PySem.W.Fast.tw5026574038986074087 : True := trivial
theorem PySem.W.Fast.tw12616499962700779301 : True := trivial
theorem PySem.W.Fast.tw9994564939188595108 : True := trivial
theorem PySem.W.Fast.tw17099810071155985183 : True := trivial
theorem PySem.W.Fast.tw11888422376981630022 : True := trivial
theorem PySem.W.Fast.tw15102122045601874255 : True := trivial
theorem PySem.W.Fast.tw3403448401408939716 : True := trivial
theorem PySem.W.Fast.tw1958228858094617232 : True := trivial
theorem PySem.W.Fast.tw11860056186146700928 : True := trivial
theorem PySem.W.Fast.tw12952754641990418877 : True := trivial
theorem PySem.W.Fast.tw11962457905454541806 : True := trivial
theorem PySem.W.Fast.tw7127625973174304437 : True := trivial
theorem PySem.W.Fast.tw15282890402051640516 : True := trivial
theorem PySem.W.Fast.tw5675589880141040171 : True := trivial
theorem PySem.W.Fast.tw9377967189748148558 : True := trivial
theorem PySem.W.Fast.tw14709213142762721450 : True := trivial
theorem PySem.W.Fast.tw6627674884932391612 : True := trivial
theorem PySem.W.Fast.tw12541308738143760382 : True := trivial
theorem PySem.W.Fast.tw5676461825098477941 : True := trivial
theorem PySem.W.Fast.tw10088119137700471127 : True := trivial
theorem PySem.W.Fast.tw444902591764586750 : True := trivial
theorem PySem.W.Fast.tw18332148073218122974 : True := trivial
theorem PySem.W.Fast.tw6057555071033952533 : True := trivial
theorem PySem.W.Fast.tw16387762720343443070 : True := trivial
theorem PySem.W.Fast.tw10379354606842678801 : True := trivial
theorem PySem.W.Fast.tw11343450405429960996 : True := trivial
theorem PySem.W.Fast.tw9455485123303455232 : True := trivial
theorem PySem.W.Fast.tw15322351278456573118 : True := trivial
theorem PySem.W.Fast.tw4747140511817249334 : True := trivial
theorem PySem.W.Fast.tw13096260821628365000 : True := trivial
theorem PySem.W.Fast.tw7591261823200759208 : True := trivial
theorem PySem.W.Fast.tw9417225388480373112 : True := trivial
theorem PySem.W.Fast.tw18178211819799020971 : True := trivial
theorem PySem.W.Fast.tw14558387627662387281 : True := trivial
theorem PySem.W.Fast.tw5939405497366025283 : True := trivial
theorem PySem.W.Fast.tw1083063417148036819 : True := trivial
theorem PySem.W.Fast.tw16327164688722052013 : True := trivial
theorem PySem.W.Fast.tw1822960649327745740 : True := trivial
theorem PySem.W.Fast.tw16823483785213679074 : True := trivial
theorem PySem.W.Fast.tw13560825376961049658 : True := trivial
theorem PySem.W.Fast.tw9153852205606079164 : True := trivial
theorem PySem.W.Fast.tw5494122450345274239 : True := trivial
theorem PySem.W.Fast.tw15891248906689554205 : True := trivial
theorem PySem.W.Fast.tw6734157280196830821 : True := trivial
theorem PySem.W.Fast.tw930028265717807132 : True := trivial
theorem PySem.W.Fast.tw16122712315111948011 : True := trivial
theorem PySem.W.Fast.tw10397474073221194538 : True := trivial
theorem PySem.W.Fast.tw264113692455833180 : True := trivial
theorem PySem.W.Fast.tw3447088127139375600 : True := trivial
theorem PySem.W.Fast.tw17749332867276699543 : True := trivial
theorem PySem.W.Fast.tw7614348215784850246 : True := trivial
theorem PySem.W.Fast.tw9286405818355932441 : True := trivial
theorem PySem.W.Fast.tw5487898333408253278 : True := trivial
theorem PySem.W.Fast.tw1754969704704509584 : True := trivial
theorem PySem.W.Fast.tw472919739244505499 : True := trivial
theorem PySem.W.Fast.tw5781184035300494720 : True := trivial
theorem PySem.W.Fast.tw10163511081749581519 : True := trivial
theorem PySem.W.Fast.tw9685392769110498756 : True := trivial
theorem PySem.W.Fast.tw6642863975496483504 : True := trivial
theorem PySem.W.Fast.tw14631599906253847581 : True := trivial
theorem PySem.W.Fast.tw15441019695031078599 : True := trivial
theorem PySem.W.Fast.tw16179128827853551964 : True := trivial
theorem PySem.W.Fast.tw8397340373968994449 : True := trivial
theorem PySem.W.Fast.tw11518489440259726033 : True := trivial
theorem PySem.W.Fast.tw13683173531829222699 : True := trivial
theorem PySem.W.Fast.tw13030130177953710353 : True := trivial
theorem PySem.W.Fast.tw2321372467942504461 : True := trivial
theorem PySem.W.Fast.tw13219504095076444131 : True := trivial
theorem PySem.W.Fast.tw9746001683210937639 : True := trivial
theorem PySem.W.Fast.tw11552443319567105064 : True := trivial
theorem PySem.W.Fast.tw10353815220046415117 : True := trivial
theorem PySem.W.Fast.tw5331814801156590382 : True := trivial
theorem PySem.W.Fast.tw558227486598852994 : True := trivial
theorem PySem.W.Fast.tw12210453130218149790 : True := trivial
theorem PySem.W.Fast.tw13463188289245342342 : True := trivial
theorem PySem.W.Fast.tw2471395764370690169 : True := trivial
theorem PySem.W.Fast.tw2169761557235347880 : True := trivial
theorem PySem.W.Fast.tw8859384346528793791 : True := trivial
theorem PySem.W.Fast.tw8150634394908455789 : True := trivial
theorem PySem.W.Fast.tw10013403434655371617 : True := trivial
theorem PySem.W.Fast.tw3594411626277221602 : True := trivial
theorem PySem.W.Fast.tw7166506646958684046 : True := trivial
theorem PySem.W.Fast.tw3837988667940895344 : True := trivial
theorem PySem.W.Fast.tw14826529255380892547 : True := trivial
theorem PySem.W.Fast.tw4958845025741941294 : True := trivial
theorem PySem.W.Fast.tw13254026300622173978 : True := trivial
theorem PySem.W.Fast.tw15226466542903088330 : True := trivial
theorem PySem.W.Fast.tw1982608487699106305 : True := trivial
theorem PySem.W.Fast.tw4756269046047176825 : True := trivial
theorem PySem.W.Fast.tw9969800178689614925 : True := trivial
theorem PySem.W.Fast.tw9141887993846288127 : True := trivial
theorem PySem.W.Fast.tw4733513663910537503 : True := trivial
theorem PySem.W.Fast.tw13324276887803027583 : True := trivial
theorem PySem.W.Fast.tw1020803198205843712 : True := trivial
theorem PySem.W.Fast.tw1493628169646147195 : True := trivial
theorem PySem.W.Fast.tw8817134489707561545 : True := trivial
theorem PySem.W.Fast.tw6868286152168329449 : True := trivial
theorem PySem.W.Fast.tw12370289090760102191 : True := trivial
theorem PySem.W.Fast.tw5264291662832159871 : True := trivial
theorem PySem.W.Fast.tw11520764723342293188 : True := trivial
theorem PySem.W.Fast.tw1904358387658939432 : True := trivial
theorem PySem.W.Fast.tw36409310751714965 : True := trivial
theorem PySem.W.Fast.tw6295999963458110654 : True := trivial
theorem PySem.W.Fast.tw8404758926976125473 : True := trivial
theorem PySem.W.Fast.tw6272726261417383557 : True := trivial
theorem PySem.W.Fast.tw17415771106128244461 : True := trivial
theorem PySem.W.Fast.tw12778400975923838462 : True := trivial
theorem PySem.W.Fast.tw13627028730043246140 : True := trivial
theorem PySem.W.Fast.tw8234146682555304200 : True := trivial
theorem PySem.W.Fast.tw14342512650501928196 : True := trivial
theorem PySem.W.Fast.tw10246760119950797457 : True := trivial
theorem PySem.W.Fast.tw16730924765176044031 : True := trivial
theorem PySem.W.Fast.tw8292715132015406613 : True := trivial
theorem PySem.W.Fast.tw8629979953976724410 : True := trivial
theorem PySem.W.Fast.tw14279730879708405683 : True := trivial
theorem PySem.W.Fast.tw12458020065574212684 : True := trivial
theorem PySem.W.Fast.tw16217309430171430010 : True := trivial
theorem PySem.W.Fast.tw13780480297191572885 : True := trivial
theorem PySem.W.Fast.tw8580396599545161563 : True := trivial
theorem PySem.W.Fast.tw1151250705298170659 : True := trivial
theorem PySem.W.Fast.tw13620114421705780594 : True := trivial
theorem PySem.W.Fast.tw10547152324242428605 : True := trivial
theorem PySem.W.Fast.tw17442493504294133309 : True := trivial
theorem PySem.W.Fast.tw16258053524533571897 : True := trivial
theorem PySem.W.Fast.tw1318158115167888737 : True := trivial
theorem PySem.W.Fast.tw333316102459449744 : True := trivial
theorem PySem.W.Fast.tw4334760250028707435 : True := trivial
theorem PySem.W.Fast.tw13155810661775646225 : True := trivial
theorem PySem.W.Fast.tw3971270530213255390 : True := trivial
theorem PySem.W.Fast.tw16296114911342230184 : True := trivial
theorem PySem.W.Fast.tw12139262527668593556 : True := trivial
theorem PySem.W.Fast.tw4703858294023333358 : True := trivial
theorem PySem.W.Fast.tw16230620804438611849 : True := trivial
theorem PySem.W.Fast.tw6671742666708043815 : True := trivial
theorem PySem.W.Fast.tw17066105209220198763 : True := trivial
theorem PySem.W.Fast.tw11742781757260273844 : True := trivial
theorem PySem.W.Fast.tw17078470292009718136 : True := trivial
theorem PySem.W.Fast.tw16013573999921152389 : True := trivial
theorem PySem.W.Fast.tw340105993748067664 : True := trivial
theorem PySem.W.Fast.tw62547665947914942 : True := trivial
theorem PySem.W.Fast.tw4148187542732864120 : True := trivial
theorem PySem.W.Fast.tw13022489684256934655 : True := trivial
theorem PySem.W.Fast.tw1065314451537808613 : True := trivial
theorem PySem.W.Fast.tw2397766807185126936 : True := trivial
theorem PySem.W.Fast.tw12154671932518969852 : True := trivial
theorem PySem.W.Fast.tw8229085278588233039 : True := trivial
theorem PySem.W.Fast.tw6151789561675696620 : True := trivial
theorem PySem.W.Fast.tw10629802099415743088 : True := trivial
theorem PySem.W.Fast.tw15591405369091791860 : True := trivial
theorem PySem.W.Fast.tw1026689586519564552 : True := trivial
theorem PySem.W.Fast.tw2035205706760050250 : True := trivial
theorem PySem.W.Fast.tw7281684813509490504 : True := trivial
theorem PySem.W.Fast.tw4720014082769464002 : True := trivial
theorem PySem.W.Fast.tw4011574203846247130 : True := trivial
theorem PySem.W.Fast.tw3656488073225746427 : True := trivial
theorem PySem.W.Fast.tw3379846371050583052 : True := trivial
theorem PySem.W.Fast.tw5273431744459219398 : True := trivial
theorem PySem.W.Fast.tw11977420352295271727 : True := trivial
theorem PySem.W.Fast.tw14605537018463637643 : True := trivial
theorem PySem.W.Fast.tw14041255728134000580 : True := trivial
theorem PySem.W.Fast.tw6001250781803035508 : True := trivial
theorem PySem.W.Fast.tw10155163147717129711 : True := trivial
theorem PySem.W.Fast.tw4545549065067796837 : True := trivial
theorem PySem.W.Fast.tw9608474603708789404 : True := trivial
theorem PySem.W.Fast.tw3819970828276040931 : True := trivial
theorem PySem.W.Fast.tw2128946582587682258 : True := trivial
theorem PySem.W.Fast.tw5923969212135117925 : True := trivial
theorem PySem.W.Fast.tw6939602276651434239 : True := trivial
theorem PySem.W.Fast.tw5371968384143449802 : True := trivial
theorem PySem.W.Fast.tw4992869797601270877 : True := trivial
theorem PySem.W.Fast.tw12380217875172290746 : True := trivial
theorem PySem.W.Fast.tw1837514413805232583 : True := trivial
theorem PySem.W.Fast.tw6501605086478694777 : True := trivial
theorem PySem.W.Fast.tw11278803094382794053 : True := trivial
theorem PySem.W.Fast.tw5522691283845289420 : True := trivial
theorem PySem.W.Fast.tw13852502277466404574 : True := trivial
theorem PySem.W.Fast.tw17359911576903631697 : True := trivial
theorem PySem.W.Fast.tw4638920818534552717 : True := trivial
theorem PySem.W.Fast.tw4472093785999432323 : True := trivial
theorem PySem.W.Fast.tw6543364137273039315 : True := trivial
theorem PySem.W.Fast.tw16954970364897716174 : True := trivial
theorem PySem.W.Fast.tw3051647608699772500 : True := trivial
theorem PySem.W.Fast.tw13939540128811427166 : True := trivial
theorem PySem.W.Fast.tw9450199024738852178 : True := trivial
theorem PySem.W.Fast.tw5471413267093413022 : True := trivial
theorem PySem.W.Fast.tw16794503676438989149 : True := trivial
theorem PySem.W.Fast.tw3943296167880215002 : True := trivial
theorem PySem.W.Fast.tw8186951240021082770 : True := trivial
theorem PySem.W.Fast.tw8976970466791696008 : True := trivial
theorem PySem.W.Fast.tw16352708779549889511 : True := trivial
theorem PySem.W.Fast.tw10234790364568417706 : True := trivial
theorem PySem.W.Fast.tw9668217180464468268 : True := trivial
theorem PySem.W.Fast.tw183310131721556597 : True := trivial
theorem PySem.W.Fast.tw3691680310045957846 : True := trivial
theorem PySem.W.Fast.tw11976686745914702875 : True := trivial
theorem PySem.W.Fast.tw13471672069759836815 : True := trivial
theorem PySem.W.Fast.tw8216621062831751891 : True := trivial
theorem PySem.W.Fast.tw12476149548697084920 : True := trivial
theorem PySem.W.Fast.tw3047355010777285563 : True := trivial
theorem PySem.W.Fast.tw18309716370170839382 : True := trivial
theorem PySem.W.Fast.tw18265638223179447210 : True := trivial
theorem PySem.W.Fast.tw5439272599466157341 : True := trivial
theorem PySem.W.Fast.tw13379592343945301545 : True := trivial
theorem PySem.W.Fast.tw5137217586587165341 : True := trivial
theorem PySem.W.Fast.tw4493241745412215968 : True := trivial
theorem PySem.W.Fast.tw17050629866014448059 : True := trivial
theorem PySem.W.Fast.tw7637163903219945702 : True := trivial
theorem PySem.W.Fast.tw9685708533826208728 : True := trivial
theorem PySem.W.Fast.tw5139687705437303981 : True := trivial
theorem PySem.W.Fast.tw3119843612071555356 : True := trivial
theorem PySem.W.Fast.tw5553259352921048924 : True := trivial
theorem PySem.W.Fast.tw17810325686438149500 : True := trivial
theorem PySem.W.Fast.tw5237848848268351758 : True := trivial
theorem PySem.W.Fast.tw1458083735564412325 : True := trivial
theorem PySem.W.Fast.tw11948385531556999355 : True := trivial
theorem PySem.W.Fast.tw11714184500902668644 : True := trivial
theorem PySem.W.Fast.tw4620355138929069508 : True := trivial
theorem PySem.W.Fast.tw12976721028562766124 : True := trivial
theorem PySem.W.Fast.tw16259423571803311619 : True := trivial
theorem PySem.W.Fast.tw8528945970851125237 : True := trivial
theorem PySem.W.Fast.tw2073681110204747888 : True := trivial
theorem PySem.W.Fast.tw3862748779737546121 : True := trivial
theorem PySem.W.Fast.tw4900748901184643474 : True := trivial
theorem PySem.W.Fast.tw14043020859548263074 : True := trivial
theorem PySem.W.Fast.tw11530766295608857997 : True := trivial
theorem PySem.W.Fast.tw13194540363401200238 : True := trivial
theorem PySem.W.Fast.tw10953032748072311135 : True := trivial
theorem PySem.W.Fast.tw3465838492616084343 : True := trivial
theorem PySem.W.Fast.tw17651554464866977531 : True := trivial
theorem PySem.W.Fast.tw660054096107795053 : True := trivial
theorem PySem.W.Fast.tw12025840709362398306 : True := trivial
theorem PySem.W.Fast.tw14871210719687780718 : True := trivial
theorem PySem.W.Fast.tw7506470069199779540 : True := trivial
theorem PySem.W.Fast.tw3727586801596554393 : True := trivial
theorem PySem.W.Fast.tw12205747602072225285 : True := trivial
theorem PySem.W.Fast.tw6270851258511096194 : True := trivial
theorem PySem.W.Fast.tw6729269171022044985 : True := trivial
theorem PySem.W.Fast.tw217556662165655194 : True := trivial
theorem PySem.W.Fast.tw8041289826221371013 : True := trivial
theorem PySem.W.Fast.tw12706161451633634676 : True := trivial
theorem PySem.W.Fast.tw2683132280421397934 : True := trivial
theorem PySem.W.Fast.tw9683361306028606251 : True := trivial
theorem PySem.W.Fast.tw13685141773721078428 : True := trivial
theorem PySem.W.Fast.tw14698397975061899909 : True := trivial
theorem PySem.W.Fast.tw14488406788614983579 : True := trivial
theorem PySem.W.Fast.tw18245652376659077034 : True := trivial
theorem PySem.W.Fast.tw11921609918078083109 : True := trivial
theorem PySem.W.Fast.tw703344799095642766 : True := trivial
theorem PySem.W.Fast.tw2749022121358204389 : True := trivial
theorem PySem.W.Fast.tw13479328215857988383 : True := trivial
theorem PySem.W.Fast.tw2443938276087676019 : True := trivial
theorem PySem.W.Fast.tw3358868665693360033 : True := trivial
theorem PySem.W.Fast.tw10080830513735391854 : True := trivial
theorem PySem.W.Fast.tw315895532990691988 : True := trivial
theorem PySem.W.Fast.tw9861374718447780831 : True := trivial
theorem PySem.W.Fast.tw4497794887615202698 : True := trivial
theorem PySem.W.Fast.tw16359514886072510184 : True := trivial
theorem PySem.W.Fast.tw1847228490682137702 : True := trivial
theorem PySem.W.Fast.tw6687647333221197225 : True := trivial
theorem PySem.W.Fast.tw8570673720800480815 : True := trivial
theorem PySem.W.Fast.tw1884510668691184760 : True := trivial
theorem PySem.W.Fast.tw6330397039838167751 : True := trivial
theorem PySem.W.Fast.tw13752660356555803788 : True := trivial
theorem PySem.W.Fast.tw7785597024921799606 : True := trivial
theorem PySem.W.Fast.tw460627179829222655 : True := trivial
theorem PySem.W.Fast.tw367497459473662816 : True := trivial
theorem PySem.W.Fast.tw11178877723249512846 : True := trivial
theorem PySem.W.Fast.tw15927815679094478311 : True := trivial
theorem PySem.W.Fast.tw18313466547983111982 : True := trivial
theorem PySem.W.Fast.tw7428343319286806161 : True := trivial
theorem PySem.W.Fast.tw5598045790690700283 : True := trivial
theorem PySem.W.Fast.tw12016771927401285218 : True := trivial
theorem PySem.W.Fast.tw13269715405047401018 : True := trivial
theorem PySem.W.Fast.tw1076694665162820539 : True := trivial
theorem PySem.W.Fast.tw13520718759526976214 : True := trivial
theorem PySem.W.Fast.tw8837154763804428674 : True := trivial
theorem PySem.W.Fast.tw2645148456575517978 : True := trivial
theorem PySem.W.Fast.tw1064943499573817631 : True := trivial
theorem PySem.W.Fast.tw7688946861423864994 : True := trivial
theorem PySem.W.Fast.tw12203879851326259158 : True := trivial
theorem PySem.W.Fast.tw1175531795567192319 : True := trivial
theorem PySem.W.Fast.tw4931870614524699886 : True := trivial
theorem PySem.W.Fast.tw11930551675064507378 : True := trivial
theorem PySem.W.Fast.tw12236052162554500523 : True := trivial
theorem PySem.W.Fast.tw14321614288468942986 : True := trivial
theorem PySem.W.Fast.tw13032210868943805530 : True := trivial
theorem PySem.W.Fast.tw15523899977521890100 : True := trivial
theorem PySem.W.Fast.tw16193346122021003053 : True := trivial
theorem PySem.W.Fast.tw9881952791731041440 : True := trivial
theorem PySem.W.Fast.tw15503768219433466822 : True := trivial
theorem PySem.W.Fast.tw14237239810765228468 : True := trivial
theorem PySem.W.Fast.tw14856510158369660938 : True := trivial
theorem PySem.W.Fast.tw18106084203687623597 : True := trivial
theorem PySem.W.Fast.tw14294481864436741195 : True := trivial
theorem PySem.W.Fast.tw2866671691146489 : True := trivial
theorem PySem.W.Fast.tw7846729141024960421 : True := trivial
theorem PySem.W.Fast.tw10236136807268710232 : True := trivial
theorem PySem.W.Fast.tw5823025930423139925 : True := trivial
theorem PySem.W.Fast.tw10295921272529729007 : True := trivial
theorem PySem.W.Fast.tw13663966007160017555 : True := trivial
theorem PySem.W.Fast.tw7841285816470342871 : True := trivial
theorem PySem.W.Fast.tw15560349114471031158 : True := trivial
theorem PySem.W.Fast.tw3691424808869875006 : True := trivial
theorem PySem.W.Fast.tw18111611945747222202 : True := trivial
theorem PySem.W.Fast.tw5130794727573624664 : True := trivial
theorem PySem.W.Fast.tw9175214322449058057 : True := trivial
theorem PySem.W.Fast.tw14868979001859476342 : True := trivial
theorem PySem.W.Fast.tw17890338634204719221 : True := trivial
theorem PySem.W.Fast.tw16271559901015900616 : True := trivial
theorem PySem.W.Fast.tw8043875378918359143 : True := trivial
theorem PySem.W.Fast.tw14124512564370031601 : True := trivial
theorem PySem.W.Fast.tw13126518833779506324 : True := trivial
theorem PySem.W.Fast.tw12608752619821978484 : True := trivial
theorem PySem.W.Fast.tw305544947239014672 : True := trivial
theorem PySem.W.Fast.tw18433081989707192332 : True := trivial
theorem PySem.W.Fast.tw12901659249148776504 : True := trivial
theorem PySem.W.Fast.tw14764899822913775311 : True := trivial
theorem PySem.W.Fast.tw3561929058940716258 : True := trivial
theorem PySem.W.Fast.tw13809502391069204434 : True := trivial
theorem PySem.W.Fast.tw15805259875467463915 : True := trivial
theorem PySem.W.Fast.tw18021466394219886147 : True := trivial
open PySem PySem.W PyProof.Rows
set_option maxRecDepth 100000 in
set_option maxHeartbeats 0 in
theorem PySem.Challenge.cw_heightfractions_k10_ways_numbered_holds : PySem.Challenge.rw_heightfractions_k10_ways_numbered.Holds := by
  w_on; o_law; k_head; (case hw => w_witness2)
  k_fill
  refine K10.walk (l := PySem.Challenge.rw_heightfractions_k10_ways_numbered) rfl rfl (fun w h Y => PySem.W.kIn_of Y) ?F
  case F =>
    intro w mg fa h KX G hmg
    refine' K10.all_mk KX G hmg ?a_heights_along ?l_heights_along ?e_heights_along ?k_heights_along ?a_heights_of ?l_heights_of ?e_heights_of ?k_heights_of ?d_heights_of ?a_is_within ?l_is_within ?e_is_within ?k_is_within ?a_one_step_longer ?l_one_step_longer ?e_one_step_longer ?k_one_step_longer ?a_ways_to_go ?l_ways_to_go ?e_ways_to_go ?k_ways_to_go ?a_ways_counted ?l_ways_counted ?e_ways_counted ?k_ways_counted ?d_ways_counted ?a_way_at ?l_way_at ?e_way_at ?k_way_at ?a_ways_listed ?l_ways_listed ?e_ways_listed ?k_ways_listed ?d_ways_listed ?a_number_of ?l_number_of ?e_number_of ?k_number_of ?a_way_by ?l_way_by ?e_way_by ?k_way_by ?a__law_whole ?l__law_whole ?e__law_whole ?k__law_whole ?a__law_stir ?l__law_stir ?e__law_stir ?k__law_stir ?a__law_rise ?l__law_rise ?e__law_rise ?k__law_rise ?a__law_marks ?l__law_marks ?e__law_marks ?k__law_marks ?a__law_only ?l__law_only ?e__law_only ?k__law_only ?a__law_row ?l__law_row ?e__law_row ?k__law_row ?a__law_by ?l__law_by ?e__law_by ?k__law_by ?a__law_number ?l__law_number ?e__law_number ?k__law_number ?a__law_place ?l__law_place ?e__law_place ?k__law_place ?a__law_text ?l__law_text ?e__law_text ?k__law_text ?a__law_drawn ?l__law_drawn ?e__law_drawn ?k__law_drawn ?a_law ?l_law ?e_law ?k_law ?a_HeightError ?a_NoCount ?a_NoFamily ?a_NoFraction ?a_NoHistory ?a_NoLine ?a_NoMeeting ?a_NoMoments ?a_NoName ?a_NoNumber ?a_NoSeries ?a_NoText ?a_NoThing ?a_NoWay ?a_NoWeights ?a_RISES ?a_TooFar ?a_TooHigh ?a_TooMany ?a_NoWay_init ?l_NoWay_init ?e_NoWay_init ?k_NoWay_init ?y_NoWay_init ?kc_NoWay_init ?n_ValueError ?n_bool ?n_enumerate ?n_int ?n_isinstance ?n_len ?n_range ?n_reversed ?n_str ?n_sum ?n_tuple ?a_MOST_LISTED ?l_RISES ?q1_RISES ?q2_RISES ?q3_RISES ?q4_RISES ?x_ih ?x_sa ?x_np ?x_cd ?x_hd ?x_ga ?x_gt ?x_be ?x_ob ?x_cl ?x_gs ?x_tk ?x_is ?x_ex ?x_kValueError ?x_kNoFraction ?x_kTooMany ?x_kTooFar ?x_kNoNumber ?x_kNoWeights ?x_kNoSeries ?x_kNoMoments ?x_kNoFamily ?x_kNoMeeting ?x_kNoThing ?x_kNoLine ?x_kNoText ?x_kNoWay ?x_kTooHigh ?x_kNoHistory ?x_kNoCount ?x_kNoName ?x_ga2 ?x_gt2 ?x_be2 ?x_ob2 ?x_cl2 ?x_gs2 ?x_tk2 ?x_is2 ?x_ex2 ?x_kValueError2 ?x_kNoFraction2 ?x_kTooMany2 ?x_kTooFar2 ?x_kNoNumber2 ?x_kNoWeights2 ?x_kNoSeries2 ?x_kNoMoments2 ?x_kNoFamily2 ?x_kNoMeeting2 ?x_kNoThing2 ?x_kNoLine2 ?x_kNoText2 ?x_kNoWay2 ?x_kTooHigh2 ?x_kNoHistory2 ?x_kNoCount2 ?x_kNoName2 ?x_tm ?x_nn
    (case a_heights_along => k_is)
    (case l_heights_along => k_is)
    (case e_heights_along => k_is)
    (case k_heights_along => k_is)
    (case a_heights_of => k_is)
    (case l_heights_of => k_is)
    (case e_heights_of => k_is)
    (case k_heights_of => k_is)
    (case d_heights_of => kernel_rfl)
    (case a_is_within => k_is)
    (case l_is_within => k_is)
    (case e_is_within => k_is)
    (case k_is_within => k_is)
    (case a_one_step_longer => k_is)
    (case l_one_step_longer => k_is)
    (case e_one_step_longer => k_is)
    (case k_one_step_longer => k_is)
    (case a_ways_to_go => k_is)
    (case l_ways_to_go => k_is)
    (case e_ways_to_go => k_is)
    (case k_ways_to_go => k_is)
    (case a_ways_counted => k_is)
    (case l_ways_counted => k_is)
    (case e_ways_counted => k_is)
    (case k_ways_counted => k_is)
    (case d_ways_counted => kernel_rfl)
    (case a_way_at => k_is)
    (case l_way_at => k_is)
    (case e_way_at => k_is)
    (case k_way_at => k_is)
    (case a_ways_listed => k_is)
    (case l_ways_listed => k_is)
    (case e_ways_listed => k_is)
    (case k_ways_listed => k_is)
    (case d_ways_listed => kernel_rfl)
    (case a_number_of => k_is)
    (case l_number_of => k_is)
    (case e_number_of => k_is)
    (case k_number_of => k_is)
    (case a_way_by => k_is)
    (case l_way_by => k_is)
    (case e_way_by => k_is)
    (case k_way_by => k_is)
    (case a__law_whole => k_is)
    (case l__law_whole => k_is)
    (case e__law_whole => k_is)
    (case k__law_whole => k_is)
    (case a__law_stir => k_is)
    (case l__law_stir => k_is)
    (case e__law_stir => k_is)
    (case k__law_stir => k_is)
    (case a__law_rise => k_is)
    (case l__law_rise => k_is)
    (case e__law_rise => k_is)
    (case k__law_rise => k_is)
    (case a__law_marks => k_is)
    (case l__law_marks => k_is)
    (case e__law_marks => k_is)
    (case k__law_marks => k_is)
    (case a__law_only => k_is)
    (case l__law_only => k_is)
    (case e__law_only => k_is)
    (case k__law_only => k_is)
    (case a__law_row => k_is)
    (case l__law_row => k_is)
    (case e__law_row => k_is)
    (case k__law_row => k_is)
    (case a__law_by => k_is)
    (case l__law_by => k_is)
    (case e__law_by => k_is)
    (case k__law_by => k_is)
    (case a__law_number => k_is)
    (case l__law_number => k_is)
    (case e__law_number => k_is)
    (case k__law_number => k_is)
    (case a__law_place => k_is)
    (case l__law_place => k_is)
    (case e__law_place => k_is)
    (case k__law_place => k_is)
    (case a__law_text => k_is)
    (case l__law_text => k_is)
    (case e__law_text => k_is)
    (case k__law_text => k_is)
    (case a__law_drawn => k_is)
    (case l__law_drawn => k_is)
    (case e__law_drawn => k_is)
    (case k__law_drawn => k_is)
    (case a_law => k_is)
    (case l_law => k_is)
    (case e_law => k_is)
    (case k_law => k_is)
    (case a_HeightError => k_is)
    (case a_NoCount => k_is)
    (case a_NoFamily => k_is)
    (case a_NoFraction => k_is)
    (case a_NoHistory => k_is)
    (case a_NoLine => k_is)
    (case a_NoMeeting => k_is)
    (case a_NoMoments => k_is)
    (case a_NoName => k_is)
    (case a_NoNumber => k_is)
    (case a_NoSeries => k_is)
    (case a_NoText => k_is)
    (case a_NoThing => k_is)
    (case a_NoWay => k_is)
    (case a_NoWeights => k_is)
    (case a_RISES => k_is)
    (case a_TooFar => k_is)
    (case a_TooHigh => k_is)
    (case a_TooMany => k_is)
    (case a_NoWay_init => k_is)
    (case l_NoWay_init => k_is)
    (case e_NoWay_init => k_is)
    (case k_NoWay_init => k_is)
    (case y_NoWay_init => kernel_rfl)
    (case kc_NoWay_init => k_is)
    (case n_ValueError => k_is)
    (case n_bool => k_is)
    (case n_enumerate => k_is)
    (case n_int => k_is)
    (case n_isinstance => k_is)
    (case n_len => k_is)
    (case n_range => k_is)
    (case n_reversed => k_is)
    (case n_str => k_is)
    (case n_sum => k_is)
    (case n_tuple => k_is)
    (case a_MOST_LISTED => k_is)
    (case l_RISES => k_is)
    (case q1_RISES => kernel_rfl)
    (case q2_RISES => kernel_rfl)
    (case q3_RISES => kernel_rfl)
    (case q4_RISES => kernel_rfl)
    (case x_ih => kernel_rfl)
    (case x_sa => kernel_rfl)
    (case x_np => kernel_rfl)
    (case x_cd => kernel_rfl)
    (case x_hd => kernel_rfl)
    (case x_ga => kernel_rfl)
    (case x_gt => kernel_rfl)
    (case x_be => kernel_rfl)
    (case x_ob => kernel_rfl)
    (case x_cl => kernel_rfl)
    (case x_gs => kernel_rfl)
    (case x_tk => kernel_rfl)
    (case x_is => kernel_rfl)
    (case x_ex => kernel_rfl)
    (case x_kValueError => kernel_rfl)
    (case x_kNoFraction => kernel_rfl)
    (case x_kTooMany => kernel_rfl)
    (case x_kTooFar => kernel_rfl)
    (case x_kNoNumber => kernel_rfl)
    (case x_kNoWeights => kernel_rfl)
    (case x_kNoSeries => kernel_rfl)
    (case x_kNoMoments => kernel_rfl)
    (case x_kNoFamily => kernel_rfl)
    (case x_kNoMeeting => kernel_rfl)
    (case x_kNoThing => kernel_rfl)
    (case x_kNoLine => kernel_rfl)
    (case x_kNoText => kernel_rfl)
    (case x_kNoWay => kernel_rfl)
    (case x_kTooHigh => kernel_rfl)
    (case x_kNoHistory => kernel_rfl)
    (case x_kNoCount => kernel_rfl)
    (case x_kNoName => kernel_rfl)
    (case x_ga2 => kernel_rfl)
    (case x_gt2 => kernel_rfl)
    (case x_be2 => kernel_rfl)
    (case x_ob2 => kernel_rfl)
    (case x_cl2 => kernel_rfl)
    (case x_gs2 => kernel_rfl)
    (case x_tk2 => kernel_rfl)
    (case x_is2 => kernel_rfl)
    (case x_ex2 => kernel_rfl)
    (case x_kValueError2 => kernel_rfl)
    (case x_kNoFraction2 => kernel_rfl)
    (case x_kTooMany2 => kernel_rfl)
    (case x_kTooFar2 => kernel_rfl)
    (case x_kNoNumber2 => kernel_rfl)
    (case x_kNoWeights2 => kernel_rfl)
    (case x_kNoSeries2 => kernel_rfl)
    (case x_kNoMoments2 => kernel_rfl)
    (case x_kNoFamily2 => kernel_rfl)
    (case x_kNoMeeting2 => kernel_rfl)
    (case x_kNoThing2 => kernel_rfl)
    (case x_kNoLine2 => kernel_rfl)
    (case x_kNoText2 => kernel_rfl)
    (case x_kNoWay2 => kernel_rfl)
    (case x_kTooHigh2 => kernel_rfl)
    (case x_kNoHistory2 => kernel_rfl)
    (case x_kNoCount2 => kernel_rfl)
    (case x_kNoName2 => kernel_rfl)
    (case x_tm => kernel_rfl)
    (case x_nn => kernel_rfl)
